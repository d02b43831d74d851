import PyProof.Rows.All
import Wide.All
import OpenK.AllK
import Wide.FinOn
import Lean
import PyProof.EqAt
import PyProof.EqKinds
import PyProof.TupleCall
import PyProof.P3In
import PyProof.NeData
import KE.KSortKey
import PyProof.Rows.SortRuns
import KE.KLam
import KE.KNestM
import PyProof.FitsReplace
import PyProof.StrBlockL
import KE.KDictList
import KE.KItemsList
import PyProof.TupleKey
import PyProof.DictRoadsH
import PyProof.DictWalks
import PyProof.Rows.Range3
import KE.KListMore
import PyProof.ListMulRoad
import PyProof.CallStr
import KE.KIntText
import KE.IntTextLaws
import PyProof.NsDelKeeps
import KE.KTryMore
import PySem.Challenge.RW_leafjudge_k73_texts_that_are_none
set_option Elab.async false
set_option linter.all false
set_option compiler.extract_closed false
set_option bootstrap.genMatcherCode false
set_option genSizeOf false
set_option maxRecDepth 100000
open PySem renaming Addr→à,Value→á,Str→â,Shared→ã,model→ä,wpAny→å,Expr→æ,Heap→ç,eval→è,Stmt→é
theorem zzz(h:True:=by rfl):True:=h
theorem zzy(h:True:=by decide):True:=h
theorem zzx(h:True:=by intro _;rfl):True:=h
theorem zzw(h:True:=by first | exact .inl gC | exact .inr gC | assumption):True:=h
theorem zzv(h:True:=by first | exact .inl gC | exact .inr gC):True:=h
theorem zzu(h:True:=by first | exact h7 gC | exact g7 gC):True:=h
theorem zzt(h:True:=by decide +kernel):True:=h
theorem zzs(h:True:=by with_unfolding_all rfl):True:=h
theorem zzr(h:True:=by first | exact JN _ | rfl):True:=h
theorem zzq(h:True:=by intro _ _;rfl):True:=h
theorem zzp(h:True:=by intros;rfl):True:=h
theorem zzo(h:True:=by kernel_rfl):True:=h
theorem zzn(h:True:=by first | exact h7 gC | exact g7 (h7 gC) | exact g7 (g7 gC)):True:=h
theorem zzm(h:True:=by intro g Q h;(repeat obtain⟨_,h⟩:=h)<;>subst_vars<;>rfl):True:=h
theorem cL{p:Prop}(h:autoParam (p) zzt._auto_1):p:=h
theorem cR{p:Prop}(h:autoParam (p) zzy._auto_1):p:=h
theorem cS{p:Prop}(h:p:=by lia):p:=h
theorem eH{p:Prop}(h:p:=by simp):p:=h
theorem eN{a b:Nat}(h:autoParam (Nat.ble a b=true) zzz._auto_1):a<=b:=Nat.le_of_ble_eq_true h
theorem gC{α:Sort u}{a:α}:a=a:=rfl
open Option.some renaming inj->c8
open PySem renaming compareOp->c9,bootBuiltins->d4,Around->d8,wpAny_field->e8,World->f7,wpAny_truthy_bool->g3,attributeBase->g4,mem_of_lookup->h8,behindInMarks->i3,wpAny_pyIter_list->i4,foldedSetIterable->j3,wpAny_callSpecial?_slot->j4,backTo->j8,binaryOp->j9,wpAny_seqItems->k9,sysModules->l4,wpAny_setField_rec->l5,NameKind->l6,wpAny_passesOwn->l7,ExceptHandler->m7,wpAny_holding->m8,builtinsNs->m9,wpAny_Call_Name_kw->n6,wpAny_rule->n7,wpAny_getItem_str_slice->n9,rawInt->o6,call_meets->q9,sliceBounds->t5,wpAny_execs_nil->t8,codeAny->u0,cellsFrom->u3,wpAny_pyIter_tuple->u7,wpAny_setField->u8,getItem->v0,DictEntry->w5,cLine->x6,wpAny_execs_cons->x8,Builtin->y3,assignEach->y8,codeAny_mono->y9,holding->z6,typeIs_str->z7,letOwnedTupleGo->z8,post_val_or_str->z9,codeAny_handlers_test->af,isCodeTable->ak,recursionLimit->al,sizeLine_eq->am,wpAny_updateSeq_pair->ar,wpAny_handleBy_cons->ba,wpAny_onRaise->bc,tupleKind_room_in1->bf,callerA->br,concat_meets->bt,standAt->bu,getMethod->cr,noFill_tuple_add->cu,pushCells->cw,tupleKind->cx,wpAny_Try_except->cy,wpAny_pyIter_zip->cz,excClassObj->dt,keywordEach->du,subscripted->dv,wpAny_letGo->dw,Within->dz,wpAny_loadPart'->ee,valueAt->ey,IsZip->fb,ZipApart->ff,newFunctionEnv->fw,wpAny_call->fx,call->fz,seq_tuple_add->ir,wpAny_attempt->iu,wpAny_comprehension_free->iv,wpAny_standAt->iw,atKey->iy,lastMarks->iz,noteFrame->ja,callType_new->jh,call_meetsIn->ji,seqIndex_neg->jz,wpAny_typeOf->kc,wpAny_isTrue_Compare1->kg,backToKw->kj,seqIndex_of->kr,length_partsBetween->lh,assign->lm,pyIter->ma,pyNext->md,sliceRange->mf,wpAny_Name->mi,again->mv,wpAny_Assign_Name->mz,wpAny_assign_Name->nc,wpAny_pyIter_enum->ng,wpAny_sequenceKey->nh
open PySem.Value renaming ref->d0,none->k6,int->m5,str->y0,bool->bn,float->fe,type->gb
open PySem.NameKind renaming cell->d7,free->f9
open PySem.Str renaming ofString->d9,length->h9,join->y7
open True renaming intro->e6
open PySem.Obj renaming mapSeq->e7,data_mapFields->m6,mapFields->o7,isFreed_of_fields->w6,cls_mapFields->kd
open List.cons renaming inj->e9
open PyProof.Rows renaming wpS_bind->f8,callWith_type1->i6,envOfC->i9,seqObj->j0,wpS_pure->j1,slot_tuple_getitem->j6,reverseSlice'->s0,AllBare->t9,wpS_forRange->u2,arrOf->x0,pendingOf->ax,listUpdate_at->bb,get?_update_seq->ed,failedOf->fi,wpS_modify->fy,subscriptTail_builtinR->ka,Keyed->ki,wpS_mono->kt,entry_tuple_getitem->la,Subscript_->li,args_tuple_getitem->lj,setPending->me,IsTup->mj,wpS_get->ni
open ForInStep renaming yield->g6,done->o8
open Or renaming inr->g7,inl->h7
open False renaming elim->g9
open Ne renaming symm->i0
open PySem.Builtin.Str renaming occurrences->i5,strKind->k8,glued->m4,strSliceIndices->ah
open PySem.W renaming mg_none_of->i7,OpenLaw->az,mg_of->fv
open Classical renaming choose_spec->j2,choose->ae,propDecidable->bg,epsilon_spec->bi,epsilon->ei
open PySem.StrLaws renaming glued_eq_join->j5,join_length_le->cq
open PySem.Builtin.SmallTypes renaming nextOf->k7
open PySem.Builtin.Slice renaming slicePlaces->l0,sliceAdjust->o4
open PySem.F renaming slot_tuple_iterator_next->l8,slot_zip_next->x9,args_str_split_2->ay,entry_str_split->bd,slot_str_split->bj,args_tuple_iterator_next_1->cn,entry_tuple_iterator_next->dn,args_object_init_3->jc,args_zip_next_1->ku
open PySem.PassesOwn renaming never->o0
open PySem.Builtin.List renaming listTooLong->o9
open Sum renaming inl->v4,inr->fc
open PySem.Paired renaming length->y4
open PySem.Builtin.Tuple renaming tupleItemsOf->aa
open PySem.Around renaming under->ag,frames_deeper->eh
open Sum.inl renaming inj->au
open LawfulBEq renaming eq_of_beq->aw
open PySem.Calls renaming Name_function_global->bh,callWith_builtin->dy,evalArgs_plain->ez
open PySem.Walks renaming list->bo
open PySem.SeqAt.EqAt renaming int_str->dq,str_int->dr
open PySem.Code renaming isFrame->ej
open PySem.SeqAt renaming readOf->jw,readsAll_map->jy,items_eqAt->lu
open Eq renaming symm->kh
open ForIn renaming forIn->mx
def a8:=@if_neg
def a9:=@if_pos
def b7:=@decide_eq_true
def b8:=@absurd
def b9:=@of_decide_eq_true
def c6:=@decide_eq_false
def c7:=@decide_eq_true_eq
def d6:=@congrArg
def e4:=@decide_eq_decide
def f6:=@or_false
def g8:=@of_decide_eq_false
def ai:=@beq_self_eq_true
def av:=@beq_iff_eq
def cm:=@ne_true_of_eq_false
def em:=@getElem?_pos
def eu:=@if_false
def ew:=@if_true
def qv:=@decide_eq_true_iff
def qw:=@decide_not
open Option renaming some→wz,none→wy
open Bool renaming true→wx,false→ww
open Nat renaming le_of_ble_eq_true->aB,le_refl->aN,le_trans->aY,lt_of_lt_of_le->cH,zero_le->cP,ne_of_lt->dF,lt_irrefl->fB,pow_le_pow_right->fN,le_of_lt->jA,ne_of_gt->jP,le_of_eq->kH,lt_succ_self->lD,add_le_add->lE,gcd_pos_of_pos_right->nO,mul_le_mul->oW,lt_succ_of_lt->oX,div_le_self->qX,lt_of_le_of_lt->sD,le_succ->tN,sub_zero->wG,lt_asymm->wH,min_eq_left->wU,mul_one->yN,mod_lt->BT,lt_trans->CV,gcd_dvd_right->CW,min_eq_right->FS,le_max_right->FU,le_add_right->FV,le_max_left->GI,zero_add->QC,mul_le_mul_right->VQ,not_lt->aBe,div_mul_cancel->aBf,le_succ_of_le->aBq,gcd_le_right->aFa,not_lt_zero->aHl,le_of_dvd->aLh,sub_self->aS5,pow_succ->aS6,gcd_comm->aS7,one_mul->aTl,div_pos->aTm,add_mul->aTn
open List renaming length_map->aC,mem_cons_of_mem->aH,getElem?_eq_getElem->aJ,getElem?_eq_some_iff->aL,mem_cons->aO,mem_cons_self->aP,getElem?_map->aQ,mem_map->aR,length_append->aW,length_cons->bA,map_cons->bB,mem_singleton->bC,mem_of_getElem?->bD,map_map->bE,size_toArray->bI,getElem?_set_ne->bM,mem_append->bR,getElem?_set_self->bT,length_take->bU,map_append->bV,length_filter_le->bW,mem_append_right->cE,not_mem_nil->cG,filter_cons->cW,getElem?_of_mem->dH,mem_filter->dM,getD_eq_getElem?_getD->dQ,lookup_cons->dW,sum_cons->dY,mem_append_left->dZ,mem_of_mem_take->eG,length_drop->eI,append_nil->eK,getElem?_append_right->eM,getElem?_eq_none->eP,getElem?_append_left->eV,take_add_one->eW,take_length->fJ,all_eq_true->fK,headD_cons->fR,map_congr_left->fX,take_of_length_le->gG,getElem?_zip_eq_some->gM,range->gO,getElem_mem->iU,length->jQ,filter_append->jT,find?_cons->kC,ext_getElem?->kE,any_cons->kJ,getElem?_range->kQ,filterMap_cons->kR,getElem?_replicate->kZ,lookup->lK,length_range->mJ,map_nil->mY,nodup_cons->nQ,getElem?_take->nS,length_eq_zero_iff->oC,tail_cons->oH,filter_congr->oI,append_assoc->oJ,length_singleton->pJ,any_eq_true->pN,mem_of_mem_drop->pU,mem_iff_getElem->pV,filter_map->qG,mem_range->rN,getElem?_drop->rO,drop_zero->rP,getElem?_eq_none_iff->sE,map_id->tL,idxOf_lt_length_iff->tO,drop_eq_nil_of_le->uX,sum_append->wI,length_nil->wJ,getElem_idxOf->AN,take_sublist->B9,countP_cons->DK,cons_append->DL,range_succ->F2,of_mem_zip->F3,forIn_cons->F4,countP_map->F5,replicate->IC,drop_eq_getElem_cons->KY,all_cons->K4,getElem?_cons_succ->NG,countP_le_length->QE,range'->S6,filter->S7,length_pos_iff->VR,zip_cons_cons->V2,mem_filterMap->V3,find?_eq_none->V4,filterMap_map->V5,count->V6,flatten_cons->aBg,flatMap_cons->aBh,range'_succ->aBr,getElem_inj->aBs,length_zip->aFb,any_append->aFc,find?_map->aHm,map_take->aKx,map_drop->aKy,Pairwise->aKz,toArray->aLi,all_map->aLj,map->aW1
open PySem.Heap renaming get?_push_of_some->aD,get?_push_size->aX,lt_size->bF,size_push->eD,SameBut->gA,get?_update_other->gH,get?_none_of_le->mT,get?_update_self->pK,IsTuple->CA,size_update->DM,Ns->aBi,ExtBut->aS8
open PySem.W renaming Frag->aF,mroIn->bL,findIn->dG,kitOne->dU,kia_one->eU,nsIn->fC,exmOne->fF,typeIn->gR,keepIn->gS,clsIn->gT,emptyDict->jD,mg_of->jK,instObj->jW,kitMeta->lI,InstAt->mI,fnOf->oB,looks_findIn->pI,kitAny->qU,codeIn->qV,callWith_K->qW,kitx_list->rM,plainGet->tJ,envX->uF,methodCall_KW->uT,nsOkIn->wC,notCls->wD,lookIn->wE,kitCls->wF,plainGet_of->xE,Looks->xQ,hasDictIn->AK,codeHdIn->BS,takerIn->CQ,kla_obj->CS,exm_one->CT,isFn->KS,cellsFrom_some->KU,kitx_tuple->QA,isNs_of_in->QB,plainOver->S0,kitx_dict->S3,handedIn->VO,makesIn->V0,CodeHd->aBd,subIn->aBn,WalkO->aBo
open PySem renaming wpAny_bind->aI,wpAny_pure->bH,sizeLine->bN,starEach->bZ,Program->cV,wpAny_mono->eE,mainGlobals->eF,FuncData->iO,wpAny_newObj_type->jL,swapsWith->kP,wpAny_call_entry->nN
open PySem.PyData renaming str->aK,int->cI,eqv->dA,tuple->dB,canLayAll0->eB,list->eO,depthAll->fG,hasDictAll->lX,canLay0->mK,dict->pM,bool->sC,none->CU,bulkAll->F1,eqvAll->IB,leavesShortAll->NF,showableAll->S4,strOk->aHk
open PySem.F renaming plainAttrs_str->bS,type_str_join->dD,slot_str_join->dE,plainAttrs_list->dS,type_list_append->iS,slot_list_append->iT,type_str_split->jH,slot_str_split->jI,plainAttrs_dict->nK,type_str_startswith->qB,slot_str_startswith->qC,type_list_extend->rZ,slot_list_extend->sA,args_tuple_add_2->sB,entry_tuple_add->tK,slot_tuple_add->uG,slot_dict_pop->uU,slot_dict_values->GH,type_list_index->HX,slot_list_index->HZ,slot_dict_items->IA,type_dict_pop->K2
open Bool renaming false_ne_true->bX,and_eq_true->cU,eq_iff_iff->dX,true_and->iY,or_eq_true->qH,not_eq_false'->rQ,false_eq_true->rR,not_eq_true'->tM,and_true->K5,not_eq_true->aBt,false_and->aHn,or_false->aK1,false_or->aK2,true_or->aLl
open Option renaming map_eq_some_iff->dP,isSome_iff_exists->nB,bind_eq_some_iff->KW,map_eq_none_iff->K3,isSome_some->S5,isSome_map->VP,getD_none->V1,map_map->aBp
open Int renaming toNat_of_nonneg->eT,ofNat->kF,natCast_mul->kG,emod_lt_of_pos->lP,natCast_add->lY,emod_nonneg->nT,eq_ofNat_of_zero_le->uV,toNat_natCast->CY,natCast_ediv->FW,fdiv_eq_ediv_of_nonneg->KZ,mul_zero->QF,add_zero->QG,mul_add->VS,mul_nonneg->aK0,mul_assoc->aLk,one_mul->aTo,mul_one->aTp,le_refl->aTq
open Array renaming length_toList->fT,getElem?_toList->lZ,getElem?_eq_some_iff->mS,getElem?_eq_none->oF,size_append->BU,getElem?_setIfInBounds_ne->CC,size_push->FX,toList_append->S8,forIn_toList->VT,find?_toList->VU,append_assoc->VW,all_toList->aBj,toList->aK3
section
open PySem PySem.Spec PyProof.Rows
namespace SS
structure GS(a0:Array ki)(g:Nat->Nat)(pd:Array (Nat×Nat×Nat))(st:SortSt):Prop where
 size:(x0 st).size=a0.size
 get:∀p,p<a0.size->(x0 st)[p]?=a0[g p]?
 rng:∀p,p<a0.size->g p<a0.size
 kind:kindOf st=oneType'
 fail:fi st=wy
 pend:ax st=pd
noncomputable def Aq(g:Nat->Nat)(i j:Nat):Nat->Nat:=λk=>if i<=k/\k<j then g (i+j-1-k)else g k
noncomputable def Aw(g:Nat->Nat)(b a:Nat):Nat->Nat:=λk=>if k=a then g b else if a<k/\k<=b then g (k-1)else g k
section
variable{prog:cV}{w:f7}{A:d8}{E:á->ã->Prop}{s:ã}{d:Array ki}{g:Nat->Nat}{e:Array (Nat×Nat×Nat)}{st:SortSt}
def Ii(b:IntKeys d){i:Nat}(c:i<d.size):∃t q,d[i]?=wz (.int (K d i) t,q):=by
 obtain⟨n,t,f⟩:=b d[i] eH;refine⟨t,d[i].2,?_⟩;have a:d[i]=(.int n t,d[i].2):=Prod.ext f gC;unfold K;rw[(em _ i c),a]
 rfl
def GS.mirr(h:GS d g e st){i j:Nat}(hj:j<=d.size):GS d (Aq g i j) e (setArr st (mirror (x0 st) i j ((j-i) / 2))) where
 size:=(mirror_size _ _ _ _).trans h.size
 get:=λp hp=>by
  refine(getElem?_mirror_all (by rw[h.size];exact hj) p).trans ?_;unfold Aq;split
  ·exact h.get _ cS
  ·exact h.get _ hp
 rng:=λp hp=>by
  unfold Aq;split
  ·exact h.rng _ cS
  ·exact h.rng _ hp
 kind:=h.kind
 fail:=h.fail
 pend:=h.pend
def GS.bubb(h:GS d g e st){src ny:Nat}(hs:src<d.size)(hd:ny<=src):GS d (Aw g src ny) e (setArr st (bubble (x0 st) src (src-ny))) where
 size:=(bubble_size _ _ _).trans h.size
 get:=λp hp=>by
  refine(getElem?_bubble (by rw[h.size];exact hs) _ cS p).trans ?_;rw[show src-(src-ny)=ny by lia];unfold Aw;split
  ·exact h.get _ hs
  ·split
   ·exact h.get _ cS
   ·exact h.get _ hp
 rng:=λp hp=>by
  unfold Aw;split
  ·exact h.rng _ hs
  ·split
   ·exact h.rng _ cS
   ·exact h.rng _ hp
 kind:=h.kind
 fail:=h.fail
 pend:=h.pend
def yT{p q:Nat}{Q:Option Bool->SortSt->Prop}(h:GS d g e st)(a:IntKeys d)(b:p<d.size)(c:q<d.size)
  (k:Q (wz (decide (K d (g p)<K d (g q)))) st):wpS (ä prog w) A E s (ltAt' p q) Q st:=by
 obtain⟨t,x,f⟩:=Ii a (h.rng p b);obtain⟨u,y,i⟩:=Ii a (h.rng q c);exact wpS_ltAt h.kind ((h.get p b).trans f) ((h.get q c).trans i) k
noncomputable def zr(lo a c:Nat):StateT SortSt Sem AscSt:=
 mx [a:c] ((wy,a):AscSt) λ_ z=>do
  let x <- ltAt' (lo+z.snd) (lo+z.snd-1)
  match x with
  |some b=>if b=wx then pure (o8 (wy,z.snd))else pure (g6 (wy,z.snd+1))
  |_=>pure (o8 (wz wy,z.snd))
noncomputable def LE(lo n a:Nat):StateT SortSt Sem (Option Nat):=do
 s0 lo (lo+n)
 let z <- zr lo n a
 match z.fst with
 |some r=>pure r
 |none=>pure (wz z.snd)
noncomputable def Es(lo n a:Nat):StateT SortSt Sem DescSt:=
 mx [n:a] ((wy,n,0):DescSt) λ_ z=>do
  let x <- ltAt' (lo+z.snd.fst) (lo+z.snd.fst-1)
  match x with
  |some b=>
   if b=wx then
    if z.snd.snd>0 then do
     s0 (lo+z.snd.fst-(z.snd.snd+1)) (lo+z.snd.fst)
     pure (g6 (wy,z.snd.fst+1,0))
    else pure (g6 (wy,z.snd.fst+1,0))
   else do
    let x <- ltAt' (lo+z.snd.fst-1) (lo+z.snd.fst)
    match x with
    |some c=>
     if c=wx then pure (o8 (wy,z.snd.fst,z.snd.snd))
     else pure (g6 (wy,z.snd.fst+1,z.snd.snd+1))
    |_=>pure (o8 (wz wy,z.snd.fst,z.snd.snd))
  |_=>pure (o8 (wz wy,z.snd.fst,z.snd.snd))
noncomputable def RD(lo n a:Nat):StateT SortSt Sem (Option Nat):=do
 liftM (rule "list.sort.descending-run")
 let z <- Es lo (n+1) a
 match z.fst with
 |some r=>pure r
 |none=>
  if z.snd.snd>0 then do
   s0 (lo+z.snd.fst-(z.snd.snd+1)) (lo+z.snd.fst)
   LE lo z.snd.fst a
  else LE lo z.snd.fst a
def U8(lo a:Nat):countRun' lo a=(do
  let z <- zr lo 1 a
  match z.fst with
  |some r=>pure r
  |none=>
   if(z.snd==a)=wx then pure (wz z.snd)
   else if z.snd>1 then do
    let x <- ltAt' lo (lo+z.snd-1)
    match x with
    |some b=>if b=wx then pure (wz z.snd)else do
      s0 lo (lo+z.snd)
      RD lo z.snd a
    |_=>pure wy
   else RD lo z.snd a):=by
 have j:∀(n:Nat),LE lo n a=(do
   s0 lo (lo+n)
   let z <- zr lo n a
   match z with
   | (wz r,_)=>pure r
   | (wy,m)=>pure (wz m)):=λn=>by
  unfold LE;congr 1;funext _;congr 1;funext z;obtain⟨r,m⟩:=z;cases r<;>rfl
 rw[countRun'_eq];unfold RD;simp only[j];congr 1;funext z;obtain⟨r,n⟩:=z
 cases r with
 |some r=>rfl
 |none=>
  dsimp only;split
  ·rfl
  ·split
   ·congr 1;funext x
    cases x with
    |none=>rfl
    |some b=>
     dsimp only;split
     ·rfl
     ·congr 1;funext _;congr 1;funext _;congr 1;congr 1;funext y;obtain⟨f,h,i⟩:=y
      cases f with
      |some f=>rfl
      |none=>
       dsimp only;split
       ·congr 1;funext _;congr 1;funext _;congr 1;funext u;obtain⟨c,n3⟩:=u;cases c<;>rfl
       ·congr 1;funext _;congr 1;funext u;obtain⟨c,n3⟩:=u;cases c<;>rfl
   ·congr 1;funext _;congr 1;congr 1;funext y;obtain⟨f,h,i⟩:=y
    cases f with
    |some f=>rfl
    |none=>
     dsimp only;split
     ·congr 1;funext _;congr 1;funext _;congr 1;funext u;obtain⟨c,n3⟩:=u;cases c<;>rfl
     ·congr 1;funext _;congr 1;funext u;obtain⟨c,n3⟩:=u;cases c<;>rfl
end
section
variable{prog:cV}{w:f7}{A:d8}{E:á->ã->Prop}{s:ã}{b:Array ki}{g:Nat->Nat}{e:Array (Nat×Nat×Nat)}{st:SortSt}{lo n d:Nat}
def K7{a:Nat}{Q:AscSt->SortSt->Prop}(j:IntKeys b)(p:lo+d<=b.size)(o:1<=a)(f:a<=d)(k:GS b g e st)
  (h:∀m,a<=m->m<=d->Q (wy,m) st):wpS (ä prog w) A E s (zr lo a d) Q st:=by
 refine u2 (I:=λx c z=>z=st/\c=(wy,x)) ?step ?fin ⟨gC,gC⟩
 case fin=>
  rintro c z ⟨rfl,rfl⟩;rw[show max a d=d by lia];exact h d f (aN _)
 case step=>
  rintro x c z i l ⟨rfl,rfl⟩;refine f8 (yT k j cS cS ?_)
  cases decide (K b (g (lo+x))<K b (g (lo+x-1)))with
  |true=>exact j1 (h x i cS)
  |false=>exact j1 ⟨gC,gC⟩
def yS{i j:Nat}{Q:Unit->SortSt->Prop}(h:Q () (setArr st (mirror (x0 st) i j ((j-i) / 2)))):wpS (ä prog w) A E s (s0 i j) Q st:=by
 rw[reverseSlice'_eq];exact fy h
def S9{Q:DescSt->SortSt->Prop}(l:IntKeys b)(r:lo+d<=b.size)(q:1<=n)(k:n<=d)(o:GS b g e st)
  (h:∀m ne f i,GS b f e i->n<=m->m<=d->Q (wy,m,ne) i):wpS (ä prog w) A E s (Es lo n d) Q st:=by
 refine u2 (I:=λx c z=>∃ne f,c=(wy,x,ne)/\GS b f e z) ?step ?fin ⟨0,g,gC,o⟩
 case fin=>
  rintro c z ⟨ne,f,rfl,a⟩;rw[show max n d=d by lia];exact h d ne f z a k (aN _)
 case step=>
  rintro x c z j p ⟨ne,f,rfl,a⟩;dsimp only;refine f8 (yT a l cS cS ?_)
  cases decide (K b (f (lo+x))<K b (f (lo+x-1)))with
  |true=>
   dsimp only;rw[a9 rfl];split
   ·exact f8 (yS (j1 ⟨0,_,gC,a.mirr cS⟩))
   ·exact j1 ⟨0,_,gC,a⟩
  |false=>
   dsimp only;rw[a8 cR];refine f8 (yT a l cS cS ?_)
   cases decide (K b (f (lo+x-1))<K b (f (lo+x)))with
   |true=>exact j1 (h x ne f z a j cS)
   |false=>exact j1 ⟨ne+1,f,gC,a⟩
def GJ{Q:Option Nat->SortSt->Prop}(l:IntKeys b)(q:lo+d<=b.size)(o:1<=n)(f:n<=d)(p:GS b g e st)
  (h:∀m k c,GS b k e c->1<=m->m<=d->Q (wz m) c):wpS (ä prog w) A E s (LE lo n d) Q st:=by
 refine f8 (yS ?_);have a:=p.mirr (i:=lo) (j:=lo+n) cS;exact f8 (K7 l q o f a λm t r=>j1 (h m _ _ a cS r))
def GK{Q:Option Nat->SortSt->Prop}(i:IntKeys b)(j:lo+d<=b.size)(k:n+1<=d)(p:GS b g e st)
  (h:∀m l a,GS b l e a->1<=m->m<=d->Q (wz m) a):wpS (ä prog w) A E s (RD lo n d) Q st:=by
 refine f8 (wpS_lift (n7 ⟨gC,?_⟩));refine f8 (S9 i j cS k p λm ne l a c q o=>?_);dsimp only;by_cases f:ne>0
 ·rw[a9 f];exact f8 (yS (GJ i j cS o (c.mirr cS) h))
 ·rw[a8 f];exact GJ i j cS o c h
def NN{Q:Option Nat->SortSt->Prop}(j:IntKeys b)(k:lo+d<=b.size)(q:1<=d)(a:GS b g e st)
  (h:∀m p i,GS b p e i->1<=m->m<=d->Q (wz m) i):wpS (ä prog w) A E s (countRun' lo d) Q st:=by
 rw[U8];refine f8 (K7 j k (aN 1) q a λm l o=>?_);by_cases f:m=d
 ·rw[a9 (by simpa using f)];exact j1 (h m g st a l o)
 ·rw[a8 (by simpa using f)];by_cases c:m>1
  ·rw[a9 c];refine f8 (yT a j cS cS ?_)
   cases decide (K b (g lo)<K b (g (lo+m-1)))with
   |true=>exact j1 (h m g st a l o)
   |false=>exact f8 (yS (GK j k cS (a.mirr cS) h))
  ·rw[a8 c];exact GK j k cS a h
def WG{ok:Nat}{Q:Bool->SortSt->Prop}(o:IntKeys b)(B:lo+n<=b.size)(hok:ok<=n)(v:1<=ok)(p:GS b g e st)
  (h:∀a j,GS b a e j->Q wx j):wpS (ä prog w) A E s (binarySort' lo n ok) Q st:=by
 rw[binarySort'_eq]
 refine f8 (kt (u2 (I:=λk c z=>c=(wy,())/\∃a,GS b a e z)
  (Q:=λc z=>c=(wy,())/\∃a,GS b a e z) ?step ?fin ⟨gC,g,p⟩) ?post)
 case post=>
  rintro c z ⟨rfl,a,f⟩;exact j1 (h a z f)
 case fin=>exactλc z h=>h
 case step=>
  rintro k c z q t ⟨rfl,a,f⟩;refine f8 (kt (u2 (I:=λx c y=>y=z/\∃l r,c=(wy,l,r)/\l<=r/\r<=k) (Q:=λc y=>y=z/\∃l r,c=(wy,l,r)/\l<=k) ?istep ?ifin ⟨gC,0,k,gC,cP _,aN _⟩) ?ipost)
  case ifin=>
   rintro c y ⟨rfl,l,r,rfl,m,a2⟩;exact⟨gC,l,r,gC,aY m a2⟩
  case istep=>
   rintro x c y _ u ⟨rfl,l,r,rfl,m,a2⟩;dsimp only;by_cases i:l>=r
   ·rw[a9 i];exact j1 ⟨gC,l,r,gC,aY m a2⟩
   ·rw[a8 i];refine f8 (yT f o cS cS ?_)
    cases decide (K b (a (lo+k))<K b (a (lo+(l+r) / 2)))with
    |true=>exact j1 ⟨gC,l,(l+r) / 2,gC,cS,cS⟩
    |false=>exact j1 ⟨gC,(l+r) / 2+1,r,gC,cS,cS⟩
  case ipost=>
   rintro c y ⟨rfl,l,r,rfl,a2⟩;show wpS _ _ _ _ (do moveDown' (lo+k) (lo+l);pure (g6 (wy,()))) _ _;rw[moveDown'_eq];exact f8 (fy (j1 ⟨gC,_,f.bubb cS cS⟩))
end
structure PY(n:Nat)(ky:Nat->Int)(J:List Nat):Prop where
 lt:∀i∈J,i<n
 len:J.length=n
noncomputable def fa(a:Array ki)(i:Nat):ki:=(a[i]?).getD (.none,.none)
section
variable{prog:cV}{w:f7}{A:d8}{E:á->ã->Prop}{s:ã}{a:Array ki}{g:Nat->Nat}{b:Array (Nat×Nat×Nat)}{st:SortSt}
def GS.list(h:GS a g b st):(x0 st).toList=((gO a.size).map g).map (fa a):=by
 apply kE;intro q;rw[lZ,bE,aQ];by_cases c:q<a.size
 ·rw[h.get q c,kQ c];show _=wz (fa a (g q));unfold fa;rw[em a _ (h.rng q c)];rfl
 ·rw[eP (by simp;lia),oF (by rw[h.size];lia)];rfl
def aCn(hB:GS a g b st):PY a.size (K a) ((gO a.size).map g) where
 lt:=λi hi=>by
  obtain⟨p,hp,rfl⟩:=aR.mp hi;exact hB.rng p (rN.mp hp)
 len:=by simp
def UO{n:Nat}(h:n<64)(c:2<=n):minRun' n n 0=n:=by
 obtain⟨f,rfl⟩:∃f,n=f+2:=⟨n-2,cS⟩;rw[show f+2=(f+1)+1 by lia,minRun'_succ,a9 cS]
def Cv(a:Array ki)(st:SortSt):Prop:=∃g,GS a g #[(0,a.size,0)] st
def GS.setP(h:GS a g b st)(q:Array (Nat×Nat×Nat)):GS a g q (me st q):=⟨h.size,h.get,h.rng,h.kind,h.fail,gC⟩
def WF{Q:Unit->SortSt->Prop}(o:IntKeys a)(q:GS a (λp=>p) #[] st)(H:2<=a.size)(k:a.size<64)
  (h:∀i J,fi i=wy->(x0 i).toList=J.map (fa a)->PY a.size (K a) J->Q () i):wpS (ä prog w) A E s sortRuns' Q st:=by
 have L:=UO k H;rw[sortRuns'_eq];refine f8 (ni ?_);simp only[q.size]
 generalize minRun' a.size a.size 0=mn at L
 refine f8 (kt (u2
  (I:=λx c z=>(x=0/\c=(wy,0)/\GS a (λp=>p) #[] z)\/(1<=x/\c=(wy,a.size)/\Cv a z))
  (Q:=λc z=>c=(wy,a.size)/\Cv a z) ?step ?fin (.inl ⟨gC,gC,q⟩)) ?post)
 case fin=>
  rintro c z (⟨r,_,_⟩ | ⟨_,hc,l⟩)
  ·lia
  ·exact⟨hc,l⟩
 case step=>
  rintro x c z _ r (⟨rfl,rfl,hB'⟩ | ⟨x1,rfl,l⟩)
  ·rw[a8 cS];simp only[wG,QC]
   have next:∀(m:Nat)(j:Nat->Nat)(f:SortSt),GS a j #[] f->m=a.size ->
     (1=0/\((wy,m):Option Unit×Nat)=(wy,0)/\GS a (λp=>p) #[] (me f ((ax f).push (0,m,0)))) \/
     (1<=1/\((wy,m):Option Unit×Nat)=(wy,a.size)/\Cv a (me f ((ax f).push (0,m,0)))):=λm j f d e=>by
    have F:=d.setP #[(0,m,0)];rw[show(ax f).push (0,m,0)=#[(0,m,0)] by rw[d.pend];rfl];subst e;exact .inr ⟨cS,gC,j,F⟩
   refine f8 (NN o cS cS hB' λm j f d u M=>?_);dsimp only;by_cases n:m<mn
   ·rw[a9 n];refine f8 (wpS_lift (n7 ⟨gC,?_⟩));refine f8 (WG o cS cS u d λG t c1=>?_);refine f8 (ni ?_);rw[show(ax t).back?=wy by rw[c1.pend];rfl];exact f8 (fy (j1 (next _ G t c1 cS)))
   ·rw[a8 n];refine f8 (ni ?_);rw[show(ax f).back?=wy by rw[d.pend];rfl];exact f8 (fy (j1 (next _ j f d cS)))
  ·rw[a9 (aN _)];exact j1 ⟨gC,l⟩
 case post=>
  rintro c z ⟨rfl,l⟩
  refine f8 (kt (u2 (I:=λx c y=>c=(wy,())/\x=0/\y=z)
   (Q:=λc y=>c=(wy,())/\fi y=wy/\∃J,(x0 y).toList=J.map (fa a)/\PY a.size (K a) J) ?_ ?_ ⟨gC,gC,gC⟩) ?_)
  ·rintro x c y _ _ ⟨rfl,rfl,rfl⟩;refine f8 (ni ?_);obtain⟨g,d⟩:=l;rw[a9 (by rw[d.pend];exact aN 1)];exact j1 ⟨gC,d.fail,_,d.list,aCn d⟩
  ·rintro c y ⟨rfl,r,_⟩;lia
  ·rintro c y ⟨rfl,v,J,B,C⟩;exact j1 (h y J v B C)
end
end SS
set_option maxHeartbeats 4000000
namespace SS
section
variable{prog:cV}{w:f7}{A:d8}{E:á->ã->Prop}{s:ã}{a m f:à}{vs:List á}{g:List Int}{P:PySem.Fin->ã->Prop}{d:ã->Prop}{lo:Nat}
structure VJ(d:ã->Prop)(lo:Nat):Prop where
 up:∀(s':ã)(x:à)h'(tk:Nat),d s'->lo<=x->gA x s'.heap h'->d { s' with heap:=h',toks:=tk }
 push:∀(s':ã)(o:Obj),d s'->d { s' with heap:=s'.heap.push o }
def mX(prog:cV)(w:f7)(A:d8)(d:ã->Prop)(lo:Nat)(f:à)(vs:List á)(g:List Int):Prop:=∀(i:Nat)(v:á)(k:Int)(c:ã),vs[i]?=wz v->g[i]?=wz k->d c ->
 å (ä prog w) A (call (.ref f) [v]) (λu e=>∃t,u=.int k t/\d e/\∀b o,lo<=b->c.heap.get? b=wz o->e.heap.get? b=wz o) (λ_ _=>False) c
def V8{b:Array á}(hk:IntsAre b.toList g)(n:g.length=vs.length):(b.zip vs.toArray).size=vs.length/\∀i,i<vs.length->K (b.zip vs.toArray) i=g.getD i 0/\(fa (b.zip vs.toArray) i).2=vs.getD i .none:=by
 have j:b.size=vs.length:=by have:=hk.length;rw[fT]at this;lia
 have l:(b.zip vs.toArray).size=vs.length:=by rw[Array.size_zip,j,bI,Nat.min_self]
 refine⟨l,λi c=>?_⟩;obtain⟨t,h⟩:=hk.get i (g[i]' cS) (aJ cS);rw[lZ]at h;have k:vs.toArray[i]?=wz vs[i]:=by simp[c]
 have e:(b.zip vs.toArray)[i]?=wz (.int (g[i]' cS) t,vs[i]):=by
  rw[Array.getElem?_zip_eq_some];exact⟨h,k⟩
 constructor
 ·unfold K;rw[e];rw[dQ,aJ cS];rfl
 ·unfold fa;rw[e,dQ,aJ c];rfl
def PY.congr{n:Nat}{b c:Nat->Int}(h:PY n b J)(e:∀i,i<n->b i=c i):PY n c J:=⟨h.lt,h.len⟩
def QU{st:SortSt}{b:Array á}{e q:Nat}{J:List Nat}(T:VJ d lo)(F:d s)(ok:s.heap.get? m=wz (j0 "list" b e))(C:s.heap.get? a=wz (j0 "list" #[] q))(o:m≠a)(B:lo<=m)(z:lo<=a)
  (p:b.size<=bN) (r:(x0 st).toList.map (·.2)=J.map λi=>vs.getD i .none) (x:J.length<=bN) (v:fi st=wy)
  (h:∀l u out c,d { s with heap:=l,toks:=u }->l.get? a=wz (j0 "list" out c)->out.toList=(J.map λi=>vs.getD i .none)->P (.done (.ret .none)) { s with heap:=l,toks:=u }) :
  å (ä prog w) A (ksk_tail a ww q (.ref m) st) P E s:=by
 have t:=gA.update s.heap m (e7 λ_=>(#[]:Array á));have j:=(t.2 a o.symm).trans C;obtain⟨k,n⟩:∃k,((s.heap.update m (e7 λ_=>(#[]:Array á))).update a (e7 λ_=>(x0 st).map (·.2))).get? a=wz (j0 "list" ((x0 st).map (·.2)) k):=⟨_,ed j λ_=>(x0 st).map (·.2)⟩
 have y:((x0 st).map (·.2)).size=J.length:=by
  have:=d6 jQ r;simpa using this
 refine aI (bb ok gC ?_ p (cP _));refine aI (dw ?_);refine aI (seqEpoch_at j gC ?_);refine aI (bb j gC ?_ (cP _) (by simp only[rR,eu];rw[y];exact aBq x));rw[v];simp only[bne_self_eq_false,rR,eu];exact bH (h _ _ _ k (T.up { s with heap:=s.heap.update m (e7 λ_=>(#[]:Array á)) } a _ s.toks (T.up s m _ s.toks F B t) z (gA.update (s.heap.update m (e7 λ_=>(#[]:Array á))) a (e7 λ_=>(x0 st).map (·.2)))) n (by rw[Array.toList_map];exact r))
def Xy{b:Array á}{e I:Nat}(T:VJ d lo)(O:d s)(ok:s.heap.get? m=wz (j0 "list" b e))(N:s.heap.get? a=wz (j0 "list" #[] I))(u:m≠a)(M:lo<=m)(L:lo<=a)
  (hk:IntsAre b.toList g) (W:g.length=vs.length) (r:vs.length<64)
  (h:∀k p out c J,d { s with heap:=k,toks:=p }->k.get? a=wz (j0 "list" out c)->PY vs.length (λi=>g.getD i 0) J->out.toList=(J.map λi=>vs.getD i .none)->P (.done (.ret .none)) { s with heap:=k,toks:=p }) :
  å (ä prog w) A (ksk_end a ww vs.toArray I (.ref m) b) P E s:=by
 obtain⟨o,v⟩:=V8 hk W;have C:b.size=vs.length:=by have:=hk.length;rw[fT]at this;lia
 have y:(2:Nat)^24=bN:=rfl
 have x:∀J:List Nat,(∀i∈J,i<vs.length)->(J.map (fa (b.zip vs.toArray))).map (·.2)=J.map λi=>vs.getD i .none:=λJ z=>by
  rw[bE];exact fX λi t=>(v i (z i t)).2
 unfold ksk_end;simp only[rR,eu];by_cases n:vs.toArray.size<2
 ·rw[a9 n,a9 n];refine aI (bH ?_);rw[StateT.run_pure];refine aI (bH ?_)
  try dsimp only
  rw[bI]at n
  have U:(b.zip vs.toArray).toList=(gO vs.length).map (fa (b.zip vs.toArray)):=by
   apply kE;intro q;rw[lZ,aQ];by_cases B:q<vs.length
   ·rw[kQ B,em _ q (by rw[o];exact B)];show _=wz (fa _ q);unfold fa;rw[em _ q (by rw[o];exact B)];rfl
   ·rw[eP (by simp;lia),oF (by rw[o];lia)];rfl
  have l:PY vs.length (λi=>g.getD i 0) (gO vs.length):=⟨λi t=>rN.mp t,eH⟩
  exact QU T O ok N u M L (by rw[C,<- y];lia) (by
   show(b.zip vs.toArray).toList.map (·.2)=_;rw[U];exact x _ l.lt) (by simp only[mJ];rw[<- y];lia) gC λk p out c F G H=>h k p out c _ F G l H
 ·rw[a8 n,a8 n];rw[bI]at n;rw[ksk_kind hk (by rw[C];lia)];refine aI (bH ?_)
  refine aI (eE (WF
   (Q:=λ_ j=>fi j=wy/\∃J,(x0 j).toList=J.map (fa (b.zip vs.toArray))/\PY (b.zip vs.toArray).size (K (b.zip vs.toArray)) J)
   (ksk_intKeys hk) ⟨gC,λ_ _=>rfl,λ_ X=>X,gC,gC,gC⟩ (by rw[o];lia) (by rw[o];exact r) λj J R a2 S=>⟨R,J,a2,S⟩) ?_ λ_ _ e=>e)
  rintro⟨⟨⟩,j⟩ s' ⟨rfl,hf,J,z,l⟩
  try dsimp only
  rw[o]at l;exact QU T O ok N u M L (by rw[C,<- y];lia) (by rw[z];exact x J l.lt) (by rw[l.len,<- y];lia) hf λk p out c F G H=>h k p out c _ F G (l.congr λi t=>(v i t).1) H
def aCq{z:Nat}(T:VJ d lo)(Z:d s)(ok:s.heap.get? m=wz (j0 "list" #[] 0))(X:s.heap.get? a=wz (j0 "list" #[] z))(p:m≠a)(C:lo<=m)(K:lo<=a)
  (S:g.length=vs.length) (o:vs.length<64) (turn:mX prog w A d lo f vs g)
  (h:∀b out c J,d b->b.heap.get? a=wz (j0 "list" out c)->PY vs.length (λi=>g.getD i 0) J->out.toList=(J.map λi=>vs.getD i .none)->P (.done (.ret .none)) b) :
  å (ä prog w) A (ksk_rest a (.ref f) ww vs.toArray z (.ref m)) P E s:=by
 have H:(2:Nat)^24=bN:=rfl;refine aI (n7 ?_)
 first
  |rw[List.forIn_toArray]
  | (rw[<- VT];simp only[List.toList_toArray])
  |rw[<- VT]
 refine aI (ksk_fold (λi b=>d b/\∃l e,b.heap.get? m=wz (j0 "list" l e)/\b.heap.get? a=wz (j0 "list" #[] z)/\IntsAre l.toList (g.take i)) vs 0 s
  ⟨Z,#[],0,ok,X,by simpa using IntsAre.nil⟩ ?step ?done)
 case step=>
  rintro j x b I ⟨G,l,e,u,F,hk⟩;simp only[QC]at hk |-
  have hj:=(aL.mp I).1;obtain⟨k,q⟩:∃k,g[j]?=wz k:=⟨_,aJ cS⟩
  have hz:l.size<=vs.length:=by
   have O:=hk.length;rw[fT,bU]at O;lia
  refine aI (iu (eE (turn j x k b I q G) (λv t R=>?_) λ_ _ Q=>Q.elim));obtain⟨n,rfl,t3,keep⟩:=R;have r:=keep m _ C u;have L:=gA.update t.heap m (e7 (·.push (.int k n)));obtain⟨y,B⟩:∃y,(t.heap.update m (e7 (·.push (.int k n)))).get? m=wz (j0 "list" (l.push (.int k n)) y):=⟨_,ed r (·.push (.int k n))⟩;have N:g.take (j+1)=g.take j++[k]:=by rw[eW,q];simp
  have M:(l.push (m5 k n)).toList=l.toList++[m5 k n]:=by simp
  refine aI (bb r gC ?_ (by rw[<- H];lia) (aY (kH (FX ..)) (by rw[<- H];lia)));exact bH ⟨gC,T.up _ m _ _ t3 C L,l.push (.int k n),y,B,(L.2 a p.symm).trans (keep a _ K F),by rw[M,N];exact ksk_snoc hk⟩
 case done=>
  rintro b ⟨G,l,e,u,F,hk⟩;rw[(gG cS)]at hk;refine aI (listItems_at u gC ?_);exact Xy T G u F p C K hk S o λh' tk out c J n W Y U=>h _ out c J n W Y U
def aCp{n:Nat}(T:VJ d lo)(u:d s)(k:s.heap.get? a=wz (j0 "list" vs.toArray n))(l:lo<=a)(t:g.length=vs.length)(b:vs.length<64)(turn:mX prog w A d lo f vs g)
  (h:∀o out c J,d o->o.heap.get? a=wz (j0 "list" out c)->PY vs.length (λi=>g.getD i 0) J->out.toList=(J.map λi=>vs.getD i .none)->P (.done (.ret .none)) o) :
  å (ä prog w) A (ksk_tree a (.ref f) ww) P E s:=by
 have q:(2:Nat)^24=bN:=rfl;have r:=bF k;obtain⟨p,j⟩:∃p,(s.heap.update a (e7 λ_=>(#[]:Array á))).get? a=wz (j0 "list" #[] p):=⟨_,ed k λ_=>#[]⟩;have e:((s.heap.update a (e7 λ_=>(#[]:Array á))).push (j0 "tuple" vs.toArray 0)).objs.size=s.heap.objs.size+1:=by rw[size_push',DM]
 refine aI (listItems_at k gC ?_);refine aI (bb k gC ?_ (by rw[bI,<- q];lia) (cP _));refine aI (seqEpoch_at j gC ?_);refine aI (wpAny_newTuple ?_ (by show vs.length<=_;rw[<- q];lia));refine aI (wpAny_newList ?_ (cP _));refine m8 ?_
 exact aCq
  T (T.push { s with heap:=(s.heap.update a (e7 λ_=>(#[]:Array á))).push (j0 "tuple" vs.toArray 0) } _ (T.push { s with heap:=s.heap.update a (e7 λ_=>(#[]:Array á)) } _ (T.up s a _ s.toks u l (gA.update s.heap a (e7 λ_=>(#[]:Array á))))))
  (aX _ gC) (aD _ (aD _ j)) (by rw[e];exact jP (oX r)) (by rw[e];exact aY l (jA (oX r))) l t b turn h
def TK{l:à}{Q:á->ã->Prop}(T:VJ d lo)(v:d s)(r:s.heap.IsList l vs.toArray)(j:lo<=s.heap.objs.size)(e:g.length=vs.length)(b:vs.length<64)(turn:mX prog w A.in1.in1 d lo f vs g)
  (h:∀p D out c J,d p->s.heap.objs.size<=D->p.heap.get? D=wz (j0 "list" out c)->PY vs.length (λi=>g.getD i 0) J->out.toList=(J.map λi=>vs.getD i .none)->Q (.ref D) p) :
  å (ä prog w) A (call (.builtin "sorted") [.ref l] [(d9 "key",.ref f)]) Q E s:=by
 have q:(2:Nat)^24=bN:=rfl;refine call_function_entry_kw kind_sorted plain_sorted entry_sorted (ksk_s1 _ _) ?_;refine aI (bH ?_);refine aI (collect_list r ?_ (by rw[<- q];lia));refine aI (wpAny_newList ?_ (by rw[<- q];lia))
 have n:((s.heap.push (j0 "list" #[] 0)).update s.heap.objs.size (e7 (·++vs.toArray))).objs.size=s.heap.objs.size+1:=by
  rw[DM,size_push']
 have k:(((s.heap.push (j0 "list" #[] 0)).update s.heap.objs.size (e7 (·++vs.toArray))).push (j0 "list" vs.toArray 0)).get? (s.heap.objs.size+1)=wz (j0 "list" vs.toArray 0):=by
  rw[<- n];exact aX _ gC
 rw[n];refine aI (m8 (wpAny_call_entry_kw slot_list_sort ⟨_,k,gC⟩ entry_list_sort ?body (ksk_l1 _ _)))
 case body=>
  rw[ksk_t1];refine aCp T (T.push { s with heap:=(s.heap.push (j0 "list" #[] 0)).update s.heap.objs.size (e7 (·++vs.toArray)) } (j0 "list" vs.toArray 0) (T.up { s with heap:=s.heap.push (j0 "list" #[] 0) } s.heap.objs.size _ s.toks (T.push s (j0 "list" #[] 0) v) j (gA.update _ _ _))) k (aBq j) e b turn λp out c J x o u t=>⟨_,gC,?_⟩;exact bH ⟨_,gC,h p _ out c J x (tN _) o u t⟩
end
end SS
noncomputable section
def L2.tabA:Option PySem.Addr:=wz 266
namespace L2
abbrev mX:=Sum Int â
noncomputable def HA:mX->á->Bool
|.inl k,v=>Value.isInt k v
|.inr x,v=>Value.isStrOf x v
noncomputable def Ki(w:f7):mX->Int
|.inl k=>hashInt k
|.inr x=>hashStr w x
def jJ:∀{k v},HA k v=wx->(∃i t,k=v4 i/\v=m5 i t)\/(∃x t,k=fc x/\v=y0 x t)
|.inl i,v,h=>by
 obtain⟨t,e⟩:=Value.isInt_shape h;exact .inl ⟨i,t,gC,e⟩
|.inr x,v,h=>by
 obtain⟨t,e⟩:=Value.isStrOf_shape h;exact .inr ⟨x,t,gC,e⟩
def UU(i:Int)(t:Tok):HA (.inl i) (.int i t)=true:=by simp[HA,Value.isInt]
def UT(x:â)(t:Tok):HA (.inr x) (.str x t)=true:=by simp[HA,Value.isStrOf]
def Ww(a b:Int):decide ((v4 a:mX)=v4 b)=(a==b):=by
 by_cases e:a=b
 ·subst e;simp
 ·rw[c6 (λq=>e (au q))];exact(beq_eq_false_iff_ne.mpr e).symm
def Wz(a b:â):decide ((fc a:mX)=fc b)=decide (a=b):=by
 by_cases e:a=b
 ·subst e;simp
 ·rw[c6 (λq=>e (Sum.inr.inj q)),c6 e]
def Wx(a:Int)(b:â):decide ((v4 a:mX)=fc b)=false:=c6 (λq=>nomatch q)
def Wy(a:â)(b:Int):decide ((fc a:mX)=v4 b)=false:=c6 (λq=>nomatch q)
noncomputable def jF(prog:cV)(w:f7):PySem.KeyKind prog w mX where
 is:=HA
 hash:=Ki w
 inj:=λv a b ha hb=>by
  rcases jJ ha with⟨i,t,rfl,rfl⟩ | ⟨x,t,rfl,rfl⟩
  ·rcases jJ hb with⟨j,u,rfl,e⟩ | ⟨y,u,rfl,e⟩
   ·injection e with e1 _;rw[e1]
   ·exact nomatch e
  ·rcases jJ hb with⟨j,u,rfl,e⟩ | ⟨y,u,rfl,e⟩
   ·exact nomatch e
   ·injection e with e1 _;rw[e1]
 byValue:=λk v h=>by
  rcases jJ h with⟨i,t,rfl,rfl⟩ | ⟨x,t,rfl,rfl⟩<;>rfl
 pyHash:=λhv h=>by
  rcases jJ hv with⟨i,t,rfl,rfl⟩ | ⟨x,t,rfl,rfl⟩
  ·exact wpAny_pyHash_int h
  ·exact wpAny_pyHash_str h
 eqBool:=λhu hv h=>by
  rcases jJ hu with⟨i,t,rfl,rfl⟩ | ⟨x,t,rfl,rfl⟩
  ·rcases jJ hv with⟨j,u,rfl,rfl⟩ | ⟨y,u,rfl,rfl⟩
   ·rw[Ww]at h;exact wpAny_eqBool_int h
   ·rw[Wx]at h;exact dq i t y u _ _ _ _ h
  ·rcases jJ hv with⟨j,u,rfl,rfl⟩ | ⟨y,u,rfl,rfl⟩
   ·rw[Wy]at h;exact dr x t j u _ _ _ _ h
   ·rw[Wz]at h;exact wpAny_eqBool_str h
 «strs»:=λk x t v h=>by
  rcases jJ h with⟨i,u,rfl,e⟩ | ⟨y,u,rfl,e⟩
  ·exact nomatch e
  ·injection e with e1 _
   subst e1;cases v<;>rfl
def MB(prog:cV)(w:f7)(i:Int)(t:Tok):(jF prog w).is (.inl i) (.int i t)=true:=UU i t
def MA(prog:cV)(w:f7)(x:â)(t:Tok):(jF prog w).is (.inr x) (.str x t)=true:=UT x t
inductive V where
 |non | bl (b:Bool) | int (i:Int) | str (x:â) | byt (b:Array UInt8) | flt (b:UInt64) | ref (a:à) | ty (n:String)
 deriving DecidableEq
def fQ:V->á->Prop
|.non,u=>u=k6
|.bl b,u=>u=bn b
|.int i,u=>∃t,u=m5 i t
|.str x,u=>∃t,u=y0 x t
|.byt b,u=>∃t,u=Value.bytes b t
|.flt b,u=>∃t,u=fe b t
|.ref a,u=>u=d0 a
|.ty n,u=>u=gb n
abbrev fW:List V->List á->Prop:=Paired fQ
theorem fW.length{b:List V}{a:List á}(r:fW b a):b.length=a.length:=y4 r
theorem fW.get:∀{xs us}{i:Nat}{x},fW xs us->xs[i]?=wz x->∃u,us[i]?=wz u/\fQ x u
|_,_,_,_,.nil,e=>by simp at e
|_,_,0,_,.cons r _,e=>by simp at e;subst e;exact⟨_,gC,r⟩
|_,_,i+1,x,.cons _ t,e=>by
 obtain⟨u,a,b⟩:=fW.get t (by simpa using e);exact⟨u,by simpa using a,b⟩
theorem fW.set(r:fQ x u):∀{b:List V}{a:List á}(i:Nat),fW b a->fW (b.set i x) (a.set i u)
|_,_,_,.nil=>.nil
|_,_,0,.cons _ t=>.cons r t
|_,_,i+1,.cons q t=>.cons q (fW.set r i t)
theorem fW.append:∀{xs ys us ws},fW xs us->fW ys ws->fW (xs++ys) (us++ws)
|_,_,_,_,.nil,s=>s
|_,_,_,_,.cons r t,s=>.cons r (fW.append t s)
theorem fW.take:∀{b:List V}{a:List á}(n:Nat),fW b a->fW (b.take n) (a.take n)
|_,_,0,_=>.nil
|_,_,_+1,.nil=>.nil
|_,_,n+1,.cons r t=>.cons r (fW.take n t)
theorem fW.drop:∀{b:List V}{a:List á}(n:Nat),fW b a->fW (b.drop n) (a.drop n)
|_,_,0,r=>r
|_,_,_+1,.nil=>.nil
|_,_,n+1,.cons _ t=>fW.drop n t
def wZ:Option V->Option á->Prop
|some v,wz u=>fQ v u
|none,wy=>True
|_,_=>False
def KV{a:Type}:List (a×V)->List (a×á)->Prop:=Paired λ(p:a×V) (q:a×á)=>p.1=q.1/\fQ p.2 q.2
noncomputable def kV:mX->V
|.inl i=>.int i
|.inr x=>.str x
inductive HO where
 /-- a list -/
 |lst (xs:List V)
 /-- a tuple (never changes) -/
 |tup (xs:List V)
 /-- a dict whose keys are ints and texts;one whose keys are tuples of ints and texts (the empty one is both) -/
 |dK (kvs:List (mX×V)) | dT (kvs:List (List mX×V))
 /-- a set of ints: aj members,aj size -/
 |set (S:Int->Bool) (n:Nat)
 /-- an instance of the class at C,aj dict at dx,aj attributes -/
 |ins (C dx:à) (fs:List (â×V))
 /-- the dict of the instance at x -/
 |own (x:à)
 /-- the dict of an exception -/
 |xd (fs:List (â×V))
 /-- a bound method,f of x -/
 |met (f x:à)
 /-- a range object lo,lo+1,.. below hi -/
 |rng (lo hi:Int)
 /-- a thing that is known to the object (the script;a dict while a kq walks it): read,never written while it is so -/
 |frz (o:Obj) (u:HO)
 /-- a code object's table -/
 |tbl (ps:Array á)
 /-- any other thing,by what is wx of aj one object (a def of sq own: SetO a S n:=HO.ext λh=>..) -/
 |ext (φ:ç->Prop)
abbrev Hp:=à->Option HO
noncomputable def eY(H:Hp)(a:à)(o:HO):Hp:=λb=>if b=a then wz o else H b
def cD{a:à}:eY H a o a=wz o:=by unfold eY;rw[a9 rfl]
def bY{a b:à}(h:b≠a):eY H a o b=H b:=by unfold eY;rw[a8 h]
def C1{a:à}:eY (eY H a o) a u=eY H a u:=by
 funext b;unfold eY;split<;>rfl
def Nk{H:Hp}{a b:à}{o u:HO}(h:H a=wz o)(c:H b=wz u)(d:o≠u):a≠b:=by
 intro e;subst e;rw[h]at c;exact d (c8 c)
def eX{H:Hp}{a b:à}{o:HO}(h:H a=wz o)(c:H b=wy):a≠b:=by
 intro e;subst e;rw[h]at c;cases c
section
variable(P:cV)(w:f7)
def GF(h:ç)(a:à)(b:Array á):Prop:=∃o,h.get? a=wz o/\o.cls=.type "tuple"/\∃n,o.data=.seq b n/\o.dict=wy
def GF.tup{h}{a:à}{items}(x:GF h a items):mj h a items:=let ⟨o,e,c,n,d,_⟩:=x;⟨o,e,c,n,d⟩
theorem GF.lt{h:ç}{a:à}(x:GF h a items):a<h.objs.size:=x.tup.lt
def GF.new(h:ç)(a:Array á):GF (h.push { cls:=.type "tuple",data:=.seq a }) h.objs.size a:=⟨_,aX _ gC,gC,_,gC,gC⟩
def Ca(a:Obj):Prop:=∃vs q t,a.data=.fields vs/\vs[1]?=wz (.str q t)
def jC(H:Hp)(h:ç)(a:à):HO->Prop
|.lst d=>d.length<=bN/\∃(b:List á)(n:Nat),fW d b/\h.get? a=wz { cls:=.type "list",data:=.seq b.toArray n }
|.tup d=>d.length<=bN/\∃b:List á,fW d b/\GF h a b.toArray
|.dK kvs=>kvs.length<=bN/\(a==l4)=ww/\∃vs,KV kvs vs/\h.DictOf (jF P w) a vs
|.dT kvs=>kvs.length<=bN/\(a==l4)=ww/\∃d:List (List mX×à×á),
  Paired (λ(p:List mX×V) (q:List mX×à×á)=>p.1=q.1/\H q.2.1=wz (.tup (p.1.map kV))/\fQ p.2 q.2.2) kvs d /\
  ∃o i m,h.get? a=wz o/\o.ExactDict/\o.data=.dict i m/\i.toList=d.map (entryOfKey (cx (jF P w)))/\(d.map (·.1)).Nodup
|.set S n=>h.SetOf (intKind P w) a S n
|.ins C dx fs=>H dx=wz (.own a)/\fs.length<=1000/\dx≠a/\h.get? a=wz (jW C dx) /\
  ∃e,h.Ns1 dx e/\(∀f,wZ (fs.lookup f) (e f))/\dz e (fs.map (·.1))
|.own _=>∃o,h.get? a=wz o
|.xd fs=>∃e,h.Ns1 a e/\∀f,wZ (fs.lookup f) (e f)
|.rng lo hi=>∃t u v,h.get? a=wz { cls:=.type "range",data:=.fields #[.int lo t,.int hi u,.int 1 v] }
|.frz o u=>h.get? a=wz o/\jC H h a u
|.tbl _=>∃qs:Array á,h.get? a=wz { cls:=.none,data:=.fields qs }/\TriplesOk qs.toList/\∀(p:Pos)(c:á),codeAmong p qs.toList=wz c->∃g l,c=.ref g/\H g=wz (.frz l (.own a))/\Ca l
|.met f x=>h.get? a=wz (PySem.W.methodObj (.ref f) (.ref x))
|.ext φ=>φ h/\(∃o,h.get? a=wz o)/\∀j k:ç,φ j->(∀o,j.get? a=wz o->k.get? a=wz o)->φ k
def pZ(H:Hp)(h:ç):Prop:=∀a o,H a=wz o->jC P w H h a o
end
section
variable{P:cV}{w:f7}{H g:Hp}{h h':ç}{a:à}{o:HO}
theorem jC.lt(x:jC P w H h a o):a<h.objs.size:=by
 cases o with
 |lst b=>obtain⟨_,_,_,_,e⟩:=x;exact bF e
 |tup b=>obtain⟨_,_,_,p⟩:=x;exact p.lt
 |dK kvs=>obtain⟨_,_,_,_,o,_,_,e,_⟩:=x;exact bF e
 |dT kvs=>obtain⟨_,_,_,_,o,_,_,e,_⟩:=x;exact bF e
 |set S n=>obtain⟨o,_,_,_,e,_⟩:=x;exact bF e
 |ins C dx fs=>obtain⟨_,_,_,e,_⟩:=x;exact bF e
 |own y=>obtain⟨_,e⟩:=x;exact bF e
 |xd fs=>obtain⟨_,⟨_,_,_,e,_⟩,_⟩:=x;exact bF e
 |rng lo c=>obtain⟨_,_,_,e⟩:=x;exact bF e
 |frz ob u=>obtain⟨e,_⟩:=x;exact bF e
 |tbl d=>obtain⟨_,e,_⟩:=x;exact bF e
 |met f y=>exact bF (show h.get? a=wz _ from x)
 |ext i=>obtain⟨_,⟨_,e⟩,_⟩:=x;exact bF e
theorem Paired.mapP{c d:Type}{F G:c->d->Prop}:∀{l₁ l₂},Paired F l₁ l₂->(∀a b,F a b->G a b)->Paired G l₁ l₂
|_,_,.nil,_=>.nil
|_,_,.cons r t,f=>.cons (f _ _ r) (Paired.mapP t f)
def jC.stay(x:jC P w H h a o)(k:∀b u,(b=a\/H b=wz (.own a))->h.get? b=wz u->h'.get? b=wz u)
  (F:∀b,H b=wz (.own a)->g b=wz (.own a)) (G:∀b m,H b=wz (.tup m)->g b=wz (.tup m)) (E:∀b ob u,H b=wz (.frz ob u)->g b=wz (.frz ob u):=by exactλ_ _ _ q=>q):jC P w g h' a o:=by
 induction o with
 |lst m=>obtain⟨z,l,n,r,e⟩:=x;exact⟨z,l,n,r,k _ _ (.inl gC) e⟩
 |tup m=>obtain⟨z,l,r,ob,e,c⟩:=x;exact⟨z,l,r,ob,k _ _ (.inl gC) e,c⟩
 |dK kvs=>obtain⟨z,y,vs,r,ob,j,i,e,c⟩:=x;exact⟨z,y,vs,r,ob,j,i,k _ _ (.inl gC) e,c⟩
 |dT kvs=>
  obtain⟨z,y,m,r,ob,j,i,e,c⟩:=x;exact⟨z,y,m,Paired.mapP r λp q z=>⟨z.1,G _ _ z.2.1,z.2.2⟩,ob,j,i,k _ _ (.inl gC) e,c⟩
 |set S n=>obtain⟨ob,j,i,t,e,c⟩:=x;exact⟨ob,j,i,t,k _ _ (.inl gC) e,c⟩
 |ins C dx fs=>
  obtain⟨d,z,ne,e,s,⟨A,j,i,B,c⟩,r⟩:=x;exact⟨F _ d,z,ne,k _ _ (.inl gC) e,s,⟨A,j,i,k _ _ (.inr d) B,c⟩,r⟩
 |own y=>obtain⟨ob,e⟩:=x;exact⟨ob,k _ _ (.inl gC) e⟩
 |xd fs=>obtain⟨s,⟨A,j,i,e,c⟩,r⟩:=x;exact⟨s,⟨A,j,i,k _ _ (.inl gC) e,c⟩,r⟩
 |rng lo J=>obtain⟨t,u,v,e⟩:=x;exact⟨t,u,v,k _ _ (.inl gC) e⟩
 |frz ob u I=>obtain⟨e,q⟩:=x;exact⟨k _ _ (.inl gC) e,I q⟩
 |tbl K=>
  obtain⟨qs,e,t,z⟩:=x;exact⟨qs,k a _ (.inl gC) e,t,λp c q=>let ⟨c',oc,h1,h2,h3⟩:=z p c q;⟨c',oc,h1,E _ _ _ h2,h3⟩⟩
 |met f y=>
  have e:=x;exact k a _ (.inl gC) e
 |ext L=>obtain⟨p,⟨o,e⟩,st⟩:=x;exact⟨st _ _ p λo q=>k _ _ (.inl gC) q,⟨o,k _ _ (.inl gC) e⟩,st⟩
theorem pZ.lt(x:pZ P w H h)(e:H a=wz o):a<h.objs.size:=(x a o e).lt
def pZ.fresh(x:pZ P w H h)(e:h.objs.size<=a):H a=none:=by
 cases q:H a with
 |none=>rfl
 |some u=>exact b8 (cH (x.lt q) e) (fB _)
def pZ.kept(x:pZ P w H h)(k:∀b u,h.get? b=wz u->h'.get? b=wz u):pZ P w H h':=λa o e=>
 (x a o e).stay (λb u _ q=>k b u q) (λ_ q=>q) λ_ _ q=>q
def pZ.laid(x:pZ P w H h)(k:∀b u,h.get? b=wz u->h'.get? b=wz u)(f:h.objs.size<=a)(new:jC P w (eY H a o) h' a o):pZ P w (eY H a o) h':=λb u e=>by
 have d:=x.fresh f;by_cases hb:b=a
 ·subst hb;rw[cD]at e;cases e;exact new
 ·rw[bY hb]at e;exact(x b u e).stay (λc v _ q=>k c v q) (λc q=>by rw[bY (eX q d)];exact q) (λc i q=>by rw[bY (eX q d)];exact q) λc ob v q=>by rw[bY (eX q d)];exact q
end
def Rd(H:Hp)(a:à)(u:HO):Prop:=H a=wz u\/∃o,H a=wz (.frz o u)
def Rd.ok{h}{a:à}(r:Rd H a u)(x:pZ P w H h):jC P w H h a u:=by
 rcases r with r | ⟨o,r⟩
 ·exact x a u r
 ·obtain⟨_,q⟩:=x a _ r;exact q
def zh:Option HO->Prop
|some (.lst _)=>True
|some (.dK _)=>True
|some (.dT _)=>True
|some (.set _ _)=>True
|some (.ins _ _ _)=>True
|some (.ext _)=>True
|_=>False
section
variable{P:cV}{w:f7}{H:Hp}{h a:ç}{x e:à}{d:HO}
def pZ.write(ok:pZ P w H h)(i:zh (H x))(l:e=x\/H e=wz (.own x))(k:∀b u,b≠e->h.get? b=wz u->a.get? b=wz u)(j:∃u,a.get? e=wz u)
  (new:jC P w (eY H x d) a x d):pZ P w (eY H x d) a:=λb u q=>by
 have g:∀c y,H c=wz (.own y)->c≠x:=λc y r z=>by subst z;rw[r]at i;exact i
 by_cases hb:b=x
 ·subst hb;rw[cD]at q;cases q;exact new
 ·rw[bY hb]at q;by_cases f:b=e
  ·have m:H b=wz (.own x):=by
    rcases l with z | z
    ·exact b8 (f.trans z) hb
    ·rw[f];exact z
   rw[q]at m;cases m;obtain⟨v,o⟩:=j;exact⟨v,by rw[f];exact o⟩
  ·refine(ok b u q).stay (λc v hc r=>k c v ?_ r) (λc r=>by rw[bY (g c b r)];exact r) (λc n r=>by rw[bY ((λc n r z=>by subst z;rw[r]at i;exact i) c n r)];exact r) λc ob v r=>by rw[bY (λz=>by subst z;rw[r]at i;exact i)];exact r
   rcases hc with rfl | hc
   ·exact f
   ·rintro rfl;rcases l with z | z
    ·exact g c b hc z
    ·rw[hc]at z;cases z;exact hb gC
end
structure Un(fs ex:List à)(H H':Hp)(h h':ç):Prop where
 keep:∀b o,h.get? b=wz o->H b=wy->b∉fs->b∉ex->h'.get? b=wz o
 slot:∀b o,h.get? b=wz o->H b=wy->b∈fs->b∉ex->∃sl,h'.get? b=wz { o with slots:=sl }
 free:∀b o,h.get? b=wz o->H b=wy->b∉ex->H' b=wy
 there:∀b o,h.get? b=wz o->b∉ex->∃o',h'.get? b=wz o'
 tups:∀b xs,H b=wz (.tup xs)->H' b=wz (.tup xs)
 frzs:∀b o u,H b=wz (.frz o u)->H' b=wz (.frz o u)
 tbls:∀b ps,H b=wz (.tbl ps)->∃more,H' b=wz (.tbl (ps++more))
section
variable{fs ex:List à}{H f g:Hp}{h d i h':ç}{a x e:à}{o:HO}
def Un.any(u:Un fs ex H f h d){b:à}(q:h.get? b=wz ob)(n:H b=wy)(c:b∉ex):∃j,d.get? b=wz { ob with slots:=j }:=by
 by_cases hb:b∈fs
 ·exact u.slot b ob q n hb c
 ·exact⟨ob.slots,u.keep b ob q n hb c⟩
def Un.trans(a:Un fs ex H f h d)(b:Un fs ex f g d i):Un fs ex H g h i where
 keep:=λc ob q n hc hx=>b.keep c ob (a.keep c ob q n hc hx) (a.free c ob q n hx) hc hx
 slot:=λc ob q n hc hx=>by
  obtain⟨sl,e1⟩:=a.slot c ob q n hc hx;obtain⟨qo,e2⟩:=b.slot c _ e1 (a.free c ob q n hx) hc hx;exact⟨qo,e2⟩
 free:=λc ob q n hx=>by
  obtain⟨o',e1⟩:=a.there c ob q hx;exact b.free c o' e1 (a.free c ob q n hx) hx
 there:=λc ob q hx=>by
  obtain⟨o',e1⟩:=a.there c ob q hx;exact b.there c o' e1 hx
 tups:=λc xs q=>b.tups c xs (a.tups c xs q)
 frzs:=λc ob xs q=>b.frzs c ob xs (a.frzs c ob xs q)
 tbls:=λc ps q=>by
  obtain⟨m1,e1⟩:=a.tbls c ps q;obtain⟨m2,e2⟩:=b.tbls c _ e1;exact⟨m1++m2,by rw[e2,VW]⟩
def Un.kept(k:∀b u,h.get? b=wz u->h'.get? b=wz u):Un fs ex H H h h':=
 ⟨λb ob q _ _ _=>k b ob q,λb ob q _ _ _=>⟨ob.slots,k b ob q⟩,λ_ _ _ n _=>n,λb ob q _=>⟨ob,k b ob q⟩,λ_ _ q=>q,λ_ _ _ q=>q,λ_ c q=>⟨#[],by rw[q];simp⟩⟩
def Un.refl:Un fs ex H H h h:=Un.kept λ_ _ q=>q
def Un.laid(k:∀b u,h.get? b=wz u->h'.get? b=wz u)(hp:h.objs.size<=a)(hn:H a=wy):Un fs ex H (eY H a o) h h' where
 keep:=λb u q _ _ _=>k b u q
 slot:=λb u q _ _ _=>⟨u.slots,k b u q⟩
 free:=λb u q n _=>by rw[bY (dF (cH (bF q) hp))];exact n
 there:=λb u q _=>⟨u,k b u q⟩
 tups:=λb xs q=>by rw[bY (eX q hn)];exact q
 frzs:=λb u xs q=>by rw[bY (eX q hn)];exact q
 tbls:=λb ps q=>⟨#[],by rw[bY (eX q hn),q];simp⟩
def Un.write(j:zh (H x))(s:e=x\/H e=wz (.own x))(k:∀b u,b≠e->h.get? b=wz u->h'.get? b=wz u)(l:∃u,h'.get? e=wz u):Un fs ex H (eY H x o) h h':=by
 have p:∀b,H b=wy->b≠x:=λb n z=>by subst z;rw[n]at j;exact j
 have hb:∀b,H b=wy->b≠e:=λb n z=>by
  subst z;rcases s with r | r
  ·exact p b n r
  ·rw[n]at r;cases r
 have m:∀b u,H b=wz u->¬zh (wz u)->b≠x:=λb u q nm z=>by subst z;rw[q]at j;exact nm j
 refine⟨λb u q n _ _=>k b u (hb b n) q,λb u q n _ _=>⟨u.slots,k b u (hb b n) q⟩,λb u q n _=>by rw[bY (p b n)];exact n,λb u q _=>?_,
  λb t q=>by rw[bY (m b _ q λz=>z)];exact q,λb u t q=>by rw[bY (m b _ q λz=>z)];exact q,λb v q=>⟨#[],by rw[bY (m b _ q λz=>z),q];simp⟩⟩
 by_cases c:b=e
 ·subst c;exact l
 ·exact⟨u,k b u c q⟩
end
noncomputable def trk(h:ç)(H:Hp):List Addr:=(gO h.objs.size).filter λa=>(H a).isSome
noncomputable def O6(h:ç)(H:Hp):Heap:=PySem.W.hideAll h (trk h H)
def UX(h:ç)(H:Hp):(O6 h H).objs.size=h.objs.size:=PySem.W.hideAll_size _ _
def Z1{h:ç}{b:à}(e:h.get? b=wz o)(n:H b=wy):(O6 h H).get? b=wz o:=
 PySem.W.hideAll_get _ e λa=>by
  have q:=(dM.mp a).2;rw[n]at q;simp at q
def aDo{h:ç}{H:Hp}{b:à}(e:(O6 h H).get? b=wz o):h.get? b=wz o/\H b=none:=by
 have a:=PySem.W.of_hideAll (trk h H) e;refine⟨a,?_⟩
 cases q:H b with
 |none=>rfl
 |some x=>
  have z:(O6 h H).get? b=none:=PySem.W.hideAll_none (trk h H) (dM.mpr ⟨rN.mpr (bF a),by simp[q]⟩);rw[z]at e;cases e
noncomputable def Zv(g h:ç)(L:à):List (à×Obj):=(gO h.objs.size).filterMap λa=>if a=L\/(g.get? a).isSome=wx then wy else(h.get? a).map λo=>(a,o)
noncomputable def jE(g h:ç)(L d:à):List (à×Obj):=(Zv g h L).filter λp=>decide (p.1≠d)
structure Mod(K:aF)(mg:â->Option á)(base:ç):Prop where
 kin:K.In base
 glob:base.Ns eF mg
 blt:∃mb,base.Ns m9 mb/\∀x:â,x≠"__name__"->mb x=d4 x
 nolimit:base.NoLimit
 bmod:∃bm o,mg "__builtins__"=wz (.ref bm)/\bm≠m9/\base.get? bm=wz o/\o.cls=.type "module"/\o.dict=wz m9/\o.data=.plain
set_option genInjectivity false in
structure Cx where
 prog:cV
 w:f7
 K:aF
 mg:â->Option á
 base:ç
 A:d8
 N:List â
 s₀:ã
 H₀:Hp
 env:Env
 outer:List Env
 stack:List Env
 ex:List à
 fn:â->Bool
 calm:Bool
 pn:List (à×Obj)
 xe:á->ã->Prop
noncomputable def rC(l:List Env):List Addr:=l.filterMap (·.frame)
noncomputable abbrev Cx.fs(X:Cx):List Addr:=rC X.outer
def Ag(a:Scope)(x:â):Prop:=a.names.lookup x=wz .local\/a.names.lookup x=wz .cell\/a.names.lookup x=wz .free
def VL(a:Scope)(x:â):Prop:=a.names.lookup x=wz .local\/a.names.lookup x=wz .cell
def Js(env:Env)(h:ç)(m:â->Option á)(x:â)(u:á):Prop:=
 (env.kindOf x=wz .local/\m x=wz u)\/((env.kindOf x=wz .cell\/env.kindOf x=wz .free)/\∃c,env.cells.lookup x=wz c/\h.IsCell c (wz u))
def Tb(H:Hp):Prop:=∀P,tabA=wz P->∃a,H P=wz (.tbl a)
structure Cx.Ok(X:Cx):Prop where
 mod:Mod X.K X.mg X.base
 kind:X.env.scope.kind=.function
 glob:X.env.globals=eF
 blt:X.env.builtins=m9
 above:X.s₀.heap.objs.size<=X.env.locals
 inj:∀x y c,X.env.cells.lookup x=wz c->X.env.cells.lookup y=wz c->x=y
 has:∀x,(X.env.kindOf x=wz .cell\/X.env.kindOf x=wz .free)->∃c,X.env.cells.lookup x=wz c
 cab:∀x c,X.fn x=wx->X.env.cells.lookup x=wz c->X.s₀.heap.objs.size<=c
 hd:X.calm=wx->X.A.handled=wy
 frames:X.A.frames=wz X.stack
 stk:X.stack=X.outer\/(X.stack=X.env::X.outer/\X.env.frame=wz X.env.locals)
 exf:∀b∈X.ex,b≠X.env.locals/\∀x c,X.env.cells.lookup x=wz c->c≠b
 bs:∀b o,X.base.get? b=wz o->X.s₀.heap.get? b=wz o/\X.H₀ b=wy
 bsz:X.base.objs.size<=X.s₀.heap.objs.size
 noex:∀b o,X.base.get? b=wz o->b∉X.ex
 exfs:∀b∈X.ex,b∉X.fs
 funs:X.s₀.heap.FunFrames X.base X.outer
 frf:∀b∈X.fs,X.H₀ b=wy
 tab:Tb X.H₀
structure dI(X:Cx)(pins:List (à×Obj))(σ:List (Option V))(H:Hp)(s:ã):Prop where
 ok:X.Ok
 os:s.os=X.s₀.os
 bare:t9 s.gens
 base:Un X.fs X.ex X.H₀ H X.s₀.heap s.heap
 loc:∃m,s.heap.Ns X.env.locals m/\∀(i:Nat)(x:â)(v:V),X.N[i]?=wz x->σ[i]?=wz (wz v)->Ag X.env.scope x->∃u,fQ v u/\Js X.env s.heap m x u
 cell:∀x c,X.env.cells.lookup x=wz c->∃v,s.heap.IsCell c v
 free:H X.env.locals=wy
 freeC:∀x c,X.env.cells.lookup x=wz c->H c=wy
 pin:∀p∈X.pn++pins,s.heap.get? p.1=wz p.2/\H p.1=wy/\p.1≠X.env.locals/\p.1∉X.fs/\∀v,p.2.data≠.cell v
 hok:pZ X.prog X.w H s.heap
 len:σ.length=X.N.length
section
variable{X:Cx}{f:List (à×Obj)}{g:List (Option V)}{H H':Hp}{s:ã}{h':ç}
def Cx.Ok.nofr(ok:X.Ok){b:à}(e:X.base.get? b=wz o):b∉X.fs:=λhb=>by
 have:=(ok.funs.mem hb).1;rw[e]at this;cases this
theorem dI.bs(I:dI X f g H s):∀b o,X.base.get? b=wz o->s.heap.get? b=wz o/\H b=none:=λb o e=>
 ⟨I.base.keep b o (I.ok.bs b o e).1 (I.ok.bs b o e).2 (I.ok.nofr e) (I.ok.noex b o e),I.base.free b o (I.ok.bs b o e).1 (I.ok.bs b o e).2 (I.ok.noex b o e)⟩
def dI.bk(I:dI X f g H s):∀b o,X.base.get? b=wz o->s.heap.get? b=wz o:=λb o e=>(I.bs b o e).1
theorem dI.mod(I:dI X f g H s):Mod X.K X.mg X.base:=I.ok.mod
def dI.kIn(I:dI X f g H s):X.K.In s.heap:=I.ok.mod.kin.keeps I.bk
theorem dI.nolimit(I:dI X f g H s):s.heap.NoLimit:=I.ok.mod.nolimit.keeps I.bk
theorem dI.lt(I:dI X f g H s):X.env.locals<s.heap.objs.size:=let ⟨_,hn,_⟩:=I.loc;hn.lt
def dI.sz(I:dI X f g H s):X.s₀.heap.objs.size<=s.heap.objs.size:=aY I.ok.above (jA I.lt)
def dI.nofs(I:dI X f g H s){a:à}(h:s.heap.objs.size<=a):a∉X.fs:=λhb=>by
 obtain⟨_,o,b,_⟩:=I.ok.funs.mem hb;exact b8 (cH (bF b) (aY I.sz h)) (fB _)
def dI.cne(I:dI X f g H s):∀x c,X.env.cells.lookup x=wz c->c≠X.env.locals:=λx c e z=>by
 obtain⟨v,o,d,hd⟩:=I.cell x c e;obtain⟨m,⟨j,i,h,b,a,_⟩,_⟩:=I.loc;rw[z,b]at d;cases d;rw[a]at hd;cases hd
theorem dI.funs(I:dI X f g H s):s.heap.FunFrames X.base X.outer:=by
 have all:∀l,(∀b∈rC l,b∈X.fs)->X.s₀.heap.FunFrames X.base l->s.heap.FunFrames X.base l:=by
  intro l
  induction l with
  |nil=>intro _ _;trivial
  |cons env r m=>
   intro d h;obtain⟨hk,⟨L,o,c,i,j,hd⟩,k⟩:=h;have a:=d L (by unfold rC;rw[kR,c];exact aP);obtain⟨n,e⟩:=I.base.slot L o j (I.ok.frf L a) a λz=>I.ok.exfs L z a;exact⟨hk,⟨L,_,c,i,e,hd⟩,m (λb hb=>d b (by unfold rC;rw[kR,c];exact aH _ hb)) k⟩
 exact all X.outer (λ_ hb=>hb) I.ok.funs
theorem dI.stack(I:dI X f g H s):s.heap.FunFrames X.base X.stack:=by
 rcases I.ok.stk with e | ⟨e,a⟩
 ·rw[e];exact I.funs
 ·rw[e];obtain⟨m,b,_⟩:=I.loc;refine .cons (by rw[I.ok.kind];decide) a b ?_ I.funs;exact mT (aY I.ok.bsz I.ok.above)
def dI.stkSub(I:dI X f g H s):∀b∈rC X.stack,b∈X.env.locals::X.fs:=λb hb=>by
 rcases I.ok.stk with e | ⟨e,a⟩
 ·rw[e]at hb;exact aH _ hb
 ·rw[e]at hb;unfold rC at hb;rw[kR,a]at hb;exact hb
def dI.stkFree(I:dI X f g H s):∀b∈rC X.stack,H b=none:=λb hb=>by
 rcases aO.mp (I.stkSub b hb)with e | hb
 ·rw[e];exact I.free
 ·obtain⟨_,o,a,_⟩:=I.ok.funs.mem hb;exact I.base.free b o a (I.ok.frf b hb) λz=>I.ok.exfs b z hb
def dI.step{M:Array GenState}{t':Nat}{d':Drawn}{ch:List à}(I:dI X f g H s)
  (j:∀b∈ch,(b∈X.ex\/X.s₀.heap.objs.size<=b)/\b≠X.env.locals/\(∀x c,X.env.cells.lookup x=wz c->c≠b)/\∀p∈X.pn++f,p.1≠b)
  (keep:∀b o,b≠X.env.locals->b∉X.fs->b∉ch->s.heap.get? b=wz o->H b=wy->h'.get? b=wz o)
  (slot:∀b o,b≠X.env.locals->b∈X.fs->b∉ch->s.heap.get? b=wz o->H b=wy->∃K,h'.get? b=wz { o with slots:=K }) (free:∀b o,b∉ch->s.heap.get? b=wz o->H b=wy->H' b=wy)
  (there:∀b o,b∉ch->s.heap.get? b=wz o->∃G,h'.get? b=wz G)
  (tups:∀b B,H b=wz (.tup B)->H' b=wz (.tup B)) (frzs:∀b o u,H b=wz (.frz o u)->H' b=wz (.frz o u)) (tbls:∀b J,H b=wz (.tbl J)->∃more,H' b=wz (.tbl (J++more)))
  (ns:∀m,s.heap.Ns X.env.locals m->h'.Ns X.env.locals m) (hok:pZ X.prog X.w H' h') (R:t9 M) :
  dI X f g H' { s with heap:=h',gens:=M,drawn:=d',toks:=t' }:=by
 have F:∀b o,X.s₀.heap.get? b=wz o->b≠X.env.locals:=λb o e=>dF (cH (bF e) I.ok.above)
 have A:∀b o,X.s₀.heap.get? b=wz o->b∉X.ex->b∉ch:=λb o e a hb=>by
  rcases(j b hb).1 with z | z
  ·exact a z
  ·exact b8 (cH (bF e) z) (fB _)
 have h:∀x c,X.env.cells.lookup x=wz c->∀v,s.heap.IsCell c v->h'.IsCell c v:=λx c e v ⟨o,C,hd⟩=>by
  have t:=λz=>(j c z).2.2.1 x c e gC;by_cases N:c∈X.fs
  ·obtain⟨K,q⟩:=slot c o (I.cne x c e) N t C (I.freeC x c e);exact⟨_,q,hd⟩
  ·exact⟨o,keep c o (I.cne x c e) N t C (I.freeC x c e),hd⟩
 refine⟨I.ok,I.os,R,⟨λb o e n hb a=>?_,λb o e n hb a=>?_,λb o e n a=>?_,λb o e a=>?_,λb B e=>tups b B (I.base.tups b B e),λb o B e=>frzs b o B (I.base.frzs b o B e),λb J e=>?_⟩,?_,λx c e=>?_,?_,λx c e=>?_,λp O=>?_,hok,I.len⟩
 ·exact keep b o (F b o e) hb (A b o e a) (I.base.keep b o e n hb a) (I.base.free b o e n a)
 ·obtain⟨K,y⟩:=I.base.slot b o e n hb a;obtain⟨L,E⟩:=slot b _ (F b o e) hb (A b o e a) y (I.base.free b o e n a);exact⟨L,E⟩
 ·obtain⟨G,y⟩:=I.base.there b o e a;exact free b G (A b o e a) y (I.base.free b o e n a)
 ·obtain⟨G,y⟩:=I.base.there b o e a;exact there b G (A b o e a) y
 ·obtain⟨U,y⟩:=I.base.tbls b J e;obtain⟨W,E⟩:=tbls b _ y;exact⟨U++W,by rw[E,VW]⟩
 ·obtain⟨m,T,S⟩:=I.loc;refine⟨m,ns m T,λi x v y E Q=>?_⟩;obtain⟨u,r,l⟩:=S i x v y E Q;refine⟨u,r,?_⟩;rcases l with l | ⟨k,c,e,z⟩
  ·exact .inl l
  ·exact .inr ⟨k,c,e,h x c e _ z⟩
 ·obtain⟨v,z⟩:=I.cell x c e;exact⟨v,h x c e v z⟩
 ·obtain⟨m,⟨o,_,_,C,_⟩,_⟩:=I.loc;exact free _ o (λz=>(j _ z).2.1 gC) C I.free
 ·obtain⟨v,o,C,hd⟩:=I.cell x c e;exact free c o (λz=>(j c z).2.2.1 x c e gC) C (I.freeC x c e)
 ·obtain⟨e,n,ne,P,d⟩:=I.pin p O;have t:=λz=>(j p.1 z).2.2.2 p O gC;exact⟨keep p.1 p.2 ne P t e n,free p.1 p.2 t e n,ne,P,d⟩
def dI.un{t':Nat}(I:dI X f g H s)(u:Un X.fs [] H H' s.heap h')(hok:pZ X.prog X.w H' h'):dI X f g H' { s with heap:=h',toks:=t' }:=by
 obtain⟨m,⟨o,p,l,h,r⟩,_⟩:=id I.loc;obtain⟨v,i⟩:=u.any h I.free eH
 exact I.step (ch:=[]) (λ_ z=>nomatch z) (λb o _ hb _ e n=>u.keep b o e n hb eH) (λb o _ hb _ e n=>u.slot b o e n hb eH) (λb o _ e n=>u.free b o e n eH) (λb o _ e=>u.there b o e eH) u.tups u.frzs u.tbls (λq j=>by
  obtain⟨t,d,c,a,k⟩:=j;rw[h]at a;cases a;exact⟨_,d,c,i,k⟩) hok I.bare
def dI.call{q:Array GenState}{C:Nat}{v:Drawn}{l:List à}(I:dI X f g H s)(u:Un (rC X.stack) l H H' s.heap h')(hok:pZ X.prog X.w H' h')(y:t9 q)
  (d:∀b∈l,(b∈X.ex\/X.s₀.heap.objs.size<=b)/\b≠X.env.locals/\(∀x c,X.env.cells.lookup x=wz c->c≠b)/\∀p∈X.pn++f,p.1≠b) :
  dI X f g H' { s with heap:=h',gens:=q,drawn:=v,toks:=C }:=by
 obtain⟨m,⟨o,F,E,t,r⟩,_⟩:=id I.loc;obtain⟨K,k⟩:=u.any t I.free λz=>(d _ z).2.1 gC
 exact I.step d (λb o k hb a e n=>u.keep b o e n (λz=>(aO.mp (I.stkSub b z)).elim k hb) a) (λb o _ _ a e n=>u.any e n a) (λb o a e n=>u.free b o e n a) (λb o a e=>u.there b o e a) u.tups u.frzs u.tbls (λG A=>by
  obtain⟨J,j,i,h,B⟩:=A;rw[t]at h;cases h;exact⟨_,j,i,k,B⟩) hok y
def dI.turned{t':Nat}{a:à}(I:dI X f g H s)(k:∀b o,b≠a->s.heap.get? b=wz o->h'.get? b=wz o)(B:H a=wy)(i:a≠X.env.locals)
  (t:a∈X.ex\/X.s₀.heap.objs.size<=a) (w:∀x c,X.env.cells.lookup x=wz c->c≠a) (y:∀p∈X.pn++f,p.1≠a):dI X f g H { s with heap:=h',toks:=t' }:=by
 have h:∀b u,H b=wz u->b≠a:=λb u e z=>by rw[z,B]at e;cases e
 refine I.step (ch:=[a]) (λb hb=>?_) (λb o _ _ d e _=>k b o (λz=>d (by simp[z])) e) (λb o _ _ d e _=>⟨o.slots,k b o (λz=>d (by simp[z])) e⟩) (λ_ _ _ _ n=>n)
  (λb o d e=>⟨o,k b o (λz=>d (by simp[z])) e⟩) (λ_ _ e=>e) (λ_ _ _ e=>e) (λb E e=>⟨#[],by rw[e];simp⟩) (λm A=>?_) (λb u e=>?_) I.bare
 ·have e:b=a:=by simpa using hb
  subst e;exact⟨t,i,w,y⟩
 ·obtain⟨o,l,j,C,r⟩:=A;exact⟨o,l,j,k _ o (i0 i) C,r⟩
 ·refine(I.hok b u e).stay (λc v d q=>k c v ?_ q) (λ_ q=>q) λ_ _ q=>q;rcases d with z | z
  ·rw[z];exact h b u e
  ·exact h c _ z
def dI.tok(I:dI X f g H s)(t:Nat):dI X f g H { s with toks:=t }:=I.un Un.refl I.hok
theorem dI.kept{t':Nat}(I:dI X f g H s)(k:∀b u,s.heap.get? b=wz u->h'.get? b=wz u):dI X f g H { s with heap:=h',toks:=t' }:=I.un (Un.kept k) (I.hok.kept k)
theorem dI.laid{a:à}{t':Nat}(I:dI X f g H s)(k:∀b u,s.heap.get? b=wz u->h'.get? b=wz u)(c:s.heap.objs.size<=a)(new:jC X.prog X.w (eY H a o) h' a o) :
  dI X f g (eY H a o) { s with heap:=h',toks:=t' }:=I.un (Un.laid k c (I.hok.fresh c)) (I.hok.laid k c new)
theorem dI.write{x e:à}{h:Nat}(I:dI X f g H s)(d:zh (H x))(c:e=x\/H e=wz (.own x))(k:∀b u,b≠e->s.heap.get? b=wz u->h'.get? b=wz u)(a:∃u,h'.get? e=wz u)
  (new:jC X.prog X.w (eY H x o) h' x o):dI X f g (eY H x o) { s with heap:=h',toks:=h }:=I.un (Un.write d c k a) (I.hok.write d c k a new)
def dI.pins_of(I:dI X f g H s)(h:∀p∈pins',s.heap.get? p.1=wz p.2/\H p.1=wy/\p.1≠X.env.locals/\p.1∉X.fs/\∀v,p.2.data≠.cell v):dI X pins' g H s:=
 ⟨I.ok,I.os,I.bare,I.base,I.loc,I.cell,I.free,I.freeC,λp a=>(bR.mp a).elim (λz=>I.pin p (dZ _ z)) (h p),I.hok,I.len⟩
def EI{N:List â}(e:N.Nodup){i j:Nat}(a:N[i]?=wz x)(b:N[j]?=wz x):i=j:=by
 obtain⟨h,c⟩:=aL.mp a;obtain⟨k,d⟩:=aL.mp b;exact(aBs e).mp (c.trans d.symm)
def GW{E:á->ã->Prop}{i:Nat}{Q:Unit->ã->Prop}(I:dI X f g H s)(hN:X.N.Nodup)(S:X.N[i]?=wz x)(C:VL X.env.scope x)(r:fQ v u)
  (h:∀s',dI X f (g.set i (wz v)) H s'->(∃a,gA a s.heap s'.heap/\(a=X.env.locals\/X.env.cells.lookup x=wz a))->Q () s') (hf:autoParam (X.fn x=wx\/X.env.scope.names.lookup x=wz .local) zzw._auto_1):å M A (storeName X.env x u) Q E s:=by
 obtain⟨m,hn,hl⟩:=id I.loc;have R:(X.env.scope.kind==.class||(X.env.scope.kind==.module&&X.env.locals != X.env.globals))=false:=by rw[I.ok.kind];rfl
 have J:i<g.length:=by rw[I.len];exact(aL.mp S).1
 have cne:=I.cne
 have B:∀{a:à}{h':ç},(∃o,s.heap.get? a=wz o/\H a=wy)->gA a s.heap h'->pZ X.prog X.w H h':=λ{a h'} ha l b ob e=>by
  obtain⟨_,_,F⟩:=ha;refine(I.hok b ob e).stay (λc Y hc q=>(l.2 c ?_).trans q) (λ_ q=>q) λ_ _ q=>q;rintro rfl;rcases hc with rfl | hc
  ·rw[F]at e;cases e
  ·rw[F]at hc;cases hc
 rcases C with hk | hk
 ·refine wpAny_storeName_local hk hn (λh' uz l=>?_) R;obtain⟨oL,_,_,vf,_⟩:=id hn;refine h _ ⟨I.ok,I.os,I.bare,⟨λb o e n hb C=>?_,λb o e n hb C=>?_,I.base.free,λb o e C=>?_,I.base.tups,I.base.frzs,I.base.tbls⟩,⟨_,uz,λj y v' t G Z=>?_⟩,λy c e=>?_,I.free,I.freeC,λp hp=>?_,B ⟨oL,vf,I.free⟩ l,by simpa using I.len⟩ ⟨_,l,.inl gC⟩
  ·exact(l.2 b (dF (cH (bF e) I.ok.above))).trans (I.base.keep b o e n hb C)
  ·obtain⟨sl,t⟩:=I.base.slot b o e n hb C;exact⟨sl,(l.2 b (dF (cH (bF e) I.ok.above))).trans t⟩
  ·obtain⟨o',t⟩:=I.base.there b o e C;exact⟨o',(l.2 b (dF (cH (bF e) I.ok.above))).trans t⟩
  ·by_cases L:j=i
   ·subst L;rw[S]at t;cases t;rw[bT J]at G;cases G;exact⟨u,r,.inl ⟨hk,eH⟩⟩
   ·rw[bM (i0 L)]at G;obtain⟨u',r',q⟩:=hl j y v' t G Z;refine⟨u',r',?_⟩;rcases q with⟨k,e⟩ | ⟨k,c,e,z⟩
    ·refine .inl ⟨k,?_⟩;have:y≠x:=λe=>L (EI hN t (e▸S));simp[this,e]
    ·exact .inr ⟨k,c,e,z.sameBut l (cne y c e)⟩
  ·obtain⟨Y,z⟩:=I.cell y c e;exact⟨Y,z.sameBut l (cne y c e)⟩
  ·obtain⟨e,n,ne,nf,d⟩:=I.pin p hp;exact⟨(l.2 p.1 ne).trans e,n,ne,nf,d⟩
 ·have K:X.fn x=true:=by
   rcases hf with z | z
   ·exact z
   ·rw[z]at hk;cases hk
  obtain⟨c,hc⟩:=I.ok.has x (.inl hk);obtain⟨Y,z⟩:=I.cell x c hc;refine wpAny_storeName_cell I.ok.kind hk hc z (λh' O l=>?_);obtain⟨oc,T,U⟩:=id z;refine h { s with heap:=h' } ⟨I.ok,I.os,I.bare,⟨λb o e n hb C=>?_,λb o e n hb C=>?_,I.base.free,λb o e C=>?_,I.base.tups,I.base.frzs,I.base.tbls⟩,⟨m,hn.sameBut l (i0 (cne x c hc)),λj y v' t G Z=>?_⟩,λy W e=>?_,I.free,I.freeC,λp hp=>?_,B ⟨oc,T,I.freeC x c hc⟩ l,by simpa using I.len⟩ ⟨c,l,.inr hc⟩
  ·exact(l.2 b (dF (cH (bF e) (I.ok.cab x c K hc)))).trans (I.base.keep b o e n hb C)
  ·obtain⟨sl,t⟩:=I.base.slot b o e n hb C;exact⟨sl,(l.2 b (dF (cH (bF e) (I.ok.cab x c K hc)))).trans t⟩
  ·obtain⟨o',t⟩:=I.base.there b o e C;exact⟨o',(l.2 b (dF (cH (bF e) (I.ok.cab x c K hc)))).trans t⟩
  ·by_cases L:j=i
   ·subst L;rw[S]at t;cases t;rw[bT J]at G;cases G;exact⟨u,r,.inr ⟨.inl hk,c,hc,O⟩⟩
   ·rw[bM (i0 L)]at G;obtain⟨u',r',q⟩:=hl j y v' t G Z;refine⟨u',r',?_⟩;rcases q with q | ⟨k,W,e,z'⟩
    ·exact .inl q
    ·refine .inr ⟨k,W,e,z'.sameBut l ?_⟩;rintro rfl;exact L (EI hN t (I.ok.inj _ _ _ e hc▸S))
  ·by_cases P:W=c
   ·subst P;exact⟨_,O⟩
   ·obtain⟨w2,z2⟩:=I.cell y W e;exact⟨w2,z2.sameBut l P⟩
  ·obtain⟨e,n,ne,nf,d⟩:=I.pin p hp;refine⟨(l.2 p.1 ?_).trans e,n,ne,nf,d⟩;intro q;rw[q,T]at e;exact d Y (by rw[<- (c8 e)];exact U)
def DU{E:á->ã->Prop}{i:Nat}{Q:Unit->ã->Prop}(I:dI X f g H s)(c:X.N.Nodup)(e:X.N[i]?=wz x)(j:VL X.env.scope x)(r:fQ v u)
  (h:∀a,dI X f (g.set i (wz v)) H a->Q () a) (d:autoParam (X.fn x=wx\/X.env.scope.names.lookup x=wz .local) zzw._auto_1):å M A (storeName X.env x u) Q E s:=
 GW I c e j r (λa b _=>h a b) d
def dI.call'{a:ã}(I:dI X f g H s)(h:a.os=s.os)(u:Un (rC X.stack) ch H H' s.heap a.heap)(hok:pZ X.prog X.w H' a.heap)(e:t9 a.gens)
  (d:∀b∈ch,(b∈X.ex\/X.s₀.heap.objs.size<=b)/\b≠X.env.locals/\(∀x c,X.env.cells.lookup x=wz c->c≠b)/\∀p∈X.pn++f,p.1≠b):dI X f g H' a:=by
 obtain⟨h',j,i,l,k⟩:=a;subst h;exact I.call u hok e d
end
abbrev XK:=á->Option à->Hp->Prop
abbrev St:=List (Option V)
abbrev VK:=V->Hp->Prop
abbrev TE:=St->Hp->VK->Prop
abbrev TT:=St->Hp->(Bool->Hp->Prop)->Prop
abbrev TA:=St->Hp->(List V->Hp->Prop)->Prop
structure aBb where
 nx:St->Hp->Prop
 rt:VK
 bk:St->Hp->Prop:=λ_ _=>False
 ct:St->Hp->Prop:=λ_ _=>False
abbrev TS:=aBb->St->Hp->Prop
def EP(X:Cx)(a:List (à×Obj))(d:St)(Q:VK)(u:á)(c:ã):Prop:=∃v b,dI X a d b c/\fQ v u/\Q v b
def TP(X:Cx)(a:List (à×Obj))(e:St)(Q:Bool->Hp->Prop)(b:Bool)(d:ã):Prop:=∃c,dI X a e c d/\Q b c
def AP(X:Cx)(a:List (à×Obj))(e:St)(Q:List V->Hp->Prop)(d:List á)(c:ã):Prop:=∃vs b,dI X a e b c/\fW vs d/\Q vs b
def SP(X:Cx)(b:List (à×Obj))(D:aBb)(f:Flow)(d:ã):Prop:=
 match f with
 |.next=>∃a c,dI X b a c d/\D.nx a c
 |.brk=>∃a c,dI X b a c d/\D.bk a c
 |.cont=>∃a c,dI X b a c d/\D.ct a c
 |.ret u=>∃v a c,dI X b a c d/\fQ v u/\D.rt v c
def PE(X:Cx)(e:æ)(t:TE):Prop:=
 ∀a s b H Q,dI X a b H s->t b H Q->å (ä X.prog X.w) X.A (è e X.env) (EP X a b Q) X.xe s
def PT(X:Cx)(e:æ)(t:TT):Prop:=
 ∀a s b H Q,dI X a b H s->t b H Q->å (ä X.prog X.w) X.A (isTrue e X.env (è e X.env)) (TP X a b Q) X.xe s
def PW(X:Cx)(e:æ)(t:TT):Prop:=
 ∀whole a s b H Q,dI X a b H s->t b H Q->å (ä X.prog X.w) X.A (isTrue e X.env whole) (TP X a b Q) X.xe s
def PW.pt(h:PW X e t):PT X e t:=h _
def PA(X:Cx)(c:List æ)(t:TA):Prop:=
 ∀pos a s b H Q,dI X a b H s->t b H Q->å (ä X.prog X.w) X.A (spliced (j8 pos (bZ c X.env))) (AP X a b Q) X.xe s
def PS(X:Cx)(st:é)(t:TS):Prop:=
 ∀a s b H D,dI X a b H s->t D b H->å (ä X.prog X.w) X.A (exec st X.env) (SP X a D) X.xe s
def BR(X:Cx)(st:List é)(t:TS):Prop:=
 ∀a s b H D,dI X a b H s->t D b H->å (ä X.prog X.w) X.A (execs st X.env) (SP X a D) X.xe s
def iZ{d:Type}{t}{Q b:d->ã->Prop}{M A}{E:á->ã->Prop}{s}(h:å M A t Q E s)(c:∀a s,Q a s->b a s):å M A t b E s:=eE h c λ_ _ x=>x
section
variable{X:Cx}
def nV(i:Nat):TE:=λa H Q=>∃v,a[i]?=wz (wz v)/\Q v H
def tC(v:V):TE:=λ_ H Q=>Q v H
def X8{i:Nat}{x:â}(g:X.N[i]?=wz x)(o:Ag X.env.scope x)(hd:autoParam ((x==("__debug__":â))=false) zzy._auto_1)(d:autoParam ((x==("__classdict__":â))=false) zzy._auto_1):PE X (.Name x pos) (nV i):=by
 intro b s p H Q I h;obtain⟨v,e,h⟩:=h;obtain⟨m,n,j⟩:=I.loc;obtain⟨u,r,l⟩:=j i x v g e o;have fin:EP X b p Q u s:=⟨v,H,I,r,h⟩;rcases l with⟨hk,k⟩ | ⟨hk,c,f,a⟩
 ·exact mi (wpAny_loadName_local I.ok.kind hk n k fin) hd
 ·rcases hk with hk | hk
  ·exact mi (wpAny_loadName_cell I.ok.kind hk f a fin) hd
  ·exact mi (wpAny_loadName_free I.ok.kind hk f a fin d) hd
def mC:PE X (.Constant (.int i) j pos) (tC (.int i)):=λ_ _ _ H _ I h=>wpAny_Constant_int ⟨.int i,H,I.tok _,⟨_,gC⟩,h⟩
def Ho:PE X (.Constant (.bool b) j pos) (tC (.bl b)):=λ_ _ _ H _ I h=>Constant_bool ⟨.bl b,H,I,gC,h⟩
def Yl:PE X (.Constant .none j pos) (tC .non):=λ_ _ _ H _ I h=>Constant_none ⟨.non,H,I,gC,h⟩
def oP:PE X (.Constant (.str x) j pos) (tC (.str x)):=λ_ _ _ H _ I h=>Calls.Constant_str ⟨.str x,H,I.tok _,⟨_,gC⟩,h⟩
def Gl(X:Cx)(x:â):Prop:=X.env.kindOf x=wz .globalImplicit
def tY{E:á->ã->Prop}{x:â}{Q:á->ã->Prop}(I:dI X pins σ H s)(a:Gl X x)(b:X.mg x=wz u)(h:Q u s)
  (hd:autoParam ((x==("__debug__":â))=false) zzy._auto_1):å (ä X.prog X.w) X.A (è (.Name x pos) X.env) Q E s:=
 bh I.ok.kind a (Calls.loadGlobal_global (by rw[I.ok.glob];exact I.mod.glob.keeps I.bk) b h) hd
def vP{E:á->ã->Prop}{x:â}{Q:á->ã->Prop}(I:dI X pins σ H s)(c:Gl X x)(d:X.mg x=wy)(f:d4 x=wz u)(h:Q u s)
  (e:autoParam (x≠"__name__") zzy._auto_1) (hd:autoParam ((x==("__debug__":â))=false) zzy._auto_1):å (ä X.prog X.w) X.A (è (.Name x pos) X.env) Q E s:=by
 obtain⟨g,a,b⟩:=I.mod.blt;exact bh I.ok.kind c (Calls.loadGlobal_builtin (by rw[I.ok.glob];exact I.mod.glob.keeps I.bk) d (by rw[I.ok.blt];exact a.keeps I.bk) ((b x e).trans f) h) hd
def pX{x:â}(a:Gl X x)(b:X.mg x=wz u)(r:fQ v u)(hd:autoParam ((x==("__debug__":â))=false) zzy._auto_1):PE X (.Name x pos) (tC v):=
 λ_ _ _ H _ I h=>tY I a b ⟨v,H,I,r,h⟩ hd
def RC{x:â}(a:Gl X x)(b:X.mg x=wy)(d:d4 x=wz u)(r:fQ v u)(c:autoParam (x≠"__name__") zzy._auto_1)(hd:autoParam ((x==("__debug__":â))=false) zzy._auto_1):PE X (.Name x pos) (tC v):=
 λ_ _ _ H _ I h=>vP I a b d ⟨v,H,I,r,h⟩ c hd
variable{a b:æ}{f k:TE}{pos:Pos}
def PC(X:Cx)(h:CmpOp)(a b:æ)(t:TE):Prop:=
 ∀c s g H Q,dI X c g H s->t g H Q ->
  å (ä X.prog X.w) X.A (è a X.env) (λv d=>å (ä X.prog X.w) X.A (è b X.env) (λu e=>å (ä X.prog X.w) X.A (c9 h v u) (EP X c g Q) X.xe e) X.xe d) X.xe s
def Y3(b:æ)(h:op≠.In)(e:op≠.NotIn):i3 op b=false:=by
 have c:(op==CmpOp.In)=false:=by cases op<;>first | rfl | exact b8 gC h
 have d:(op==CmpOp.NotIn)=false:=by cases op<;>first | rfl | exact b8 gC e
 cases b<;>simp[i3,c,d]
def tB(t:TE):TT:=λe H Q=>t e H λx d=>∃c,x=.bl c/\Q c d
def XZ(h:PC X op a b t)(g:i3 op b=false:=by first | exact Y3 _ cR cR | rfl):PT X (.Compare a [op] [b] pos) (tB t):=by
 intro e s p H Q I hw;refine kg (iZ (h e s p H _ I hw) λv r g=>iZ g λu w l=>iZ l λc s3 o=>?_) g;obtain⟨x,i,j,n,m⟩:=o;obtain⟨d,rfl,q⟩:=m;cases n;exact g3 ⟨i,j,q⟩
def JD{e:æ}(h:PE X e t)(j:autoParam (∀whole,isTrue e X.env whole=(do let v <- whole;bu e.pos;z6 [v] (truthy v))) zzx._auto_1):PT X e (tB t):=by
 intro c s o H Q I hw;refine isTrue_plain (iZ (h c s o H _ I hw) λv p n=>?_) (j _);obtain⟨x,g,i,m,l⟩:=n;obtain⟨d,rfl,q⟩:=l;cases m;exact g3 ⟨g,i,q⟩
variable{g n:TT}{jE:List æ}
def Lg(t u:TT):TT:=λe H Q=>t e H λc d=>if c=wx then u e d Q else Q ww d
def Ix(t u:TT):TT:=λe H Q=>t e H λc d=>if c=wx then Q wx d else u e d Q
def Lj(t:TT):TT:=λe H Q=>t e H λc d=>Q (!c) d
def Q4(i:PT X a g):PW X (.BoolOp .And [a] pos) g:=by
 intro wh d s j H Q I h;refine isTrue_and (iZ (i d s j H Q I h) λc l e=>?_)
 cases c with
 |true=>exact isTrue_and_nil e
 |false=>exact e
def XS(i:PT X a g):PW X (.BoolOp .Or [a] pos) g:=by
 intro wh d s j H Q I h;refine isTrue_or (iZ (i d s j H Q I h) λc l e=>?_)
 cases c with
 |false=>exact isTrue_or_nil e
 |true=>exact e
def XT(m:PT X a g)(hb:PW X (.BoolOp .And (b::jE) pos) n):PW X (.BoolOp .And (a::b::jE) pos) (Lg g n):=by
 intro wh d s l H Q I h;refine isTrue_and (iZ (m d s l H _ I h) λc o p=>?_);obtain⟨e,i,j⟩:=p
 cases c with
 |true=>exact hb wh d o l e Q i j
 |false=>exact⟨e,i,j⟩
def Hr(m:PT X a g)(hb:PW X (.BoolOp .Or (b::jE) pos) n):PW X (.BoolOp .Or (a::b::jE) pos) (Ix g n):=by
 intro wh d s l H Q I h;refine isTrue_or (iZ (m d s l H _ I h) λc o p=>?_);obtain⟨e,i,j⟩:=p
 cases c with
 |true=>exact⟨e,i,j⟩
 |false=>exact hb wh d o l e Q i j
def XY(i:PT X a g):PT X (.UnaryOp .Not a pos) (Lj g):=by
 intro d s j H Q I h;exact isTrue_not (i d s j H (λc e=>Q (!c) e) I h)
def Vx(f k:TE):TE:=λe H Q=>f e H λx d=>∃c,x=.bl c/\if c=wx then k e d Q else Q (.bl ww) d
def Lk(f k:TE):TE:=λe H Q=>f e H λx d=>∃c,x=.bl c/\if c=wx then Q (.bl wx) d else k e d Q
def Vz(f:TE):TE:=λe H Q=>f e H λx d=>∃c,x=.bl c/\Q (.bl (!c)) d
def Xq(h:PE X a t):PE X (.BoolOp op [a] pos) t:=λc s d H Q I hw=>BoolOp_one (h c s d H Q I hw)
def Yj(m:PE X a f)(hb:PE X (.BoolOp .And (b::jE) pos) k):PE X (.BoolOp .And (a::b::jE) pos) (Vx f k):=by
 intro d s l H Q I h;refine BoolOp_and (iZ (m d s l H _ I h) λv p q=>?_);obtain⟨x,i,j,o,e⟩:=q;obtain⟨c,rfl,e⟩:=e;cases o;refine g3 ?_
 cases c with
 |true=>exact hb d p l i Q j e
 |false=>exact⟨.bl ww,i,j,gC,e⟩
def Pa(m:PE X a f)(hb:PE X (.BoolOp .Or (b::jE) pos) k):PE X (.BoolOp .Or (a::b::jE) pos) (Lk f k):=by
 intro d s l H Q I h;refine BoolOp_or (iZ (m d s l H _ I h) λv p q=>?_);obtain⟨x,i,j,o,e⟩:=q;obtain⟨c,rfl,e⟩:=e;cases o;refine g3 ?_
 cases c with
 |false=>exact hb d p l i Q j e
 |true=>exact⟨.bl wx,i,j,gC,e⟩
def Xp(l:PE X a f):PE X (.UnaryOp .Not a pos) (Vz f):=by
 intro d s p H Q I h;refine UnaryOp_ (iZ (l d s p H _ I h) λv q o=>?_);obtain⟨x,i,j,m,e⟩:=o;obtain⟨c,rfl,e⟩:=e;cases m;exact not_of (g3 ⟨.bl (!c),i,j,gC,e⟩)
def Iy(t:TT)(f k:TE):TE:=λd H Q=>t d H λc e=>if c=wx then f d e Q else k d e Q
def YC(q:PT X c g)(p:PE X a f)(hb:PE X b k):PE X (.IfExp c a b pos) (Iy g f k):=by
 intro e s i H Q I h;refine wpAny_IfExp (iZ (q e s i H _ I h) λd o r=>?_);obtain⟨j,l,m⟩:=r
 cases d with
 |true=>exact p e o i j Q l m
 |false=>exact hb e o i j Q l m
end
def nM(K:aF)(H:Hp)(a:à)(c:List V):Prop:=
 Rd H a (.lst c) \/
  ∃o b n,K.lookup a=wz o/\o.cls=.type "list"/\o.dict=wy/\o.data=.seq b n/\b.size<=bN/\fW c b.toList
def rL(K:aF)(H:Hp)(a:à)(c:List V):Prop:=
 Rd H a (.tup c) \/
  ∃o b n,K.lookup a=wz o/\o.cls=.type "tuple"/\o.dict=wy/\o.data=.seq b n/\b.size<=bN/\fW c b.toList
noncomputable def Ko:á->Option V
|.none=>wz .non
|.bool b=>wz (.bl b)
|.int i _=>wz (.int i)
|.str x _=>wz (.str x)
|.bytes b _=>wz (.byt b)
|.float b _=>wz (.flt b)
|.ref a=>wz (.ref a)
|.type n=>wz (.ty n)
|_=>wy
def fQ.abs(r:fQ x u):Ko u=wz x:=by
 cases x with
 |non=>cases r;rfl
 |bl _=>cases r;rfl
 |int _=>obtain⟨t,rfl⟩:=r;rfl
 |str _=>obtain⟨t,rfl⟩:=r;rfl
 |byt _=>obtain⟨t,rfl⟩:=r;rfl
 |flt _=>obtain⟨t,rfl⟩:=r;rfl
 |ref _=>cases r;rfl
 |ty _=>cases r;rfl
theorem fQ.inj(r:fQ x u)(q:fQ y u):x=y:=c8 (r.abs.symm.trans q.abs)
theorem fW.inj:∀{xs ys us},fW xs us->fW ys us->xs=ys
|_,_,_,.nil,.nil=>rfl
|_,_,_,.cons r t,.cons r' t'=>by rw[r.inj r',fW.inj t t']
section
variable{X:Cx}{b:List (à×Obj)}{g:St}{H:Hp}{s:ã}{a:à}{f i:List V}
def nM.of{K}(h:H a=wz (.lst f)):nM K H a f:=.inl (.inl h)
def rL.of{K}(h:H a=wz (.tup f)):rL K H a f:=.inl (.inl h)
def dI.list(I:dI X b g H s)(h:nM X.K H a f):∃c,fW f c/\PlainL s.heap a c.toArray/\f.length<=bN:=by
 rcases h with h | ⟨o,c,n,hk,d,hd,j,k,r⟩
 ·obtain⟨z,c,n,r,e⟩:=h.ok I.hok;exact⟨c,r,⟨_,n,e,gC,gC,gC⟩,z⟩
 ·refine⟨c.toList,r,⟨o,n,I.kIn a o hk,d,hd,by simpa using j⟩,?_⟩;have e:=r.length;simp only[fT]at e;lia
def dI.tuple(I:dI X b g H s)(h:rL X.K H a f):∃c,fW f c/\mj s.heap a c.toArray/\f.length<=bN:=by
 rcases h with h | ⟨o,c,n,hk,d,_,j,k,r⟩
 ·obtain⟨z,c,r,p⟩:=h.ok I.hok;exact⟨c,r,p.tup,z⟩
 ·refine⟨c.toList,r,⟨o,I.kIn a o hk,d,n,by simpa using j⟩,?_⟩;have e:=r.length;simp only[fT]at e;lia
def dI.tupleN(I:dI X b g H s)(h:rL X.K H a f):∃o,s.heap.get? a=wz o/\o.cls=.type "tuple"/\o.dict=none:=by
 rcases h with h | ⟨o,j,n,hk,k,hd,_⟩
 ·obtain⟨z,j,r,⟨o,e,c,n,_,d⟩⟩:=h.ok I.hok;exact⟨o,e,c,d⟩
 ·exact⟨o,I.kIn a o hk,k,hd⟩
def dI.list_inj(I:dI X b g H s)(h:nM X.K H a f)(p:nM X.K H a i):f=i:=by
 obtain⟨j,r,⟨o,n,e,_,_,d⟩,_⟩:=I.list h;obtain⟨c,q,⟨u,t,l,_,_,k⟩,_⟩:=I.list p;rw[e]at l;cases l;rw[d]at k;injection k with m _
 have:j=c:=by simpa using d6 aK3 m
 subst this;exact r.inj q
def dI.tuple_inj(I:dI X b g H s)(h:rL X.K H a f)(p:rL X.K H a i):f=i:=by
 obtain⟨j,r,⟨o,e,_,n,d⟩,_⟩:=I.tuple h;obtain⟨c,q,⟨u,l,_,t,k⟩,_⟩:=I.tuple p;rw[e]at l;cases l;rw[d]at k;injection k with m _
 have:j=c:=by simpa using d6 aK3 m
 subst this;exact r.inj q
end
noncomputable abbrev Cx.wish(X:Cx)(E:á->ã->Prop):Cx:={ X with xe:=E }
noncomputable abbrev Cx.nox(X:Cx):Cx:=X.wish λ_ _=>False
theorem Cx.Ok.wish{X:Cx}(ok:X.Ok)(E:á->ã->Prop):(X.wish E).Ok:=
 ⟨ok.mod,ok.kind,ok.glob,ok.blt,ok.above,ok.inj,ok.has,ok.cab,ok.hd,ok.frames,ok.stk,ok.exf,ok.bs,ok.bsz,ok.noex,ok.exfs,ok.funs,ok.frf,ok.tab⟩
def Cx.Ok.unwish{X:Cx}{E:á->ã->Prop}(ok:(X.wish E).Ok):X.Ok:=
 ⟨ok.mod,ok.kind,ok.glob,ok.blt,ok.above,ok.inj,ok.has,ok.cab,ok.hd,ok.frames,ok.stk,ok.exf,ok.bs,ok.bsz,ok.noex,ok.exfs,ok.funs,ok.frf,ok.tab⟩
section
variable{X:Cx}{a:List (à×Obj)}{b:St}{H:Hp}{s:ã}{E:á->ã->Prop}
theorem dI.wish(I:dI X a b H s)(E:á->ã->Prop):dI (X.wish E) a b H s:=⟨I.ok.wish E,I.os,I.bare,I.base,I.loc,I.cell,I.free,I.freeC,I.pin,I.hok,I.len⟩
theorem dI.unwish(I:dI (X.wish E) a b H s):dI X a b H s:=⟨I.ok.unwish,I.os,I.bare,I.base,I.loc,I.cell,I.free,I.freeC,I.pin,I.hok,I.len⟩
theorem SP.unwish{D}(h:SP (X.wish E) a D f s'):SP X a D f s':=by
 cases f with
 |next=>obtain⟨c,d,I,q⟩:=h;exact⟨c,d,I.unwish,q⟩
 |brk=>obtain⟨c,d,I,q⟩:=h;exact⟨c,d,I.unwish,q⟩
 |cont=>obtain⟨c,d,I,q⟩:=h;exact⟨c,d,I.unwish,q⟩
 |ret u=>obtain⟨v,c,d,I,r,q⟩:=h;exact⟨v,c,d,I.unwish,r,q⟩
theorem BR.nox{st}(h:BR X.nox st t):BR X st t:=λa s b H D I hw=>
 eE (h a s b H D (I.wish _) hw) (λ_ _ q=>q.unwish) λ_ _ z=>g9 z
end
section
variable{X:Cx}{st:é}{jE:List é}{t u:TS}{e:æ}{g:TE}{pos:Pos}
def Vy:TS:=λD a H=>D.nx a H
def NX(t u:TS):TS:=λD a H=>t { D with nx:=u D } a H
def Q6:BR X [] Vy:=λ_ _ a H _ I h=>t8 ⟨a,H,I,h⟩
def mZ(i:PS X st t)(j:BR X jE u):BR X (st::jE) (NX t u):=by
 intro a s l H D I h;refine x8 (iZ (i a s l H { D with nx:=u D } I h) λf k q=>?_)
 cases f with
 |next=>
  obtain⟨b,c,d,q⟩:=q;exact j a k b c D d q
 |ret v=>exact q
 |brk=>exact q
 |cont=>exact q
def C6(b:PS X st t):BR X [st] t:=by
 intro a s c H D I h;refine x8 (iZ (b a s c H D I h) λf d q=>?_)
 cases f with
 |next=>exact t8 q
 |ret v=>exact q
 |brk=>exact q
 |cont=>exact q
def dI.quiet(I:dI X pins σ H s):interactive X.env=false:=by simp[interactive,I.ok.kind]
def GR(g:TE):TS:=λD a H=>g a H λ_ b=>D.nx a b
def gL(f:PE X e g)(i:autoParam (kP e wy pos.line X.env=pure false) zzz._auto_1):PS X (.Expr e pos) (GR g):=by
 intro a s b H D I h;exact wpAny_Expr_any (iZ (f a s b H _ I h) λv l ⟨x,c,d,k,j⟩=>⟨b,c,d,j⟩) I.quiet i
def Ll(g:TE):TS:=λD a H=>g a H D.rt
def A2(f:PE X e g):PS X (.Return (wz e) pos) (Ll g):=by
 intro a s b H D I h;exact wpAny_Return_some (iZ (f a s b H _ I h) λv k ⟨x,c,d,j,i⟩=>⟨x,b,c,d,j,i⟩)
def Lh(c:TT)(t u:TS):TS:=λD a H=>c a H λb d=>if b=wx then t D a d else u D a d
def Hq(o:PT X c tc)(n:BR X a t)(hb:BR X b u):PS X (.If c a b pos) (Lh tc t u):=by
 intro f s i H D I h;refine wpAny_If (iZ (o f s i H _ I h) λd m p=>?_);obtain⟨j,k,l⟩:=p
 cases d with
 |true=>exact n f m i j D k l
 |false=>exact hb f m i j D k l
end
abbrev TG:=V->St->Hp->(St->Hp->Prop)->Prop
abbrev zf:=List V->St->Hp->(St->Hp->Prop)->Prop
def PG(X:Cx)(a:æ)(t:TG):Prop:=
 ∀b s e H v u Q,dI X b e H s->fQ v u->t v e H Q ->
  å (ä X.prog X.w) X.A (lm a X.env u) (λ_ f=>∃c d,dI X b c d f/\Q c d) X.xe s
def Aj(X:Cx)(g:List æ)(t:zf):Prop:=
 ∀a s e H vs d Q,dI X a e H s->fW vs d->t vs e H Q ->
  å (ä X.prog X.w) X.A (assignInOrder ((y8 g X.env).map (·.2)) d) (λ_ f=>∃b c,dI X a b c f/\Q b c) X.xe s
abbrev Dl:=V->V->V->Hp->(Hp->Prop)->Prop
def Dk(X:Cx)(t:Dl):Prop:=
 ∀a s e H o i v d c u Q,dI X a e H s->fQ o d->fQ i c->fQ v u->t o i v H Q ->
  å (ä X.prog X.w) X.A (setItem d c u) (λ_ f=>∃b,dI X a e b f/\Q b) X.xe s
section
variable{X:Cx}{pos:Pos}
def lS(i:Nat):TG:=λv a H Q=>Q (a.set i (wz v)) H
def Q8{i:Nat}(c:X.N.Nodup)(e:X.N[i]?=wz x)(f:VL X.env.scope x)(d:autoParam (X.fn x=wx\/X.env.scope.names.lookup x=wz .local) zzw._auto_1):PG X (.Name x pos) (lS i):=by
 intro a s j H v u Q I r h;exact nc (DU I c e f r (λg b=>⟨_,H,b,h⟩) d)
def Be:zf:=λvs a H Q=>vs=[]/\Q a H
def HF(t:TG)(u:zf):zf:=λvs c H Q=>∃v r,vs=v::r/\t v c H λa b=>u r a b Q
def mM:Aj X [] Be:=by
 intro a s b H vs c Q I r h;obtain⟨e,h⟩:=h;subst e;cases r;exact assignInOrder_nil ⟨b,H,I,h⟩
def fD(g:PG X e t)(i:Aj X es u)
  (j:autoParam ((y8 (e::es) X.env).map (·.2)=lm e X.env::(y8 es X.env).map (·.2)) zzz._auto_1):Aj X (e::es) (HF t u):=by
 intro a s o H vs p Q I r h;obtain⟨v,q,f,h⟩:=h;subst f
 cases r with
 |cons r l=>
  rw[j];refine assignInOrder_cons (iZ (g a s o H _ _ _ I r h) λ_ m n=>?_);obtain⟨b,c,d,k⟩:=n;exact i a m b c _ _ Q d l k
def Bf(K:aF)(n:Nat)(t:zf):TG:=λv c H Q=>∃a b,v=.ref a/\rL K H a b/\b.length=n/\t b c H Q
def oO{k:Nat}{n:Nat}(i:X.calm=wx)(h:Aj X es t)
  (l:autoParam ((y8 es X.env).length=n) zzz._auto_1) (d:autoParam ((y8 es X.env).findIdx? (·.1)=none) zzz._auto_1):PG X (.Tuple es k pos) (Bf X.K n t):=by
 intro c s y H v u Q I r hw;obtain⟨a,x,g,m,j,hw⟩:=hw;subst g;cases r;obtain⟨w,f,p,A⟩:=I.tuple m;refine assign_Tuple_tuple (I.ok.hd i) p (by simp[l,<- j,f.length]) d λz q=>?_;exact h c _ y H x _ Q (I.kept (t':=s.toks) λb o e=>q b o (dF (bF e)) e) (by simpa using f) hw
def Dv(to d:TE)(t:Dl):TG:=λv a H Q=>to a H λo b=>d a b λi c=>t o i v c λH3=>Q a H3
def N9{to}(p:PE X o to)(n:PE X i ti)(q:Dk X t)
  (m:∀v,lm (.Subscript o i pos) X.env v=(do
   let b <- z6 [v] (è o X.env)
   let c <- z6 [v,b] (è i X.env)
   bu pos
   z6 [v,b,c] (setItem b c v)
   release [v,b,c] []):=by intro _;rfl):PG X (.Subscript o i pos) (Dv to ti t):=by
 intro a s e H v u Q I r h;rw[m];refine aI (m8 (iZ (p a s e H _ I h) λb E d=>?_));obtain⟨x,f,j,B,w⟩:=d;refine aI (m8 (iZ (n a E e f _ j w) λc F d=>?_));obtain⟨y,g,k,C,z⟩:=d;refine aI (iw (aI (m8 (iZ (q a F e g x y v b c u _ k B C r z) λ_ s3 d=>?_))));obtain⟨H3,l,A⟩:=d;exact wpAny_release ⟨e,H3,l,A⟩
def xU(c:TE)(g:TG):TS:=λD a H=>c a H λx b=>g x a b D.nx
def N5(i:PE X e te)(j:PG X tg g)(k:autoParam (swapsWithSole [tg] e pos.line X.env=pure false) zzz._auto_1)(hw:autoParam (swappedStores [tg] e X.env=pure none) zzz._auto_1)
  (f:autoParam ((y8 [tg] X.env).map (·.2)=[lm tg X.env]) zzz._auto_1):PS X (.Assign [tg] e pos) (xU te g):=by
 intro a s b H D I h;refine wpAny_Assign_stores (iZ (i a s b H _ I h) λv n o=>?_) k hw;obtain⟨x,c,d,m,l⟩:=o;rw[f];exact iZ (j a n b c x v _ d m l) λ_ p q=>q
def nD{i:Nat}(f:X.N.Nodup)(k:X.N[i]?=wz x)(m:VL X.env.scope x)(g:PE X e te)(l:autoParam (kP e (wz (.Name x pos')) pos.line X.env=pure false) zzz._auto_1)(j:autoParam (X.fn x=wx\/X.env.scope.names.lookup x=wz .local) zzw._auto_1) :
  PS X (.Assign [.Name x pos'] e pos) (xU te (lS i)):=by
 intro a s q H D I h;refine mz (iZ (g a s q H _ I h) λv r p=>?_) l;obtain⟨y,b,c,o,n⟩:=p;exact DU c f k m o (λt d=>⟨_,b,d,n⟩) j
end
section
variable{X:Cx}{pos:Pos}
def WN(c:TT)(h:TS):TS:=λD a H=>∃W:Nat->St->Hp->Prop,(∃m,W m a H)/\∀m a H,W m a H ->
 c a H λb f=>if b=wx then∃N,(∀d e,N d e->∃g,g<m/\W g d e)/\h { D with nx:=N,ct:=N,bk:=D.nx } a f else D.nx a f
def D8(x:PassesOwn (ä X.prog X.w) X.A X.env X.xe)(z:PT X c tc)(hb:BR X body tb):PS X (.While c body [] pos) (WN tc tb):=by
 intro a s L H D I h;obtain⟨W,⟨B,G⟩,turn⟩:=h;refine wpAny_While (codeAny_whileLoop (λn C=>∃g p,dI X a g p C/\W n g p) ?_ B ⟨L,H,I,G⟩);rintro n E ⟨e,q,y,J⟩;refine l7 x (iZ (z a E e q _ y (turn n e q J)) λb F K=>?_);obtain⟨r,t,i⟩:=K
 cases b with
 |true=>
  obtain⟨N,u,i⟩:=i;rw[a9 rfl];refine l7 x (iZ (hb a F e r _ t i) λf s3 j=>?_)
  cases f with
  |next=>
   obtain⟨d,H3,k,n3⟩:=j;obtain⟨m,l,o⟩:=u d H3 n3;exact⟨m,l,d,H3,k,o⟩
  |cont=>
   obtain⟨d,H3,k,n3⟩:=j;obtain⟨m,l,o⟩:=u d H3 n3;exact⟨m,l,d,H3,k,o⟩
  |brk=>exact j
  |ret v=>exact j
 |false=>
  rw[a8 bX];exact t8 ⟨e,r,t,i⟩
end
structure It where
 go:Nat->Hp->Prop
 yld:Nat->Hp->V->Hp->Prop
 stop:Nat->Hp->Prop
def CO(X:Cx)(a:List (à×Obj))(H:Hp)(b:à):Prop:=
 H b=wy/\b≠X.env.locals/\b∉X.fs/\(b∈X.ex\/X.s₀.heap.objs.size<=b)/\(∀x c,X.env.cells.lookup x=wz c->c≠b)/\∀p∈X.pn++a,p.1≠b
def dI.fpOk{s:ã}{b:à}(I:dI X pins σ H s)(hb:s.heap.objs.size<=b)(a:H' b=wy):CO X pins H' b:=by
 refine⟨a,jP (cH I.lt hb),I.nofs hb,.inr (aY I.sz hb),λx c e z=>?_,λp d z=>?_⟩
 ·obtain⟨v,q⟩:=I.cell x c e;exact b8 (cH q.lt (by rw[z];exact hb)) (fB _)
 ·exact b8 (cH (bF (I.pin p d).1) (by rw[z];exact hb)) (fB _)
structure NA(P:cV)(w:f7)(K:aF)(tg:æ)(J:It)(fp:List à)(it:à)(tn:Nat->ç->Prop):Prop where
 mem:it∈fp
 obj:∀i h,tn i h->∀b∈fp,∃o,h.get? b=wz o/\∀v,o.data≠.cell v
 keep:∀i h h',tn i h->(∀b∈fp,∀o,h.get? b=wz o->h'.get? b=wz o)->tn i h'
 item:∀(X:Cx),X.prog=P->X.w=w->X.K=K->X.calm=wx->∀(i:Nat)pins(s:ã)σ H E,dI X pins σ H s->(∀b∈fp,CO X pins H b)->tn i s.heap->J.go i H ->
  å (ä P w) X.A (md (.ref it)) (λr s1=>∃u,r=wz u /\
   å (ä P w) X.A (z8 tg (.ref it) u) (λ_ s2=>∃x H',dI X pins σ H' s2/\fQ x u/\J.yld i H x H'/\tn (i+1) s2.heap/\∀b∈fp,H' b=wy) E s1) E s
 done:∀(X:Cx),X.prog=P->X.w=w->X.K=K->X.calm=wx->∀(i:Nat)pins(s:ã)σ H E,dI X pins σ H s->(∀b∈fp,CO X pins H b)->tn i s.heap->J.stop i H ->
  å (ä P w) X.A (md (.ref it)) (λr s1=>r=wy/\dI X pins σ H s1) E s
 self:∀A(i:Nat)(s:ã)Q E,tn i s.heap->Q (.ref it) s->å (ä P w) A (ma (.ref it)) Q E s
abbrev TI:=St->Hp->(It->Hp->Prop)->Prop
def Cq(X:Cx)(a:List (à×Obj))(j:St)(i:æ)(R:It->Hp->Prop)(d:á)(g:ã):Prop:=
 ∃f e h J c,d=.ref f/\dI X a j c g/\NA X.prog X.w X.K i J e f h/\h 0 g.heap/\(∀b∈e,CO X a c b)/\R J c
def PI(X:Cx)(d iter:æ)(e:TI):Prop:=
 ∀a s b H R,dI X a b H s->e b H R ->
  å (ä X.prog X.w) X.A (è iter X.env) (λv c=>å (ä X.prog X.w) X.A (ma v) (Cq X a b d R) X.xe c) X.xe s
def Z3{E:á->ã->Prop}{s:ã}{b:à}{o:Obj}{Q:Unit->ã->Prop}(e:s.heap.get? b=wz o)(c:o.cls=.type n)(hd:o.data=.fields vs)
  (d:["enumerate","zip","dict_itemiterator","dict_reverseitemiterator","odict_iterator","itertools.zip_longest","itertools.pairwise"].contains n=ww) (a:Q () s):å M A (z8 tg (.ref b) u) Q E s:=by
 cases tg<;>first
  |exact bH a
  | (cases u<;>first
    |exact bH a
    | (refine aI (wpAny_load e ?_)
       rw[c,hd];show å M A (if(["enumerate","zip","dict_itemiterator","dict_reverseitemiterator","odict_iterator","itertools.zip_longest","itertools.pairwise"].contains n&&vs[0]?==wz (o6 _))=wx then _ else _) Q E s;rw[a8 (by intro h;rw[d,aHn]at h;cases h)];exact bH a))
noncomputable def Cu(K:aF)(a:à):It:=
 ⟨λi H=>∃b x,nM K H a b/\b[i]?=wz x,λi H x c=>c=H/\∀b,nM K H a b->b[i]?=wz x,λi H=>∃b,nM K H a b/\b.length<=i⟩
noncomputable def Cs(K:aF)(a:à):It:=
 ⟨λi H=>∃b x,rL K H a b/\b[i]?=wz x,λi H x c=>c=H/\∀b,rL K H a b->b[i]?=wz x,λi H=>∃b,rL K H a b/\b.length<=i⟩
noncomputable def Ct(lo:Int)(n:Nat):It:=⟨λi _=>i<n,λi H x a=>a=H/\x=.int (lo+i),λi _=>n<=i⟩
def TD{K}(a it:à):NA P w K tg (Cu K a) [it] it (λi h=>h.IsListIter it a i) where
 mem:=by simp
 obj:=λi h st b hb=>by
  have e:b=it:=by simpa using hb
  subst e;obtain⟨o,e,c,d⟩:=st;exact⟨o,e,λv z=>by rw[d]at z;cases z⟩
 keep:=λi h h' st k=>st.at λo e=>k it eH o e
 item:=by
  intro X hP hw hK hc i pins s σ H E I hf st hg;subst hP hw hK;obtain⟨xs,x,hq,hx⟩:=hg;obtain⟨aj,rv,p,hz⟩:=I.list hq;obtain⟨u,hu,ru⟩:=rv.get hx;obtain⟨f0,f1,f2,f3,f4,f5⟩:=hf it eH;refine wpAny_pyNext_list_item st p.isList (by simpa using hu) λh' kf sb=>?_;obtain⟨o,e,c,d⟩:=id kf;exact⟨u,gC,Z3 e c d cR ⟨x,H,(I.turned (t':=s.toks) (λb o hb e=>(sb.2 b hb).trans e) f0 f1 f3 f4 f5),ru,⟨gC,λys hy=>by rw[I.list_inj hy hq];exact hx⟩,kf,λb hb=>(hf b hb).1⟩⟩
 done:=by
  intro X hP hw hK hc i pins s σ H E I hf st hg;subst hP hw hK;obtain⟨xs,hq,hx⟩:=hg;obtain⟨aj,rv,p,hz⟩:=I.list hq;obtain⟨f0,f1,f2,f3,f4,f5⟩:=hf it eH;have hl:=rv.length;exact wpAny_pyNext_list_end (I.ok.hd hc) st p.isList (by simp;lia) λh' eb=>⟨gC,I.turned (λb o hb e=>eb b o hb e) f0 f1 f3 f4 f5⟩
 self:=λ_ _ _ _ _ st h=>wpAny_pyIter_listiter st h
def NU{K}(a it:à):NA P w K tg (Cs K a) [it] it (λi h=>h.IsTupleIter it a i) where
 mem:=by simp
 obj:=λi h st b hb=>by
  have e:b=it:=by simpa using hb
  subst e;obtain⟨o,e,c,d⟩:=st;exact⟨o,e,λv z=>by rw[d]at z;cases z⟩
 keep:=λi h h' st k=>st.at λo e=>k it eH o e
 item:=by
  intro X hP hw hK hc i pins s σ H E I hf st hg;subst hP hw hK;obtain⟨xs,x,hq,hx⟩:=hg;obtain⟨aj,rv,p,hz⟩:=I.tuple hq;obtain⟨u,hu,ru⟩:=rv.get hx;obtain⟨f0,f1,f2,f3,f4,f5⟩:=hf it eH;refine wpAny_pyNext_tuple_item st (show s.heap.IsTuple a aj.toArray from p) (by simpa using hu) λh' kf sb=>?_;obtain⟨o,e,c,d⟩:=id kf;exact⟨u,gC,Z3 e c d cR ⟨x,H,(I.turned (t':=s.toks) (λb o hb e=>(sb.2 b hb).trans e) f0 f1 f3 f4 f5),ru,⟨gC,λys hy=>by rw[I.tuple_inj hy hq];exact hx⟩,kf,λb hb=>(hf b hb).1⟩⟩
 done:=by
  intro X hP hw hK hc i pins s σ H E I hf st hg;subst hP hw hK;obtain⟨xs,hq,hx⟩:=hg;obtain⟨aj,rv,p,hz⟩:=I.tuple hq;obtain⟨f0,f1,f2,f3,f4,f5⟩:=hf it eH;have hl:=rv.length;exact wpAny_pyNext_tuple_end (I.ok.hd hc) st (show s.heap.IsTuple a aj.toArray from p) (by simp;lia) λh' eb=>⟨gC,I.turned (λb o hb e=>eb b o hb e) f0 f1 f3 f4 f5⟩
 self:=λ_ _ _ _ _ st h=>wpAny_pyIter_tupleiter st h
def NV{K}(it:à)(lo:Int)(n:Nat):NA P w K tg (Ct lo n) [it] it (λi h=>IsRangeIter h it (lo+(i:Nat)*1) ((n:Int)-(i:Nat)) 1) where
 mem:=by simp
 obj:=λi h st b hb=>by
  have e:b=it:=by simpa using hb
  subst e
  exact⟨_,st,λv z=>by
   cases z⟩
 keep:=λi h h' st k=>k it eH _ st
 item:=by
  intro X hP hw hK hc i pins s σ H E I hf st hg;subst hP hw hK;obtain⟨f0,f1,f2,f3,f4,f5⟩:=hf it eH;refine(Walks.range (prog:=X.prog) (w:=X.w) (I.ok.hd hc) it lo 1 n).item i s _ _ hg st λv h' tk hv kf kk=>?_;obtain⟨t,rfl⟩:=hv;refine⟨_,gC,Z3 kf gC gC cR ⟨.int (lo+i),H,(I.turned (λb o hb e=>kk b o (by simpa using hb) e) f0 f1 f3 f4 f5),⟨t,?_⟩,⟨gC,gC⟩,kf,λb hb=>(hf b hb).1⟩⟩;rw[aTp]
 done:=by
  intro X hP hw hK hc i pins s σ H E I hf st hg;obtain⟨f0,f1,f2,f3,f4,f5⟩:=hf it eH;exact wpAny_pyNext_range_end (I.ok.hd hc) st (by have:n<=i:=hg;lia) λh' eb=>⟨gC,I.turned (λb o hb e=>eb b o hb e) f0 f1 f3 f4 f5⟩
 self:=λ_ _ _ _ _ st h=>wpAny_pyIter_rangeiter st h
section
variable{X:Cx}{c:æ}
def XH{s:ã}{R:It->Hp->Prop}{E:á->ã->Prop}{lo a:Int}{f:Nat}(I:dI X pins σ H s)(i:-(2^62)<=lo)(j:lo<2^62)(k:-(2^62)<=a)(l:a<2^62)
  (q:R (Ct lo (a-lo).toNat) H):å (ä X.prog X.w) X.A (ma (.ref s.heap.objs.size)) (Cq X pins σ c R) E { s with heap:=s.heap.push { cls:=.type "range",data:=.fields #[.int lo t,.int a u,.int 1 v] },toks:=f }:=by
 refine wpAny_pyIter_range (IsRange.new ..) (small_one i j k l) ?_;have d:dI X pins σ H { s with heap:=s.heap.push { cls:=.type "range",data:=.fields #[.int lo t,.int a u,.int 1 v] },toks:=f }:=I.kept λb o e=>aD _ e
 refine⟨(s.heap.push { cls:=.type "range",data:=.fields #[.int lo t,.int a u,.int 1 v] }).objs.size,[(s.heap.push { cls:=.type "range",data:=.fields #[.int lo t,.int a u,.int 1 v] }).objs.size],_,_,H,gC,
  d.kept λb o e=>aD _ e,NV _ lo (a-lo).toNat,?_,λb hb=>?_,q⟩
 ·have g:lo+((0:Nat):Int)*1=lo:=by simp
  have h:(((a-lo).toNat:Nat):Int)-((0:Nat):Int)=Builtin.Range.rangeSize lo a 1:=by rw[rangeSize_one];split<;>lia
  rw[g,h];exact aX _ gC
 ·have e:b=(s.heap.push { cls:=.type "range",data:=.fields #[.int lo t,.int a u,.int 1 v] }).objs.size:=by simpa using hb
  subst e;exact d.fpOk (aN _) (d.hok.fresh (aN _))
def Gg(b:TA):TI:=λd H R=>b d H λvs a=>∃j,vs=[.int j]/\-(2^62)<=j/\j<2^62/\R (Ct 0 j.toNat) a
def qE(i:Gl X "range")(k:X.mg "range"=wy)(g:PA X [a] ta)(l:autoParam (bZ [a] X.env=[(ww,è a X.env)]) zzz._auto_1):PI X c (.Call (.Name "range" p) [a] [] pos) (Gg ta):=by
 intro b s v H R I h;refine Call_ (vP I i k boot_range (i6 (iZ (g pos b s v H _ I h) λy x u=>?_) l gC));obtain⟨vs,w,f,n,d⟩:=u;obtain⟨j,e,d,m,q⟩:=d;subst e
 cases n with
 |cons r o=>
  cases o;obtain⟨t,rfl⟩:=r;exact call_range_1 (XH f cS cS d m (by simpa using q))
def Bz(l:TI)(g:TG)(k:TS):TS:=λD a H=>l a H λJ h=>∃W:Nat->Nat->St->Hp->Prop,(∃m,W 0 m a h)/\∀i m a H,W i m a H ->
 (J.stop i H/\D.nx a H)\/(J.go i H/\∃N,(∀d b,N d b->∃f,f<m/\W (i+1) f d b)/\∀x b,J.yld i H x b->g x a b λe j=>k { D with nx:=N,ct:=N,bk:=D.nx } e j)
noncomputable def EA(a:List à)(h:ç):List (à×Obj):=a.filterMap λb=>(h.get? b).map λo=>(b,o)
def tX{h:ç}{b:à}(hb:b∈fp)(e:h.get? b=wz o):(b,o)∈EA fp h:=V3.mpr ⟨b,hb,by rw[e];rfl⟩
def UF{h:ç}{p:à×Obj}(d:p∈EA fp h):p.1∈fp/\h.get? p.1=wz p.2:=by
 obtain⟨b,hb,e⟩:=V3.mp d
 cases q:h.get? b with
 |none=>rw[q]at e;cases e
 |some o=>
  rw[q]at e;have a:=c8 e;subst a;exact⟨hb,q⟩
def dI.pinned{s:ã}(I:dI X pins σ H s)(h:∀b∈fp,CO X pins H b)(i:∀b∈fp,∃o,s.heap.get? b=wz o/\∀v,o.data≠.cell v):dI X (pins++EA fp s.heap) σ H s:=
 I.pins_of λp j=>(bR.mp j).elim (λz=>I.pin p (cE _ z)) λz=>by
  obtain⟨hb,e⟩:=UF z;obtain⟨f,f1,g,_⟩:=h p.1 hb;obtain⟨o,a,d⟩:=i p.1 hb;rw[e]at a;cases a;exact⟨e,f,f1,g,d⟩
def dI.unpinned(I:dI X (pins++pl) σ H s):dI X pins σ H s:=I.pins_of λp a=>I.pin p (cE _ (dZ _ a))
def X3{iter}(G:PassesOwn (ä X.prog X.w) X.A X.env X.xe)(Z:X.calm=wx)(hi:PI X c iter wi)(hg:PG X c g)(hb:BR X body tb)
  (hs:autoParam (∀x,j3 iter X.env x=pure x) zzx._auto_1):PS X (.For c iter body [] pos) (Bz wi g tb):=by
 intro a s σ H D I h;refine wpAny_For (iZ (hi a s σ H _ I h) λv s1 h1=>iZ h1 λsj s2 h2=>?_) hs;obtain⟨it,E,tn,J,H2,e,I2,T,Q,Y,W,⟨m0,w0⟩,turn⟩:=h2;subst e
 -- what stays wx of the iterator's objects through the kq
 have p:∀{y:Hp},(∀b∈E,y b=wy)->∀b∈E,CO X a y b:=λhn b hb=>⟨hn b hb,(Y b hb).2⟩;refine codeAny_forLoop_any (λn s'=>∃i q y,dI X a q y s'/\tn i s'.heap/\(∀b∈E,y b=wy)/\W i n q y) ?_ m0 ⟨0,σ,H2,I2,Q,λb hb=>(Y b hb).1,w0⟩;rintro n s3 ⟨i,t,H3,U,L,F,w3⟩;rcases turn i n t H3 w3 with⟨stop,qn⟩ | ⟨go,N,hN,step⟩
 ·refine l7 G (iZ (T.done X gC gC gC Z i a s3 t H3 X.xe U (p F) L stop) λr s4 C=>?_);obtain⟨O,I4⟩:=C;subst O;exact t8 ⟨t,H3,I4,qn⟩
 ·refine l7 G (iZ (T.item X gC gC gC Z i a s3 t H3 X.xe U (p F) L go) λr s4 C=>?_);obtain⟨u,O,h4⟩:=C;subst O;refine l7 G (iZ h4 λ_ s5 C=>?_);obtain⟨x,S,I5,r5,y5,B,M⟩:=C;refine l7 G (iZ (hg _ s5 t S x u _ (I5.pinned (p M) (T.obj _ _ B)) r5 (step x S y5)) λ_ s6 C=>?_);obtain⟨R,H6,I6,q6⟩:=C;refine l7 G (iZ (hb _ s6 R H6 _ I6 q6) λf P z=>?_)
  have mv:∀{j:St}{k:Hp},dI X (a++EA E s5.heap) j k P->N j k->∃m,m<n/\∃i q y,dI X a q y P/\tn i P.heap/\(∀b∈E,y b=wy)/\W i m q y:=λ{j k} l K=>by
   obtain⟨m',hm,w7⟩:=hN j k K;refine⟨m',hm,i+1,j,k,l.unpinned,T.keep _ _ _ B λb hb o e=>(l.pin (b,o) (cE _ (cE _ (tX hb e)))).1,λb hb=>?_,w7⟩;obtain⟨o,e,d⟩:=T.obj _ _ B b hb;exact(l.pin (b,o) (cE _ (cE _ (tX hb e)))).2.1
  cases f with
  |next=>obtain⟨j,k,l,K⟩:=z;exact mv l K
  |cont=>obtain⟨j,k,l,K⟩:=z;exact mv l K
  |brk=>obtain⟨j,k,l,z⟩:=z;exact⟨j,k,l.unpinned,z⟩
  |ret v=>obtain⟨x7,j,k,l,r7,z⟩:=z;exact⟨x7,j,k,l.unpinned,r7,z⟩
end
abbrev R2:=V->V->Hp->VK->Prop
def oE(X:Cx)(f:á->á->Sem á)(r:R2):Prop:=
 ∀a s b H x y v u Q,dI X a b H s->fQ x v->fQ y u->r x y H Q ->
  å (ä X.prog X.w) X.A (f v u) (EP X a b Q) X.xe s
def Ck(X:Cx)(f:á->Sem á)(r:V->Hp->VK->Prop):Prop:=
 ∀a s b H x v Q,dI X a b H s->fQ x v->r x H Q ->
  å (ä X.prog X.w) X.A (f v) (EP X a b Q) X.xe s
def lU(X:Cx)(f:á)(r:List V->Hp->VK->Prop):Prop:=
 ∀a s d H c b Q,dI X a d H s->fW c b->r c H Q ->
  å (ä X.prog X.w) X.A (call f b) (EP X a d Q) X.xe s
def Kn(X:Cx)(r:V->Hp->(Bool->Hp->Prop)->Prop):Prop:=
 ∀a s b H x v Q,dI X a b H s->fQ x v->r x H Q ->
  å (ä X.prog X.w) X.A (truthy v) (TP X a b Q) X.xe s
def yf(r:R2)(d e:TE):TE:=λa H Q=>d a H λx b=>e a b λy c=>r x y c Q
def Iv(r:V->Hp->VK->Prop)(b:TE):TE:=λc H Q=>b c H λx a=>r x a Q
def rI(C:Int->Int->Prop)(g:Int->Int->V):R2:=λx y H Q=>∃i j,x=.int i/\y=.int j/\C i j/\Q (g i j) H
def XN(g:Int->Int->V):R2:=λx y H Q=>∃i j,x=.int i/\y=.int j/\Q (g i j) H
def rU(g:Int->V):V->Hp->VK->Prop:=λx H Q=>∃i,x=.int i/\Q (g i) H
section
variable{X:Cx}{a b:æ}{c d:TE}{pos:Pos}
def Bd(o:PE X a c)(hb:PE X b d){R:V->V->Hp->Prop}(I:dI X pins σ H s)
  (h:c σ H λx k=>d σ k λy e=>R x y e) {Q:á->ã->Prop} {f:á->á->Sem á}
  (p:∀v u j x y e,dI X pins σ e j->fQ x v->fQ y u->R x y e->å (ä X.prog X.w) X.A (f v u) Q X.xe j) :
  å (ä X.prog X.w) X.A (è a X.env) (λv g=>å (ä X.prog X.w) X.A (è b X.env) (λu i=>å (ä X.prog X.w) X.A (f v u) Q X.xe i) X.xe g) X.xe s:=by
 refine iZ (o pins s σ H _ I h) λv B l=>?_;obtain⟨x,k,m,t,q⟩:=l;refine iZ (hb pins B σ k _ m q) λu j l=>?_;obtain⟨y,e,n,z,r⟩:=l;exact p v u j x y e n t z r
def LZ(j:oE X (j9 op) r)(i:PE X a c)(hb:PE X b d):PE X (.BinOp a op b pos) (yf r c d):=by
 intro e s n H Q I h;exact wpAny_BinOp (Bd i hb I h λv u m x y f g k l q=>j e m n f x y v u Q g k l q)
def Pb{r:V->Hp->VK->Prop}(k:Ck X (unaryOp op) r)(j:PE X a c):PE X (.UnaryOp op a pos) (Iv r c):=by
 intro e s f H Q I h;exact UnaryOp_ (iZ (j e s f H _ I h) λv n ⟨x,g,i,m,l⟩=>k e n f g x v Q i m l)
def zk{f:á->á->Sem á}{C:Int->Int->Prop}{g:Int->Int->Int}
  (rule:∀i j t u s Q E,C i j->Q (.int (g i j) s.toks) { s with toks:=s.toks+1 }->å (ä X.prog X.w) X.A (f (.int i t) (.int j u)) Q E s) :
  oE X f (rI C λi j=>.int (g i j)):=by
 intro e s o H x y v u Q I l m h;obtain⟨i,j,rfl,rfl,k,q⟩:=h;obtain⟨t,rfl⟩:=l;obtain⟨n,rfl⟩:=m;exact rule i j t n s _ _ k ⟨.int (g i j),H,I.tok _,⟨_,gC⟩,q⟩
def Dz{f:á->á->Sem á}{g:Int->Int->Int}
  (rule:∀i j t u s Q E,Q (.int (g i j) s.toks) { s with toks:=s.toks+1 }->å (ä X.prog X.w) X.A (f (.int i t) (.int j u)) Q E s) :
  oE X f (XN λi j=>.int (g i j)):=by
 intro e s n H x y v u Q I k l h;obtain⟨i,j,rfl,rfl,q⟩:=h;obtain⟨t,rfl⟩:=k;obtain⟨m,rfl⟩:=l;exact rule i j t m s _ _ ⟨.int (g i j),H,I.tok _,⟨_,gC⟩,q⟩
def zv{f:á->á->Sem á}{g:Int->Int->Bool}
  (rule:∀i j t u s Q E,Q (.bool (g i j)) s->å (ä X.prog X.w) X.A (f (.int i t) (.int j u)) Q E s) :
  oE X f (XN λi j=>.bl (g i j)):=by
 intro e s n H x y v u Q I k l h;obtain⟨i,j,rfl,rfl,q⟩:=h;obtain⟨t,rfl⟩:=k;obtain⟨m,rfl⟩:=l;exact rule i j t m s _ _ ⟨.bl (g i j),H,I,gC,q⟩
def Ay(i j:Int):Prop:=0<j/\j<1073741824
def P9(i j:Int):Prop:=(-(2^64)<i/\i<2^64)\/(-(2^64)<j/\j<2^64)
def P9.ok{i j:Int}(h:P9 i j):IntMulOk i j:=by
 rcases h with⟨e,f⟩ | ⟨e,f⟩
 ·exact .of_left (intBits_le_64 e f)
 ·exact .of_right (intBits_le_64 e f)
def Yf:oE X (j9 .Add) (XN λi j=>.int (i+j)):=Dz λ_ _ _ _ _ _ _ q=>add_int q
def A3:oE X (j9 .Sub) (XN λi j=>.int (i-j)):=Dz λ_ _ _ _ _ _ _ q=>sub_int q
def YI:oE X (j9 .Mult) (rI P9 λi j=>.int (i*j)):=zk λ_ _ _ _ _ _ _ e q=>mul_int q e.ok
def zK:oE X (j9 .FloorDiv) (rI Ay λi j=>.int (i / j)):=zk λi j _ _ _ _ _ e q=>by
 have f:=e.1;have g:=e.2;exact floordiv_int cS (by rw[KZ i cS];exact q) (.inl (PyProof.noPylong_small cS))
def pP:oE X (j9 .Mod) (rI (λ_ j=>0<j) λi j=>.int (i%j)):=zk λi j _ _ _ _ _ e q=>by
 exact mod_int' cS (by rw[Int.fmod_eq_emod_of_nonneg i cS];exact q)
def Iu{f:á->Sem á}{g:Int->Int}
  (rule:∀i t s Q E,Q (.int (g i) s.toks) { s with toks:=s.toks+1 }->å (ä X.prog X.w) X.A (f (.int i t)) Q E s) :
  Ck X f (rU λi=>.int (g i)):=by
 intro e s k H x v Q I j h;obtain⟨i,rfl,q⟩:=h;obtain⟨t,rfl⟩:=j;exact rule i t s _ _ ⟨.int (g i),H,I.tok _,⟨_,gC⟩,q⟩
def Yq:Ck X (unaryOp .USub) (rU λi=>.int (-i)):=Iu λ_ _ _ _ _ q=>neg_int q
end
noncomputable def Bt:V->V->Bool
|.non,.non=>wx | .non,.int _=>wx | .int _,.non=>wx | .non,.bl _=>wx | .bl _,.non=>wx | .non,.str _=>wx | .str _,.non=>wx
|.int _,.int _=>wx | .bl _,.bl _=>wx | .str _,.str _=>wx | .byt _,.byt _=>wx
|.int _,.str _=>wx | .str _,.int _=>wx | .bl _,.str _=>wx | .str _,.bl _=>wx
|_,_=>ww
def Dd:R2:=λx y H Q=>Bt x y=wx/\Q (.bl (decide (x=y))) H
def Db:R2:=λx y H Q=>Bt x y=wx/\Q (.bl (!decide (x=y))) H
def SI{i j:Int}:decide (V.int i=V.int j)=(i==j):=by
 rw[dX];simp
def Ib{i j:Bool}:decide (V.bl i=V.bl j)=(i==j):=by
 rw[dX];simp
def SH:decide (V.str i=V.str j)=(i==j):=by
 rw[dX];simp
def SJ{i j:Array UInt8}:decide (V.byt i=V.byt j)=(i.toList==j.toList):=by
 rw[dX];cases i;cases j;simp
section
variable{X:Cx}{a b c:æ}{g l n:TE}{pos:Pos}
def gI{k d:Bool}(I:dI X pins σ H s)(q:Q (.bl k) H)(e:k=d):EP X pins σ Q (.bool d) s:=by
 subst e;exact⟨.bl k,H,I,gC,q⟩
def eZ:oE X (c9 .Eq) Dd:=by
 intro m s o H x y v u Q I k d h;obtain⟨f,q⟩:=h
 cases x with
 |non=>
  cases k
  cases y with
  |non=>cases d;exact PySem.EqNone.eq_none_none (gI I q eH)
  |bl j=>cases d;exact PySem.EqNone.eq_none_bool (gI I q eH)
  |int j=>obtain⟨e,rfl⟩:=d;exact PySem.EqNone.eq_none_int (gI I q eH)
  |str j=>obtain⟨e,rfl⟩:=d;exact PySem.EqNone.eq_none_str (gI I q eH)
  |_=>exact b8 (show ww=wx from f) bX
 |bl i=>
  cases k
  cases y with
  |non=>cases d;exact PySem.EqNone.eq_bool_none (gI I q eH)
  |bl j=>cases d;exact eq_bool (gI I q Ib)
  |str j=>obtain⟨e,rfl⟩:=d;exact PySem.EqMixed.eq_bool_str (gI I q eH)
  |_=>exact b8 (show ww=wx from f) bX
 |int i=>
  obtain⟨t,rfl⟩:=k
  cases y with
  |non=>cases d;exact PySem.EqNone.eq_int_none (gI I q eH)
  |int j=>obtain⟨e,rfl⟩:=d;exact eq_int (gI I q SI)
  |str j=>obtain⟨e,rfl⟩:=d;exact PySem.EqMixed.eq_int_str (gI I q eH)
  |_=>exact b8 (show ww=wx from f) bX
 |str i=>
  obtain⟨t,rfl⟩:=k
  cases y with
  |non=>cases d;exact PySem.EqNone.eq_str_none (gI I q eH)
  |bl j=>cases d;exact PySem.EqMixed.eq_str_bool (gI I q eH)
  |int j=>obtain⟨e,rfl⟩:=d;exact PySem.EqMixed.eq_str_int (gI I q eH)
  |str j=>obtain⟨e,rfl⟩:=d;exact eq_str (gI I q SH)
  |_=>exact b8 (show ww=wx from f) bX
 |byt i=>
  obtain⟨t,rfl⟩:=k
  cases y with
  |byt j=>obtain⟨e,rfl⟩:=d;exact PySem.W.eq_bytes (gI I q SJ)
  |_=>exact b8 (show ww=wx from f) bX
 |_=>cases y<;>exact b8 (show ww=wx from f) bX
def RF:oE X (c9 .NotEq) Db:=by
 intro m s o H x y v u Q I k d h;obtain⟨f,q⟩:=h
 cases x with
 |non=>
  cases k
  cases y with
  |non=>cases d;exact PySem.EqNone.ne_none_none (gI I q eH)
  |bl j=>cases d;exact PySem.EqNone.ne_none_bool (gI I q eH)
  |int j=>obtain⟨e,rfl⟩:=d;exact PySem.EqNone.ne_none_int (gI I q eH)
  |str j=>obtain⟨e,rfl⟩:=d;exact PySem.EqNone.ne_none_str (gI I q eH)
  |_=>exact b8 (show ww=wx from f) bX
 |bl i=>
  cases k
  cases y with
  |non=>cases d;exact PySem.EqNone.ne_bool_none (gI I q eH)
  |bl j=>cases d;exact ne_bool (gI I q (d6 not Ib))
  |str j=>obtain⟨e,rfl⟩:=d;exact PySem.EqMixed.ne_bool_str (gI I q eH)
  |_=>exact b8 (show ww=wx from f) bX
 |int i=>
  obtain⟨t,rfl⟩:=k
  cases y with
  |non=>cases d;exact PySem.EqNone.ne_int_none (gI I q eH)
  |int j=>obtain⟨e,rfl⟩:=d;exact ne_int (gI I q (d6 not SI))
  |str j=>obtain⟨e,rfl⟩:=d;exact PySem.EqMixed.ne_int_str (gI I q eH)
  |_=>exact b8 (show ww=wx from f) bX
 |str i=>
  obtain⟨t,rfl⟩:=k
  cases y with
  |non=>cases d;exact PySem.EqNone.ne_str_none (gI I q eH)
  |bl j=>cases d;exact PySem.EqMixed.ne_str_bool (gI I q eH)
  |int j=>obtain⟨e,rfl⟩:=d;exact PySem.EqMixed.ne_str_int (gI I q eH)
  |str j=>obtain⟨e,rfl⟩:=d;exact ne_str (gI I q (d6 not SH))
  |_=>exact b8 (show ww=wx from f) bX
 |byt i=>
  obtain⟨t,rfl⟩:=k
  cases y with
  |byt j=>obtain⟨e,rfl⟩:=d;exact PySem.W.ne_bytes (gI I q (d6 not SJ))
  |_=>exact b8 (show ww=wx from f) bX
 |_=>cases y<;>exact b8 (show ww=wx from f) bX
def Oz:oE X (c9 .Lt) (XN λi j=>.bl (decide (i<j))):=zv λ_ _ _ _ _ _ _ q=>lt_int q
def L0:oE X (c9 .LtE) (XN λi j=>.bl (decide (i<=j))):=zv λ_ _ _ _ _ _ _ q=>le_int q
def uK:oE X (c9 .Gt) (XN λi j=>.bl (decide (j<i))):=zv λ_ _ _ _ _ _ _ q=>gt_int q
def L3:oE X (c9 .GtE) (XN λi j=>.bl (decide (j<=i))):=zv λ_ _ _ _ _ _ _ q=>ge_int q
def G4:oE X (c9 .In) (λx y H Q=>∃i j,x=.str i/\y=.str j/\Q (.bl (!(i5 j i 0 j.length 1).isEmpty)) H):=by
 intro d s m H x y v u Q I e f h;obtain⟨i,j,rfl,rfl,q⟩:=h;obtain⟨t,rfl⟩:=e;obtain⟨k,rfl⟩:=f;exact in_str (gI I q gC)
def Yi:oE X (c9 .Is) (λx y H Q=>y=.non/\Q (.bl (decide (x=.non))) H):=by
 intro d s i H x y v u Q I e f h;obtain⟨rfl,q⟩:=h;cases f;refine is_none_gen (gI I q ?_)
 cases x<;>first
  | (cases e;rfl)
  | (obtain⟨t,rfl⟩:=e;rfl)
def aDj:oE X (c9 .IsNot) (λx y H Q=>y=.non/\Q (.bl (!decide (x=.non))) H):=by
 intro d s i H x y v u Q I e f h;obtain⟨rfl,q⟩:=h;cases f;refine isnot_none_gen (gI I q ?_)
 cases x<;>first
  | (cases e;rfl)
  | (obtain⟨t,rfl⟩:=e;rfl)
def oE.or{f:á->á->Sem á}{r e:R2}(h:oE X f r)(m:oE X f e):oE X f (λx y H Q=>r x y H Q\/e x y H Q):=by
 intro d s k H x y v u Q I i j q;rcases q with q | q
 ·exact h d s k H x y v u Q I i j q
 ·exact m d s k H x y v u Q I i j q
def JN(b:æ)(h:autoParam (op≠.In) zzy._auto_1)(f:autoParam (op≠.NotIn) zzy._auto_1):i3 op b=false:=by
 have d:(op==CmpOp.In)=false:=by cases op<;>first | rfl | exact b8 gC h
 have e:(op==CmpOp.NotIn)=false:=by cases op<;>first | rfl | exact b8 gC f
 cases b<;>simp[i3,d,e]
def RB(k:oE X (c9 op) r)(i:PE X a g)(hb:PE X b l)(j:i3 op b=ww):PE X (.Compare a [op] [b] pos) (yf r g l):=by
 intro d s t H Q I h;exact wpAny_Compare1 (Bd i hb I h λv u p x y e f m o q=>k d p t e x y v u Q f m o q) j
def Hd(t:TE):TT:=λe H Q=>t e H λx d=>∃k,x=.bl k/\Q k d
def Q5(w:oE X (c9 op) r)(q:PE X a g)(hb:PE X b l)(t:i3 op b=ww):PT X (.Compare a [op] [b] pos) (Hd (yf r g l)):=by
 intro d s f H Q I h
 refine kg (iZ (q d s f H _ I h) λv J ⟨x,i,m,E,A⟩=>iZ (hb d J f i _ m A) λu K ⟨y,j,o,F,B⟩=>
  iZ (w d K f j x y v u _ o E F B) λc s3 ⟨z,H3,p,G,k,e,C⟩=>?_) t
 subst e;cases G;exact g3 ⟨H3,p,C⟩
def NZ(r i:R2)(g l n:TE):TE:=λd H Q=>g d H λx e=>l d e λy f=>r x y f λz H3=>∃k,z=.bl k /\
 (if k=wx then n d H3 λj h=>i y j h Q else Q (.bl ww) H3)
def YG(J:oE X (c9 op) r)(j:oE X (c9 op') r')(E:PE X a g)(hb:PE X b l)(F:PE X c n)
  (G:autoParam (iz [op,op'] [b,c]=false) zzs._auto_1):PE X (.Compare a [op,op'] [b,c] pos) (NZ r r' g l n):=by
 intro f s i H Q I h
 refine Compare_chain (iZ (E f s i H _ I h) λv R ⟨x,q,A,N,K⟩=>chain_link (iZ (hb f R i q _ A K) λu S ⟨y,t,B,p,L⟩=>
  iZ (J f S i t x y v u _ B N p L) λd s3 ⟨z,H3,m,O,k,e,o⟩=>?_)) G
 subst e;cases O;refine g3 ?_
 cases k with
 |false=>exact ite_ff ⟨.bl ww,H3,m,gC,o⟩
 |true=>exact ite_tt (chain_last (iZ (F f s3 i H3 _ m o) λU T ⟨W,w,C,P,M⟩=>j f T i w y W u U Q C p P M))
def X0(N:oE X (c9 op) r)(j:oE X (c9 op') r')(K:PE X a g)(hb:PE X b l)(L:PE X c n)
  (M:autoParam (iz [op,op'] [b,c]=false) zzs._auto_1):PT X (.Compare a [op,op'] [b,c] pos) (Hd (NZ r r' g l n)):=by
 intro f s i H Q I h
 refine isTrue_chain (iZ (K f s i H _ I h) λv s1 ⟨x,q,B,U,P⟩=>test_link (iZ (hb f s1 i q _ B P) λu s2 ⟨y,t,C,p,R⟩=>
  iZ (N f s2 i t x y v u _ C U p R) λd s3 ⟨z,H3,m,W,k,e,o⟩=>?_)) M
 subst e;cases W;refine g3 ?_
 cases k with
 |false=>
  obtain⟨k',G,O⟩:=o;cases G;exact ite_ff ⟨H3,m,O⟩
 |true=>
  refine ite_tt (test_last (iZ (L f s3 i H3 _ m o) λw' s4 ⟨z',w,E,Y,S⟩=>iZ (j f s4 i w y z' u w' _ E p Y S) λd' s5 zq=>?_));obtain⟨z2,A,F,Z,k2,J,T⟩:=zq;subst J;cases Z;exact g3 ⟨A,F,T⟩
def Bc(K:aF)(x:V)(H:Hp)(k:Bool):Prop:=
 match x with
 |.non=>k=ww
 |.bl b=>k=b
 |.int i=>k=(i != 0)
 |.str y=>y.length<=bN/\k=((y.length:Int) != 0)
 |.byt y=>y.size<=bN/\k=((y.size:Int) != 0)
 |.ref p=>(∃d,nM K H p d/\k=!d.isEmpty)\/(∃d,rL K H p d/\k=!d.isEmpty)\/∃kvs,H p=wz (.dK kvs)/\k=!kvs.isEmpty
 |_=>False
def O2{d:Type}{kvs:List (d×V)}{vs:List (d×á)}(r:KV kvs vs):(!vs.isEmpty)=!kvs.isEmpty:=by
 cases r<;>rfl
def EW{e:List V}{d:List á}(r:fW e d):(!d.toArray.isEmpty)=!e.isEmpty:=by
 cases r<;>simp
def BA:(bN:Nat)<2^63:=by rw[am];decide
def Ym:Kn X (λx H Q=>∃k,Bc X.K x H k/\Q k H):=by
 intro A s G H x v Q I j h;obtain⟨k,e,q⟩:=h;have F:=am
 cases x with
 |non=>
  cases j;have d:=e;subst d;exact truthy_none ⟨H,I,q⟩
 |bl b=>
  cases j;have d:=e;subst d;exact g3 ⟨H,I,q⟩
 |int i=>
  obtain⟨t,rfl⟩:=j;have d:=e;subst d;exact PySem.P.truthy_int ⟨H,I,q⟩
 |str y=>
  obtain⟨t,rfl⟩:=j;obtain⟨C,d⟩:=e;subst d;exact PySem.P.truthy_str cS ⟨H,I.tok _,q⟩
 |byt y=>
  obtain⟨t,rfl⟩:=j;obtain⟨C,d⟩:=e;subst d;exact PySem.W.truthy_bytes cS ⟨H,I.tok _,q⟩
 |ref p=>
  cases j;have d:=e;rcases d with⟨E,o,d⟩ | ⟨E,o,d⟩ | ⟨kvs,o,d⟩
  ·subst d;obtain⟨u,r,w,z⟩:=I.list o;have f:=r.length;exact wpAny_truthy_list w.isList (by simp only[bI];lia) ⟨H,I.tok _,by rw[EW r];exact q⟩
  ·subst d;obtain⟨u,r,w,z⟩:=I.tuple o;have f:=r.length;exact truthy_tuple w (by simp only[bI];lia) ⟨H,I.tok _,by rw[EW r];exact q⟩
  ·subst d;obtain⟨z,B,vs,r,m⟩:=I.hok p _ o;have f:=y4 r;exact wpAny_truthy_dict B m cS ⟨H,I.tok _,by rw[O2 r];exact q⟩
 |_=>exact(show False from e).elim
def LY(m:PE X a g)(o:∀whole,isTrue a X.env whole=(do let v <- whole;bu a.pos;z6 [v] (truthy v))) :
  PT X a (λe H Q=>g e H λx f=>∃k,Bc X.K x f k/\Q k f):=by
 intro d s e H Q I h;exact isTrue_plain (iZ (m d s e H _ I h) λv r ⟨x,i,j,q,p⟩=>Ym d r e i x v Q j q p) (o _)
def OD:oE X (j9 .Add) (λx y H Q=>∃i j,x=.str i/\y=.str j/\i.length+j.length<=bN/\Q (.str (i++j)) H):=by
 intro d s p H x y v u Q I f k h;obtain⟨i,j,rfl,rfl,e,q⟩:=h;obtain⟨t,rfl⟩:=f;obtain⟨m,rfl⟩:=k;exact add_str (λm o=>⟨.str (i++j),H,I.tok _,⟨_,gC⟩,q⟩) e
def nU(r:fW [x] us):∃u,us=[u]/\fQ x u:=by
 cases r with
 |cons d e=>cases e;exact⟨_,gC,d⟩
def QI(r:fW [x,y] us):∃u d,us=[u,d]/\fQ x u/\fQ y d:=by
 cases r with
 |cons e f=>
  cases f with
  |cons h i=>cases i;exact⟨_,_,gC,e,h⟩
end
structure P3(h:ç)(x dx C:à)(mA:â->Option á):Prop where
 obj:h.get? x=wz (jW C dx)
 ns:h.Ns1 dx mA
 ne:dx≠x
def UP{h:ç}{dx:à}{d:â->Option á}(n:h.Ns1 dx d):∃f,h.get? dx=wz f/\∀name,wE name f=wz (d name):=by
 obtain⟨o,c,l,j,hd,hk,_,i⟩:=n;refine⟨o,j,λname=>?_⟩;have e:=i name;unfold nsFind findBy at e;rw[<- VU]at e;unfold wE;rw[hd];dsimp only;split
 ·rename_i y q;rw[q]at e;exact d6 wz e
 ·rename_i q;rw[q]at e
  have a:c.toList.any (·.refKey)=false:=by
   rw[List.any_eq_false];intro y k;obtain⟨z,t,b⟩:=hk y (Array.mem_toList_iff.mp k);simp[DictEntry.refKey,b]
  have g:¬c.toList.any (·.refKey)=true:=by rw[a];exact bX
  rw[a8 g];exact d6 wz e
def P3.look{h}{x dx C:à}{b:â->Option á}(I:P3 h x dx C b):∃a,mI h x (jW C dx) C (wz a)/\∀name,wE name a=wz (b name):=
 let ⟨a,ho,hl⟩:=UP I.ns
 ⟨a,⟨I.obj,gC,gC,ho⟩,hl⟩
section
variable{prog:cV}{w:f7}{A:d8}{E:á->ã->Prop}{s:ã}{K:aF}{x dx C f:à}{a:â->Option á}{name:â}{v:á}
def Zu{b:Bool}{Q:á->ã->Prop}(X:K.In s.heap)(I:P3 s.heap x dx C a)(e:tJ K C name=wx)(g:AK K C=wx)
  (d:dG K (.ref C) name=wz wy) (j:a name=wz v) (c:VO v=wx) (h:Q v { s with toks:=s.toks+1 }) :
  å (ä prog w) A (getAttr (.ref x) name b) Q E s:=by
 obtain⟨k,J,i⟩:=I.look;exact PySem.W.get_value X J (xE e).1 (PySem.W.findObj_own g d gC (by rw[i,j])) c h
def Z4{Q:á×List á->ã->Prop}(X:K.In s.heap)(I:P3 s.heap x dx C a)(b:tJ K C name=wx)
  (c:dG K (.ref C) name=wz (wz (.ref f))) (e:KS K (.ref f)=wx) (g:a name=wy) (h:Q (.ref f,[.ref x]) s) :
  å (ä prog w) A (cr (.ref x) name pl) Q E s:=by
 obtain⟨i,J,d⟩:=I.look;exact PySem.W.method_fn X J (xE b).1 (xE b).2 c (beq_iff_eq.mp e) (by show(wE name i).map (·.isSome)=wz ww;rw[d,g];rfl) h
def aCx{ns:List â}{Q:Unit->ã->Prop}(X:K.In s.heap)(I:P3 s.heap x dx C a)
  (q:dG K (.ref C) "__setattr__"=wz (wz (.builtin "object.__setattr__"))) (p:S0 K C=wx) (t:CQ K C name=wz wy) (o:AK K C=wx)
  (hw:dz a ns) (r:ns.length<=bN)
  (h:∀e,P3 e x dx C (λy=>if y=name then wz v else a y)->gA dx s.heap e->Q () { s with heap:=e,toks:=s.toks+2 }) :
  å (ä prog w) A (setAttr (.ref x) name v) Q E s:=by
 obtain⟨B,J,u⟩:=I.look;refine PySem.W.set_plain X J q (PySem.W.osa_open X J p t λb=>?_);obtain⟨cd,n,i⟩:=PySem.W.any_some o;refine aI (bH (aI (aI (wpAny_loadPart I.obj (aI (xQ.here (PySem.W.looks_clsIn X n) ?_))))));rw[i];refine bH (aI (bH (aI ?_)));refine wpAny_nsSet1 I.ns λe c d=>?_;obtain⟨z,m,l,k,j,g⟩:=c.count (PySem.Within.cons name v hw);refine aI (wpAny_lookBehind k (by rw[j];exact pastItsLine_dict (aY g (by rw[bA];lia))) ?_);exact bH (h _ ⟨(d.2 _ (i0 I.ne)).trans I.obj,c,I.ne⟩ d)
def ZJ{R:Result->ã->Prop}(X:K.In s.heap)(e:V0 K C=wx)
  (c:dG K (.ref C) "__init__"=wz (wz (.ref f))) (b:gR K (.ref f)=wz (.type "function"))
  (h:u0 (ä prog w) (A.under (.builtin "type.__call__" ⟨.ref C::vs,kw⟩)) (.call (.ref f) ⟨.ref (s.heap.objs.size+1)::vs,kw⟩) (PySem.W.InitBack (s.heap.objs.size+1) R)
   { s with heap:=(s.heap.push jD).push (jW C s.heap.objs.size) }) :
  u0 (ä prog w) A (.call (.ref C) ⟨vs,kw⟩) R s:=by
 obtain⟨i,g,d,t,os⟩:=s;exact PySem.W.make_core (PySem.W.makes_of X e) (pI X c) (λself=>PySem.W.bind_fn X self b) (.inl gC) h
end
noncomputable def wW(f:â)(v:V):List (â×V)->List (â×V)
|[]=>[(f,v)]
| (g,x)::r=>if g=f then(g,v)::r else(g,x)::wW f v r
theorem B0(f g:â)(v:V):∀fs,(wW f v fs).lookup g=if g=f then wz v else fs.lookup g
|[]=>by
 show lK g [(f,v)]=_;by_cases h:g=f
 ·have hb:(g==f)=true:=beq_iff_eq.mpr h;simp only[lK,hb,a9 h]
 ·have hb:=beq_eq_false_iff_ne.mpr h;simp only[lK,hb,a8 h]
| (k,x)::r=>by
 rw[show wW f v ((k,x)::r)=(if k=f then(k,v)::r else(k,x)::wW f v r)from rfl];by_cases hk:k=f
 ·rw[a9 hk];by_cases h:g=k
  ·have hb:=beq_iff_eq.mpr h;simp only[lK,hb,a9 (h.trans hk)]
  ·have hb:=beq_eq_false_iff_ne.mpr h;simp only[lK,hb,a8 (λe:g=f=>h (e.trans hk.symm))]
 ·rw[a8 hk];by_cases h:g=k
  ·have hb:=beq_iff_eq.mpr h;simp only[lK,hb,a8 (λe:g=f=>hk (h.symm.trans e))]
  ·simp only[lK,(beq_eq_false_iff_ne.mpr h)];exact(B0 f g v r)
theorem BD(f:â)(v:V):∀fs,f∈(wW f v fs).map (·.1)/\∀g,g∈fs.map (·.1)->g∈(wW f v fs).map (·.1)
|[]=>⟨by simp[wW],λg h=>by simp at h⟩
| (k,x)::r=>by
 obtain⟨a,b⟩:=BD f v r;rw[show wW f v ((k,x)::r)=(if k=f then(k,v)::r else(k,x)::wW f v r)from rfl];by_cases hk:k=f
 ·rw[a9 hk];subst hk;exact⟨eH,λg h=>by simpa using h⟩
 ·rw[a8 hk];refine⟨?_,λg h=>?_⟩
  ·rw[bB];exact aH _ a
  ·rw[bB]at h |-
   rcases aO.mp h with e | e
   ·exact aO.mpr (.inl e)
   ·exact aH _ (b g e)
theorem B3(f:â)(v:V):∀fs,(wW f v fs).length<=fs.length+1
|[]=>by simp[wW]
| (k,x)::r=>by
 have a:=B3 f v r;rw[show wW f v ((k,x)::r)=(if k=f then(k,v)::r else(k,x)::wW f v r)from rfl];by_cases hk:k=f
 ·rw[a9 hk,bA,bA];lia
 ·rw[a8 hk,bA,bA];lia
def wZ.some_of(r:wZ (wz v) o):∃u,o=wz u/\fQ v u:=by
 cases o with
 |none=>exact(show False from r).elim
 |some u=>exact⟨u,gC,r⟩
def wZ.none_of(r:wZ wy o):o=none:=by
 cases o with
 |none=>rfl
 |some u=>exact(show False from r).elim
def UZ(r:fQ v u):VO u=true:=by
 cases v with
 |non=>cases (show u=k6 from r);rfl
 |bl b=>cases (show u=bn b from r);rfl
 |int i=>obtain⟨t,e⟩:=(show∃t,u=m5 i t from r);cases e;rfl
 |str x=>obtain⟨t,e⟩:=(show∃t,u=y0 x t from r);cases e;rfl
 |byt b=>obtain⟨t,e⟩:=(show∃t,u=Value.bytes b t from r);cases e;rfl
 |flt b=>obtain⟨t,e⟩:=(show∃t,u=fe b t from r);cases e;rfl
 |ref a=>cases (show u=d0 a from r);rfl
 |ty n=>cases (show u=gb n from r);rfl
section
variable{P:cV}{w:f7}{H:Hp}{h:ç}{a C dx:à}{fs:List (â×V)}
def DD(hok:pZ P w H h)(e:H a=wz (.ins C dx fs)):∃b,P3 h a dx C b/\(∀f,wZ (fs.lookup f) (b f))/\dz b (fs.map (·.1))/\fs.length<=1000/\H dx=wz (.own a):=by
 obtain⟨d,z,ne,ob,b,n,r,q⟩:=(show jC P w H h a (.ins C dx fs)from hok a _ e);exact⟨b,⟨ob,n,ne⟩,r,q,z,d⟩
end
structure AM(K:aF)(C:à):Prop where
 pg:tJ K C Str.empty=wx
 hd:AK K C=wx
 po:S0 K C=wx
 sa:dG K (.ref C) "__setattr__"=wz (wz (.builtin "object.__setattr__"))
def AM.get{K}{C:à}(c:AM K C)(f:â):tJ K C f=true:=c.pg
def fZ(K:aF)(C:à)(f:â):Prop:=dG K (.ref C) f=wz wy
def fZ.taker{K}{C:à}(n:fZ K C f):CQ K C f=wz none:=by
 unfold CQ;rw[show dG K (.ref C) f=wz wy from n]
 rfl
structure xC(K:aF)(C:à)(m:â)(f:à):Prop where
 at_:dG K (.ref C) m=wz (wz (.ref f))
 fn:KS K (.ref f)=wx
 kp:gS K (.ref f)=wx
section
variable{X:Cx}{d:List (à×Obj)}{i:St}{H:Hp}{s:ã}{a C dx:à}{fs:List (â×V)}{f:â}{v:V}{A:d8}{E:á->ã->Prop}
def E4{b:Bool}{Q:á->ã->Prop}(I:dI X d i H s)(e:H a=wz (.ins C dx fs))(c:AM X.K C)(n:fZ X.K C f)(l:fs.lookup f=wz v)
  (h:∀u j,dI X d i H j->fQ v u->Q u j):å (ä X.prog X.w) A (getAttr (.ref a) f b) Q E s:=by
 obtain⟨m,O,r,_,_,_⟩:=DD I.hok e;obtain⟨u,k,g⟩:=wZ.some_of (by rw[<- l];exact r f);exact Zu I.kIn O (c.get f) c.hd n k (UZ g) (h u _ (I.tok _) g)
def yG{g:à}{Q:á×List á->ã->Prop}(I:dI X d i H s)(e:H a=wz (.ins C dx fs))(c:AM X.K C)(k:xC X.K C m g)(l:fs.lookup m=wy)
  (h:Q (.ref g,[.ref a]) s):å (ä X.prog X.w) A (cr (.ref a) m pl) Q E s:=by
 obtain⟨b,O,r,_,_,_⟩:=DD I.hok e;exact Z4 I.kIn O (c.get m) k.at_ k.fn (wZ.none_of (by rw[<- l];exact r m)) h
def D2{Q:Unit->ã->Prop}(I:dI X d i H s)(e:H a=wz (.ins C dx fs))(c:AM X.K C)(n:fZ X.K C f)(J:fs.length<1000)(B:fQ y u)
  (h:∀l,dI X d i (eY H a (.ins C dx (wW f y fs))) l->Q () l):å (ä X.prog X.w) A (setAttr (.ref a) f u) Q E s:=by
 obtain⟨x,O,r,m,_,k⟩:=DD I.hok e;have t:(fs.map (·.1)).length<=bN:=by rw[aC,am];lia
 refine aCx I.kIn O c.sa c.po n.taker c.hd m t λG j F=>h _ ?_;refine I.write (by rw[e];exact e6) (.inr k) (λb q hb z=>(F.2 b hb).trans z) (let ⟨o,_,_,e',_⟩:=j.ns;⟨o,e'⟩) ?_;refine⟨by rw[bY O.ne];exact k,?_,O.ne,j.obj,_,j.ns,λg=>?_,λg p=>?_⟩
 ·have:=B3 f y fs;lia
 ·rw[B0];by_cases q:g=f
  ·rw[a9 q,a9 q];exact B
  ·rw[a8 q,a8 q];exact r g
 ·by_cases q:g=f
  ·rw[q];exact(BD f y fs).1
  ·refine(BD f y fs).2 g (m g λz=>p ?_);show(if g=f then wz u else x g)=wy;rw[a8 q];exact z
def dI.made(I:dI X d i H s):dI X d i (eY (eY H s.heap.objs.size (.own (s.heap.objs.size+1))) (s.heap.objs.size+1) (.ins C s.heap.objs.size []))
  { s with heap:=(s.heap.push jD).push (jW C s.heap.objs.size) }:=by
 have c:(s.heap.push jD).get? s.heap.objs.size=wz jD:=aX s.heap gC
 have g:((s.heap.push jD).push (jW C s.heap.objs.size)).get? (s.heap.objs.size+1)=wz (jW C s.heap.objs.size):=by
  have:=aX (s.heap.push jD) (o:=jW C s.heap.objs.size) gC
  rwa [eD]at this
 refine(I.laid (a:=s.heap.objs.size) (o:=.own (s.heap.objs.size+1)) (h':=s.heap.push jD) (t':=s.toks) (λb u q=>aD _ q) (aN _) ⟨_,c⟩).laid (λb u q=>aD _ q) (kH (eD _ _)) ?_;have ne:s.heap.objs.size≠s.heap.objs.size+1:=dF (lD _);refine⟨by rw[bY ne,cD],cP _,ne,g,λ_=>wy,(Heap.Ns1.of_empty (⟨jD,#[],_,c,gC,(λe h=>b8 h eH),λ_=>rfl⟩)).at λo q=>aD _ q,λ_=>e6,λy j=>b8 gC j⟩
def Zy{f s}{Q:á->ã->Prop}(hb:g4 e f env (è e env)=è e env)
  (h:å (ä prog w) A (è e env) (λo b=>å (ä prog w) A (getAttr o f wx) Q E b) E s):å (ä prog w) A (è (.Attribute e f pos) env) Q E s:=
 Attribute_any_ h (by rw[arm_eval_Attribute,hb])
end
def Em(K:aF)(c:TE)(f:â):TE:=λd H Q=>c d H λx b=>∃a C dx fs v,x=.ref a/\b a=wz (.ins C dx fs)/\AM K C/\fZ K C f/\fs.lookup f=wz v/\Q v b
def IW(K:aF)(e tv:TE)(f:â):TS:=λD b H=>tv b H λy d=>e b d λx c=>∃a C dx fs,x=.ref a/\c a=wz (.ins C dx fs)/\AM K C/\fZ K C f/\fs.length<1000 /\
 D.nx b (eY c a (.ins C dx (wW f y fs)))
def Ds(X:Cx)(c:Operator)(d:V->V->Hp->VK->Prop):Prop:=
 ∀a s b H x y u v Q,dI X a b H s->fQ x u->fQ y v->d x y H Q->å (ä X.prog X.w) X.A (inplaceOp c u v) (EP X a b Q) X.xe s
def aC5(K:aF)(i tv:TE)(h:V->V->Hp->VK->Prop)(f:â):TS:=λD d H=>i d H λx e=>∃a C dx fs v,x=.ref a/\e a=wz (.ins C dx fs)/\AM K C/\fZ K C f/\fs.lookup f=wz v /\
 tv d e λy g=>h v y g λz H3=>∃c b,H3 a=wz (.ins C c b)/\b.length<1000/\D.nx d (eY H3 a (.ins C c (wW f z b)))
section
variable{X:Cx}{o e b:æ}{f:â}{pos d k:Pos}{g tv:TE}
def OA(t:PE X e g)(hb:g4 e f X.env (è e X.env)=è e X.env):PE X (.Attribute e f pos) (Em X.K g f):=by
 intro i s A H Q I h;refine Zy hb (iZ (t i s A H _ I h) λu B z=>?_);obtain⟨x,j,m,y,a,C,dx,fs,v,ex,r,c,n,l,q⟩:=z;subst ex;obtain rfl:=y;exact E4 m r c n l λF E p w=>⟨v,j,p,w,q⟩
def tW(w:PE X o g)(A:PE X b tv)(z:kP b (wz (.Attribute o f d)) pos.line X.env=pure ww):PS X (.Assign [.Attribute o f d] b pos) (IW X.K g tv f):=by
 intro i s j H D I h;refine plainObj_wpAny_Assign_Attribute (iZ (A i s j H _ I h) λu G ⟨y,m,p,F,q⟩=>iZ (w i G j m _ p q) λM N J=>?_) z;obtain⟨x,L,r,E,a,C,dx,fs,ex,v,c,n,l,B⟩:=J;subst ex;obtain rfl:=E;exact D2 r v c n l F λs3 t=>⟨j,_,t,B⟩
def T4{t:V->V->Hp->VK->Prop}(O:PE X o g)(P:PE X b tv)(p:Ds X op t):PS X (.AugAssign (.Attribute o f k) op b pos) (aC5 X.K g tv t f):=by
 intro i s j H D I h;refine wpAny_AugAssign_AttributeAny (iZ (O i s j H _ I h) λov s1 r=>?_);obtain⟨x,w,B,U,a,C,dx,fs,v,ex,M,c,n,l,q⟩:=r;subst ex;obtain rfl:=U;refine E4 B M c n l λu Z E T=>iZ (P i Z j w _ E q) λw3 s3 ⟨y,A,F,W,R⟩=>iZ (p i s3 j A v y u w3 _ F T W R) λw4 s4 r=>?_;obtain⟨z,H3,G,Y,L,N,m,Q,S⟩:=r;exact D2 G m c n Q Y λs5 J=>⟨j,_,J,S⟩
def Ly:V->V->Hp->VK->Prop:=λx y H Q=>∃i j,x=.int i/\y=.int j/\Q (.int (i+j)) H
def Ws:Ds X .Add Ly:=by
 rintro a s m H x y u v Q I h l ⟨i,j,rfl,rfl,q⟩;obtain⟨t,rfl⟩:=(show∃t,u=m5 i t from h);obtain⟨c,rfl⟩:=(show∃c,v=m5 j c from l);exact PyProof.Rows.iadd_int ⟨.int (i+j),H,I.tok _,⟨_,gC⟩,q⟩
end
section
variable{X:Cx}{d:List (à×Obj)}{f:St}{H:Hp}{s:ã}{A:d8}{E:á->ã->Prop}{Q:á->ã->Prop}{c:á}{b:Bool}
inductive CN(K:aF)(H:Hp):V->á->Prop where
|non:CN K H .non (.type "NoneType")
|bl (x:Bool):CN K H (.bl x) (.type "bool")
|int (i:Int):CN K H (.int i) (.type "int")
|str (x:â):CN K H (.str x) (.type "str")
|flt (x:UInt64):CN K H (.flt x) (.type "float")
|lst {a:à} {xs:List V} (e:H a=wz (.lst xs)):CN K H (.ref a) (.type "list")
|frz {a:à} {o:Obj} {xs:List V} (e:H a=wz (.frz o (.lst xs))):CN K H (.ref a) (.type "list")
|tup {a:à} {xs:List V} (e:H a=wz (.tup xs)):CN K H (.ref a) (.type "tuple")
|dK {a:à} {kvs:List (mX×V)} (e:H a=wz (.dK kvs)):CN K H (.ref a) (.type "dict")
|dT {a:à} {kvs:List (List mX×V)} (e:H a=wz (.dT kvs)):CN K H (.ref a) (.type "dict")
|ins {a C dx:à} {fs:List (â×V)} (e:H a=wz (.ins C dx fs)) (cl:AM K C) (ha:dG K (.ref C) "__class__"=wz (wz (.builtin "object.__class__")))
  (hn:PySem.W.specialIn K (.builtin "object.__class__") "__get__"=wz (wz (.builtin "getset_descriptor.__get__"))) (ow:PySem.W.takesIn K (.builtin "object.__class__")=wz wx)
  (hm:bL K C (.type "object")=wz wx):CN K H (.ref a) (.ref C)
def wQ(I:dI X d f H s)(g:fQ x u)(ty:CN X.K H x t)(e:dU X.K t c=wz b)(h:∀v,Q (.bool b) { s with toks:=v }) :
  å (ä X.prog X.w) A (call (.builtin "isinstance") [u,c]) Q E s:=by
 cases ty with
 |non=>cases (show u=k6 from g);exact eU PySem.W.kitx_none I.kIn e6 e (λz=>nomatch z) h
 |bl y=>cases (show u=bn y from g);exact eU PySem.W.kitx_bool I.kIn e6 e (λz=>nomatch z) h
 |int i=>obtain⟨t,q⟩:=(show∃t,u=m5 i t from g);cases q;exact eU PySem.W.kitx_int I.kIn e6 e (λz=>nomatch z) h
 |str y=>obtain⟨t,q⟩:=(show∃t,u=y0 y t from g);cases q;exact eU PySem.W.kitx_str I.kIn e6 e (λz=>nomatch z) h
 |flt y=>obtain⟨t,q⟩:=(show∃t,u=fe y t from g);cases q;exact eU PySem.W.kitx_float I.kIn e6 e (λz=>nomatch z) h
 |@lst a k ea=>
  cases (show u=d0 a from g);obtain⟨_,_,n,_,j⟩:=(show jC X.prog X.w H s.heap a (.lst k)from I.hok a _ ea);exact eU rM I.kIn ⟨_,j,gC⟩ e (λz=>nomatch z) h
 |@frz a ob k ea=>
  cases (show u=d0 a from g);obtain⟨_,_,_,n,_,j⟩:=(show jC X.prog X.w H s.heap a (.frz ob (.lst k))from I.hok a _ ea);exact eU rM I.kIn ⟨_,j,gC⟩ e (λz=>nomatch z) h
 |@tup a k ea=>
  cases (show u=d0 a from g);obtain⟨_,_,_,p⟩:=(show jC X.prog X.w H s.heap a (.tup k)from I.hok a _ ea);obtain⟨o,j,l,_⟩:=p;exact eU QA I.kIn ⟨o,j,l⟩ e (λz=>nomatch z) h
 |@dK a kvs ea=>
  cases (show u=d0 a from g);obtain⟨_,_,vs,_,p⟩:=(show jC X.prog X.w H s.heap a (.dK kvs)from I.hok a _ ea);obtain⟨o,r,m,j,l,_⟩:=p;exact eU S3 I.kIn ⟨o,j,l.1⟩ e (λz=>nomatch z) h
 |@dT a kvs ea=>
  cases (show u=d0 a from g);obtain⟨_,_,k,_,o,r,m,j,l,_⟩:=(show jC X.prog X.w H s.heap a (.dT kvs)from I.hok a _ ea);exact eU S3 I.kIn ⟨o,j,l.1⟩ e (λz=>nomatch z) h
 |@ins a C dx fs ea cl ha hn ow hm=>
  cases (show u=d0 a from g);obtain⟨B,O,_⟩:=DD I.hok ea;obtain⟨F,J,_⟩:=O.look;exact eU (PySem.W.kitx_own (cl.get _) cl.hd ha hn ow hm) I.kIn J e (λz=>nomatch z) h
end
structure iE(k:Nat)(A:d8):Prop where
 hd:A.handled=wy
 dp:A.depth+3*k+5<al
 un:A.units+16*k+200<x6
 gd:A.guards=wz []
def iE.mono{j k:Nat}(r:iE k A)(h:j<=k):iE j A:=⟨r.hd,by have:=r.dp;lia,by have:=r.un;lia,r.gd⟩
theorem iE.deeper{k:Nat}{A:d8}(r:iE (k+1) A)(env:Env):iE k (A.deeper env):=
 ⟨r.hd,by have:=r.dp;show A.depth+1+3*k+5<_;lia,by have:=r.un;show A.units+3+16*k+200<_;lia,r.gd⟩
theorem iE.in1{k:Nat}{A:d8}(r:iE (k+1) A):iE k A.in1:=
 ⟨r.hd,by have:=r.dp;show A.depth+3*k+5<_;lia,by have:=r.un;show A.units+1+16*k+200<_;lia,r.gd⟩
def OQ{A:d8}{C:à}:(A.under (.builtin "type.__call__" ⟨.ref C::us,kw⟩)).depth=A.depth+1:=by
 first | rfl | simp[ag,Code.weight,Code.isCreation,Code.isGuard,Code.isCaller,Code.frames,ej,guardIds]
def OP{A:d8}{C:à}:(A.under (.builtin "type.__call__" ⟨.ref C::us,kw⟩)).units=A.units+1:=by
 first | rfl | simp[ag,Code.cUnits,Code.frames,ej]
def iE.make{k:Nat}{A:d8}(r:iE (k+1) A)(C:à)(b:List á)(a:List (â×á)):iE k (A.under (.builtin "type.__call__" ⟨.ref C::b,a⟩)):=
 ⟨r.hd,by have:=r.dp;rw[OQ];lia,by have:=r.un;rw[OP];lia,by first | exact r.gd | (simp[ag,Code.isGuard,guardIds];exact r.gd)⟩
theorem iE.depth{k:Nat}{A:d8}(r:iE k A):A.depth<al:=by have:=r.dp;lia
theorem iE.units{k:Nat}{A:d8}(r:iE k A):A.units+64<x6:=by have:=r.un;lia
def CF:TA:=λ_ H Q=>Q [] H
def qJ(d:TE)(tr:TA):TA:=λa H Q=>d a H λx b=>tr a b λe c=>Q (x::e) c
section
variable{X:Cx}{e:æ}{a:List æ}{c:TE}{t:TA}{pos:Pos}
def mU:PA X [] CF:=λ_ _ _ _ H Q I h=>Calls.spliced_nil ⟨[],H,I,.nil,h⟩
def gF(k:PE X e c)(l:PA X a t)(m:autoParam (bZ (e::a) X.env=(ww,è e X.env)::bZ a X.env) zzz._auto_1):PA X (e::a) (qJ c t):=by
 intro pos b s d H Q I h;rw[m];refine Calls.spliced_cons (iZ (k b s d H _ I h) λu r w=>?_);obtain⟨x,f,i,p,n⟩:=w;exact iZ (l pos b r d f _ i n) λz y ⟨v,g,j,q,o⟩=>⟨x::v,g,j,.cons p q,o⟩
def En(t:TA):TE:=λf H Q=>t f H λd b=>d.length<=bN/\∀p,b p=wy->Q (.ref p) (eY b p (.tup d))
def Li(t:TA):TE:=λf H Q=>t f H λd b=>d.length<=bN/\∀p,b p=wy->Q (.ref p) (eY b p (.lst d))
def JF(h:PA X a t):PE X (.Tuple a x1 pos) (En t):=by
 intro d s m H Q I j;refine wpAny_Tuple_spliced (iZ (h pos d s m H _ I j) λk g ⟨l,i,f,r,z,q⟩=>⟨by rw[<- r.length];exact z,?_⟩);refine⟨.ref g.heap.objs.size,eY i g.heap.objs.size (.tup l),f.laid (λb u e=>aD _ e) (aN _) ?_,gC,q _ (f.hok.fresh (aN _))⟩;exact⟨z,k,r,⟨_,aX _ gC,gC,_,gC,gC⟩⟩
def JG(h:PA X a t):PE X (.List a pos) (Li t):=by
 intro d s m H Q I j;refine wpAny_List_spliced (iZ (h pos d s m H _ I j) λk g ⟨l,i,f,r,z,q⟩=>⟨by rw[<- r.length];exact z,?_⟩);refine⟨.ref g.heap.objs.size,eY i g.heap.objs.size (.lst l),f.laid (λb u e=>aD _ e) (aN _) ?_,gC,q _ (f.hok.fresh (aN _))⟩;exact⟨z,k,0,r,aX _ gC⟩
end
abbrev Sp:=List V->Hp->VK->XK->Prop
abbrev VN:=List Env->Hp->ã->XK->á->ã->Prop
structure P6(P:cV)(w:f7)(K:aF)(mg:â->Option á)(base:ç)(A:d8)(outer:List Env)(s:ã)(H:Hp):Prop where
 frames:A.frames=wz outer
 mod:Mod K mg base
 bs:∀b o,base.get? b=wz o->s.heap.get? b=wz o/\H b=wy
 bsz:base.objs.size<=s.heap.objs.size
 funs:s.heap.FunFrames base outer
 frf:∀b∈rC outer,H b=wy
 hok:pZ P w H s.heap
 bare:t9 s.gens
 tab:Tb H
def CE(outer:List Env)(P:cV)(w:f7)(H:Hp)(s:ã)(Q:VK)(u:á)(a:ã):Prop:=
 ∃v b,a.os=s.os/\t9 a.gens/\Un (rC outer) [] H b s.heap a.heap/\pZ P w b a.heap/\fQ v u/\Q v b
def CR(b:VN)(outer:List Env)(P:cV)(w:f7)(H:Hp)(s:ã)(Q:VK)(E:XK)(r:Result)(a:ã):Prop:=
 match r with
 |.ok (.ret u)=>CE outer P w H s Q u a
 |.ok _=>False
 |.error e=>b outer H s E e a
structure lW(P:cV)(w:f7)(K:aF)(mg:â->Option á)(base:ç)(CX:VN)(k:Nat)(f:à)(fd:iO)(ps:List â)(sp:Sp):Prop where
 len:∀vs H Q E,sp vs H Q E->vs.length=ps.length
 run:∀A outer s H(args:Args)(us:List á)(vs:List V)Q E,iE k A->P6 P w K mg base A outer s H->BindsTo s fd args (ps.zip us)->fW vs us->sp vs H Q E ->
  u0 (ä P w) A (.call (.ref f) args) (CR CX outer P w H s Q E) s
def lW.imp{K}{mg:â->Option á}{k:Nat}{f:à}{c b:Sp}(F:lW P w K mg base CX k f fd ps c)
  (h:∀vs H Q E,b vs H Q E->c vs H Q E):lW P w K mg base CX k f fd ps b:=
 ⟨λvs H Q E q=>F.len vs H Q E (h _ _ _ _ q),λA outer s H a j vs Q E e d hb i g=>F.run A outer s H a j vs Q E e d hb i (h _ _ _ _ g)⟩
def P6.make{K}{mg:â->Option á}{A:d8}(e:P6 P w K mg base A outer s H)(C:à)(b:List á)(a:List (â×á)) :
  P6 P w K mg base (A.under (.builtin "type.__call__" ⟨.ref C::b,a⟩)) outer s H:=⟨by first | exact e.frames | (simpa[ag,Code.envs,ej,pushEnvs]using e.frames),e.mod,e.bs,e.bsz,e.funs,e.frf,e.hok,e.bare,e.tab⟩
section
variable{X:Cx}{a:List (à×Obj)}{f:St}{H:Hp}{s c:ã}
def dI.env0(I:dI X a f H s):P6 X.prog X.w X.K X.mg X.base X.A X.stack s H:=
 ⟨I.ok.frames,I.ok.mod,I.bs,aY I.ok.bsz I.sz,I.stack,I.stkFree,I.hok,I.bare,λP e=>let ⟨ps,h⟩:=I.ok.tab P e;let ⟨m,h'⟩:=I.base.tbls P ps h;⟨_,h'⟩⟩
def dI.after(I:dI X a f H s)(h:CE X.stack X.prog X.w H s Q u c):EP X a f Q u c:=by
 obtain⟨v,e,os,bare,un,hok,r,q⟩:=h;obtain⟨j,g,d,t,i⟩:=c;obtain rfl:=os;exact⟨v,e,I.call un hok bare (λb z=>b8 z eH),r,q⟩
end
def GU(c:Sp)(a:List V)(E:XK)(t:TA):TE:=λd H Q=>t d H λvs b=>c (vs++a) b Q E
def DS(C:à)(m:â)(f:Sp)(b:List V)(E:XK)(g:TE)(t:TA):TE:=λd H Q=>g d H λx c=>∃a dx fs,x=.ref a/\c a=wz (.ins C dx fs)/\fs.lookup m=wy /\
 t d c λvs e=>f (x::(vs++b)) e Q E
def WR(C:à)(d:Sp)(b:List V)(E:XK)(t:TA):TE:=λe H Q=>t e H λvs a=>∀x dx,a x=wy->a dx=wy->dx≠x ->
 d (.ref x::(vs++b)) (eY (eY a dx (.own x)) x (.ins C dx [])) (λv c=>v=.non/\Q (.ref x) c) E
def qT(K:aF)(d:iO)(c:List â)(b:List á):Prop:=
 ∀s a,K.In s.heap->(a++b).length=c.length->BindsTo s d ⟨a,[]⟩ (c.zip (a++b))
def qT.all{K}{b:List â}(h:∀a,a.length=b.length->bindArgs fd ⟨a,[]⟩=pure (b.zip a)):qT K fd b []:=λs a _ c=>by
 rw[eK]at c |-
 exact .of_eq (h a c)
def vY(c:VN)(X:Cx)(E:XK):Prop:=∀a d H s e b,dI X a d H s->c X.stack H s E e b->X.xe e b
section
variable{X:Cx}{n:VN}{k:Nat}{f C:à}{y:iO}{j:List â}{z:Sp}{b:List V}{g:List á}{E:XK}{x m:â}{p pos d:Pos}{e o:æ}{i:List æ}{B:TE}{t:TA}
def N2(F:lW X.prog X.w X.K X.mg X.base n k f y j z)(q:iE k X.A)(hb:qT X.K y j g)(hd:fW b g)(v:vY n X E)
  (I:dI X pins σ H s) (r:fW vs us) (h:z (vs++b) H Q E):å (ä X.prog X.w) X.A (call (.ref f) us) (EP X pins σ Q) X.xe s:=by
 have c:=r.append hd;have l:(us++g).length=j.length:=by rw[<- c.length];exact F.len _ _ _ _ h
 refine fx (y9 (F.run X.A X.stack s H ⟨us,[]⟩ (us++g) (vs++b) Q E q I.env0 (hb s us I.kIn l) c h) λr G a=>?_)
 cases r with
 |error e=>exact v pins σ H s e G I a
 |ok fl=>
  cases fl with
  |ret u=>exact I.after a
  |next=>exact g9 a
  |brk=>exact g9 a
  |cont=>exact g9 a
def kI(F:lW X.prog X.w X.K X.mg X.base n k f y j z)(M:iE k X.A)(J:Gl X x)(L:X.mg x=wz (.ref f))(hk:gS X.K (.ref f)=wx)(hb:qT X.K y j g)(hd:fW b g)(N:vY n X E)
  (v:PA X (e::i) t) (c:autoParam ((x==("__debug__":â))=false) zzy._auto_1) (G:autoParam (bZ (e::i) X.env=(ww,è e X.env)::bZ i X.env) zzz._auto_1) (l:autoParam ((j8 pos (bZ i X.env)).any (·.1)=false) zzz._auto_1) :
  PE X (.Call (.Name x p) (e::i) [] pos) (GU z b E t):=by
 intro a s O H Q I h;refine n6 (tY I J L ?_ c);refine qW I.ok.mod.kin hk (iZ (v pos a s O H _ I h) λS R ⟨vs,P,u,r,q⟩=>⟨u.kIn,?_⟩) G l;exact N2 F M hb hd N u r q
def gZ(T:PE X o B)(c:AM X.K C)(N:xC X.K C m f)(F:lW X.prog X.w X.K X.mg X.base n k f y j z)(U:iE k X.A)(hb:qT X.K y j g)(hd:fW b g)(Y:vY n X E)(S:PA X (e::i) t)
  (J:autoParam (bZ (e::i) X.env=(ww,è e X.env)::bZ i X.env) zzz._auto_1) (G:autoParam ((j8 pos (bZ i X.env)).any (·.1)=false) zzz._auto_1)
  (W:è (.Call (.Attribute o m d) (e::i) [] pos) X.env=(do
   let ov <- è o X.env
   bu d.atName
   let (f,first) <- z6 [ov] (cr ov m pl)
   callWith pos f first (j8 pos (bZ (e::i) X.env)) (kj pos (du [] X.env))):=by rfl) :
  PE X (.Call (.Attribute o m d) (e::i) [] pos) (DS C m z b E B t):=by
 intro v s O H Q I h;refine uT (iZ (T v s O H _ I h) λu s1 zq=>?_) W;obtain⟨x,P,L,rx,a,dx,fs,ex,R,l,q⟩:=zq;subst ex;obtain rfl:=rx;refine yG L R c N l ?_;refine qW I.ok.mod.kin N.kp (iZ (S pos v s1 O P _ L q) λus s2 ⟨vs,H2,M,r,Z⟩=>⟨M.kIn,?_⟩) J G;exact N2 (vs:=.ref a::vs) F U hb hd Y M (.cons gC r) Z
def qL(L:PE X o B)(c:AM X.K C)(G:xC X.K C m f)(F:lW X.prog X.w X.K X.mg X.base n k f y j z)(M:iE k X.A)(hb:qT X.K y j g)(hd:fW b g)(O:vY n X E)
  (N:è (.Call (.Attribute o m d) [] [] pos) X.env=(do
   let ov <- è o X.env
   bu d.atName
   let (f,first) <- z6 [ov] (cr ov m pl)
   callWith pos f first (j8 pos (bZ [] X.env)) (kj pos (du [] X.env))):=by rfl) :
  PE X (.Call (.Attribute o m d) [] [] pos) (DS C m z b E B CF):=by
 intro r s S H Q I h;refine uT (iZ (L r s S H _ I h) λu U R=>?_) N;obtain⟨x,T,v,P,a,dx,fs,ex,J,l,q⟩:=R;subst ex;obtain rfl:=P;refine yG v J c G l ?_;exact PySem.W.callWith_K0 v.kIn G.kp (N2 (vs:=[.ref a]) F M hb hd O v (.cons gC .nil) q)
structure Mk(K:aF)(C f:à):Prop where
 makes:V0 K C=wx
 init:dG K (.ref C) "__init__"=wz (wz (.ref f))
 fn:KS K (.ref f)=wx
 kp:gS K (.ref C)=wx
def XF{H:Hp}{Q:VK}(M:Mk X.K C f)(F:lW X.prog X.w X.K X.mg X.base n k f y j z)(P:iE (k+1) X.A)(hb:qT X.K y j g)(hd:fW b g)
  (R:vY n X E) (I:dI X pins σ H s) (r:fW vs us)
  (h:∀x dx,H x=wy->H dx=wy->dx≠x->z (.ref x::(vs++b)) (eY (eY H dx (.own x)) x (.ins C dx [])) (λv J=>v=.non/\Q (.ref x) J) E) :
  å (ä X.prog X.w) X.A (call (.ref C) us) (EP X pins σ Q) X.xe s:=by
 have l:=h (s.heap.objs.size+1) s.heap.objs.size (I.hok.fresh (tN _)) (I.hok.fresh (aN _)) (dF (lD _));have c:=dI.made (C:=C) I;have q:fW (V.ref (s.heap.objs.size+1)::(vs++b)) (d0 (s.heap.objs.size+1)::(us++g)):=.cons gC (r.append hd)
 have O:(d0 (s.heap.objs.size+1)::us++g).length=j.length:=by
  have e:=q.length;rw[F.len _ _ _ _ l]at e;exact e.symm
 refine fx (ZJ I.kIn M.makes M.init (beq_iff_eq.mp M.fn) (y9 (F.run _ X.stack _ _ ⟨d0 (s.heap.objs.size+1)::us,[]⟩ (d0 (s.heap.objs.size+1)::(us++g)) _ _ E (P.make C us [])
  (c.env0.make C us []) (hb _ (d0 (s.heap.objs.size+1)::us) c.kIn O) q l) λr U a=>?_))
 cases r with
 |error e=>exact R pins σ _ _ e U c a
 |ok fl=>
  cases fl with
  |ret u=>
   obtain⟨v,G,L,T,N,S⟩:=c.after a;subst N;exact⟨T,⟨V.ref (s.heap.objs.size+1),G,L,gC,S⟩⟩
  |next=>exact g9 a
  |brk=>exact g9 a
  |cont=>exact g9 a
def Q9(M:Mk X.K C f)(F:lW X.prog X.w X.K X.mg X.base n k f y j z)(N:iE (k+1) X.A)(J:Gl X x)(L:X.mg x=wz (.ref C))(hb:qT X.K y j g)(hd:fW b g)(O:vY n X E)
  (v:PA X (e::i) t) (c:autoParam ((x==("__debug__":â))=false) zzy._auto_1) (G:autoParam (bZ (e::i) X.env=(ww,è e X.env)::bZ i X.env) zzz._auto_1) (l:autoParam ((j8 pos (bZ i X.env)).any (·.1)=false) zzz._auto_1) :
  PE X (.Call (.Name x p) (e::i) [] pos) (WR C z b E t):=by
 intro a s P H Q I h;refine n6 (tY I J L ?_ c);refine qW I.ok.mod.kin M.kp (iZ (v pos a s P H _ I h) λT S ⟨vs,R,u,r,q⟩=>⟨u.kIn,?_⟩) G l;exact XF M F N hb hd O u r q
end
structure bQ(N P:List â)(sc:Scope):Prop where
 kind:sc.kind=.function
 co:sc.isCoroutine=ww
 gen:sc.isGenerator=ww
 nd:N.Nodup
 pre:N.take P.length=P
 par:∀x∈P,sc.names.lookup x=wz .local\/sc.names.lookup x=wz .cell
 nofree:∀y∈sc.names,y.2≠.free
theorem HN{kindOf:â->Option l6}:∀{binds}{m:â->Option á},(∀v,(x,v)∉binds)->bindL kindOf binds m x=m x
|[],_,_=>rfl
| (n,v)::r,m,h=>by
 unfold bindL;rw[HN λw hw=>h w (aH _ hw)];split
 ·have:x≠n:=by rintro rfl;exact h v aP
  simp[this]
 ·rfl
theorem HQ{kindOf:â->Option l6}:∀{binds}{m:â->Option á},(∀v,(x,v)∉binds)->bindC kindOf binds m x=m x
|[],_,_=>rfl
| (n,v)::r,m,h=>by
 unfold bindC;rw[HQ λw hw=>h w (aH _ hw)];split
 ·rfl
 ·have:x≠n:=by rintro rfl;exact h v aP
  simp[this]
theorem HP{kindOf:â->Option l6}:∀{P:List â}{vs}{i:Nat}{m:â->Option á},P.Nodup->P[i]?=wz x->vs[i]?=wz v->kindOf x=wz .local ->
 bindL kindOf (P.zip vs) m x=wz v
|[],_,_,_,_,h,_,_=>by simp at h
|_::_,[],_,_,_,_,h,_=>by simp at h
|p::P,w::vs,0,m,nd,h1,h2,hk=>by
 simp at h1 h2;subst h1;subst h2;show bindL kindOf ((p,w)::P.zip vs) m p=_;unfold bindL;rw[HN λv a=>(nQ.mp nd).1 (F3 a).1,a9 hk];simp
|p::P,w::vs,i+1,m,nd,h1,h2,hk=>by
 unfold bindL;exact HP (i:=i) (nQ.mp nd).2 (by simpa using h1) (by simpa using h2) hk
theorem HR{kindOf:â->Option l6}:∀{P:List â}{vs}{i:Nat}{m:â->Option á},P.Nodup->P[i]?=wz x->vs[i]?=wz v->kindOf x≠wz .local ->
 bindC kindOf (P.zip vs) m x=wz v
|[],_,_,_,_,h,_,_=>by simp at h
|_::_,[],_,_,_,_,h,_=>by simp at h
|p::P,w::vs,0,m,nd,h1,h2,hk=>by
 simp at h1 h2;subst h1;subst h2;show bindC kindOf ((p,w)::P.zip vs) m p=_;unfold bindC;rw[HQ λv a=>(nQ.mp nd).1 (F3 a).1,a8 hk];simp
|p::P,w::vs,i+1,m,nd,h1,h2,hk=>by
 unfold bindC;exact HR (i:=i) (nQ.mp nd).2 (by simpa using h1) (by simpa using h2) hk
noncomputable def nW(N:List â)(vs:List V):St:=vs.map wz++IC (N.length-vs.length) wy
noncomputable def rW(CX:VN)(P:cV)(w:f7)(K:aF)(mg:â->Option á)(base:ç)(N:List â)(qual:â)(scope:Scope)(f:à)(cd:á)(A:d8)(outer:List Env)(s:ã)(H:Hp)(E:XK):Cx where
 prog:=P
 w:=w
 K:=K
 mg:=mg
 base:=base
 A:=A.deeper (i9 qual scope s.heap.objs.size f cd)
 N:=N
 s₀:=s
 H₀:=H
 env:=i9 qual scope s.heap.objs.size f cd
 outer:=outer
 stack:=i9 qual scope s.heap.objs.size f cd::outer
 ex:=[]
 calm:=wx
 fn:=λ_=>wx
 pn:=[]
 xe:=λe s'=>å (ä P w) (A.deeper (i9 qual scope s.heap.objs.size f cd)) (leaving (i9 qual scope s.heap.objs.size f cd) e) (λ_ qm=>CX outer H s E e qm) (λe' qm=>CX outer H s E e' qm) s'
def M0{a:Scope}{n:Nat}(h:a.names.lookup x=wz .cell):∃c,(u3 n a.names []).lookup x=wz c:=by
 exact nB.mp (KU a.names n [] (.inl h))
def UW{K}{mg:â->Option á}{N m:List â}{d:Scope}{f:à}{cd}{A:d8}{s F:ã}{vs:List V}
  (S:bQ N m d) (hd:A.handled=wy) (j:P6 P w K mg base A outer s H) (M:vs.length=m.length) (r:fW vs us)
  (x:InCallC s s.heap.objs.size (bindL (i9 qual d s.heap.objs.size f cd).kindOf (m.zip us) λ_=>wy) (u3 (s.heap.objs.size+1) d.names []) (bindC (i9 qual d s.heap.objs.size f cd).kindOf (m.zip us) λ_=>wy) F) :
  dI (rW CX P w K mg base N qual d f cd A outer s H E) [] (nW N vs) H F:=by
 have I:m.length<=N.length:=by have:=d6 jQ S.pre;rw[bU]at this;lia
 obtain⟨t,O,rfl,hk⟩:=x.done;have l:∀b:à,b∉(rW CX P w K mg base N qual d f cd A outer s H E).ex:=λb z=>b8 (show b∈([]:List à)from z) eH
 refine⟨⟨j.mod,S.kind,gC,gC,aN _,λy z c t g=>?_,λy hy=>?_,λy c _ h=>?_,λ_=>hd,eh j.frames,.inr ⟨gC,gC⟩,λb z=>b8 z (l b),j.bs,j.bsz,λb _ _=>l b,λb z=>b8 z (l b),j.funs,j.frf,j.tab⟩,
  rfl,j.bare,Un.kept hk,⟨_,x.toInCall.ns,λi y v t g L=>?_⟩,λy c h=>⟨_,x.cell y c h⟩,j.hok.fresh (aN _),λy c h=>?_,λp n=>b8 (show p∈([]:List (à×Obj))from n) eH,j.hok.kept hk,?_⟩
 ·exact name_of_addr x.apart (h8 t) (h8 g)
 ·rcases hy with hy | hy
  ·exact M0 hy
  ·exact b8 gC (S.nofree _ (h8 hy))
 ·exact jA (x.above y c (h8 h))
 ·have B:i<vs.length:=by
   unfold nW at g;by_cases B:i<vs.length
   ·exact B
   ·rw[eM (by simpa using B)]at g;rw[kZ]at g;split at g<;>cases g
  have G:vs[i]?=wz v:=by
   unfold nW at g;rw[eV (by simpa using B),aQ]at g
   cases e:vs[i]? with
   |none=>rw[e]at g;cases g
   |some a=>rw[e]at g;cases g;rfl
  obtain⟨u,C,J⟩:=r.get G
  have n:m[i]?=wz y:=by
   rw[<- S.pre,List.getElem?_take_of_lt cS];exact t
  have o:m.Nodup:=by rw[<- S.pre];exact S.nd.sublist (B9 _ _)
  refine⟨u,J,?_⟩;rcases S.par y (bD n)with k | k
  ·exact .inl ⟨k,HP o n C k⟩
  ·obtain⟨c,e⟩:=M0 k;refine .inr ⟨.inl k,c,e,?_⟩;have q:=x.cell y c e;rw[HR o n C (by show d.names.lookup y≠_;rw[k];decide)]at q;exact q
 ·exact j.hok.fresh (jA (x.above y c (h8 h)))
 ·unfold nW;show _=N.length;rw[aW,aC,List.length_replicate];lia
def Ci{K:aF}{mg:â->Option á}{k:Nat}{f:à}{name kV}
   {N l:List â} {C:Sp} (U:K.lookup f=wz ⟨oc,od,.func (oB name qual params body scope dV kV kx pm an ci ct),lz⟩) (m:qV K ci qual=wx) (S:bQ N l scope)
  (len:∀vs H Q E,C vs H Q E->vs.length=l.length)
  (d:∀A outer s H vs Q E,iE k (A.deeper (i9 qual scope s.heap.objs.size f ci))->C vs H Q E ->
   ∃t,BR (rW CX P w K mg base N qual scope f ci A outer s H E) body t/\t { nx:=λ_ c=>Q .non c,rt:=Q } (nW N vs) H) :
  lW P w K mg base CX (k+1) f (oB name qual params body scope dV kV kx pm an ci ct) l C:=by
 refine⟨len,λA outer s H G X vs Q E p i hb r j=>?_⟩;have F:=i.mod.kin.keeps λb o e=>(i.bs b o e).1
 have g:∀y∈l.zip X,scope.names.lookup y.1=wz .local\/(scope.names.lookup y.1=wz .cell/\((u3 (s.heap.objs.size+1) scope.names []).lookup y.1).isSome=wx):=λ⟨n,v⟩ T=>by
  rcases S.par n (F3 T).1 with q | q
  ·exact .inl q
  ·exact .inr ⟨q,KU _ _ _ (.inl q)⟩
 refine codeAny_call_function p.depth (F _ _ U) gC S.co S.gen gC (PySem.W.codeRec_of F m) (hb _ _ _ _ ?_);refine wpAny_newFunctionEnv_cells S.kind g λenv M L x=>?_;subst M;refine⟨(i.mod.nolimit.keeps λb o e=>(i.bs b o e).1).keeps x.toInCall.keep,codeAny_func ?_⟩;obtain⟨t,R,O⟩:=d A outer s H vs Q E (p.deeper _) j;have I:dI (rW CX P w K mg base N qual scope f ci A outer s H E) [] (nW N vs) H L:=UW S p.hd i (len _ _ _ _ j) r x;refine eE (R [] L (nW N vs) H _ I O) (λfl B h=>?_) λe B h=>h
 have fin:∀{a:St}{c:Hp}{v:V}{u:á},dI (rW CX P w K mg base N qual scope f ci A outer s H E) [] a c B->fQ v u->Q v c->CE outer P w H s Q u B:=
  λ{a c v u} J z q=>⟨v,c,J.os,J.bare,J.base,J.hok,z,q⟩
 cases fl with
 |ret u=>
  obtain⟨v,a,c,J,z,q⟩:=h;exact fin J z q
 |next=>
  obtain⟨a,c,J,q⟩:=h;exact fin (v:=V.non) J gC q
 |brk=>
  obtain⟨_,_,_,q⟩:=h;exact g9 q
 |cont=>
  obtain⟨_,_,_,q⟩:=h;exact g9 q
section
variable{X:Cx}{x:â}{p pos:Pos}{e:æ}{a:List æ}{t:TA}{id T:String}{r:List V->Hp->VK->Prop}
def WU(r:List V->Hp->VK->Prop)(t:TA):TE:=λc H Q=>t c H λvs b=>r vs b Q
def vK(k:lU X (.builtin id) r)(m:Gl X x)(n:X.mg x=wy)(q:d4 x=wz (.builtin id))(j:PA X (e::a) t)(o:autoParam (x≠"__name__") zzy._auto_1)(c:autoParam ((x==("__debug__":â))=false) zzy._auto_1)
  (l:autoParam (bZ (e::a) X.env=(ww,è e X.env)::bZ a X.env) zzz._auto_1) (d:autoParam ((j8 pos (bZ a X.env)).any (·.1)=false) zzz._auto_1):PE X (.Call (.Name x p) (e::a) [] pos) (WU r t):=by
 intro b s f H Q I h;refine n6 (vP I m n q ?_ o c);exact PyProof.Rows.callWith_builtin1 (iZ (j pos b s f H _ I h) λy w ⟨vs,g,i,v,u⟩=>k b w f g vs y Q i v u) l d
def oQ(k:lU X (.type T) r)(m:Gl X x)(n:X.mg x=wy)(q:d4 x=wz (.type T))(j:PA X (e::a) t)(o:autoParam (x≠"__name__") zzy._auto_1)(c:autoParam ((x==("__debug__":â))=false) zzy._auto_1)
  (l:autoParam (bZ (e::a) X.env=(ww,è e X.env)::bZ a X.env) zzz._auto_1) (d:autoParam ((j8 pos (bZ a X.env)).any (·.1)=false) zzz._auto_1):PE X (.Call (.Name x p) (e::a) [] pos) (WU r t):=by
 intro b s f H Q I h;refine n6 (vP I m n q ?_ o c);exact i6 (iZ (j pos b s f H _ I h) λy w ⟨vs,g,i,v,u⟩=>k b w f g vs y Q i v u) l d
end
end L2
namespace HT
section
variable{prog:cV}{w:f7}{A:d8}{E:á->ã->Prop}{s:ã}
def cat_tup{t b:à}{vs a:List á}{Q:á->ã->Prop}(v:mj s.heap t vs.toArray)(hb:mj s.heap b a.toArray)(m:vs≠[])
  (q:a=[]->Q (.ref t) s) (r:a≠[]->Q (.ref s.heap.objs.size) { s with heap:=s.heap.push { cls:=.type "tuple",data:=.seq (vs++a).toArray } })
  (j:vs.length+a.length<=bN):å (ä prog w) A (j9 .Add (.ref t) (.ref b)) Q E s:=by
 obtain⟨⟨cls,l,data,p⟩,g,u,n,hd⟩:=id v;obtain⟨⟨k,d,data2,f⟩,c,h,o,i⟩:=id hb;subst u hd h i;have e:vs.toArray++a.toArray=(vs++a).toArray:=by simp
 by_cases hw:a=[]
 ·exact bt ⟨_,g,gC⟩ ⟨_,c,gC⟩ cu ir uG tK (sB _ _)
   (tuple_addW1 t b vs.toArray a.toArray n o l d p f (by simpa using m) (by simp[hw])) ⟨g,c,q hw⟩
 ·refine bt ⟨_,g,gC⟩ ⟨_,c,gC⟩ cu ir uG tK (sB _ _)
   (tuple_addW2 t b vs.toArray a.toArray n o l d p f (by simpa using m) (by simpa using hw) (by rw[bI,bI];exact j)) ⟨g,c,?_⟩
  rw[e];exact r hw
noncomputable def sIx(n d:Nat):Option Int->Nat
|none=>d
|some v=>if v<0 then(v+(n:Int)).toNat else min v.toNat n
def sIx_none(n d:Nat):sIx n d wy=d:=rfl
def sIx_nat(n d k:Nat):sIx n d (wz (k:Int))=min k n:=by
 show(if(k:Int)<0 then((k:Int)+(n:Int)).toNat else min (k:Int).toNat n)=min k n;rw[a8 cS,CY]
def sIx_le(n d:Nat)(hd:d<=n)(o:Option Int):sIx n d o<=n:=by
 cases o with
 |none=>exact hd
 |some v=>
  show(if v<0 then(v+(n:Int)).toNat else min v.toNat n)<=n;by_cases a:v<0
  ·rw[a9 a];lia
  ·rw[a8 a];exact Nat.min_le_right _ _
def clip_eq(v:Int)(n d:Nat):(if v<0 then max (v+(n:Int)) 0 else min v (n:Int))=((sIx n d (wz v):Nat):Int):=by
 show(if v<0 then max (v+(n:Int)) 0 else min v (n:Int))=(((if v<0 then(v+(n:Int)).toNat else min v.toNat n):Nat):Int);by_cases a:v<0
 ·simp only[a9 a];lia
 ·simp only[a8 a];lia
def PX(lo a:Option Int)(n:Nat):o4 lo a 1 (n:Int)=(((sIx n 0 lo:Nat):Int),((sIx n n a:Nat):Int)):=by
 have b:¬((1:Int)<0):=by lia
 unfold o4;refine Prod.ext ?_ ?_
 ·cases lo with
  |none=>rfl
  |some v=>exact clip_eq v n 0
 ·cases a with
  |none=>rfl
  |some v=>exact clip_eq v n n
def N7(i j:Nat):l0 (i:Int) (j:Int) 1=j-i:=by
 unfold l0;have a:(1:Int)>0:=by lia
 split<;>lia
def D0{Q:Option Int->ã->Prop}(p:IsPart v o)(h:Q o s):å (ä prog w) A (Builtin.Slice.slicePartIndex v) Q E s:=by
 cases p with
 |none=>exact slicePart_none h
 |int i t=>exact slicePart_int h
def sO{d:à}{lo}{n:Nat}{Q:Int×Int×Nat->ã->Prop}(f:s.heap.IsSliceOf d vl vu .none)(g:IsPart vl lo)(i:IsPart vu b)
  (h:Q (((sIx n 0 lo:Nat):Int),1,sIx n n b-sIx n 0 lo) s):å (ä prog w) A (Builtin.Slice.sliceApplied (.ref d) (pure (n:Int))) Q E s:=by
 obtain⟨os,c,e,a⟩:=id f;refine aI (aI (e8 c a gC (aI (e8 c a gC (aI (e8 c a gC (bH ?_)))))));refine aI (slicePart_none ?_);rw[a8 cR];refine aI (D0 g (aI (D0 i (aI (bH ?_)))));show å _ _ (match o4 lo b 1 (n:Int)with | (lo,b)=>pure (lo,(1:Int),l0 lo b 1)) _ _ s;rw[PX lo b n];show å _ _ (pure (((sIx n 0 lo:Nat):Int),(1:Int),l0 ((sIx n 0 lo:Nat):Int) ((sIx n n b:Nat):Int) 1)) _ _ s;rw[N7];exact bH h
def X5(a:Array á)(i k:Nat):((gO k).filterMap λ(m:Nat)=>a[((i:Int)+(m:Int)*1).toNat]?).toArray=((a.toList.drop i).take k).toArray:=by
 have e:(λ(m:Nat)=>a[((i:Int)+(m:Int)*1).toNat]?)=λm=>a[i+m]?:=by
  funext m;have:((i:Int)+(m:Int)*1).toNat=i+m:=by lia
  rw[this]
 rw[e];have:=pick_run a i k;rw[V5]at this;have b:((λx=>a[x]?)∘λx=>i+x)=λm=>a[i+m]?:=rfl;rw[b]at this;rw[this]
def getItem_tuple_cut{t i:à}{a:Array á}{lo}{Q:á->ã->Prop}(c:mj s.heap t a)(g:s.heap.IsSliceOf i vl vu .none)(l:IsPart vl lo)(m:IsPart vu hi)
  (hw:¬(sIx a.size 0 lo=0/\sIx a.size a.size hi=a.size))
  (h:Q (.ref s.heap.objs.size) { s with heap:=s.heap.push { cls:=.type "tuple",data:=.seq ((a.toList.drop (sIx a.size 0 lo)).take (sIx a.size a.size hi-sIx a.size 0 lo)).toArray } })
  (k:a.size<=bN):å (ä prog w) A (v0 (.ref t) (.ref i)) Q E s:=by
 have b:sizeOk (.seq ((a.toList.drop (sIx a.size 0 lo)).take (sIx a.size a.size hi-sIx a.size 0 lo)).toArray):=by
  show((a.toList.drop (sIx a.size 0 lo)).take (sIx a.size a.size hi-sIx a.size 0 lo)).toArray.size<=bN;rw[bI,bU,eI,fT];lia
 obtain⟨os,f,d,j⟩:=id g;unfold v0
 try with_reducible refine m8 ?_
 first | refine aI (bH ?_) | skip
 refine aI (nh c.typeIs cR ?_)
 refine aI (j4 c.typeIs j6
  (nN j6 c.typeIs la ?_ (lj _ _)))
 show å _ _ (aa (.ref t) >>= _) _ _ s;refine aI (tupleItemsOf_ c ?_);refine aI (kc (⟨os,f,d⟩) ?_);rw[a9 cR];refine aI (sO g l m ?_)
 have e:¬((((sIx a.size 0 lo:Nat):Int)==0&&(1:Int)==1&&(sIx a.size a.size hi-sIx a.size 0 lo)==a.size)=wx):=by
  intro q;rw[cU,cU]at q;have n:=aw q.1.1;have o:=aw q.2;exact hw ⟨cS,cS⟩
 show å _ _ (if(((sIx a.size 0 lo:Nat):Int)==0&&(1:Int)==1&&(sIx a.size a.size hi-sIx a.size 0 lo)==a.size)=wx then _ else _) _ _ s;rw[a8 e,X5]
 first
  |exact aI (jL (bH ⟨_,gC,bH h⟩) b)
  |exact aI (jL (aI (bH (bH ⟨_,gC,bH h⟩))) b)
  |exact aI (aI (jL (bH (bH ⟨_,gC,bH h⟩)) b))
  |exact aI (aI (jL (bH ⟨_,gC,bH h⟩) b))
end
end HT
namespace L2
abbrev TO:=St->Hp->(Option Int->Hp->Prop)->Prop
def PO(X:Cx)(e:Option æ)(t:TO):Prop:=
 ∀a s b H Q,dI X a b H s->t b H Q ->
  å (ä X.prog X.w) X.A (evalPart e X.env) (λu d=>∃o c,dI X a b c d/\IsPart u o/\Q o c) X.xe s
def aB3:TO:=λ_ H Q=>Q wy H
def Wa(t:TE):TO:=λb H Q=>t b H λx a=>∃i,x=.int i/\Q (wz i) a
section
variable{X:Cx}{e:æ}{d:TE}{lo c:Option æ}{f th:TO}{pos g:Pos}
def aDc:PO X wy aB3:=by
 intro a s b H Q I h;rw[evalPart_none];exact bH ⟨wy,H,I,.none,h⟩
def aDb(h:PE X e d):PO X (wz e) (Wa d):=by
 intro a s n H Q I hw;rw[evalPart_some];refine iZ (h a s n H _ I hw) λu o m=>?_;obtain⟨x,b,j,l,k⟩:=m;obtain⟨i,rfl,q⟩:=k;obtain⟨t,rfl⟩:=l;exact⟨wz i,b,j,.int i t,q⟩
def gV(X:Cx)(r:V->Option Int->Option Int->Hp->VK->Prop):Prop:=
 ∀a s j H x v h i lo c b Q,dI X a j H s->fQ x v->s.heap.IsSliceOf b h i .none->IsPart h lo->IsPart i c->r x lo c H Q ->
  ∃T id,typeLookup (.type T) "__getitem__"=pure (wz (.builtin id))/\s.TypeIs v T/\å (ä X.prog X.w) X.A (v0 v (.ref b)) (EP X a j Q) X.xe s
def gV.or{r k:V->Option Int->Option Int->Hp->VK->Prop}(h:gV X r)(t:gV X k):gV X (λx lo c H Q=>r x lo c H Q\/k x lo c H Q):=by
 intro a s p H x v n o lo c m Q I l b i j q;rcases q with q | q
 ·exact h a s p H x v n o lo c m Q I l b i j q
 ·exact t a s p H x v n o lo c m Q I l b i j q
def Iw(r:V->Option Int->Option Int->Hp->VK->Prop)(d:TE)(f th:TO):TE:=λa H Q=>d a H λx b=>f a b λl h=>th a h λu H3=>r x l u H3 Q
def YA{r:V->Option Int->Option Int->Hp->VK->Prop}(C:gV X r)(z:PE X e d)(B:PO X lo f)(F:PO X c th):PE X (.Subscript e (.Slice lo c wy g) pos) (Iw r d f th):=by
 intro a s i H Q I h;refine li (iZ (z a s i H _ I h) λv O j=>?_);obtain⟨x,n,p,N,K⟩:=j;refine wpAny_Slice (iZ (B a O i n _ p K) λk P ⟨l,o,t,G,L⟩=>iZ (F a P i o _ t L) λm s3 j=>?_);obtain⟨u,H3,w,J,M⟩:=j;rw[evalPart_none];refine bH ?_;obtain⟨T,id,y,E,A⟩:=C a { s3 with heap:=s3.heap.push { cls:=.type "slice",data:=.fields #[k,m,.none] } } i H3 x v k m l u s3.heap.objs.size Q (w.kept (t':=s3.toks) λb ob q=>aD _ q) N (Heap.IsSliceOf.new ..) G J M;exact tail_any E y A (by with_unfolding_all rfl)
noncomputable def PN(a:List V)(lo c:Option Int):List V:=(a.drop (HT.sIx a.length 0 lo)).take (HT.sIx a.length a.length c-HT.sIx a.length 0 lo)
def B5(a:List V)(lo c:Option Int):(PN a lo c).length<=a.length:=by
 unfold PN;rw[bU,eI];lia
def Ks(K:aF):V->Option Int->Option Int->Hp->VK->Prop:=λx lo c H Q=>∃a b,x=.ref a/\rL K H a b /\
 ¬(HT.sIx b.length 0 lo=0/\HT.sIx b.length b.length c=b.length)/\∀p,H p=wy->Q (.ref p) (eY H p (.tup (PN b lo c)))
def Xw:gV X (Ks X.K):=by
 intro n s B H x v z A lo c y Q I w o t u h;obtain⟨a,j,rfl,p,hw,q⟩:=h;cases w;obtain⟨k,r,l,m⟩:=I.tuple p;have i:k.toArray.size=j.length:=by rw[bI];exact r.length.symm
 refine⟨"tuple",_,PyProof.Rows.slot_tuple_getitem.lookup,l.typeIs,?_⟩;refine HT.getItem_tuple_cut l o t u (by rw[i];exact hw) ?_ (by rw[i];exact m);rw[i];refine⟨.ref s.heap.objs.size,_,I.laid (λb ob q=>aD _ q) (aN _) ?_,gC,q _ (I.hok.fresh (aN _))⟩;exact⟨aY (B5 j lo c) m,_,(r.drop (HT.sIx j.length 0 lo)).take (HT.sIx j.length j.length c-HT.sIx j.length 0 lo),GF.new _ _⟩
def Pc(K:aF):R2:=λx y H Q=>∃a b i h,x=.ref a/\y=.ref b/\rL K H a i/\rL K H b h/\i≠[]/\i.length+h.length<=bN /\
 (h=[]->Q (.ref a) H)/\(h≠[]->∀p,H p=wy->Q (.ref p) (eY H p (.tup (i++h))))
def fW.nil_iff(r:fW xs us):us=[]↔xs=[]:=by
 cases r with
 |nil=>simp
 |cons _ _=>simp
def aDk:oE X (j9 .Add) (Pc X.K):=by
 intro m s G H x y v u Q I B C h;obtain⟨a,b,E,F,rfl,rfl,n,hb,o,k,t,A⟩:=h;cases B;cases C;obtain⟨p,j,r,_⟩:=I.tuple n;obtain⟨l,i,g,_⟩:=I.tuple hb;refine HT.cat_tup r g (λz=>o (j.nil_iff.mp z)) (λz=>⟨.ref a,H,I,gC,t (i.nil_iff.mp z)⟩) (λz=>?_) (by rw[<- j.length,<- i.length];exact k);refine⟨.ref s.heap.objs.size,_,I.laid (λb ob q=>aD _ q) (aN _) ?_,gC,A (λw=>z (i.nil_iff.mpr w)) _ (I.hok.fresh (aN _))⟩;exact⟨by rw[aW];exact k,_,j.append i,GF.new _ _⟩
end
noncomputable def VX(n:Nat)(i:Int):Option Nat:=if 0<=i then(if i<n then wz i.toNat else wy)else if -(n:Int)<=i then wz (i+n).toNat else wy
noncomputable def atI{b:Type}(a:List b)(i:Int):Option b:=(VX a.length i).bind λj=>a[j]?
def R1{n:Nat}{i:Int}{j:Nat}(h:VX n i=wz j):seqIndex? i n=wz j/\j<n/\-(n:Int)<=i/\i<n:=by
 unfold VX at h;by_cases b:0<=i
 ·rw[a9 b]at h;by_cases a:i<n
  ·rw[a9 a]at h;have e:=c8 h;exact⟨by rw[kr b a,e],cS,cS,a⟩
  ·rw[a8 a]at h;cases h
 ·rw[a8 b]at h;by_cases a:-(n:Int)<=i
  ·rw[a9 a]at h;have e:=c8 h;exact⟨by rw[jz cS a,e],cS,a,cS⟩
  ·rw[a8 a]at h;cases h
def KJ{g:Type}{a:List g}{i:Int}{v}(h:atI a i=wz v):∃j,seqIndex? i a.length=wz j/\a[j]?=wz v/\j<a.length/\-(a.length:Int)<=i/\i<a.length:=by
 unfold atI at h
 cases e:VX a.length i with
 |none=>rw[e]at h;cases h
 |some j=>
  rw[e]at h;obtain⟨b,c,d,f⟩:=R1 e;exact⟨j,b,h,c,d,f⟩
def eR{b:Type}{a:List b}{j:Nat}{v:b}(h:a[j]?=wz v):atI a (j:Int)=wz v:=by
 have c:=(aL.mp h).1
 have e:VX a.length (j:Int)=wz j:=by
  unfold VX;rw[a9 cS,a9 cS];simp
 unfold atI;rw[e];exact h
def M7{b:Type}(a:List b)(v:b):atI (a++[v]) (-1)=wz v:=by
 have c:(a++[v]).length=a.length+1:=by simp
 have e:VX (a++[v]).length (-1)=wz a.length:=by
  unfold VX;rw[c,a8 cR,a9 cS];congr 1;lia
 unfold atI;rw[e];simp
def DJ(b:æ):Prop:=∀o i,dv b ww o i=operate [o,i] (v0 o i)
def hA(X:Cx)(r:R2):Prop:=
 ∀c a b s d H x y v u Q,dI X b d H s->fQ x v->fQ y u->r x y H Q ->
  dv a ww v u=operate [v,u] (v0 v u)->å (ä X.prog X.w) X.A (subscriptTail c a v u) (EP X b d Q) X.xe s
def NJ(X:Cx)(id:String)(r:V->List V->Hp->VK->Prop):Prop:=
 ∀a s d H x c v b Q,dI X a d H s->fQ x v->fW c b->r x c H Q ->
  å (ä X.prog X.w) X.A (call (.builtin id) (v::b)) (EP X a d Q) X.xe s
section
variable{X:Cx}{a b:æ}{B C:TE}{pos:Pos}
def hA.or{r g:R2}(h:hA X r)(l:hA X g):hA X (λx y H Q=>r x y H Q\/g x y H Q):=by
 intro d c e s k H x y v u Q I i j q f;rcases q with q | q
 ·exact h d c e s k H x y v u Q I i j q f
 ·exact l d c e s k H x y v u Q I i j q f
def uI(g:hA X r)(f:PE X a B)(hb:PE X b C)(i:DJ b):PE X (.Subscript a b pos) (yf r B C):=by
 intro c s m H Q I h;exact li (Bd f hb I h λv u l x y d e j k q=>g a b c l m d x y v u Q e j k q (i _ _))
def Ec(K:aF):R2:=λx y H Q=>∃p c i v,x=.ref p/\y=.int i/\nM K H p c/\atI c i=wz v/\Q v H
def Ee(K:aF):R2:=λx y H Q=>∃p c i v,x=.ref p/\y=.int i/\rL K H p c/\atI c i=wz v/\Q v H
def Ed:R2:=λx y H Q=>∃z i c,x=.str z/\y=.int i/\z.length<=bN/\atI z.cps.toList i=wz c/\Q (.str ⟨#[c]⟩) H
def Zz:hA X (Ec X.K):=by
 intro m l c s P H x y v u Q I N O h A;obtain⟨p,U,i,z,rfl,rfl,M,J,q⟩:=h;cases N;obtain⟨t,rfl⟩:=O;obtain⟨f,r,g,T⟩:=I.list M;obtain⟨j,d,E,R,F,G⟩:=KJ J;obtain⟨w,n,k⟩:=r.get E;have L:=r.length;have S:=BA;have fin:EP X c P Q w s:=⟨z,H,I,k,q⟩;by_cases o:0<=i
 ·have e:i.toNat=j:=by
   rw[kr o G]at d;exact c8 d
  exact item_listR g.isList o cS (by rw[e];simpa using n) fin A
 ·have e:(i+(f.toArray.size:Int)).toNat=j:=by
   rw[jz cS F]at d;rw[bI,<- L];exact c8 d
  exact ka g.isList.typeIs slot_list_getitem.lookup
   (wpAny_getItem_list_neg g.isList cS (by rw[bI]<;>lia) cS (by rw[e];simpa using n) ⟨gC,fin⟩) A
def Wu:hA X (Ee X.K):=by
 intro e d f s R H x y v u Q I F G h A;obtain⟨p,P,i,z,rfl,rfl,o,n,q⟩:=h;cases F;obtain⟨t,rfl⟩:=G;obtain⟨E,r,g,O⟩:=I.tuple o;obtain⟨j,l,m,J,L,M⟩:=KJ n;obtain⟨w,k,c⟩:=r.get m;have N:=BA
 exact ka g.typeIs slot_tuple_getitem.lookup
  (getItem_tuple g cS cS (by rw[bI,<- r.length];exact l) (by simpa using k) ⟨gC,(⟨z,H,I,c,q⟩)⟩) A
def Wt:hA X Ed:=by
 intro e d g s J H x y v u Q I r w h p;obtain⟨z,i,c,rfl,rfl,F,n,q⟩:=h;obtain⟨t,rfl⟩:=r;obtain⟨G,rfl⟩:=w;obtain⟨j,f,k,A,l,m⟩:=KJ n;have o:z.cps.toList.length=z.length:=by simp[h9]
 rw[o]at f l m;have E:=BA
 exact tail_any (z7 s z t) slot_str_getitem.lookup (getItem_str (by
  rw[(c6 cS),(c6 cS),aK1]) (by rw[f];simpa using k) ⟨.str ⟨#[c]⟩,H,I.tok _,⟨_,gC⟩,q⟩) p
def zj(K:aF):R2:=λx y H Q=>Ec K x y H Q\/Ee K x y H Q\/Ed x y H Q
def aV:hA X (zj X.K):=Zz.or (Wu.or Wt)
def OO(c:List á)(n j:Nat)(u:á):e7 (·.setIfInBounds j u) { cls:=.type "list",data:=.seq c.toArray n }={ cls:=.type "list",data:=.seq (c.set j u).toArray n }:=by
 simp[e7]
theorem dI.lst{pins σ H}{s:ã}{p:à}{d:List V}(I:dI X pins σ H s)(h:H p=wz (.lst d)) :
  ∃c n,fW d c/\s.heap.get? p=wz { cls:=.type "list",data:=.seq c.toArray n }/\d.length<=bN:=by
 obtain⟨z,c,n,r,e⟩:=I.hok p _ h;exact⟨c,n,r,e,z⟩
def dI.lstUpd{s:ã}{p:à}{m i:List V}{d c:List á}{n g:Nat}{f:Obj->Obj}(I:dI X pins σ H s)(h:H p=wz (.lst m))
  (k:s.heap.get? p=wz { cls:=.type "list",data:=.seq d.toArray n }) (j:f { cls:=.type "list",data:=.seq d.toArray n }={ cls:=.type "list",data:=.seq c.toArray g }) (r:fW i c) (l:i.length<=bN) (t:Nat) :
  dI X pins σ (eY H p (.lst i)) { s with heap:=s.heap.update p f,toks:=t }:=by
 have e:(s.heap.update p f).get? p=wz { cls:=.type "list",data:=.seq c.toArray g }:=by
  rw[pK f k (by rw[j]<;>rfl),j]
 refine I.write (by rw[h];trivial) (.inl gC) (λb u hb q=>(gH _ _ (i0 hb)).trans q) ⟨_,e⟩ ?_;exact⟨l,c,g,r,e⟩
def Go:V->V->V->Hp->(Hp->Prop)->Prop:=λo i v H Q=>∃p c k j,o=.ref p/\i=.int k/\H p=wz (.lst c)/\VX c.length k=wz j/\Q (eY H p (.lst (c.set j v)))
def D3:Dk X Go:=by
 intro d s J H o i v N M u Q I ro E F h;obtain⟨p,G,k,j,rfl,rfl,y,z,q⟩:=h;cases ro;obtain⟨t,rfl⟩:=E;obtain⟨c,n,r,g,A⟩:=I.lst y;obtain⟨e,K,w,x⟩:=R1 z;have f:=r.length;have L:=BA
 have l:dI X d J (eY H p (.lst (G.set j v))) { s with heap:=s.heap.update p (e7 (·.setIfInBounds j u)) }:=
  I.lstUpd y g (OO c n j u) (r.set F j) (by rw[List.length_set];exact A) s.toks
 by_cases m:0<=k
 ·have hk:k.toNat=j:=by
   rw[kr m x]at e;exact c8 e
  exact PySem.W.ki_setAt g m cS (by rw[bI,<- f];exact x) (by rw[hk];exact⟨_,l,q⟩)
 ·have hk:(k+(c.toArray.size:Int)).toNat=j:=by
   rw[jz cS w]at e;rw[bI,<- f];exact c8 e
  exact PySem.W.ki_setBack g cS (by rw[bI,<- f];exact w) cS (by rw[hk];exact⟨_,l,q⟩)
def IQ(lo c:Option Int)(n:Nat):(t5 lo c wy n).1=((HT.sIx n 0 lo:Nat):Int)/\(t5 lo c wy n).2.1=((HT.sIx n n c:Nat):Int)/\(t5 lo c wy n).2.2=1:=by
 refine⟨?_,?_,gC⟩
 ·cases lo with
  |none=>simp[t5,HT.sIx]
  |some i=>
   simp only[t5,HT.sIx,V1,show(1:Int)>0 by decide,ew];by_cases h:i<0
   ·simp only[h,ew]<;>lia
   ·simp only[h,eu]<;>lia
 ·cases c with
  |none=>simp[t5,HT.sIx]
  |some i=>
   simp only[t5,HT.sIx,V1,show(1:Int)>0 by decide,ew];by_cases h:i<0
   ·simp only[h,ew]<;>lia
   ·simp only[h,eu]<;>lia
def F7(c:List á)(lo d:Option Int):slicePick c.toArray lo d wy=((c.drop (HT.sIx c.length 0 lo)).take (HT.sIx c.length c.length d-HT.sIx c.length 0 lo)).toArray:=by
 obtain⟨e,f,g⟩:=IQ lo d c.toArray.size;unfold slicePick;rw[e,f,g];simp only[sliceRange_one,pick_run,bI]<;>rfl
def Ef(K:aF):V->Option Int->Option Int->Hp->VK->Prop:=λx lo d H Q=>∃a c,x=.ref a/\nM K H a c/\∀p,H p=wy->Q (.ref p) (eY H p (.lst (PN c lo d)))
def aCw:gV X (Ef X.K):=by
 intro g s w H x v t u lo e p Q I o i m n h;obtain⟨a,d,rfl,j,q⟩:=h;cases o;obtain⟨l,r,f,k⟩:=I.list j;have c:=r.length;refine⟨"list",_,slot_list_getitem.lookup,f.isList.typeIs,?_⟩;refine wpAny_getItem_list_slice f.isList i m n .none eH ?_ (by rw[bI]<;>lia);rw[F7,<- c];refine⟨.ref s.heap.objs.size,_,I.laid (λb ob q=>aD _ q) (aN _) ?_,gC,q _ (I.hok.fresh (aN _))⟩;exact⟨aY (B5 d lo e) k,_,0,(r.drop (HT.sIx d.length 0 lo)).take (HT.sIx d.length d.length e-HT.sIx d.length 0 lo),aX _ gC⟩
noncomputable def zW:V->Bool
|.non=>wx
|.bl _=>wx
|.int _=>wx
|.str _=>wx
|_=>ww
noncomputable def oD:V->V->Bool
|.non,.non=>wx
|.bl a,.bl b=>a==b
|.bl a,.int b=>(if a then 1 else 0)==b
|.int a,.bl b=>a==(if b then 1 else 0)
|.int a,.int b=>a==b
|.str a,.str b=>a==b
|_,_=>ww
def Wk(f:fQ y u)(c:fQ x v)(g:zW y=wx)(e:zW x=wx):SeqAt.EqAt A s u v (oD y x):=by
 cases y with
 |non=>
  cases f
  cases x with
  |non=>cases c;exact SeqAt.EqAt.same _
  |bl b=>cases c;exact SeqAt.EqAt.none_bool b
  |int b=>obtain⟨t,rfl⟩:=c;exact SeqAt.EqAt.none_int b t
  |str b=>obtain⟨t,rfl⟩:=c;exact SeqAt.EqAt.none_str b t
  |_=>exact b8 (show ww=wx from e) bX
 |bl a=>
  cases f
  cases x with
  |non=>cases c;exact SeqAt.EqAt.bool_none a
  |bl b=>cases c;exact SeqAt.EqAt.bool_bool a b
  |int b=>obtain⟨t,rfl⟩:=c;exact SeqAt.EqAt.bool_int a b t
  |str b=>obtain⟨t,rfl⟩:=c;exact SeqAt.EqAt.bool_str a b t
  |_=>exact b8 (show ww=wx from e) bX
 |int a=>
  obtain⟨d,rfl⟩:=f
  cases x with
  |non=>cases c;exact SeqAt.EqAt.int_none a d
  |bl b=>cases c;exact SeqAt.EqAt.int_bool a d b
  |int b=>obtain⟨t,rfl⟩:=c;exact SeqAt.EqAt.int_int a d b t
  |str b=>obtain⟨t,rfl⟩:=c;exact dq a d b t
  |_=>exact b8 (show ww=wx from e) bX
 |str a=>
  obtain⟨d,rfl⟩:=f
  cases x with
  |non=>cases c;exact SeqAt.EqAt.str_none a d
  |bl b=>cases c;exact SeqAt.EqAt.str_bool a d b
  |int b=>obtain⟨t,rfl⟩:=c;exact dr a d b t
  |str b=>obtain⟨t,rfl⟩:=c;exact SeqAt.EqAt.str_str a d b t
  |_=>exact b8 (show ww=wx from e) bX
 |_=>exact b8 (show ww=wx from g) bX
noncomputable def oT(x:V)(u:á):Bool:=match u with
|.none=>oD .non x
|.bool b=>oD (.bl b) x
|.int i _=>oD (.int i) x
|.str z _=>oD (.str z) x
|_=>ww
def Ic(r:fQ y u)(f:zW y=wx):oT x u=oD y x:=by
 cases y with
 |non=>cases r;rfl
 |bl b=>cases r;rfl
 |int i=>obtain⟨t,rfl⟩:=r;rfl
 |str z=>obtain⟨t,rfl⟩:=r;rfl
 |_=>exact b8 (show ww=wx from f) bX
theorem KN:∀{c:List V}{d:List á},fW c d->c.all zW=wx->d.any (oT x)=c.any λy=>oD y x
|_,_,.nil,_=>rfl
|y::c,u::d,.cons r t,f=>by
 rw[K4,cU]at f;rw[kJ,kJ,Ic r f.1,KN t f.2]
theorem EN(e:fQ x v)(d:zW x=wx):∀{c:List V}{us},fW c us->c.all zW=wx->∀u∈us,SeqAt.EqAt A s u v (oT x u)
|_,_,.nil,_=>λu hu=>by cases hu
|y::c,u::us,.cons r t,f=>λg hu=>by
 rw[K4,cU]at f;rcases aO.mp hu with rfl | hu
 ·rw[Ic r f.1];exact Wk r e f.1 d
 ·exact EN e d t f.2 g hu
noncomputable def zm(x:V)(c:List V):Bool:=c.any λy=>oD y x
def Dc(K:aF)(d:Bool):R2:=λx y H Q=>∃p c,y=.ref p/\(nM K H p c\/rL K H p c)/\zW x=wx/\c.all zW=wx/\Q (.bl (if d then !zm x c else zm x c)) H
def UA:oE X (c9 .In) (Dc X.K ww):=by
 intro f s l H x y v u Q I g j h;obtain⟨p,k,rfl,hq,e,fs,q⟩:=h;cases j;rcases hq with hq | hq
 ·obtain⟨c,r,d,i⟩:=I.list hq;refine SeqAt.in_listAt (oT x) d.isList (λw hw=>EN g e r fs w (by simpa using hw)) ⟨.bl _,H,I,gC,?_⟩;rw[show c.toArray.any (oT x)=c.any (oT x) by simp,KN r fs];exact q
 ·obtain⟨c,r,d,i⟩:=I.tuple hq;refine SeqAt.in_tupleAt (oT x) d (λw hw=>EN g e r fs w (by simpa using hw)) ⟨.bl _,H,I,gC,?_⟩;rw[show c.toArray.any (oT x)=c.any (oT x) by simp,KN r fs];exact q
def KE:lU X (.builtin "len") (λj H Q=>∃p d,j=[.ref p]/\(nM X.K H p d\/rL X.K H p d)/\Q (.int d.length) H):=by
 intro i s o H j n Q I r h;obtain⟨p,d,rfl,hq,q⟩:=h;obtain⟨u,rfl,l⟩:=nU r;cases l;have m:=BA;rcases hq with hq | hq
 ·obtain⟨e,g,f,k⟩:=I.list hq;have c:=g.length;exact Calls.call_len_list f.isList (by simp only[bI]<;>lia) ⟨.int d.length,H,I.tok _,⟨s.toks+1,by rw[bI,c]⟩,q⟩
 ·obtain⟨e,g,f,k⟩:=I.tuple hq;have c:=g.length;exact len_tuple f (by simp only[bI]<;>lia) ⟨.int d.length,H,I.tok _,⟨s.toks+1,by rw[bI,c]⟩,q⟩
def KD:lU X (.builtin "len") (λd H Q=>∃z,d=[.str z]/\z.length<=bN/\Q (.int z.length) H):=by
 intro c s i H d g Q I r h;obtain⟨z,rfl,f,q⟩:=h;obtain⟨u,rfl,t,rfl⟩:=nU r;have e:=BA;exact len_str cS ⟨.int z.length,H,I.tok _,⟨_,gC⟩,q⟩
def lU.or{r e:List V->Hp->VK->Prop}(h:lU X f r)(j:lU X f e):lU X f (λd H Q=>r d H Q\/e d H Q):=by
 intro c s i H d g Q I rs q;rcases q with q | q
 ·exact h c s i H d g Q I rs q
 ·exact j c s i H d g Q I rs q
def iF:lU X (.type "tuple") (λv H Q=>∃p d,v=[.ref p]/\((nM X.K H p d/\∀l,H l=wy->Q (.ref l) (eY H l (.tup d)))\/(rL X.K H p d/\Q (.ref p) H))):=by
 intro f s z H v A Q I r h;obtain⟨p,d,rfl,h⟩:=h;obtain⟨u,rfl,y⟩:=nU r;cases y;rcases h with⟨i,q⟩ | ⟨i,q⟩
 ·obtain⟨c,k,j,t⟩:=I.list i;have n:=k.length;refine call_tuple_list j.isList (λg kp=>?_) (by simp only[bI]<;>lia);have m:=I.kept (t':=s.toks) kp
  have x:dI X f z (eY H g.objs.size (.tup d)) { s with heap:=g.push { cls:=.type "tuple",data:=.seq c.toArray } }:=
   m.laid (t':=s.toks) (λb o e=>aD _ e) (aN _) (show jC X.prog X.w _ _ _ (.tup d)from⟨t,c,k,GF.new _ _⟩)
  exact⟨.ref g.objs.size,_,x,gC,q _ (m.hok.fresh (aN _))⟩
 ·obtain⟨c,k,j,t⟩:=I.tuple i;exact call_tuple_same j ⟨.ref p,H,I,gC,q⟩
def Al(K:aF)(T:String)(x:V)(H:Hp):Prop:=match x with
|.str _=>T="str"
|.int _=>T="int"
|.ref p=>(T="list"/\∃c,nM K H p c)\/(T="tuple"/\((∃o,K.lookup p=wz o/\o.cls=.type "tuple"/\o.dict=wy)\/∃c,rL K H p c)) \/
  (T="dict"/\((∃kvs,H p=wz (.dK kvs))\/∃kvs,H p=wz (.dT kvs)))\/(T="set"/\∃S n,H p=wz (.set S n))
|_=>False
def WJ{s:ã}(I:dI X pins σ H s)(r:fQ x v)(ty:Al X.K T x H) :
  s.TypeIs v T/\∀a,v=.ref a->∃ob,s.heap.get? a=wz ob/\ob.dict=none:=by
 cases x with
 |str z=>
  obtain⟨t,rfl⟩:=r;cases (show T="str" from ty);exact⟨z7 s z t,λ_ e=>nomatch e⟩
 |int i=>
  obtain⟨t,rfl⟩:=r;cases (show T="int" from ty);exact⟨typeIs_int s i t,λ_ e=>nomatch e⟩
 |ref p=>
  cases r;rcases ty with⟨rfl,k,g⟩ | ⟨rfl,⟨o,hk,f,hd⟩ | ⟨k,g⟩⟩ | ⟨rfl,hk⟩ | ⟨rfl,S,n,hk⟩
  ·obtain⟨j,_,h,_⟩:=I.list g;refine⟨h.isList.typeIs,λa e=>?_⟩;cases e;obtain⟨o,n,e,c,hd,_⟩:=h;exact⟨o,e,hd⟩
  ·refine⟨⟨o,I.kIn p o hk,f⟩,λa e=>?_⟩;cases e;exact⟨o,I.kIn _ o hk,hd⟩
  ·obtain⟨o,e,f,hd⟩:=I.tupleN g;refine⟨⟨o,e,f⟩,λa d=>?_⟩;cases d;exact⟨o,e,hd⟩
  ·have z:∃o,s.heap.get? p=wz o/\o.ExactDict:=by
    rcases hk with⟨kvs,hk⟩ | ⟨kvs,hk⟩
    ·obtain⟨_,_,_,_,o,_,_,e,ex,_⟩:=I.hok p _ hk;exact⟨o,e,ex⟩
    ·obtain⟨_,_,_,_,o,_,_,e,ex,_⟩:=I.hok p _ hk;exact⟨o,e,ex⟩
   obtain⟨o,e,ex⟩:=z;refine⟨⟨o,e,ex.1⟩,λa d=>?_⟩;cases d;exact⟨o,e,ex.2.1⟩
  ·obtain⟨o,_,_,_,e,ex,_⟩:=I.hok p _ hk;refine⟨⟨o,e,ex.1⟩,λa d=>?_⟩;cases d;exact⟨o,e,ex.2.1⟩
 |_=>exact g9 ty
def By(K:aF)(T:String)(r:V->List V->Hp->VK->Prop)(to:TE):TE:=λd H Q=>to d H λx c=>Al K T x c/\r x [] c Q
def QO(K:aF)(T:String)(r:V->List V->Hp->VK->Prop)(to:TE)(t:TA):TE:=λd H Q=>to d H λx c=>Al K T x c/\t d c λf e=>r x f e Q
variable{o e:æ}{m:List æ}{to:TE}{t:TA}{name:â}{g d:Pos}{T id:String}{r:V->List V->Hp->VK->Prop}
def YH(z:PlainAttrs T)(slot:Slot T name id)(j:typeOf (.builtin id)=pure (.type "method_descriptor"))(w:NJ X id r)(y:PE X o to)
  (f:autoParam (g4 o name X.env (è o X.env)=è o X.env) zzz._auto_1) (i:autoParam ((g.endLine==d.line)=true) zzz._auto_1):PE X (.Call (.Attribute o name g) [] [] d) (By X.K T r to):=by
 intro c s n H Q I h;refine wpAny_Call_method0_late f i (iZ (y c s n H _ I h) λv E F=>?_);obtain⟨x,p,k,l,ty,A⟩:=F;obtain⟨q,u⟩:=WJ k l ty;exact⟨T,id,z,slot,j,q,u,dy gC (PySem.evalArgs_none (w c E n p x [] v [] Q k l .nil A))⟩
def iA(M:PlainAttrs T)(slot:Slot T name id)(l:typeOf (.builtin id)=pure (.type "method_descriptor"))(G:NJ X id r)(J:PE X o to)(F:PA X (e::m) t)
  (i:autoParam (g4 o name X.env (è o X.env)=è o X.env) zzz._auto_1)
  (k:((j8 d (bZ (e::m) X.env)).all (λx=>!x.1)&&(kj d (du [] X.env)).all (λx=>x.1.isSome)
  &&decide ((e::m).length+([]:List Keyword).length+(if([]:List Keyword).isEmpty then 0 else 1)<30))=true:=by rfl)
  (j:autoParam ((g.endLine==d.line)=true) zzz._auto_1) (L:autoParam (bZ (e::m) X.env=(ww,è e X.env)::bZ m X.env) zzz._auto_1) (f:autoParam ((j8 d (bZ m X.env)).any (·.1)=false) zzz._auto_1) :
  PE X (.Call (.Attribute o name g) (e::m) [] d) (QO X.K T r to t):=by
 intro c s n H Q I h;refine wpAny_Call_method_late i k j gC (iZ (J c s n H _ I h) λv R W=>?_);obtain⟨x,w,p,u,ty,N⟩:=W;obtain⟨A,E⟩:=WJ p u ty;refine⟨T,id,M,slot,l,A,E,?_⟩;have q:=F d c R n w _ p N;rw[L]at q |-
 refine dy (by show(ww||(j8 d (bZ m X.env)).any (·.1))=ww;rw[f]<;>rfl) (ez ?_);exact iZ q λU S ⟨vs,y,z,P,O⟩=>G c S n y x vs v U Q z u P O
end
def Io(X:Cx)(id:String)(r:V->List V->Hp->VK->Prop):Prop:=
 ∀a s d H x c v b Q,dI X a d H s->fQ x v->fW c b->r x c H Q ->
  å (ä X.prog X.w) X.A (call (.builtin id) (v::b)) (EP X a d Q) X.xe s
def fW.one:∀{x us},fW [x] us->∃u,us=[u]/\fQ x u
|_,_,.cons r .nil=>⟨_,gC,r⟩
section
variable{X:Cx}{a:List (à×Obj)}{c:St}{H:Hp}{s:ã}{l:à}{d b:List V}
def dI.lset{h g:List á}{n:Nat}{f:Array á->Array á}{p:Nat}(I:dI X a c H s)(i:H l=wz (.lst d))
  (e:s.heap.get? l=wz { cls:=.type "list",data:=.seq h.toArray n }) (j:f h.toArray=g.toArray) (m:fW b g) (o:b.length<=bN) :
  dI X a c (eY H l (.lst b)) { s with heap:=s.heap.update l (e7 f),toks:=p }:=by
 have q:=PySem.IsL.update e f;rw[j]at q;refine I.write (by rw[i];exact trivial) (.inl gC) (λr u hb k=>(gH s.heap (e7 f) (i0 hb)).trans k) ⟨_,q⟩ ?_;exact⟨o,g,_,m,q⟩
def dI.lnew{e:List á}{h:Nat}(I:dI X a c H s)(f:fW b e)(g:b.length<=bN) :
  dI X a c (eY H s.heap.objs.size (.lst b)) { s with heap:=s.heap.push { cls:=.type "list",data:=.seq e.toArray },toks:=h }:=
 I.laid (λ_ _ q=>aD _ q) (aN _) ⟨g,e,0,f,aX _ gC⟩
theorem dI.fresh(I:dI X a c H s):H s.heap.objs.size=none:=I.hok.fresh (aN _)
def dI.lstM(I:dI X a c H s)(g:H l=wz (.lst d)):d.length<=bN/\∃f n,fW d f/\d.length=f.length/\s.heap.get? l=wz { cls:=.type "list",data:=.seq f.toArray n }:=by
 obtain⟨z,f,n,r,e⟩:=I.hok l _ g;exact⟨z,f,n,r,r.length,e⟩
def Y2{n:Nat}(h:n<=bN):o9 n=false:=by
 exact c6 cS
end
section
variable{X:Cx}
def Q2:V->List V->Hp->VK->Prop:=λx vs H Q=>∃l a y,x=.ref l/\vs=[y]/\H l=wz (.lst a)/\a.length<bN/\Q .non (eY H l (.lst (a++[y])))
def oS:Io X "list.append" Q2:=by
 intro c s o H x vs v k Q I g f h;obtain⟨l,m,y,rfl,rfl,b,j,q⟩:=h;cases g;obtain⟨u,rfl,d⟩:=f.one;obtain⟨z,a,n,r,i,e⟩:=I.lstM b;refine q9 F.slot_list_append ⟨_,e,gC⟩ F.entry_list_append (F.args_list_append_2 _ _) (PySem.list_append l a.toArray n u (by rw[bI];lia)) ⟨e,?_⟩;refine⟨.non,_,I.lset b e eH (r.append (.cons d .nil)) ?_,gC,q⟩;rw[aW,pJ];lia
end
end L2
namespace Att
open PySem.W PySem.Calls
def CJ{h}:∀ns vs,WellAll P h vs (ns.map WData.int)->IntsAre vs ns:=by
 intro ns
 induction ns with
 |nil=>
  intro vs w;rw[mY]at w;cases w;exact .nil
 |cons n ns c=>
  intro vs w;rw[bB]at w
  cases w with
  |cons a b=>
   cases a;exact .cons _ _ (c _ b)
def TV{l:OpenLaw}{n:Nat}(o:l.most=wz n){h:ç}{vals}
  (b:l.row.toRowW.claim.pre args=wx) (i:WellAll P h vals args) :
  ∃a vs ns,vals=[d0 a]/\args=[WData.list (ns.map WData.int)]/\h.get? a=wz { cls:=.type "list",data:=.seq vs.toArray }/\IntsAre vs ns/\ns.length<=n:=by
 obtain⟨d,r,rfl,j,k⟩:=hasAllW_cons ((pre_splitW b).1);obtain rfl:=hasAllW_nil k;obtain⟨u,rfl,m⟩:=hasW_list j;obtain⟨ns,rfl⟩:=items_int m
 have e:ns.length<=n:=by
  have f:(WTm.not (.lt (.lit (.int (n:Int))) (.len (.arg 0)))).holds [] { args:=[.list (ns.map .int)] }=true:=by
   have f:=(holds_andW ((pre_splitW b).2)).1;rw[o]at f;exact f
  have g:=condW_of f (w_not (w_lt w_lit (w_len_list (w_arg gC))));rw[aC]at g;refine Nat.le_of_not_lt λq=>?_
  first
   | (rw[b7 q']at g;exact b8 g cR)
   | (simp at g;lia)
 cases i with
 |cons s t=>
  cases t
  cases s with
  |list p c=>exact⟨_,_,ns,gC,gC,p,CJ ns _ c,e⟩
def T5(l:OpenLaw)(args:List WData):l.row.toRowW.claim.post args (.bool wx) args=true:=
 postW_of
  (show WShape.has [] (.bool wx) .bool=wx by first | rfl | decide | simp[WShape.has,WShape.arms,WShape.armsAll])
  (show(WTm.eq .res (.lit (.bool wx))).value [] { args:=args,res:=wz (.bool wx),after:=args }=wz (.bool (wx==wx))from w_eq_bool (w_res gC) w_lit) gC
def attach_call{l:OpenLaw}{n:Nat}{v:(â->Option á)->ç->Prop}{x:f7->ç->Prop}{d:DefRec}
  (J:l.most=wz n) (m:d.params.defaults=[])
  (call:∀w s₀ b mg t fa o u cd c a vs ns,
   Ground q loose [] v w s₀ mg t b.heap->x w b.heap ->
   b.heap.get? fa=wz o->o.data=.func (docDef d.name d.params d.body d.scope u cd c)->b.heap.CodeRec cd d.name->mg d.name=wz (.ref fa) ->
   b.heap.get? a=wz { cls:=.type "list",data:=.seq vs.toArray }->IntsAre vs ns->ns.length<=n->b.gens=#[] ->
   u0 (ä l.prog w) br (.call (.ref fa) ⟨[.ref a],[]⟩) (λr j=>r=.ok (.ret (.bool wx))/\OldK b.heap j.heap/\j.os=b.os/\t9 j.gens) b) :
  WalkO q loose v x l.row.toRowW d [] (λf vs=>fz f vs):=by
 intro w s₀ b mg t G Y fa o u cd c O kV K hd k z p F y vals N i A M s H;obtain rfl:=Dflts.none z m;obtain rfl:=Dflts.noKw z;obtain⟨a,vs,ns,rfl,rfl,h,e,g⟩:=TV J i s;refine enter_call (y9 (call w s₀ b mg t fa o u cd c a vs ns G Y K (fd_plain hd) k p h e g F) λr j L=>?_);obtain⟨rfl,B,C,E⟩:=L;exact⟨.inl ⟨.bool wx,.bool wx,[],gC,λ_=>rfl,.bool wx,T5 l _,λ_=>⟨aKz.nil,λ_ I=>(nomatch I)⟩⟩,B,C,E⟩
end Att
namespace L2
theorem GP:∀{vs}{ns:List Int},IntsAre vs ns->fW (ns.map V.int) vs
|_,_,.nil=>.nil
|_,_,.cons n t h=>.cons ⟨t,gC⟩ (GP h)
def Bb(H:Hp):Prop:=∀b,H b=wy\/(∃o c,H b=wz (.frz o (.lst c)))\/(tabA=wz b/\∃a,H b=wz (.tbl a))
def ZP{K:aF}{mg mb:â->Option á}{CX:VN}{k:Nat}{fa a:à}{x:â}{sp:Sp}{f:ã}{vs:List á}{ns:List Int}
  (KX:K.In f.heap) (Q:f.heap.Ns eF mg) (hb:f.heap.Ns m9 mb) (Y:∀x:â,x≠"__name__"->mb x=d4 x) (O:f.heap.NoLimit) (hg:f.gens=#[])
  (J:f.heap.get? a=wz { cls:=.type "list",data:=.seq vs.toArray }) (hi:IntsAre vs ns) (hl:ns.length<=bN) (hr:iE k br)
  (Z:∃L o,mg "__builtins__"=wz (.ref L)/\L≠m9/\f.heap.get? L=wz o/\o.cls=.type "module"/\o.dict=wz m9/\o.data=.plain)
  (C:∀P,tabA=wz P->f.heap.get? P=wz { cls:=.none,data:=.fields #[] }/\K.lookup P=wy/\ak f.heap P)
  (F:∀base,K.In base->base.Ns eF mg->lW P w K mg base CX k fa fd [x] sp) (E:∀s u,BindsTo s fd ⟨[u],[]⟩ [(x,u)])
  (vm:∀H,Bb H->nM K H a (ns.map V.int)->sp [.ref a] H (λv _=>v=.bl wx) λ_ _ _=>False)
  (W:∀H e l,CX [] H f (λ_ _ _=>False) e l->False) :
  u0 (ä P w) br (.call (.ref fa) ⟨[.ref a],[]⟩) (λr l=>r=.ok (.ret (.bool wx))/\OldK f.heap l.heap/\l.os=f.os/\t9 l.gens) f:=by
 have rv:=GP hi
 have aT:∀P,tabA=wz P->P≠a:=λP e z=>by
  have j:=(C P e).1;rw[z,J]at j;cases j
 have A:∀H:Hp,Bb H->nM K H a (ns.map V.int)->pZ P w H f.heap->(∀b,H b≠wy->b=a\/tabA=wz b)->(H a≠wy->K.lookup a=wy)->Tb H ->
   u0 (ä P w) br (.call (.ref fa) ⟨[.ref a],[]⟩) (λr l=>r=.ok (.ret (.bool wx))/\OldK f.heap l.heap/\l.os=f.os/\t9 l.gens) f:=by
  intro H hO hS hok U hK X;have i:∀{b:à}{o:Obj},f.heap.get? b=wz o->H b=wy->(O6 f.heap H).get? b=wz o:=λe n=>Z1 e n
  have wf:∀{b:à}{o:Obj}{S:Array w5}{R:Nat},f.heap.get? b=wz o->o.data=.dict S R->H b=none:=λ{b o S R} e d=>by
   cases q:H b with
   |none=>rfl
   |some u=>
    rcases U b (by rw[q];simp)with e' | e'
    ·subst e';rw[J]at e;cases e;have M:=d;cases M
    ·rw[(C b e').1]at e;cases e;have M:=d;cases M
  have wg:∀{b:à}{o:Obj},f.heap.get? b=wz o->o.data=.plain->H b=none:=λ{b o} e d=>by
   cases q:H b with
   |none=>rfl
   |some u=>
    rcases U b (by rw[q];simp)with e' | e'
    ·subst e';rw[J]at e;cases e;have M:=d;cases M
    ·rw[(C b e').1]at e;cases e;cases d
  have y:∀{b:à}{m:â->Option á},f.heap.Ns b m->(O6 f.heap H).Ns b m:=λ{b m} ⟨o,S,R,e,d,r⟩=>⟨o,S,R,i e (wf e d),d,r⟩
  have N:=λb o e=>i (KX b o e) (by
   cases q:H b with
   |none=>rfl
   |some u=>
    rcases U b (by rw[q];simp)with e' | e'
    ·subst e';rw[hK (by rw[q];simp)]at e;cases e
    ·rw[(C b e').2.1]at e;cases e)
  have e0:P6 P w K mg (O6 f.heap H) br [] f H:=⟨gC,(⟨N,y Q,⟨mb,y hb,Y⟩,let ⟨mc,j,I⟩:=O;⟨mc,y j,I⟩,let ⟨L,o,b1,b2,b3,b4,b5,b6⟩:=Z;⟨L,o,b1,b2,i b3 (wg b3 b6),b4,b5,b6⟩⟩),λb o e=>aDo e,kH (UX _ _),trivial,λb hb=>b8 (show b∈([]:List à)from hb) eH,hok,.of_eq hg,X⟩;refine y9 ((F _ N (y Q)).run br [] f H ⟨[.ref a],[]⟩ [.ref a] [.ref a] _ _ hr e0 (E f (.ref a)) (.cons gC .nil) (vm H hO hS)) λr l h=>?_
  cases r with
  |error e=>exact(W H e l h).elim
  |ok fl=>
   cases fl with
   |next=>exact g9 h
   |brk=>exact g9 h
   |cont=>exact g9 h
   |ret u=>
    obtain⟨v,H',os,bare,un,B,r',q⟩:=h;subst q;obtain rfl:=r'
    have old:∀b o,f.heap.get? b=wz o->l.heap.get? b=wz o\/(ak f.heap b/\o={ cls:=.none,data:=.fields #[] }/\∃qs:Array á,l.heap.get? b=wz { cls:=.none,data:=.fields qs }):=λb o e=>by
     cases q:H b with
     |none=>exact .inl (un.keep b o e q (by intro z;exact b8 (show b∈([]:List à)from z) eH) eH)
     |some u=>
      rcases hO b with z | ⟨ob,xs,z⟩ | ⟨t,ps,z⟩
      ·rw[q]at z;cases z
      ·have z2:=un.frzs b ob _ z;obtain⟨e1,_⟩:=hok b _ z;obtain⟨T,_⟩:=B b _ z2;rw[e]at e1;cases e1;exact .inl T
      ·obtain⟨j,I,h3⟩:=C b t;obtain⟨m,z2⟩:=un.tbls b ps z;obtain⟨qs,T,_⟩:=B b _ z2;rw[e]at j;cases j;exact .inr ⟨h3,gC,qs,T⟩
    refine⟨gC,⟨λb o e=>?_,λb o e=>?_⟩,os,bare⟩
    ·rcases old b o e with j | ⟨j,rfl,qs,I⟩
     ·exact .inl j
     ·exact .inr (.inl ⟨j,gC,#[],qs,gC,by rw[I];simp⟩)
    ·rcases old b o e with j | ⟨j,rfl,qs,I⟩
     ·exact⟨_,j⟩
     ·exact⟨_,I⟩
 cases hk:K.lookup a with
 |some o=>
  have e:=KX a o hk;rw[J]at e;cases e;refine A (λb=>if tabA=wz b then wz (.tbl #[])else wy) (λb=>?_) (.inr ⟨_,vs.toArray,_,hk,gC,gC,gC,by rw[bI,hi.length];exact hl,by simpa using rv⟩) (λb u z=>?_) (λb z=>?_) (λz=>?_) λP e=>⟨#[],a9 e⟩
  ·by_cases hb:tabA=wz b
   ·exact .inr (.inr ⟨hb,#[],a9 hb⟩)
   ·exact .inl (a8 hb)
  ·by_cases hb:tabA=wz b
   ·have G:=(a9 hb).symm.trans z;cases G;exact⟨#[],(C b hb).1,trivial,λp c q=>by cases q⟩
   ·have G:=(a8 hb).symm.trans z;cases G
  ·by_cases hb:tabA=wz b
   ·exact .inr hb
   ·exact b8 (a8 hb) z
  ·exact b8 (a8 λe=>aT a e gC) z
 |none=>
  refine A (λb=>if tabA=wz b then wz (.tbl #[])else if b=a then wz (.frz { cls:=.type "list",data:=.seq vs.toArray } (.lst (ns.map V.int)))else wy) (λb=>?_) (.inl (.inr ⟨{ cls:=.type "list",data:=.seq vs.toArray },(a8 λe=>aT a e gC).trans (a9 gC)⟩)) (λb u z=>?_) (λb z=>?_) (λ_=>hk) λP e=>⟨#[],a9 e⟩
  ·by_cases g:tabA=wz b
   ·exact .inr (.inr ⟨g,#[],a9 g⟩)
   ·by_cases hb:b=a
    ·exact .inr (.inl ⟨_,_,(a8 g).trans (a9 hb)⟩)
    ·exact .inl ((a8 g).trans (a8 hb))
  ·by_cases g:tabA=wz b
   ·have G:=(a9 g).symm.trans z;cases G;exact⟨#[],(C b g).1,trivial,λp c q=>by cases q⟩
   ·by_cases hb:b=a
    ·have G:=((a8 g).trans (a9 hb)).symm.trans z;cases G;subst hb;exact⟨J,by rw[aC];exact hl,vs,_,rv,J⟩
    ·cases (((a8 g).trans (a8 hb)).symm.trans z)
  ·by_cases g:tabA=wz b
   ·exact .inr g
   ·by_cases hb:b=a
    ·exact .inl hb
    ·exact b8 ((a8 g).trans (a8 hb)) z
def aBx{l:az}{n k:Nat}{I:(â->Option á)->ç->Prop}{p:f7->ç->Prop}{d:DefRec}{K:Params->aF}{CX:f7->VN}{sp:f7->Sp}
  (U:l.most=wz n) (A:n<=bN) (y:d.params.defaults=[]) (X:iE k br)
  (Q:∀w h,p w h->(K w.params).In h) (O:∀w h,p w h->∀P,tabA=wz P->h.get? P=wz { cls:=.none,data:=.fields #[] }/\(K w.params).lookup P=wy/\ak h P)
  (F:∀w mg fa h,(K w.params).In h->h.Ns eF mg->mg d.name=wz (.ref fa) ->
   ∃r,(∀s u,BindsTo s r ⟨[u],[]⟩ [(x,u)]) /\
    ∀base,(K w.params).In base->base.Ns eF mg->lW l.prog w (K w.params) mg base (CX w) k fa r [x] (sp w))
  (B:∀(w:f7)H(a:à)(ns:List Int),ns.length<=n->Bb H->nM (K w.params) H a (ns.map V.int)->sp w [.ref a] H (λv _=>v=.bl wx) λ_ _ _=>False)
  (t:∀w H s e C,CX w [] H s (λ_ _ _=>False) e C->False) :
  aBo q loose I p l.row.toRowW d [] (λf vs=>fz f vs):=by
 refine Att.attach_call U y λw s₀ m mg mb fa o pm cd J a vs ns G Y Z hd R z j i c S=>?_;have E:=Q w _ Y;obtain⟨r,hb,L⟩:=F w mg fa _ E G.T.g z;exact ZP E G.T.g G.T.b G.T.builtins G.T.nolimit S j i (aY c A) X G.T.bmain (O w _ Y) L hb (λH M N=>B w H a ns c M N) λH e C=>t w H m e C
noncomputable def AC(s:é):Arguments:=match s with
|.FunctionDef _ a _ _ _ _ _ _ _ _=>a
|_=>{ posonlyargs:=[],args:=[],vararg:=wy,kwonlyargs:=[],kw_defaults:=[],kwarg:=wy,defaults:=[] }
noncomputable def lB(s:é):List Stmt:=match s with
|.FunctionDef _ _ b _ _ _ _ _ _ _=>b
|_=>[]
noncomputable def aS(s:é):Scope:=match s with
|.FunctionDef _ _ _ _ _ _ sc _ _ _=>sc
|_=>{ kind:=.function,names:=[],isGenerator:=ww,isCoroutine:=ww }
abbrev qA:VN:=λ_ _ _ _ _ _=>False
abbrev E0:XK:=λ_ _ _=>False
def iB:vY qA X E0:=λ_ _ _ _ _ _ _ h=>h.elim
structure NK(K:aF)(x qual:â)(st:é)(f:à)(fd:iO):Prop where
 ex:∃(oc:á)(od:Option à)(kV kx pm:á)(an:Option à)(ci ct:á)(lz:Array (Option á)),
  fd=oB x qual (AC st) (lB st) (aS st) .none kV kx pm an ci ct/\K.lookup f=wz ⟨oc,od,.func fd,lz⟩/\qV K ci qual=wx
 kp:gS K (.ref f)=wx
section
variable{P:cV}{w:f7}{K:aF}{mg:â->Option á}{base:ç}
def NK.ok{st}{f:à}{N e:List â}{k:Nat}{g:Sp}(F:NK K x qual st f fd)(S:bQ N e (aS st))(len:∀vs H Q E,g vs H Q E->vs.length=e.length)
  (b:∀a A outer s H vs Q E,iE k (A.deeper (i9 qual (aS st) s.heap.objs.size f a))->g vs H Q E ->
   ∃t,BR (rW qA P w K mg base N qual (aS st) f a A outer s H E).nox (lB st) t/\t { nx:=λ_ i=>Q .non i,rt:=Q } (nW N vs) H):lW P w K mg base qA (k+1) f fd e g:=by
 obtain⟨o,p,kV,j,r,an,a,ct,n,rfl,m,c⟩:=F.ex;refine Ci m c S len λA outer s H vs Q E l d=>?_;obtain⟨t,h,q⟩:=b a A outer s H vs Q E l d;exact⟨t,h.nox,q⟩
def NK.binds{st}{f:à}{d:List â}(F:NK K x qual st f fd)
  (h:∀kV b c an a ct e,e.length=d.length->bindArgs (oB x qual (AC st) (lB st) (aS st) .none kV b c an a ct) ⟨e,[]⟩=pure (d.zip e)):qT K fd d []:=by
 obtain⟨k,l,kV,b,c,an,a,ct,i,rfl,j,g⟩:=F.ex;exact .all (h kV b c an a ct)
def Z7{st}{f:à}{kV}(l:K.lookup f=wz ⟨oc,od,.func (oB x qual (AC st) (lB st) (aS st) .none kV kx pm an ci ct),lz⟩)
  (c:qV K ci qual=wx) (k:gS K (.ref f)=wx):NK K x qual st f (oB x qual (AC st) (lB st) (aS st) .none kV kx pm an ci ct):=⟨⟨oc,od,kV,kx,pm,an,ci,ct,lz,gC,l,c⟩,k⟩
end
def TN{n:Nat}(h:n<=1000):n<bN:=sD h cR
section
variable{X:Cx}
def pv(i:Nat){x:â}(b:autoParam (X.N[i]?=wz x) zzz._auto_1)(c:autoParam (Ag X.env.scope x) zzn._auto_1)(hd:autoParam ((x==("__debug__":â))=false) zzy._auto_1)
  (a:autoParam ((x==("__classdict__":â))=false) zzy._auto_1):PE X (.Name x pos) (nV i):=X8 b c hd a
end
def bG(H a:Hp):Prop:=∀b o,H b=wz o->a b=wz o
def bG.refl(H:Hp):bG H H:=λ_ _ h=>h
def bG.trans(a:bG H H1)(b:bG H1 H2):bG H H2:=λc o h=>b c o (a c o h)
def bG.seq{K}{a:à}(e:bG H H')(h:nM K H a xs):nM K H' a xs:=by
 rcases h with(h | ⟨o,h⟩) | h
 ·exact .inl (.inl (e _ _ h))
 ·exact .inl (.inr ⟨o,e _ _ h⟩)
 ·exact .inr h
def aD9{E:á->ã->Prop}{Q:Unit->ã->Prop}(a:Q () s) :
  å M A (z8 tg it (.str z t)) Q E s:=by
 cases tg<;>first
  |exact bH a
  | (cases it<;>exact bH a)
noncomputable def Ak(z:â):It:=⟨λi _=>i<z.cps.size,λi H x a=>a=H/\∃c,z.cps[i]?=wz c/\x=.str ⟨#[c]⟩,λi _=>z.cps.size<=i⟩
def TB{K}(it:à)(z:â)(t:Tok)
  (W:∀A,A.handled=wy->Walks P w A it [it] [it] z.cps.size (SignAt z) (λi h=>h.IsStrIter it ty z t i))
  (S:∀A i s Q E,s.heap.IsStrIter it ty z t i->Q (.ref it) s->å (ä P w) A (ma (.ref it)) Q E s) :
  NA P w K tg (Ak z) [it] it (λi h=>i<=z.cps.size/\h.IsStrIter it ty z t i) where
 mem:=by simp
 obj:=λi h st b hb=>by
  obtain rfl:b=it:=by simpa using hb
  obtain⟨_,o,e,c,d⟩:=st;exact⟨o,e,λv q=>by rw[d]at q;cases q⟩
 keep:=λi h h' st k=>by
  obtain⟨l,o,e,r⟩:=st;exact⟨l,o,k it eH o e,r⟩
 item:=by
  intro X hP hw hK hc i pins s σ H E I hf st hg;obtain⟨f0,f1,f2,f3,f4,f5⟩:=hf it eH;refine(W X.A (I.ok.hd hc)).item i s _ _ hg st.2 λv h' tk hv kf kk=>?_;obtain⟨c,u,hx,rfl⟩:=hv;exact⟨_,gC,aD9 ⟨.str ⟨#[c]⟩,H,(I.turned (λb o hb e=>kk b o (by simpa using hb) e) f0 f1 f3 f4 f5),⟨u,gC⟩,⟨gC,c,hx,gC⟩,⟨hg,kf⟩,λb hb=>(hf b hb).1⟩⟩
 done:=by
  intro X hP hw hK hc i pins s σ H E I hf st hg;obtain⟨f0,f1,f2,f3,f4,f5⟩:=hf it eH;have e:=Nat.le_antisymm st.1 hg;subst e;exact(W X.A (I.ok.hd hc)).done s _ _ st.2 λh' tk kk=>⟨gC,I.turned (λb o hb e=>kk b o (by simpa using hb) e) f0 f1 f3 f4 f5⟩
 self:=λA i s Q E st h=>S A i s Q E st.2 h
def Kg(K:aF)(d:TE):TI:=λe H R=>d e H λx b=>(∃a,x=.ref a/\(∃c,nM K b a c)/\R (Cu K a) b)\/(∃a,x=.ref a/\(∃c,rL K b a c)/\R (Cs K a) b)\/∃z,x=.str z/\R (Ak z) b
def X7{X:Cx}(y:PE X l tl):PI X tg l (Kg X.K tl):=by
 intro f s u H R I h;refine iZ (y f s u H _ I h) λv c J=>?_;obtain⟨x,j,d,n,C⟩:=J;rcases C with⟨a,rfl,⟨G,m⟩,q⟩ | ⟨a,rfl,⟨G,m⟩,q⟩ | ⟨z,rfl,q⟩
 ·cases n;obtain⟨g,F,p,B⟩:=d.list m;refine i4 p.isList ⟨c.heap.objs.size,[c.heap.objs.size],_,_,j,gC,d.kept λb o e=>aD _ e,TD a _,⟨_,aX _ gC,gC,gC⟩,λb hb=>?_,q⟩;obtain rfl:b=c.heap.objs.size:=by simpa using hb
  exact d.fpOk (aN _) (d.hok.fresh (aN _))
 ·cases n;obtain⟨g,F,p,B⟩:=d.tuple m;refine u7 (show c.heap.IsTuple a g.toArray from p) ⟨c.heap.objs.size,[c.heap.objs.size],_,_,j,gC,d.kept λb o e=>aD _ e,NU a _,⟨_,aX _ gC,gC,gC⟩,λb hb=>?_,q⟩;obtain rfl:b=c.heap.objs.size:=by simpa using hb
  exact d.fpOk (aN _) (d.hok.fresh (aN _))
 ·obtain⟨t,rfl⟩:=n
  have fin:∀(o:Obj)(ty:String),(∀A:d8,A.handled=wy->Walks X.prog X.w A c.heap.objs.size [c.heap.objs.size] [c.heap.objs.size] z.cps.size (SignAt z) (λi h=>h.IsStrIter c.heap.objs.size ty z t i)) ->
    (∀A(i:Nat)(s:ã)Q E,s.heap.IsStrIter c.heap.objs.size ty z t i->Q (.ref c.heap.objs.size) s->å (ä X.prog X.w) A (ma (.ref c.heap.objs.size)) Q E s) ->
    (c.heap.push o).IsStrIter c.heap.objs.size ty z t 0->Cq X f u tg R (.ref c.heap.objs.size) { c with heap:=c.heap.push o }:=λo ty W S st=>by
   refine⟨c.heap.objs.size,[c.heap.objs.size],_,Ak z,j,gC,d.kept λb o e=>aD _ e,TB _ z t W S,⟨cP _,st⟩,λb hb=>?_,q⟩;obtain rfl:b=c.heap.objs.size:=by simpa using hb
   exact d.fpOk (aN _) (d.hok.fresh (aN _))
  cases r:z.cps.all (·<128)
  ·exact wpAny_pyIter_wide r (fin _ "str_iterator" (λA k=>Walks.strWide k _ z t) (λ_ _ _ _ _ st h=>wpAny_pyIter_striter_wide st h) ⟨_,aX _ gC,gC,gC⟩)
  ·exact wpAny_pyIter_ascii r (fin _ "str_ascii_iterator" (λA k=>Walks.strAscii k _ z t) (λ_ _ _ _ _ st h=>wpAny_pyIter_striter_ascii st h) ⟨_,aX _ gC,gC,gC⟩)
set_option genInjectivity false in
structure BP where
 cl:List (â×à)
 C:à
 s3:ã
 H3:Hp
 ex:List à
 pn:List (à×Obj)
noncomputable def blk(X:Cx)(scope:Scope)(N':List â)(b:BP):Cx where
 prog:=X.prog
 w:=X.w
 K:=X.K
 mg:=X.mg
 base:=X.base
 A:=X.A
 N:=N'
 s₀:=b.s3
 H₀:=b.H3
 env:=compEnvC scope b.cl b.C X.env
 outer:=X.stack
 stack:=X.stack
 ex:=b.ex
 fn:=λx=>scope.names.lookup x==wz .cell
 calm:=X.calm
 pn:=b.pn
 xe:=λ_ _=>False
theorem yJ{env:Env}:∀(f:List (â×l6))(b:List (â×à)),(∀x∈f,x.2=.free->∃c,env.cells.lookup x.1=wz c) ->
 (∀n c,b.lookup n=wz c->env.cells.lookup n=wz c) ->
 ∃cl,(mx f b (λx l=>match x with | (name,kind)=>if kind==.free then do let a <- cellOf env name;pure (g6 ((name,a)::l))else pure (g6 l)):Sem (List (â×à)))=pure cl /\
  (∀n c,cl.lookup n=wz c->env.cells.lookup n=wz c)/\(∀n,((∃c,b.lookup n=wz c)\/(n,f9)∈f)->∃c,cl.lookup n=wz c)
|[],b,_,ha=>⟨b,gC,ha,λn h=>h.elim id λz=>b8 z eH⟩
| (n,k)::r,b,h,ha=>by
 by_cases hk:k=.free
 ·subst hk;obtain⟨c,o⟩:=h (n,.free) (aP ..) gC
  obtain⟨cl,e,g,i⟩:=yJ r ((n,c)::b) (λx j=>h x (aH _ j)) (λm d hm=>by
   rw[dW]at hm
   cases hb:m==n with
   |true=>
    rw[hb]at hm;obtain rfl:m=n:=by simpa using hb
    cases hm;exact o
   |false=>rw[hb]at hm;exact ha m d hm)
  refine⟨cl,?_,g,λm hm=>i m ?_⟩
  ·rw[F4];have q:cellOf env n=pure c:=by unfold cellOf;rw[o]
   simp only[ai,ew,q];exact e
  ·rcases hm with⟨d,hd⟩ | hm
   ·left
    rw[dW]
    cases hb:m==n with
    |true=>exact⟨c,gC⟩
    |false=>exact⟨d,hd⟩
   ·rcases aO.mp hm with z | z
    ·left
     cases z;exact⟨c,by simp[dW]⟩
    ·exact .inr z
 ·obtain⟨cl,e,g,i⟩:=yJ r b (λx j=>h x (aH _ j)) ha;refine⟨cl,?_,g,λm hm=>i m (hm.imp id λz=>?_)⟩
  ·rw[F4];have p:(k==f9)=false:=by simpa using hk
   simp only[p,rR,eu];exact e
  ·rcases aO.mp z with z | z
   ·cases z;exact b8 gC hk
   ·exact z
def yI{env:Env}{a:Scope}(h:∀x∈a.names,x.2=.free->∃c,env.cells.lookup x.1=wz c) :
  ∃cl,closureFor a env=pure cl/\(∀n c,cl.lookup n=wz c->env.cells.lookup n=wz c)/\∀n,(n,f9)∈a.names->∃c,cl.lookup n=wz c:=by
 obtain⟨cl,e,b,d⟩:=yJ a.names [] h (λn c z=>by simp at z);refine⟨cl,?_,b,λn z=>d n (.inr z)⟩;refine Eq.trans ?_ (d6 (λm=>m >>= λr=>(pure r:Sem (List (â×à)))) e)
 rfl
theorem tV{env:Env}{k}:∀{a:List (â×l6)},
 (a.map λ(n,k)=>if(k==f9&&env.scope.kind==.function&&env.kindOf n==wz .cell)then(n,d7)else(n,k)).lookup x=wz k ->
 ∃b,(x,b)∈a/\(b=k\/(b=.free/\k=.cell))
|[],h=>by simp at h
| (n,j)::r,h=>by
 rw[bB,dW]at h;by_cases c:(j==f9&&env.scope.kind==.function&&env.kindOf n==wz .cell)=wx
 ·rw[a9 c]at h
  cases hb:x==n with
  |true=>
   rw[hb]at h;obtain rfl:x=n:=by simpa using hb
   cases h;have f:j=.free:=by simp only[cU,av]at c;exact c.1.1
   exact⟨j,aP ..,.inr ⟨f,gC⟩⟩
  |false=>
   rw[hb]at h;obtain⟨b,d,e⟩:=tV h;exact⟨b,aH _ d,e⟩
 ·rw[a8 c]at h
  cases hb:x==n with
  |true=>
   rw[hb]at h;obtain rfl:x=n:=by simpa using hb
   cases h;exact⟨_,aP ..,.inl gC⟩
  |false=>
   rw[hb]at h;obtain⟨b,d,e⟩:=tV h;exact⟨b,aH _ d,e⟩
theorem zF{env:Env}:∀{a:List (â×l6)},a.lookup x=wz .free ->
 (a.map λ(n,k)=>if(k==f9&&env.scope.kind==.function&&env.kindOf n==wz .cell)then(n,d7)else(n,k)).lookup x=wz .cell \/
 (a.map λ(n,k)=>if(k==f9&&env.scope.kind==.function&&env.kindOf n==wz .cell)then(n,d7)else(n,k)).lookup x=wz .free
|[],h=>by simp at h
| (n,j)::r,h=>by
 rw[dW]at h;rw[bB,dW]
 cases hb:x==n with
 |true=>
  rw[hb]at h;cases h;by_cases b:(f9==f9&&env.scope.kind==.function&&env.kindOf n==wz .cell)=wx
  ·rw[a9 b];dsimp only;rw[hb];exact .inl gC
  ·rw[a8 b];dsimp only;rw[hb];exact .inr gC
 |false=>
  rw[hb]at h;have c:=zF (env:=env) h;by_cases b:(j==f9&&env.scope.kind==.function&&env.kindOf n==wz .cell)=wx
  ·rw[a9 b];dsimp only;rw[hb];exact c
  ·rw[a8 b];dsimp only;rw[hb];exact c
noncomputable def vR(a outer:List (â×l6))(b:List â):List â->List (Option Nat)->Bool
|[],[]=>wx
|x::r,wy::f=>vR a outer b r f
|x::r,wz j::f=>(a.lookup x==wz .free)&&(b[j]?==wz x)&&(outer.lookup x==wz .cell)&&vR a outer b r f
|_,_=>ww
theorem BH{a outer:List (â×l6)}:∀{N':List â}{fr:List (Option Nat)},vR a outer Nx N' fr=wx ->
 N'.length=fr.length/\∀(i:Nat)(x:â)(j:Nat),N'[i]?=wz x->fr[i]?=wz (wz j)->a.lookup x=wz .free/\Nx[j]?=wz x/\outer.lookup x=wz .cell
|[],[],_=>⟨gC,λi x j h=>by simp at h⟩
|x::r,wy::f,h=>by
 obtain⟨d,e⟩:=BH (fr:=f) h;refine⟨by simp[d],λi y j c b=>?_⟩
 cases i with
 |zero=>simp at b
 |succ i=>exact e i y j (by simpa using c) (by simpa using b)
|x::r,wz k::f,h=>by
 simp only[vR,cU,av]at h;obtain⟨⟨⟨g,a2⟩,l⟩,h⟩:=h;obtain⟨d,e⟩:=BH (N':=r) (fr:=f) h;refine⟨by simp[d],λi y j c b=>?_⟩
 cases i with
 |zero=>
  simp at c b;subst c;subst b;exact⟨g,a2,l⟩
 |succ i=>exact e i y j (by simpa using c) (by simpa using b)
|[],_::_,h=>by simp[vR]at h
|_::_,[],h=>by simp[vR]at h
noncomputable def zV(a:List (Option Nat))(b:St):St:=a.map λo=>o.bind λj=>(b[j]?).join
def pZ.but{h}{a:à}(ok:pZ P w H h)(n:H a=wy)(d:gA a h h'):pZ P w H h':=λb ob e=>by
 refine(ok b ob e).stay (λc u hc q=>(d.2 c ?_).trans q) (λ_ q=>q) λ_ _ q=>q;rintro rfl;rcases hc with rfl | hc
 ·rw[n]at e;cases e
 ·rw[n]at hc;cases hc
def P1(X:Cx)(b:List æ)(e:TT):Prop:=
 ∀a s d H Q,dI X a d H s->e d H Q ->
  å (ä X.prog X.w) X.A (mx b wx λc r=>if r=wx then do let ok <- isTrue c X.env (è c X.env);pure (g6 ok)else pure (g6 r)) (TP X a d Q) X.xe s
def aB4:TT:=λ_ H Q=>Q wx H
def aDe:P1 X [] aB4:=λ_ _ _ H _ I h=>wpAny_tests_nil ⟨H,I,h⟩
def aDd(h:PT X c tt):P1 X [c] tt:=λa s b H Q I q=>wpAny_tests_one (h a s b H Q I q)
def WS(q:List (Option Nat))(t:TI)(g:BP->TG)(s:BP->TT)(r:BP->TE):TE:=λp H Q=>t p H λJ k=>∀h a,k a=wy->∃W:Nat->Nat->St->Hp->Prop,
 (∃m,W 0 m (zV q p) (eY k a (.lst [])))/\∀i m f d,W i m f d ->
  (J.stop i d/\Q (.ref a) d)\/(J.go i d/\∀x l,J.yld i d x l->g h x f l λc H3=>s h c H3 λb n=>
   if b=wx then r h c n λy o=>∃j,o a=wz (.lst j)/\j.length<bN/\∃e,e<m/\W (i+1) e c (eY o a (.lst (j++[y])))
   else∃e,e<m/\W (i+1) e c n)
theorem uB:∀{a:List (â×l6)},a.filter (λy=>y.2==d7)=[]->∀n b h,u3 n a b=b/\cw h a=h
|[],_,_,_,_=>⟨gC,gC⟩
| (x,k)::r,e,n,b,h=>by
 rw[cW]at e
 cases hk:(k==d7)with
 |true=>dsimp only at e;rw[hk,a9 rfl]at e;cases e
 |false=>
  rw[hk,a8 bX]at e;unfold u3 cw;rw[hk,a8 bX,a8 bX];exact uB e n b h
theorem BM{z:â}:∀{a:List (â×l6)},a.filter (λy=>y.2==d7)=[(z,.cell)]->∀n b h,u3 n a b=(z,n)::b/\cw h a=h.push { cls:=.type "cell",data:=.cell wy }
|[],e,_,_,_=>by cases e
| (x,k)::r,e,n,b,h=>by
 rw[cW]at e
 cases hk:(k==d7)with
 |true=>
  rw[hk,a9 rfl]at e;injection e with c d
  injection c with c _
  subst c;unfold u3 cw;rw[hk,a9 gC,a9 rfl];exact uB d (n+1) ((x,n)::b) _
 |false=>
  rw[hk,a8 bX]at e;unfold u3 cw;rw[hk,a8 bX,a8 bX];exact BM e n b h
def wT(a:List (â×l6)):Prop:=a.filter (λy=>y.2==d7)=[]\/∃z,a.filter (λy=>y.2==d7)=[(z,.cell)]/\a.lookup z=wz .cell
structure aWd(names:List (â×l6))(cl mw:List (â×à))(h:ç)(C:à):Prop where
 get:∀x c,mw.lookup x=wz c->(C<c/\(x,d7)∈names/\h.IsCell c wy)\/(cl.lookup x=wz c/\(x,d7)∉names)
 old:∀x c,names.lookup x=wz .free->cl.lookup x=wz c->mw.lookup x=wz c
 has:∀x,(x,d7)∈names->∃c,mw.lookup x=wz c
 keep:∀x c,cl.lookup x=wz c->∃c',mw.lookup x=wz c'
 inj:∀x y c,mw.lookup x=wz c->mw.lookup y=wz c->C<c->x=y
def aDs{E:á->ã->Prop}{s:ã}{d:Scope}{globals:à}{a:List (â×à)}{Q:Env->ã->Prop}(i:wT d.names)(j:∀x c,a.lookup x=wz c->c<s.heap.objs.size)
  (w:∀r k,r.Ns s.heap.objs.size (λ_=>wy)->(∀b o,s.heap.get? b=wz o->r.get? b=wz o)->aWd d.names a k r s.heap.objs.size->Q (newEnv d s.heap.objs.size globals k qual wy .none (wz outer) m9) { s with heap:=r }) :
  å M A (fw d globals a [] qual wy .none (wz outer)) Q E s:=by
 simp only[fw,S5,ew];refine aI (wpAny_alloc ?_);refine aI (wpAny_layCells _ (λname kind t=>by cases u:kind==d7<;>simp[u]) _ _ _ _ ?_);have mem:∀x,(x,d7)∈d.names->(x,d7)∈d.names.filter (λy=>y.2==d7):=λx f=>dM.mpr ⟨f,gC⟩;rcases i with i | ⟨z,i,m⟩
 ·rw[(uB i _ _ s.heap).1,(uB i 0 [] _).2]
  have B:∀x,(x,d7)∉d.names:=λx f=>by
   have:=mem x f;rw[i]at this;cases this
  exact aI (bH (bH (w _ _ (aBi.new s.heap (.type "dict")) (λb o e=>aD _ e) ⟨λx c h=>.inr ⟨h,B x⟩,λx c _ h=>h,λx h=>b8 h (B x),λx c h=>⟨c,h⟩,λx y c h _ l=>b8 (j x c h) (wH l)⟩)))
 ·rw[(BM i _ _ s.heap).1,(BM i 0 [] _).2,show({ s with heap:=s.heap.push { cls:=.type "dict",data:=.dict #[] } }:ã).heap.objs.size=s.heap.objs.size+1 from eD ..]
  have p:∀x,(x,d7)∈d.names->x=z:=λx f=>by
   have:=mem x f;rw[i]at this;exact d6 Prod.fst (bC.mp this)
  have v:∀x c,((z,s.heap.objs.size+1)::a).lookup x=wz c->(x=z/\c=s.heap.objs.size+1)\/(x≠z/\a.lookup x=wz c):=λx c h=>by
   rw[dW]at h
   cases hb:x==z with
   |true=>rw[hb]at h;cases h;exact .inl ⟨aw hb,gC⟩
   |false=>rw[hb]at h;exact .inr ⟨ne_of_beq_false hb,h⟩
  have q:∀x c,x≠z->a.lookup x=wz c->((z,s.heap.objs.size+1)::a).lookup x=wz c:=λx c f h=>by
   rw[dW,beq_eq_false_iff_ne.mpr f];exact h
  have g:((s.heap.push { cls:=.type "dict",data:=.dict #[] }).push { cls:=.type "cell",data:=.cell wy }).get? (s.heap.objs.size+1)=wz { cls:=.type "cell",data:=.cell wy }:=by
   have:=aX (s.heap.push { cls:=.type "dict",data:=.dict #[] }) (o:={ cls:=.type "cell",data:=.cell wy }) gC
   rwa [eD]at this
  refine aI (bH (bH (w _ _ ((aBi.new s.heap (.type "dict")).keeps λb o e=>aD _ e) (λb o e=>aD _ (aD _ e)) ⟨λx c h=>?_,λx c f h=>q x c (λe=>by rw[e,m]at f;cases f) h,λx f=>⟨s.heap.objs.size+1,by rw[p x f];simp⟩,λx c h=>?_,λx y c I J l=>?_⟩)))
  ·rcases v x c h with⟨rfl,rfl⟩ | ⟨n,h⟩
   ·exact .inl ⟨lD _,h8 m,_,g,gC⟩
   ·exact .inr ⟨h,λf=>n (p x f)⟩
  ·by_cases e:x=z
   ·exact⟨s.heap.objs.size+1,by rw[e];simp⟩
   ·exact⟨c,q x c e h⟩
  ·rcases v x c I with⟨C,_⟩ | ⟨_,G⟩
   ·rcases v y c J with⟨F,_⟩ | ⟨_,H⟩
    ·exact C.trans F.symm
    ·exact b8 (j y c H) (wH l)
   ·exact b8 (j x c G) (wH l)
section
variable{X:Cx}
def U9{R:Result->ã->Prop}{iter}(I:Nat->ã->Prop)
  (turn:∀n s,I n s->å (ä prog w) A (md it) (λr a=>match r with
   |none=>R (.ok .next) a
   |some v=>å (ä prog w) A (z8 target it v) (λ_ u=>å (ä prog w) A (lm target env v) (λ_ i=>
     å (ä prog w) A (mx t wx λc r=>if r=wx then do let ok <- isTrue c env (è c env);pure (g6 ok)else pure (g6 r)) (λok b=>
      if ok=wx then å (ä prog w) A (è f env) (λx j=>å (ä prog w) A (call (.builtin "list.append") [acc,x]) (λ_ k=>∃m,m<n/\I m k) (λ_ _=>False) j) (λ_ _=>False) b
      else∃m,m<n/\I m b) (λ_ _=>False) i) (λ_ _=>False) u) (λ_ _=>False) a) (λ_ _=>False) s)
  (n:Nat) (h:I n s):u0 (ä prog w) A (.compLoop (.ListComp f [⟨target,iter,t,0⟩] scope pos) 0 it acc env) R s:=by
 refine codeAny_loop gC I (λn s B=>?_) n h;refine wpAny_noted ?_;rw[compTurn_list];have l:∀{E:á->ã->Prop}(e:á)(s:ã),False->E e s:=λ_ _ z=>z.elim;refine aI (iw (aI (eE (turn n s B) (λr a d=>?_) l)))
 cases r with
 |none=>exact bH d
 |some v=>
  refine aI (eE d (λ_ u y=>aI (eE y (λ_ i o=>aI (eE o (λok b g=>?_) l)) l)) l)
  cases ok with
  |false=>exact bH ⟨gC,g⟩
  |true=>exact aI (aI (eE g (λx j p=>aI (eE p (λ_ k q=>bH (bH ⟨gC,q⟩)) l)) l))
variable{f iter F:æ}{t:List æ}{scope:Scope}{pos:Pos}{B:List â}{G:List (Option Nat)}{O:TI}{g:BP->TG}{M:BP->TT}{L:BP->TE}
def MG{H2:Hp}{s2:ã}{it:à}{tn:Nat->ç->Prop}{J:It}{Q:VK}{RR:á->à->Result->ã->Prop}{cl:List (â×à)}{E:á->ã->Prop}
  (U:X.calm=wx) (oi:scope.kind=.function) (hz:wT scope.names) (qd:vR scope.names X.env.scope.names X.N B G=wx)
  (s:∀n c,cl.lookup n=wz c->X.env.cells.lookup n=wz c) (og:∀n,(n,f9)∈scope.names->∃c,cl.lookup n=wz c)
  (hY:∀b,PG (blk X scope B b) F (g b)/\P1 (blk X scope B b) t (M b)/\PE (blk X scope B b) f (L b))
  (I2:dI X pins σ H2 s2) (T:NA X.prog X.w X.K F J fp it tn) (my:tn 0 s2.heap) (f2:∀b∈fp,CO X pins H2 b)
  (q:∀bp I,H2 I=wy->∃W:Nat->Nat->St->Hp->Prop,(∃m,W 0 m (zV G σ) (eY H2 I (.lst [])))/\∀i m S R,W i m S R ->
   (J.stop i R/\Q (.ref I) R)\/(J.go i R/\∀x H2,J.yld i R x H2->g bp x S H2 λox H3=>M bp ox H3 λb H4=>
    if b=wx then L bp ox H4 λy H5=>∃ys,H5 I=wz (.lst ys)/\ys.length<bN/\∃m',m'<m/\W (i+1) m' ox (eY H5 I (.lst (ys++[y])))
    else∃m',m'<m/\W (i+1) m' ox H4))
  (tx:∀I C s' HY m,dI X pins σ HY s'->CO X pins HY C->s'.heap.Ns C m->Q (.ref I) HY->RR (.ref I) C (.ok .next) s') :
  å (ä X.prog X.w) X.A (newList []) (λI qq=>å (ä X.prog X.w) X.A (fw scope X.env.globals cl [] X.env.qual wy .none (wz X.env)) (λnv qr=>
   u0 (ä X.prog X.w) X.A (.compStart (.ListComp f [⟨F,iter,t,0⟩] scope pos) 0 (.ref it) I { nv with scope:=relabel scope X.env }) (RR I nv.locals) qr) E qq) E s2:=by
 obtain⟨ui,ug⟩:=BH qd;have pz:=I2.hok.fresh (aN _);refine jL ?_ (by show 0<=bN;exact cP _)
 generalize qj:({ s2 with heap:=s2.heap.push { cls:=.type "list",dict:=wy,data:=.seq ([]:List á).toArray } }:ã)=s3
 have a:dI X pins σ (eY H2 s2.heap.objs.size (.lst [])) s3:=by
  rw[<- qj];exact I2.laid (λb u e=>aD _ e) (aN _) ⟨cP _,[],0,.nil,aX _ gC⟩
 have qc:∀b∈fp,b<s3.heap.objs.size:=λb hb=>by
  obtain⟨o,e,_⟩:=T.obj 0 _ my b hb;rw[<- qj];exact bF (aD _ e)
 have sv:tn 0 s3.heap:=T.keep 0 _ _ my λb _ o e=>by rw[<- qj];exact aD _ e
 have Z:∀b∈fp,CO X pins (eY H2 s2.heap.objs.size (.lst [])) b:=λb hb=>⟨by
  obtain⟨o,e,_⟩:=T.obj 0 _ my b hb;rw[bY (dF (bF e))];exact(f2 b hb).1,(f2 b hb).2⟩
 refine aDs hz (λx c e=>by obtain⟨v,o,ho,_⟩:=a.cell x c (s x c e);exact bF ho) λol H qf keep P=>?_
 generalize tu:eY H2 s2.heap.objs.size (.lst [])=H3 at *
 generalize wt:s2.heap.objs.size=ac at *
 generalize hC:s3.heap.objs.size=C at *
 obtain⟨W,⟨m0,w0⟩,turn⟩:=q ⟨H,C,s3,H3,fp,X.pn++pins⟩ ac pz;rw[tu]at w0
 have Y:∀x c,X.env.cells.lookup x=wz c->c<C:=λx c e=>by
  obtain⟨v,o,ho,_⟩:=a.cell x c e;rw[<- hC];exact bF ho
 have oa:=λb hb=>by exact dF (qc b hb)
 have qy:X.env.locals<C:=by rw[<- hC];exact a.lt
 have qk:∀b∈rC X.stack,b≠C/\H3 b=none:=λb hb=>⟨by
  rintro rfl;rcases aO.mp (a.stkSub b hb)with z | z
  ·rw[z]at qy;exact b8 qy (fB _)
  ·exact a.nofs (by rw[hC];exact aN _) z,a.stkFree b hb⟩
 -- the block's context
 have wk:(blk X scope B ⟨H,C,s3,H3,fp,X.pn++pins⟩).Ok:=by
  refine⟨a.ok.mod,oi,a.ok.glob,a.ok.blt,kH hC,λx y c h1 h2=>by
   rcases P.get x c h1 with⟨l1,_⟩ | ⟨g1,_⟩<;>rcases P.get y c h2 with⟨l2,_⟩ | ⟨g2,_⟩
   ·exact P.inj x y c h1 h2 l1
   ·exact b8 (Y y _ (s y _ g2)) (wH l1)
   ·exact b8 (Y x _ (s x _ g1)) (wH l2)
   ·exact a.ok.inj x y c (s x c g1) (s y c g2),λx hx=>?_,λx c hf h=>by
   rcases P.get x c h with⟨l,_⟩ | ⟨_,n⟩
   ·exact aY (kH hC) (jA l)
   ·exact b8 (h8 (beq_iff_eq.mp hf)) n,λ_=>a.ok.hd U,a.ok.frames,.inl gC,
   λb hb=>⟨oa b hb,λx c h=>by
    rcases P.get x c h with⟨l,_⟩ | ⟨h,_⟩
    ·exact jP (CV (qc b hb) l)
    ·exact(Z b hb).2.2.2.2.1 x c (s x c h)⟩,λb o e=>a.bs b o e,?_,λb o e hb=>?_,λb hb hs=>?_,a.stack,λb hb=>(qk b hb).2,a.env0.tab⟩
  ·have back:∀k,(relabel scope X.env).names.lookup x=wz k->(k=.cell\/k=.free)->∃c,(H).lookup x=wz c:=λk h hk=>by
    obtain⟨k0,h1,h2⟩:=tV h;rcases(show k0=.cell\/k0=.free from h2.elim (λe=>by rw[e];exact hk) λe=>.inr e.1)with rfl | rfl
    ·exact P.has x h1
    ·obtain⟨c,hc⟩:=og x h1;exact P.keep x c hc
   rcases hx with hx | hx
   ·exact back _ hx (.inl gC)
   ·exact back _ hx (.inr gC)
  ·exact aY a.ok.bsz (aY a.sz (aN _))
  ·rcases(Z b hb).2.2.2.1 with z | z
   ·exact a.ok.noex b o e z
   ·exact b8 (cH (bF (a.ok.bs b o e).1) z) (fB _)
  ·rcases aO.mp (a.stkSub b hs)with z | z
   ·exact(Z b hb).2.1 z
   ·exact(Z b hb).2.2.1 z
 have IY:dI (blk X scope B ⟨H,C,s3,H3,fp,X.pn++pins⟩) [] (zV G σ) H3 { s3 with heap:=ol }:=by
  refine⟨wk,gC,a.bare,Un.kept keep,⟨_,qf,λi x v h1 h2 _=>?_⟩,λx c e=>?_,(a.hok.fresh (kH hC)),λx c e=>(by
   rcases P.get x c e with⟨l,_⟩ | ⟨e,_⟩
   ·exact a.hok.fresh (by rw[hC];exact jA l)
   ·exact a.freeC x c (s x c e)),λp hp=>?_,a.hok.kept keep,?_⟩
  ·have e:∃j,G[i]?=wz (wz j)/\σ[j]?=wz (wz v):=by
    unfold zV at h2;rw[aQ]at h2
    cases hf:G[i]? with
    |none=>rw[hf]at h2;cases h2
    |some o=>
     rw[hf]at h2
     cases o with
     |none=>cases h2
     |some j=>
      refine⟨j,gC,?_⟩;have lq:(σ[j]?).join=wz v:=by simpa using h2
      cases hj:σ[j]? with
      |none=>rw[hj]at lq;cases lq
      |some o=>rw[hj]at lq;rw[show o=wz v from lq]
   obtain⟨j,e1,e2⟩:=e;obtain⟨a1,a2,a3⟩:=ug i x j h1 e1;obtain⟨m,hn,hl⟩:=a.loc;obtain⟨u,r,l⟩:=hl j x v a2 e2 (.inr (.inl a3));refine⟨u,r,.inr ⟨zF a1,?_⟩⟩;rcases l with⟨k,_⟩ | ⟨_,c,hc,o,ho,hd⟩
   ·have k':X.env.scope.names.lookup x=wz .local:=k;rw[a3]at k';cases k'
   ·obtain⟨c',z5⟩:=og x (h8 a1);have z:=s x c' z5;rw[hc]at z;cases z;exact⟨c,P.old x c a1 z5,o,keep c o ho,hd⟩
  ·rcases P.get x c e with⟨_,_,vd⟩ | ⟨e,_⟩
   ·exact⟨wy,vd⟩
   ·obtain⟨v,o,ho,hd⟩:=a.cell x c (s x c e);exact⟨v,o,keep c o ho,hd⟩
  ·obtain⟨e,n,ne,nf,d⟩:=a.pin p (by have hp':p∈(X.pn++pins)++[]:=hp;simpa using hp');refine⟨keep _ _ e,n,?_,λz=>?_,d⟩
   ·have:=bF e;rw[hC]at this;exact dF this
   ·rcases aO.mp (a.stkSub p.1 z)with z | z
    ·exact ne z
    ·exact nf z
  ·unfold zV;rw[aC];exact ui.symm
 have mh:∀{R:Hp},(∀b∈fp,R b=wy)->∀b∈fp,CO (blk X scope B ⟨H,C,s3,H3,fp,X.pn++pins⟩) [] R b:=λ{R} hn b hb=>
  ⟨hn b hb,oa b hb,λz=>by
   rcases aO.mp (a.stkSub b z)with z | z
   ·exact(Z b hb).2.1 z
   ·exact(Z b hb).2.2.1 z,  .inl hb,λx c e=>(by
   rcases P.get x c e with⟨l,_⟩ | ⟨e,_⟩
   ·exact jP (CV (qc b hb) l)
   ·exact(Z b hb).2.2.2.2.1 x c (s x c e)),λp hp=>(Z b hb).2.2.2.2.2 p (by have hp':p∈(X.pn++pins)++[]:=hp;simpa using hp')⟩
 obtain⟨hg,ht,he⟩:=hY ⟨H,C,s3,H3,fp,X.pn++pins⟩
 have kq:u0 (ä X.prog X.w) X.A (.compLoop (.ListComp f [⟨F,iter,t,0⟩] scope pos) 0 (.ref it) (.ref ac) (compEnvC scope H C X.env)) (RR (.ref ac) C) { s3 with heap:=ol }:=by
  refine U9 (λn s'=>∃i S R,dI (blk X scope B ⟨H,C,s3,H3,fp,X.pn++pins⟩) [] S R s'/\tn i s'.heap/\(∀b∈fp,R b=wy)/\W i n S R) ?_ m0
   ⟨0,zV G σ,H3,IY,T.keep 0 _ _ sv λb _ o e=>keep b o e,λb hb=>(Z b hb).1,w0⟩
  rintro n s4 ⟨i,oy,H4,I4,sw,qx,w4⟩;rcases turn i n oy H4 w4 with⟨stop,qn⟩ | ⟨go,step⟩
  ·refine iZ (T.done (blk X scope B ⟨H,C,s3,H3,fp,X.pn++pins⟩) gC gC gC U i [] s4 oy H4 _ I4 (mh qx) sw stop) λr s5 zq=>?_;obtain⟨hr,I5⟩:=zq;subst hr;obtain⟨m,hn,_⟩:=I5.loc;exact tx ac C s5 H4 m (a.call' I5.os I5.base I5.hok I5.bare λb hb=>⟨(Z b hb).2.2.2.1,(Z b hb).2.1,(Z b hb).2.2.2.2.1,(Z b hb).2.2.2.2.2⟩) (a.fpOk (kH hC) I5.free) hn qn
  ·refine iZ (T.item (blk X scope B ⟨H,C,s3,H3,fp,X.pn++pins⟩) gC gC gC U i [] s4 oy H4 (λ_ _=>False) I4 (mh qx) sw go) λr s5 zq=>?_;obtain⟨u,hr,h5⟩:=zq;subst hr;refine iZ h5 λ_ s6 zq=>?_;obtain⟨x,H6,I6,r6,y6,qp,tm⟩:=zq;refine iZ (hg _ s6 oy H6 x u _ (I6.pinned (mh tm) (T.obj _ _ qp)) r6 (step x H6 y6)) λ_ s7 zq=>?_;obtain⟨qt,H7,I7,q7⟩:=zq;refine iZ (ht _ s7 qt H7 _ I7 q7) λok s8 zq=>?_;obtain⟨H8,I8,q8⟩:=zq
   have mv:∀{s9:ã}{ph:St}{H9:Hp}{m':Nat},dI (blk X scope B ⟨H,C,s3,H3,fp,X.pn++pins⟩) ([]++EA fp s6.heap) ph H9 s9->m'<n->W (i+1) m' ph H9 ->
     ∃m,m<n/\∃i S R,dI (blk X scope B ⟨H,C,s3,H3,fp,X.pn++pins⟩) [] S R s9/\tn i s9.heap/\(∀b∈fp,R b=wy)/\W i m S R:=λ{s9 ph H9 m'} I9 hm w9=>by
    refine⟨m',hm,i+1,ph,H9,I9.unpinned,T.keep _ _ _ qp λb hb o e=>(I9.pin (b,o) (cE _ (cE _ (tX hb e)))).1,λb hb=>?_,w9⟩;obtain⟨o,e,d⟩:=T.obj _ _ qp b hb;exact(I9.pin (b,o) (cE _ (cE _ (tX hb e)))).2.1
   cases ok with
   |false=>
    obtain⟨m',hm,w8⟩:=q8;exact mv I8 hm w8
   |true=>
    refine iZ (he _ s8 qt H8 _ I8 q8) λy s9 zq=>?_;obtain⟨yv,H9,I9,r9,ys,vz,hz,m',hm,w9⟩:=zq;refine iZ (oS _ s9 qt H9 (.ref ac) [yv] (.ref ac) [y] (λ_ R=>R=eY H9 ac (.lst (ys++[yv]))) I9 gC (.cons r9 .nil) ⟨ac,ys,yv,gC,gC,vz,hz,gC⟩) λ_ xx zq=>?_;obtain⟨_,wo,sy,_,tj⟩:=zq;subst tj;exact mv sy hm w9
 exact codeAny_compStart_list kq (T.self _ 0 _ _ _ (T.keep 0 _ _ sv λb _ o e=>keep b o e) kq)
def OK(d:X.calm=wx)(a:scope.kind=.function)(hz:wT scope.names)(u:vR scope.names X.env.scope.names X.N B G=wx)
  (j:∀y∈scope.names,y.2=.free->X.env.scope.names.lookup y.1=wz .cell) (c:∀x∈scope.names,x.2=.local->scope.names.lookup x.1=wz .local) (U:PI X F iter O)
  (S:∀b,PG (blk X scope B b) F (g b)/\P1 (blk X scope B b) t (M b)/\PE (blk X scope B b) f (L b))
  (Y:autoParam (∀x,j3 iter X.env x=pure x) zzx._auto_1):PE X (.ListComp f [⟨F,iter,t,0⟩] scope pos) (WS G O g M L):=by
 intro p s σ H Q I h;obtain⟨cl,i,l,n⟩:=yI λy Z hk=>I.ok.has y.1 (.inl (j y Z hk));rw[eval_ListComp];refine iv gC Y i a c (iZ (U p s σ H _ I h) λv s1 P=>iZ P λsj s2 R=>?_);obtain⟨it,fp,tn,J,H2,rfl,E,T,w,K,q⟩:=R;refine MG d a hz u l n S E T w K q λr C s' z m A k W q'=>?_;exact⟨m,W,λh' sb=>⟨.ref r,z,A.turned (λb o hb e=>(sb.2 b hb).trans e) k.1 k.2.1 k.2.2.2.1 k.2.2.2.2.1 k.2.2.2.2.2,gC,q'⟩⟩
def X2{i:Nat}{x:â}{Z j:Pos}(hN:X.N.Nodup)(S:X.N[i]?=wz x)(hx:VL X.env.scope x)(l:X.calm=wx)(c:scope.kind=.function)(hz:wT scope.names)(R:vR scope.names X.env.scope.names X.N B G=wx)
  (p:∀y∈scope.names,y.2=.free->X.env.scope.names.lookup y.1=wz .cell) (d:∀x∈scope.names,x.2=.local->scope.names.lookup x.1=wz .local) (hi:PI X F iter O)
  (hY:∀b,PG (blk X scope B b) F (g b)/\P1 (blk X scope B b) t (M b)/\PE (blk X scope B b) f (L b))
  (U:kP (.ListComp f [⟨F,iter,t,0⟩] scope pos) (wz (.Name x Z)) j.line X.env=pure wx)
  (hs:autoParam (∀x,j3 iter X.env x=pure x) zzx._auto_1) (hf:autoParam (X.fn x=wx\/X.env.scope.names.lookup x=wz .local) zzw._auto_1) :
  PS X (.Assign [.Name x Z] (.ListComp f [⟨F,iter,t,0⟩] scope pos) j) (xU (WS G O g M L) (lS i)):=by
 intro w s σ H D I h;obtain⟨cl,n,r,u⟩:=yI λy hy hk=>I.ok.has y.1 (.inl (p y hy hk));rw[exec_Assign_Name_used _ _ _ _ U];refine aI (iw (aI ?_))
 refine aI (eE (iv gC hs n c d
  (iZ (hi w s σ H _ I h) λv s1 h1=>iZ h1 λsj s2 h2=>?_)) (λ_ s' hq=>bH (bH hq)) λ_ _ e=>e)
 obtain⟨it,fp,tn,J,H2,rfl,I2,T,Y,f2,q⟩:=h2;refine MG (Q:=λx H1=>lS i x σ H1 D.nx) l c hz R r u hY I2 T Y f2 q λE C s' HY m I' k hn q'=>?_;refine nc (GW I' hN S hx (v:=.ref E) gC (λxy A P=>?_) hf);obtain⟨a,sb,ha⟩:=P
 have K:C≠a:=by
  rcases ha with z | z
  ·rw[z];exact k.2.1
  ·exactλe=>k.2.2.2.2.1 x a z e.symm
 exact⟨m,hn.sameBut sb K,λh' W=>⟨_,HY,A.turned (λb o hb e=>(W.2 b hb).trans e) k.1 k.2.1 k.2.2.2.1 k.2.2.2.2.1 k.2.2.2.2.2,q'⟩⟩
end
section
variable{prog:cV}{w:f7}{A:d8}{E:á->ã->Prop}{h:ç}{g:Array GenState}{d:Drawn}{t:Nat}{os:OsState}{a C:à}{f:Obj}{b:Option Obj}{K:aF}
structure FN(K:aF)(C:à):Prop where
 ga:dG K (.ref C) "__getattribute__"=wz (wz (.builtin "BaseException.__getattribute__"))
 gt:dG K (.ref C) "__getattr__"=wz wy
 cl:dG K (.ref C) "__class__"=wz (wz (.builtin "object.__class__"))
 ob:bL K C (.type "object")=wz wx
 be:bL K C (.type "BaseException")=wz wx
def hM(K:aF)(C:à):Prop:=FN K C/\∀T∈["int","str","list","tuple","bool"],dU K (.ref C) (.type T)=wz ww
def VC{Q:Unit->ã->Prop}(X:K.In h)(c:FN K C)(I:mI h a f C b)(j:Q () ⟨h,g,d,t,os⟩):å M A (checkBuiltinCall "BaseException.__getattribute__" ⟨[.ref a,nameV],[]⟩) Q E ⟨h,g,d,t,os⟩:=by
 have hk:builtinKind "BaseException.__getattribute__"=wz .slot:=by decide +kernel
 have e:splitId "BaseException.__getattribute__"=wz ("BaseException","__getattribute__"):=by decide +kernel
 have i:=PySem.W.looks_mroIn (M:=M) X c.be;refine aI ?_;refine aI ((I.type (M:=M)).at (i.at ?_))
 repeat (first | exact j | wp_step)
def KC{Q:Fin->ã->Prop}(X:K.In h)(c:FN K C)(I:mI h a f C b)(l:Q (.done (.ret (.ref C))) ⟨h,g,d,t,os⟩) :
  å (ä prog w) A (y3.«object.__getattribute__» ⟨[.ref a,.str "__class__" tk],[]⟩) Q E ⟨h,g,d,t,os⟩:=by
 have i:=F.typeOf_object_class;have j:=F.slot_gs_get.lookup;have k:=F.slot_gs_set.lookup;have e:=pI (M:=ä prog w) X c.cl
 repeat (any_goals (first | assumption | with_reducible refine(I.type (M:=ä prog w)).at ?_ | with_reducible refine e.at ?_ | wp_step))
 refine PySem.W.class_get X I c.ob ?_
 repeat (any_goals (first | assumption | wp_step))
def MY{R:Result->ã->Prop}(X:K.In h)(c:FN K C)(I:mI h a f C b)(e:R (.ok (.ret (.ref C))) ⟨h,g,d,t,os⟩) :
  u0 (ä prog w) A (.call (.builtin "BaseException.__getattribute__") ⟨[.ref a,.str "__class__" tk],[]⟩) R ⟨h,g,d,t,os⟩:=
 codeAny_call_builtin F.excAttr_ValueError.ga.plain F.entry_bexc_ga (VC X c I (KC X c I e))
def VA{Q:á->ã->Prop}(X:K.In h)(c:FN K C)(I:mI h a f C b)(l:Q (.ref C) ⟨h,g,d,t,os⟩):å (ä prog w) A (getAttrBy (.ref a) (.str "__class__" tk) ww) Q E ⟨h,g,d,t,os⟩:=by
 have k:=F.excAttr_ValueError.ga.bind (.ref a);have j:(Value.builtin "BaseException.__getattribute__"==Value.builtin "object.__getattribute__")=false:=by decide +kernel
 have i:=pI (M:=ä prog w) X c.ga;have e:=pI (M:=ä prog w) X c.gt
 repeat (any_goals (first | assumption | with_reducible refine(I.type (M:=ä prog w)).at ?_ | with_reducible refine i.at ?_ | with_reducible refine e.at ?_ | wp_step))
 refine MY X c I ?_
 repeat (any_goals (first | assumption | wp_step))
def MZ{Q:Option á->ã->Prop}(X:K.In h)(c:FN K C)(I:mI h a f C b)(e:Q (wz (.ref C)) ⟨h,g,d,t+1,os⟩):å (ä prog w) A (getAttr? (.ref a) "__class__") Q E ⟨h,g,d,t,os⟩:=by
 repeat (any_goals (first | assumption | with_reducible apply VA X c I | wp_step))
def MJ(c:FN K C):PySem.W.KitX K (.ref a) (.ref C) (λh=>∃f b,mI h a f C b) where
 ty:=λ_ _ _ ⟨_,_,I⟩=>I.type
 it:=λ_ _ X _=>by
  obtain⟨cd,hc,_⟩:=KW.mp c.ob;unfold gT at hc;split at hc
  ·rename_i c' d' td qo ho;intro A' Q' E' s' k q;exact aI (wpAny_loadPart (k _ _ (X _ _ ho)) (bH q))
  ·cases hc
 ne:=λh tp dd aj n sl X vp=>by
  obtain⟨cd,hc,_⟩:=KW.mp c.ob;refine Bool.eq_false_iff.mpr λq=>?_;have e:=Value.ref.inj (beq_iff_eq.mp q);subst e;unfold gT at hc;split at hc
  ·rename_i c' d' td qo ho;cases ((X _ _ ho).symm.trans vp)
  ·cases hc
 ca:=λ{_ _ _ _ _ s} X ⟨_,_,I⟩ k=>by
  obtain⟨hh,g,d,t,os⟩:=s;exact MZ X c I k
end
structure aSy(k:Nat)(A:d8):Prop where
 dp:A.depth+3*k+5<al
 un:A.units+16*k+200<x6
 gd:A.guards=wz []
def iE.h{k:Nat}(r:iE k A):aSy k A:=⟨r.dp,r.un,r.gd⟩
end L2
namespace TL
open L2
abbrev D:=PySem.PyData
def Xe(p:à)(h:ç):Prop:=∃(a:List á)(n:Nat),h.get? p=wz { cls:=.type "list",data:=.seq a.toArray n }/\a.length<=1000/\∀v∈a,∃i t,v=.int i t/\0<=i/\i<4096
def pH(p C:à)(dx:Option à)(h:ç):Prop:=∃o vs,h.get? p=wz o/\o.cls=.ref C/\o.dict=dx/\o.data=.fields vs
def tR(p q:à)(h:ç):Prop:=∃a b c d e f n,h.get? p=wz { cls:=.type "list",data:=.seq [d0 q,.int a d,.int b e,.int c f].toArray n }/\0<=a/\(c=0\/c=1)
def Dr(e:Int×à×V)(x:w5):Prop:=x.hash=e.1/\x.key=.ref e.2.1/\fQ e.2.2 x.val
def Nh(p:à)(a:List (Int×à×V))(h:ç):Prop:=(p==l4)=ww/\a.length<=bN/\∃o b c,h.get? p=wz o/\o.ExactDict/\o.data=.dict b c/\Paired Dr a b.toList
noncomputable def Jt(p:à)(a:List (Int×à×V)):HO:=.ext (Nh p a)
def Wb(p:à)(a:List (Int×à×V))(c:Nat)(h:ç):Prop:=(p==l4)=ww/\a.length<=bN/\∃o b,h.get? p=wz o/\o.ExactDict/\o.data=.dict b c/\Paired Dr a b.toList
noncomputable def Kr(p:à)(b:List (Int×à×V))(a:Nat):HO:=.ext (Wb p b a)
mutual
inductive iK(K:aF)(H:Hp):D->V->Prop
|none:iK K H .none .non
|bool (b:Bool):iK K H (.bool b) (.bl b)
|int (i:Int):iK K H (.int i) (.int i)
|str (x:â):iK K H (.str x) (.str x)
|list {p:à} {xs:List V} {ts:List D}:nM K H p xs->Reps K H ts xs->iK K H (.list ts) (.ref p)
|tuple {p:à} {xs:List V} {ts:List D}:rL K H p xs->Reps K H ts xs->iK K H (.tuple ts) (.ref p)
|wild {p:à}:H p=wz (.ext (Xe p))->iK K H (.dict []) (.ref p)
|exc {p C:à}:hM K C->H p=wz (.ext (pH p C Option.none))->iK K H (.dict [(.int (C:Nat),.none)]) (.ref p)
|excA {p C dx:à} {n:Int}:hM K C->H p=wz (.ext (pH p C (wz dx)))->H dx=wz (.xd [("at",.int n)])->iK K H (.dict [(.int (C:Nat),.int n)]) (.ref p)
|excD {p C dx:à} {v:V} {cs:List D}:hM K C->H p=wz (.ext (pH p C (wz dx)))->H dx=wz (.xd [("case",v)])->iK K H (.tuple cs) v->iK K H (.dict [(.int (C:Nat),.tuple cs)]) (.ref p)
|tape {p q:à} {ns:List Int}:H p=wz (.ext (tR p q))->nM K H q (ns.map V.int)->iK K H (.dict [(.none,.list (ns.map cI))]) (.ref p)
|dct {p:à} {es:List (Int×à×V)} {ep:Nat} {kvs:List (D×D)}:H p=wz (Kr p es ep)->(kvs.map (·.1)).Nodup->Reps K H (kvs.map (·.1)) (es.map λe=>.ref e.2.1)->Reps K H (kvs.map (·.2)) (es.map λe=>e.2.2)->iK K H (.dict ((.str "{}",.list ((es.map (·.1)).map cI))::kvs)) (.ref p)
|addr {p:à} (z:List D):iK K H (.dict [(.str "@",.list (.int (p:Nat)::z))]) (.ref p)
|ins {p C dx:à} {fs:List (â×V)} {ds:List D}:H p=wz (.ins C dx fs)->Reps K H ds (fs.map (·.2))->iK K H (.dict [(.str "obj",.tuple [.int (C:Nat),.list ((fs.map (·.1)).map aK),.list ds])]) (.ref p)
inductive Reps(K:aF)(H:Hp):List D->List V->Prop
|nil:Reps K H [] []
|cons {t:D} {ts:List D} {x:V} {xs:List V}:iK K H t x->Reps K H ts xs->Reps K H (t::ts) (x::xs)
end
variable{K:aF}{H G J L:Hp}
def bG.seqT{a:à}(e:bG H G)(h:rL K H a xs):rL K G a xs:=by
 rcases h with(h | ⟨o,h⟩) | h
 ·exact .inl (.inl (e _ _ h))
 ·exact .inl (.inr ⟨o,e _ _ h⟩)
 ·exact .inr h
def iK.same(e:bG H G){d:D}{v:V}(r:iK K H d v):iK K G d v:=
 iK.rec .none .bool .int .str (λq _ a=>.list (L2.bG.seq e q) a) (λq _ a=>.tuple (bG.seqT e q) a) (λh=>.wild (e _ _ h)) (λx h=>.exc x (e _ _ h)) (λx h g=>.excA x (e _ _ h) (e _ _ g))
  (λx h g _ a=>.excD x (e _ _ h) (e _ _ g) a) (λh g=>.tape (e _ _ h) (L2.bG.seq e g)) (λh n _ _ a b=>.dct (e _ _ h) n a b) .addr (λh _ a=>.ins (e _ _ h) a) .nil (λ_ _ a b=>.cons a b) r
theorem Reps.same(e:bG H G){c:List D}:∀{vs:List V},Reps K H c vs->Reps K G c vs:=by
 induction c with
 |nil=>intro vs r;cases r;exact .nil
 |cons d c f=>
  intro vs r
  cases r with
  |cons a b=>exact .cons (a.same e) (f b)
theorem Reps.length:∀{a:List D}{vs:List V},Reps K H a vs->a.length=vs.length
|_,_,.nil=>rfl
|_,_,.cons _ s=>by simp[Reps.length s]
theorem Reps.get:∀{ds vs}{i:Nat}{d},Reps K H ds vs->ds[i]?=wz d->∃v,vs[i]?=wz v/\iK K H d v
|_,_,_,_,.nil,e=>by simp at e
|_,_,0,_,.cons r _,e=>by simp at e;subst e;exact⟨_,gC,r⟩
|_,_,i+1,d,.cons _ s,e=>by
 obtain⟨v,a,b⟩:=Reps.get s (by simpa using e);exact⟨v,by simpa using a,b⟩
theorem Reps.get':∀{ds vs}{i:Nat}{v},Reps K H ds vs->vs[i]?=wz v->∃d,ds[i]?=wz d/\iK K H d v
|_,_,_,_,.nil,e=>by simp at e
|_,_,0,_,.cons r _,e=>by simp at e;subst e;exact⟨_,gC,r⟩
|_,_,i+1,d,.cons _ s,e=>by
 obtain⟨v,a,b⟩:=Reps.get' s (by simpa using e);exact⟨v,by simpa using a,b⟩
theorem Reps.append:∀{ds es vs us},Reps K H ds vs->Reps K H es us->Reps K H (ds++es) (vs++us)
|_,_,_,_,.nil,s=>s
|_,_,_,_,.cons r t,s=>.cons r (Reps.append t s)
theorem Reps.take:∀{a:List D}{vs:List V}(n:Nat),Reps K H a vs->Reps K H (a.take n) (vs.take n)
|_,_,0,_=>.nil
|_,_,_+1,.nil=>.nil
|_,_,n+1,.cons r t=>.cons r (Reps.take n t)
theorem Reps.drop:∀{a:List D}{vs:List V}(n:Nat),Reps K H a vs->Reps K H (a.drop n) (vs.drop n)
|_,_,0,r=>r
|_,_,_+1,.nil=>.nil
|_,_,n+1,.cons _ t=>Reps.drop n t
noncomputable def ê(H:Hp)(C:List à):Hp:=λb=>if b∈C then wy else H b
def cC(e:bG H G):bG (ê H C) (ê G C):=λb o h=>by
 unfold ê at h |-
 by_cases hb:b∈C
 ·rw[a9 hb]at h;cases h
 ·rw[a8 hb]at h |-;exact e b o h
def gY(h:∀p∈t7,p∈C):bG (ê H C) (ê H t7):=λb o e=>by
 unfold ê at e |-
 by_cases hb:b∈C
 ·rw[a9 hb]at e;cases e
 ·rw[a8 hb]at e;rw[a8 λz=>hb (h b z)];exact e
def cA:bG (ê H C) H:=λb o e=>by
 unfold ê at e;by_cases hb:b∈C
 ·rw[a9 hb]at e;cases e
 ·rw[a8 hb]at e;exact e
def pE{p:à}(h:H p=wy):ê (eY H p o) (p::C)=ê H C:=by
 funext b;unfold ê;by_cases hb:b=p
 ·subst hb;rw[a9 (aP ..),h];by_cases z:b∈C<;>simp[z]
 ·rw[bY hb];by_cases z:b∈C
  ·rw[a9 (aH _ z),a9 z]
  ·rw[a8 (λq=>(aO.mp q).elim hb z),a8 z]
def fU{p:à}(h:p∈C):ê (eY H p o) C=ê H C:=by
 funext b;unfold ê;by_cases hb:b=p
 ·subst hb;rw[a9 h,a9 h]
 ·rw[bY hb]
def dN{p:à}(h:H p=wy):bG H (eY H p o):=λb u q=>by rw[bY (eX q h)];exact q
def mO{p:à}(h:p∉C)(e:H p=wz o):ê H C p=wz o:=by
 unfold ê;rw[a8 h];exact e
noncomputable def zx:HO->Bool
|.tup _=>wx
|.frz _ (.tup _)=>wx
|_=>ww
def AL(u:Option HO):Prop:=∃v,u=wz v/\zx v=ww
def AL.ne(h:AL u):u≠none:=λz=>by obtain⟨v,e,_⟩:=h;rw[z]at e;cases e
theorem AL.lst{xs}:AL (wz (.lst xs)):=⟨_,gC,gC⟩
def iW{C:List à}{p:à}(live:∀q∈C,AL (H q))(h:H p=wy):p∉C:=λz=>(live p z).ne h
inductive Sl where
|un | val (d:D) | own (ts:List D) | dic (hs:List Int) (kvs:List (D×D))
def tG(K:aF)(B:Hp)(I:List à)(H:Hp)(C:List à)(m:List Sl)(E:L2.St):Prop:=∀i d kvs,m[i]?=wz (.dic d kvs) ->
 (∃(p:à)(a:List (Int×à×V)),E[i]?=wz (wz (.ref p))/\p∈C/\B p=wy/\p∉I/\H p=wz (Jt p a)/\d=a.map (·.1)/\(kvs.map (·.1)).Nodup/\Reps K (ê H C) (kvs.map (·.1)) (a.map λe=>.ref e.2.1)/\Reps K (ê H C) (kvs.map (·.2)) (a.map λe=>e.2.2)) /\
 ∀(j:Nat)(b:List Int)(c:List (D×D)),m[j]?=wz (.dic b c)->i=j
def tG.to{B g:Hp}(o:tG K B I H C m E)(c:∀(i:Nat)(a:List Int)(kvs:List (D×D)),n8[i]?=wz (.dic a kvs)->m[i]?=wz (.dic a kvs)/\u4[i]?=E[i]?)
  (N:∀p f,p∈C->H p=wz (.ext f)->p∉I->p∈t7/\G p=H p) (F:∀p f,p∈C->H p=wz (.ext f)->B p=wy->p∉I->g p=wy/\p∉p0') (k:bG (ê H C) (ê G t7)):tG K g p0' G t7 n8 u4:=λi a kvs h=>by
 obtain⟨z,A⟩:=c i a kvs h;obtain⟨⟨p,y,l,a2,n,a4,e,q,r,s,t⟩,u⟩:=o i a kvs z;obtain⟨v,w⟩:=N p _ a2 e a4;obtain⟨c1,x⟩:=F p _ a2 e n a4;exact⟨⟨p,y,A.trans l,v,c1,x,w.trans e,q,r,s.same k,t.same k⟩,λj b d M=>u j b d (c j b d M).1⟩
def SG{m:List Sl}{i j:Nat}(c:∀a kvs,s≠.dic a kvs)(h:(m.set i s)[j]?=wz (.dic a kvs)):i≠j/\m[j]?=wz (.dic a kvs):=by
 by_cases e:i=j
 ·subst e;have b:i<m.length:=by simpa using(aL.mp h).1
  rw[bT b]at h;exact b8 (c8 h) (c a kvs)
 ·rw[bM e]at h;exact⟨e,h⟩
def tG.setS{m:List Sl}{E:L2.St}(o:tG K B I H C m E){i:Nat}(d:∀c kvs,s≠.dic c kvs):tG K B I H C (m.set i s) (E.set i v):=
 o.to (λj c kvs h=>let ⟨e,h'⟩:=SG d h;⟨h',bM e⟩) (λp f a b _=>⟨a,gC⟩) (λp f _ _ a b=>⟨a,b⟩) (L2.bG.refl _)
def tG.setT{m:List Sl}(o:tG K B I H C m E){i:Nat}(d:∀c kvs,s≠.dic c kvs):tG K B I H C (m.set i s) E:=
 o.to (λj c kvs h=>⟨(SG d h).2,gC⟩) (λp e a b _=>⟨a,gC⟩) (λp e _ _ a b=>⟨a,b⟩) (L2.bG.refl _)
def tG.grow(o:tG K B I H C m E)(e:bG H G):tG K B I G C m E:=
 o.to (λj d kvs h=>⟨h,gC⟩) (λp c a b _=>⟨a,(e p _ b).trans b.symm⟩) (λp c _ _ a b=>⟨a,b⟩) (cC e)
structure Ok(K:aF)(B:Hp)(I:List à)(H:Hp)(C:List à)(m:List Sl)(E:L2.St):Prop where
 base:bG B H
 sub:∀p∈I,p∈C
 live:∀p∈C,AL (H p)
 len:m.length=E.length
 val:∀(i:Nat)(d:D),m[i]?=wz (.val d)->∃v,E[i]?=wz (wz v)/\iK K (ê H C) d v
 own:∀(i:Nat)(ts:List D),m[i]?=wz (.own ts)->∃p xs,E[i]?=wz (wz (.ref p))/\p∈C/\B p=wy/\p∉I/\H p=wz (.lst xs)/\Reps K (ê H C) ts xs
 dis:∀(i j:Nat)(ts us:List D)(p:à),m[i]?=wz (.own ts)->m[j]?=wz (.own us)->E[i]?=wz (wz (.ref p))->E[j]?=wz (wz (.ref p))->i=j
 dc:tG K B I H C m E
variable{B:Hp}{I C:List à}{m:List Sl}{E:L2.St}
theorem Ok.grow(o:Ok K B I H C m E)(e:bG H G):Ok K B I G C m E where
 base:=o.base.trans e
 sub:=o.sub
 live:=λp hp=>let ⟨u,h1,h2⟩:=o.live p hp;⟨u,e p u h1,h2⟩
 len:=o.len
 val:=λi d h=>let ⟨v,h1,h2⟩:=o.val i d h;⟨v,h1,h2.same (cC e)⟩
 own:=λi ts h=>let ⟨p,xs,h1,h2,h3,h4,h5,h6⟩:=o.own i ts h;⟨p,xs,h1,h2,h3,h4,e _ _ h5,h6.same (cC e)⟩
 dis:=o.dis
 dc:=o.dc.grow e
theorem Ok.set(o:Ok K B I H C m E){i:Nat}(r:iK K (ê H C) d v):Ok K B I H C (m.set i (.val d)) (E.set i (wz v)) where
 base:=o.base
 sub:=o.sub
 live:=o.live
 len:=by simpa using o.len
 val:=λj d' h=>by
  by_cases e:i=j
  ·subst e
   have hi:i<m.length:=by
    have:=(aL.mp h).1;simpa using this
   rw[bT hi]at h;cases h;exact⟨v,by rw[bT (by rw[<- o.len];exact hi)],r⟩
  ·rw[bM e]at h |-
   exact o.val j d' h
 own:=λj ts h=>by
  by_cases e:i=j
  ·subst e
   have hi:i<m.length:=by
    have:=(aL.mp h).1;simpa using this
   rw[bT hi]at h;cases h
  ·rw[bM e]at h |-
   exact o.own j ts h
 dis:=λj k ts us p h1 h2 h3 h4=>by
  have ne:∀{l:Nat}{ts:List D},(m.set i (.val d))[l]?=wz (.own ts)->i≠l:=λ{l ts} h e=>by
   subst e
   have hi:i<m.length:=by
    have:=(aL.mp h).1;simpa using this
   rw[bT hi]at h;cases h
  have e1:=ne h1;have e2:=ne h2;rw[bM e1]at h1 h3;rw[bM e2]at h2 h4;exact o.dis j k ts us p h1 h2 h3 h4
 dc:=o.dc.setS λ_ _ z=>nomatch z
def Ok.setOwn(o:Ok K B I H C m E){i:Nat}{O:List D}{F:List V}{p:à}(y:H p=wy)(r:Reps K (ê H C) O F):Ok K B I (eY H p (.lst F)) (p::C) (m.set i (.own O)) (E.set i (wz (.ref p))):=by
 have M:ê (eY H p (.lst F)) (p::C)=ê H C:=pE y;have v:=iW o.live y
 have P:∀{l:Nat}{w:List D},i≠l->m[l]?=wz (.own w)->E[l]?≠wz (wz (.ref p)):=λ{l w} _ h z=>by
  obtain⟨q,_,c,f,_⟩:=o.own l w h;rw[z]at c;cases c;exact v f
 refine⟨o.base.trans (dN y),λq N=>aH _ (o.sub q N),λq N=>?_,by simpa using o.len,λj d h=>?_,λj w h=>?_,λj k w S q c f g n=>?_,?_⟩
 ·by_cases e:q=p
  ·subst e;rw[cD];exact .lst
  ·rw[bY e];rcases aO.mp N with z | z
   ·exact b8 z e
   ·exact o.live q z
 ·rw[M];by_cases e:i=j
  ·subst e;have t:i<m.length:=by simpa using(aL.mp h).1
   rw[bT t]at h;cases h
  ·rw[bM e]at h |-
   exact o.val j d h
 ·rw[M];by_cases e:i=j
  ·subst e;have t:i<m.length:=by simpa using(aL.mp h).1
   rw[bT t]at h;cases h;refine⟨p,F,by rw[bT (by rw[<- o.len];exact t)],aP ..,?_,λz=>v (o.sub p z),cD,r⟩
   cases q:B p with
   |none=>rfl
   |some u=>rw[o.base p u q]at y;cases y
  ·rw[bM e]at h |-
   obtain⟨q,T,c,f,g,n,Q,R⟩:=o.own j w h;refine⟨q,T,c,aH _ f,g,n,?_,R⟩;rw[bY (λz:q=p=>v (z▸f))];exact Q
 ·by_cases A:i=j
  ·by_cases x:i=k
   ·exact A.symm.trans x
   ·subst A;have t:i<m.length:=by simpa using(aL.mp c).1
    rw[bT (by rw[<- o.len];exact t)]at g;cases g;rw[bM x]at f n;exact b8 n (P x f)
  ·by_cases x:i=k
   ·subst x;have t:i<m.length:=by simpa using(aL.mp f).1
    rw[bT (by rw[<- o.len];exact t)]at n;cases n;rw[bM A]at c g;exact b8 g (P A c)
   ·rw[bM A]at c g;rw[bM x]at f n;exact o.dis j k w S q c f g n
 ·exact(o.dc.setS (s:=.own O) λ_ _ z=>nomatch z).to (λj W kvs h=>⟨h,gC⟩) (λq U a b _=>⟨aH _ a,bY λz=>by rw[z,y]at b;cases b⟩) (λq U _ _ a b=>⟨a,b⟩) (by rw[M];exact L2.bG.refl _)
def Ok.write(o:Ok K B I H C m E){i:Nat}{p:à}(v:m[i]?=wz (.own ts))(c:E[i]?=wz (wz (.ref p)))(r:Reps K (ê H C) us ys) :
  Ok K B I (eY H p (.lst ys)) C (m.set i (.own us)) E:=by
 obtain⟨q,Y,M,N,O,P,Q,W⟩:=o.own i ts v;rw[c]at M;cases M;have w:ê (eY H p (.lst ys)) C=ê H C:=fU N;have n:=(aL.mp v).1;refine⟨λb u e=>?_,o.sub,λq R=>?_,by simpa using o.len,λj d h=>?_,λj A h=>?_,λj k vs A q g t x y=>?_,?_⟩
 ·rw[bY (λz=>by rw[z,O]at e;cases e)];exact o.base b u e
 ·by_cases e:q=p
  ·subst e;rw[cD];exact .lst
  ·rw[bY e];exact o.live q R
 ·rw[w];by_cases e:i=j
  ·subst e;rw[bT n]at h;cases h
  ·rw[bM e]at h;exact o.val j d h
 ·rw[w];by_cases e:i=j
  ·subst e;rw[bT n]at h;cases h;exact⟨p,ys,c,N,O,P,cD,r⟩
  ·rw[bM e]at h;obtain⟨q,vs,g,t,x,y,S,T⟩:=o.own j A h;refine⟨q,vs,g,t,x,y,?_,T⟩;rw[bY (λz:q=p=>e (o.dis i j ts A p v h c (z▸g)))];exact S
 ·have back:∀{l:Nat}{vs:List D},(m.set i (.own us))[l]?=wz (.own vs)->∃f,m[l]?=wz (.own f):=λ{l vs} h=>by
   by_cases e:i=l
   ·subst e;exact⟨ts,v⟩
   ·rw[bM e]at h;exact⟨vs,h⟩
  obtain⟨f,g⟩:=back g;obtain⟨F,t⟩:=back t;exact o.dis j k f F q g t x y
 ·exact(o.dc.setT (s:=.own us) λ_ _ z=>nomatch z).to (λj X kvs h=>⟨h,gC⟩) (λq U a b _=>⟨a,bY λz=>by rw[z,Q]at b;cases b⟩) (λq U _ _ a b=>⟨a,b⟩) (by rw[w];exact L2.bG.refl _)
def Ok.shareP(o:Ok K B I H C m E){i:Nat}(w:m[i]?=wz (.own ts)):∃p A,H p=wz (.lst A)/\p∉I/\Ok K B I H (C.filter λq=>decide (q≠p)) (m.set i (.val (.list ts))) E/\bG (ê H C) (ê H (C.filter λq=>decide (q≠p))):=by
 obtain⟨p,A,F,T,U,M,u,N⟩:=o.own i ts w;have f:=(aL.mp w).1;have c:bG (ê H C) (ê H (C.filter λq=>decide (q≠p))):=gY λq g=>(dM.mp g).1;refine⟨p,A,u,M,⟨o.base,λq g=>dM.mpr ⟨o.sub q g,b7 λz=>M (z▸g)⟩,λq g=>o.live q (dM.mp g).1,by simpa using o.len,λj d h=>?_,λj t h=>?_,λj k t Q q n r x y=>?_,?_⟩,c⟩
 ·by_cases e:i=j
  ·subst e;rw[bT f]at h;cases h;exact⟨_,F,.list (nM.of (mO (λz=>(b9 (dM.mp z).2) gC) u)) (N.same c)⟩
  ·rw[bM e]at h;obtain⟨v,n,r⟩:=o.val j d h;exact⟨v,n,r.same c⟩
 ·by_cases e:i=j
  ·subst e;rw[bT f]at h;cases h
  ·rw[bM e]at h;obtain⟨q,R,n,r,x,y,O,P⟩:=o.own j t h;exact⟨q,R,n,dM.mpr ⟨r,b7 λz=>e (o.dis i j ts t p w h F (z▸n))⟩,x,y,O,P.same c⟩
 ·have back:∀{l:Nat}{vs:List D},(m.set i (.val (.list ts)))[l]?=wz (.own vs)->m[l]?=wz (.own vs):=λ{l vs} h=>by
   by_cases e:i=l
   ·subst e;rw[bT f]at h;cases h
   ·rw[bM e]at h;exact h
  exact o.dis j k t Q q (back n) (back r) x y
 ·exact(o.dc.setT (s:=.val (.list ts)) λ_ _ z=>nomatch z).to (λj W kvs h=>⟨h,gC⟩) (λq S a b _=>⟨dM.mpr ⟨a,b7 λz=>by rw[z,u]at b;cases b⟩,gC⟩) (λq S _ _ a b=>⟨a,b⟩) c
def Ok.share(o:Ok K B I H C m E){i:Nat}(b:m[i]?=wz (.own ts)):∃a,Ok K B I H a (m.set i (.val (.list ts))) E/\bG (ê H C) (ê H a):=by
 obtain⟨_,_,_,_,h⟩:=o.shareP b;exact⟨_,h⟩
abbrev ET:=List Sl->(D->Prop)->Prop
abbrev vX:=List Sl->(Bool->Prop)->Prop
abbrev AT:=List Sl->(List D->Prop)->Prop
def gK(X:Cx)(e:æ)(t:ET):Prop:=∃b,PE X e b/\∀B I H C m E Q a,Ok X.K B I H C m E->t m Q ->
 (∀d v G,bG H G->iK X.K (ê G C) d v->Q d->a v G)->b E H a
def KQ(X:Cx)(e:æ)(t:vX):Prop:=∃c,PT X e c/\∀B I H C m E Q a,Ok X.K B I H C m E->t m Q ->
 (∀b G,bG H G->Q b->a b G)->c E H a
def yj(X:Cx)(e:æ)(t:vX):Prop:=∃c,PW X e c/\∀B I H C m E Q a,Ok X.K B I H C m E->t m Q ->
 (∀b G,bG H G->Q b->a b G)->c E H a
def wA(X:Cx)(d:List æ)(t:AT):Prop:=∃c,PA X d c/\∀B I H C m E Q a,Ok X.K B I H C m E->t m Q ->
 (∀b vs G,bG H G->Reps X.K (ê G C) b vs->Q b->a vs G)->c E H a
set_option genInjectivity false in
structure FR where
 nx:List Sl->Prop
 rt:D->Prop
 bk:List Sl->Prop:=λ_=>False
 ct:List Sl->Prop:=λ_=>False
 ro:List D->Prop:=λ_=>False
 rp:List D->List D->Prop:=λ_ _=>False
 rq:D->List D->Prop:=λ_ _=>False
 xB:Hp->Prop:=λ_=>True
abbrev yO:=FR->List Sl->Prop
structure P5(K:aF)(B:Hp)(I:List à)(H:Hp)(C:List à)(DT:FR)(DV:aBb):Prop where
 nx:∀G t7 n8 u4,Ok K B I G t7 n8 u4->bG (ê H C) (ê G t7)->DT.nx n8->DV.nx u4 G
 bk:∀G t7 n8 u4,Ok K B I G t7 n8 u4->bG (ê H C) (ê G t7)->DT.bk n8->DV.bk u4 G
 ct:∀G t7 n8 u4,Ok K B I G t7 n8 u4->bG (ê H C) (ê G t7)->DT.ct n8->DV.ct u4 G
 rt:∀d v G,bG B G->iK K (ê G I) d v->DT.rt d->DV.rt v G
 ro:∀ts p xs G,bG B G->B p=wy->p∉I->G p=wz (.lst xs)->Reps K (ê G (p::I)) ts xs->DT.ro ts->DV.rt (.ref p) G
 rp:∀as bs r p q xs ys G,bG B G->B r=wy->B p=wy->B q=wy->p≠q->G r=wz (.tup [.ref p,.ref q])->G p=wz (.lst xs)->G q=wz (.lst ys)->Reps K (ê G (p::q::I)) as xs->Reps K (ê G (p::q::I)) bs ys->DT.rp as bs->DV.rt (.ref r) G
 rq:∀a ts r p x xs G,bG B G->B r=wy->B p=wy->G r=wz (.tup [x,.ref p])->G p=wz (.lst xs)->iK K (ê G (p::I)) a x->Reps K (ê G (p::I)) ts xs->DT.rq a ts->DV.rt (.ref r) G
 xb:DT.xB B
def P5.later(f:P5 K B I H C DT DV)(e:bG (ê H C) (ê G t7)):P5 K B I G t7 DT DV:=
 ⟨λ_ _ _ _ o s q=>f.nx _ _ _ _ o (e.trans s) q,λ_ _ _ _ o s q=>f.bk _ _ _ _ o (e.trans s) q,λ_ _ _ _ o s q=>f.ct _ _ _ _ o (e.trans s) q,f.rt,f.ro,f.rp,f.rq,f.xb⟩
def FO(X:Cx)(st:é)(t:yO):Prop:=∃c,PS X st c/\∀B I H C m E a b,Ok X.K B I H C m E->t a m->P5 X.K B I H C a b->c b E H
def xA(X:Cx)(st:List é)(t:yO):Prop:=∃c,BR X st c/\∀B I H C m E a b,Ok X.K B I H C m E->t a m->P5 X.K B I H C a b->c b E H
def AI(X:Cx)(r:R2)(f:D->D->(D->Prop)->Prop):Prop:=∀H C b c x y Q a,(∀p∈C,AL (H p))->iK X.K (ê H C) b x->iK X.K (ê H C) c y->f b c Q ->
 (∀d v G,bG H G->iK X.K (ê G C) d v->Q d->a v G)->r x y H a
def tH(X:Cx)(r:List V->Hp->VK->Prop)(f:List D->(D->Prop)->Prop):Prop:=∀H C b c Q a,(∀p∈C,AL (H p))->Reps X.K (ê H C) b c->f b Q ->
 (∀d v G,bG H G->iK X.K (ê G C) d v->Q d->a v G)->r c H a
section
variable{X:Cx}{a b e:æ}{M:List æ}{l s R:ET}{pos:Pos}
inductive aHh(E:List Sl)(i:Nat)(Q:D->Prop):Prop
|mk (d:D) (h:E[i]?=wz (.val d)) (k:Q d):aHh E i Q
def PH(i:Nat):ET:=λE Q=>aHh E i Q
def eC(d:D):ET:=λ_ Q=>Q d
def aE(i:Nat){x:â}{pos}(g:autoParam (X.N[i]?=wz x) zzz._auto_1)(j:autoParam (Ag X.env.scope x) zzn._auto_1)(hd:autoParam ((x==("__debug__":â))=false) zzy._auto_1)
  (c:autoParam ((x==("__classdict__":â))=false) zzy._auto_1):gK X (.Name x pos) (PH i):=
 ⟨_,X8 g j hd c,λB I H C m E Q n o h k=>by
  obtain⟨d,e,q⟩:=h;obtain⟨v,f,r⟩:=o.val i d e;exact⟨v,f,k d v H (L2.bG.refl H) r q⟩⟩
def aM{pos}:gK X (.Constant (.int i) j pos) (eC (.int i)):=⟨_,mC,λ_ _ H _ _ _ _ _ _ h k=>k _ _ H (L2.bG.refl H) (.int i) h⟩
def vT{b pos}:gK X (.Constant (.bool b) j pos) (eC (.bool b)):=⟨_,Ho,λ_ _ H _ _ _ _ _ _ h k=>k _ _ H (L2.bG.refl H) (.bool b) h⟩
def uA{pos}:gK X (.Constant .none j pos) (eC .none):=⟨_,Yl,λ_ _ H _ _ _ _ _ _ h k=>k _ _ H (L2.bG.refl H) .none h⟩
def bO{pos}:gK X (.Constant (.str x) j pos) (eC (.str x)):=⟨_,oP,λ_ _ H _ _ _ _ _ _ h k=>k _ _ H (L2.bG.refl H) (.str x) h⟩
def KA{x:â}{i:Int}{pos}(c:Gl X x)(d:X.mg x=wz (.int i t))(hd:autoParam ((x==("__debug__":â))=false) zzy._auto_1):gK X (.Name x pos) (eC (.int i)):=⟨_,pX (v:=.int i) c d ⟨t,gC⟩ hd,λ_ _ H _ _ _ _ _ _ h k=>k _ _ H (L2.bG.refl H) (.int i) h⟩
def J9{x:â}{z:â}{pos}(c:Gl X x)(d:X.mg x=wz (.str z t))(hd:autoParam ((x==("__debug__":â))=false) zzy._auto_1):gK X (.Name x pos) (eC (.str z)):=⟨_,pX (v:=.str z) c d ⟨t,gC⟩ hd,λ_ _ H _ _ _ _ _ _ h k=>k _ _ H (L2.bG.refl H) (.str z) h⟩
def rA(f:D->D->(D->Prop)->Prop)(l s:ET):ET:=λE Q=>l E λx=>s E λy=>f x y Q
def C7{f:D->D->(D->Prop)->Prop}(t:AI X r f){j n:TE}
  (u:∀B I H C m E Q c,Ok X.K B I H C m E->l m Q->(∀d v G,bG H G->iK X.K (ê G C) d v->Q d->c v G)->j E H c)
  (hb:∀B I H C m E Q c,Ok X.K B I H C m E->s m Q->(∀d v G,bG H G->iK X.K (ê G C) d v->Q d->c v G)->n E H c)
  (B:Hp) (I:List à) (H:Hp) (C:List à) (m:List Sl) (E:L2.St) (Q:D->Prop) (c:VK) (o:Ok X.K B I H C m E) (h:rA f l s m Q) (k:∀d v G,bG H G->iK X.K (ê G C) d v->Q d->c v G):yf r j n E H c:=by
 refine u B I H C m E _ _ o h λp x J g N z=>?_;refine hb B I J C m E _ _ (o.grow g) z λq y L i O A=>?_;exact t L C p q x y Q c ((o.grow g).grow i).live (N.same (cC i)) O A λd v G P F w=>k d v G (g.trans (i.trans P)) F w
def cT{f:D->D->(D->Prop)->Prop}(g:oE X (j9 op) r)(c:AI X r f)(d:gK X a l)(hb:gK X b s):gK X (.BinOp a op b pos) (rA f l s):=by
 obtain⟨k,h,i⟩:=d;obtain⟨n,pb,j⟩:=hb;exact⟨_,LZ g h pb,C7 c i j⟩
def iX{f:D->D->(D->Prop)->Prop}(h:oE X (c9 op) r)(c:AI X r f)(d:gK X a l)(hb:gK X b s)(g:autoParam (i3 op b=false) zzr._auto_1):gK X (.Compare a [op] [b] pos) (rA f l s):=by
 obtain⟨o,i,k⟩:=d;obtain⟨p,j,n⟩:=hb;exact⟨_,RB h i j g,C7 c k n⟩
def bJ{f:D->D->(D->Prop)->Prop}(g:hA X r)(c:AI X r f)(d:gK X a l)(hb:gK X b s)(h:autoParam (DJ b) zzq._auto_1):gK X (.Subscript a b pos) (rA f l s):=by
 obtain⟨n,i,j⟩:=d;obtain⟨o,pb,k⟩:=hb;exact⟨_,uI g i pb h,C7 c j k⟩
def Jx(l:ET):ET:=λE Q=>l E λx=>match x with | .int i=>Q (.int (-i)) | _=>False
def BJ(f:gK X a l):gK X (.UnaryOp .USub a pos) (Jx l):=by
 obtain⟨r,g,n⟩:=f;refine⟨_,Pb Yq g,λB I H C m E Q q o h k=>n B I H C m E _ _ o h λd x J p j c=>?_⟩
 cases j with
 |int i=>exact⟨i,gC,k _ _ J p (.int _) c⟩
 |_=>exact c.elim
def pY:AT:=λ_ Q=>Q []
def kW(t:ET)(r:AT):AT:=λE Q=>t E λx=>r E λc=>Q (x::c)
def aG:wA X [] pY:=⟨_,mU,λ_ _ H _ _ _ _ _ _ h k=>k _ _ H (L2.bG.refl H) .nil h⟩
def aA(g:gK X e R)(i:wA X M tr)(j:autoParam (bZ (e::M) X.env=(ww,è e X.env)::bZ M X.env) zzz._auto_1):wA X (e::M) (kW R tr):=by
 obtain⟨A,n,v⟩:=g;obtain⟨F,p,w⟩:=i;refine⟨_,gF n p j,λB I H C m E Q y o h k=>v B I H C m E _ _ o h λd x J c t q=>?_⟩;refine w B I J C m E _ _ (o.grow c) q λz N L f u r=>?_;exact k _ _ L (c.trans f) (.cons (t.same (cC f)) u) r
def Jy(t:AT):ET:=λE Q=>t E λc=>c.length<=1000/\Q (.tuple c)
def Jw(t:AT):ET:=λE Q=>t E λc=>c.length<=1000/\Q (.list c)
def rF{C:List à}{p:à}{c:List D}{f:List V}(live:∀q∈C,AL (H q))(d:H p=wy)(r:Reps K (ê H C) c f):iK K (ê (eY H p (.tup f)) C) (.tuple c) (.ref p):=
 .tuple (rL.of (mO (iW live d) cD)) (r.same (cC (dN d)))
def zD{C:List à}{p:à}{c:List D}{f:List V}(live:∀q∈C,AL (H q))(d:H p=wy)(r:Reps K (ê H C) c f):iK K (ê (eY H p (.lst f)) C) (.list c) (.ref p):=
 .list (nM.of (mO (iW live d) cD)) (r.same (cC (dN d)))
def rJ{n:Nat}(h:n<=1000):n<=bN:=jA (TN h)
def fE(h:wA X M t):gK X (.Tuple M x1 pos) (Jy t):=by
 obtain⟨v,p,r⟩:=h;refine⟨_,JF p,λB I H C m E Q i o h k=>r B I H C m E _ _ o h λj n J g f d=>⟨rJ (by rw[<- f.length];exact d.1),λq c=>?_⟩⟩;exact k _ _ _ (g.trans (dN c)) (rF (o.grow g).live c f) d.2
def jV(h:wA X M t):gK X (.List M pos) (Jw t):=by
 obtain⟨v,p,r⟩:=h;refine⟨_,JG p,λB I H C m E Q i o h k=>r B I H C m E _ _ o h λj n J g f d=>⟨rJ (by rw[<- f.length];exact d.1),λq c=>?_⟩⟩;exact k _ _ _ (g.trans (dN c)) (zD (o.grow g).live c f) d.2
def kO(f:List D->(D->Prop)->Prop)(t:AT):ET:=λE Q=>t E λc=>f c Q
abbrev kX:=List D->(D->Prop)->Prop
def lN(K:aF)(g:kX):Sp:=λvs H Q _=>∃C f c,(∀p∈C,AL (H p))/\Reps K (ê H C) f vs/\g f c/\∀d v G,bG H G->iK K (ê G C) d v->c d->Q v G
def Zl{k:Nat}{f:à}{pn}(F:lW X.prog X.w X.K X.mg X.base qA k f fd pn (lN X.K sp))(P:X.mg x=wz (.ref f))(hk:gS X.K (.ref f)=wx)(hb:qT X.K fd pn [])
  (S:iE k X.A) (i:wA X (e::M) t) (n:∀{l},PA X (e::M) l->PE X (.Call (.Name x p) (e::M) [] pos) (GU (lN X.K sp) [] E0 l)):gK X (.Call (.Name x p) (e::M) [] pos) (kO sp t):=by
 obtain⟨v,j,z⟩:=i;refine⟨_,n j,λB I H C m E Q O o h k=>z B I H C m E _ _ o h λg T J c y r=>?_⟩;rw[eK];exact⟨C,g,Q,(o.grow c).live,y,r,λd v G N u q=>k d v G (c.trans N) u q⟩
def M3(t:ET):vX:=λE Q=>t E λx=>match x with | .bool b=>Q b | _=>False
def Yn(h:gK X e R)(pt:∀{t},PE X e t->PT X e (tB t)):KQ X e (M3 R):=by
 obtain⟨v,p,r⟩:=h;refine⟨_,pt p,λB I H C m E Q j o h k=>r B I H C m E _ _ o h λd x J i g f=>?_⟩
 cases g with
 |bool c=>exact⟨c,gC,k c J i f⟩
 |_=>exact f.elim
def cX{f:D->D->(D->Prop)->Prop}(p:oE X (c9 op) r)(i:AI X r f)(j:gK X a l)(hb:gK X b s)(n:autoParam (i3 op b=false) zzr._auto_1):KQ X (.Compare a [op] [b] pos) (M3 (rA f l s)):=by
 obtain⟨F,q,w⟩:=j;obtain⟨N,t,y⟩:=hb;refine⟨_,Q5 p q t n,λB I H C m E Q A o h k=>?_⟩;refine C7 i w y B I H C m E (λx=>match x with | .bool b=>Q b | _=>False) _ o h λd v G z u g=>?_
 cases u with
 |bool c=>exact⟨c,gC,k c G z g⟩
 |_=>exact g.elim
def Dm(t:vX):vX:=λE Q=>t E λb=>Q (!b)
def Kp(t u:vX):vX:=λE Q=>t E λb=>if b=wx then u E Q else Q ww
def Jq(t u:vX):vX:=λE Q=>t E λb=>if b=wx then Q wx else u E Q
variable{O P:vX}{jE:List æ}
def oM(h:KQ X a O):KQ X (.UnaryOp .Not a pos) (Dm O):=by
 obtain⟨v,p,r⟩:=h;exact⟨_,XY p,λB I H C m E Q f o h k=>r B I H C m E _ _ o h λb G d c=>k _ G d c⟩
def uH(h:yj X e O):KQ X e O:=by
 obtain⟨v,p,r⟩:=h;exact⟨_,p.pt,r⟩
def C2(h:KQ X a O):yj X (.BoolOp .And [a] pos) O:=by
 obtain⟨v,p,r⟩:=h;exact⟨_,Q4 p,r⟩
def uY(h:KQ X a O):yj X (.BoolOp .Or [a] pos) O:=by
 obtain⟨v,p,r⟩:=h;exact⟨_,XS p,r⟩
def IG(g:KQ X a O)(hb:yj X (.BoolOp .And (b::jE) pos) P):yj X (.BoolOp .And (a::b::jE) pos) (Kp O P):=by
 obtain⟨u,i,p⟩:=g;obtain⟨v,j,q⟩:=hb;refine⟨_,XT i j,λB I H C m E Q t o h k=>p B I H C m E _ _ o h λc J d f=>?_⟩
 cases c with
 |true=>exact q B I J C m E Q _ (o.grow d) f λb G r n=>k b G (d.trans r) n
 |false=>exact k _ J d f
def xF(g:KQ X a O)(hb:yj X (.BoolOp .Or (b::jE) pos) P):yj X (.BoolOp .Or (a::b::jE) pos) (Jq O P):=by
 obtain⟨u,i,p⟩:=g;obtain⟨v,j,q⟩:=hb;refine⟨_,Hr i j,λB I H C m E Q t o h k=>p B I H C m E _ _ o h λc J d f=>?_⟩
 cases c with
 |true=>exact k _ J d f
 |false=>exact q B I J C m E Q _ (o.grow d) f λb G r n=>k b G (d.trans r) n
def Ju(l s:ET):ET:=λE Q=>l E λx=>match x with | .bool c=>if c=wx then s E Q else Q (.bool ww) | _=>False
def Jn(l s:ET):ET:=λE Q=>l E λx=>match x with | .bool c=>if c=wx then Q (.bool wx)else s E Q | _=>False
def rT(h:gK X a l):gK X (.BoolOp op [a] pos) l:=by
 obtain⟨v,p,r⟩:=h;exact⟨_,Xq p,r⟩
def rV(i:gK X a l)(hb:gK X (.BoolOp .And (b::jE) pos) s):gK X (.BoolOp .And (a::b::jE) pos) (Ju l s):=by
 obtain⟨z,j,t⟩:=i;obtain⟨A,n,u⟩:=hb;refine⟨_,Yj j n,λB I H C m E Q y o h k=>t B I H C m E _ _ o h λd x J g r f=>?_⟩
 cases r with
 |bool c=>
  refine⟨c,gC,?_⟩
  cases c with
  |true=>exact u B I J C m E Q _ (o.grow g) f λd v G w q p=>k d v G (g.trans w) q p
  |false=>exact k _ _ J g (.bool ww) f
 |_=>exact f.elim
def Ew(i:gK X a l)(hb:gK X (.BoolOp .Or (b::jE) pos) s):gK X (.BoolOp .Or (a::b::jE) pos) (Jn l s):=by
 obtain⟨z,j,t⟩:=i;obtain⟨A,n,u⟩:=hb;refine⟨_,Pa j n,λB I H C m E Q y o h k=>t B I H C m E _ _ o h λd x J g r f=>?_⟩
 cases r with
 |bool c=>
  refine⟨c,gC,?_⟩
  cases c with
  |false=>exact u B I J C m E Q _ (o.grow g) f λd v G w q p=>k d v G (g.trans w) q p
  |true=>exact k _ _ J g (.bool wx) f
 |_=>exact f.elim
def PJ(f g:D->D->(D->Prop)->Prop)(l s d:ET):ET:=λE Q=>l E λx=>s E λy=>f x y λz=>match z with | .bool c=>if c=wx then d E λw=>g y w Q else Q (.bool ww) | _=>False
end
end TL
set_option maxHeartbeats 1000000
namespace L2
def PV{a b:Int}:∀l,TriplesOk l->∀y,codeAmong p (l++[o6 a,o6 b,x])=wz y->codeAmong p l=wz y\/y=x:=by
 intro l h
 fun_induction TriplesOk l with
 |case1=>
  intro y e;have c:(if(a==p.line&&b==p.col)=wx then wz x else codeAmong p [])=wz y:=e;split at c
  ·exact .inr (c8 c).symm
  ·cases c
 |case2 u t v w z r f=>
  intro y e;simp only[DL,codeAmong]at e |-
  split at e
  ·rename_i d;rw[a9 d];exact .inl e
  ·rename_i d;rw[a8 d];exact f h y e
 |case3=>exact h.elim
section
variable{X:Cx}{a:List (à×Obj)}{d:St}{H:Hp}{s:ã}
structure Lam(X:Cx)(H:Hp)(h:ç)(f c:à)(fd:iO):Prop where
 obj:h.get? f=wz { cls:=.type "function",data:=.func fd }
 free:H f=wy
 code:fd.code=.ref c
 trk:∃oc P,H c=wz (.frz oc (.own P))/\Ca oc
 nfr:f∉rC X.stack
def dI.builtinsAt(I:dI X a d H s){P:à}{qs}(e:s.heap.get? P=wz { cls:=.none,data:=.fields qs }):s.heap.BuiltinsAt X.mg P/\eF≠P:=by
 obtain⟨l,o,h,i,b,j,k,c⟩:=I.mod.bmod;obtain⟨p,n,m,f,g,_⟩:=I.mod.glob;refine⟨⟨l,o,h,i,λz=>?_,λz=>?_,I.bk _ _ b,j,k,c⟩,λz=>?_⟩
 ·rw[z,f]at b;cases b;rw[g]at c;cases c
 ·have:=I.bk _ _ b;rw[z,e]at this;cases this;cases c
 ·have:=I.bk _ _ f;rw[z,e]at this;cases this;cases g
def ZR{g:Scope}{c P:à}{Q:á->ã->Prop}{E:á->ã->Prop}{name}{N:Nat}(I:dI X a d H s)(hT:tabA=wz P)(hc:X.env.code=.ref c)(C:aBd X.base c P)(U:∀x∈g.names,x.2=.free->∃c,X.env.cells.lookup x.1=wz c)
  (h:∀S s' f j cl pm i,dI X a d S s'->(∀b u,H b=wz u->S b=wz u)->Lam X S s'.heap f j (PySem.W.kla_fn name qual params body g cl pm (.ref j) i)->(∀n c,cl.lookup n=wz c->X.env.cells.lookup n=wz c)->(∀n,(n,f9)∈g.names->∃c,cl.lookup n=wz c)->Q (.ref f) s') :
  å (ä X.prog X.w) X.A (makeFunction name qual params (.expr body) g X.env [] [] [] pos N) Q E s:=by
 obtain⟨cl,J,F,G⟩:=yI U;obtain⟨ps,R⟩:=I.env0.tab P hT;obtain⟨qs,T,O,e3⟩:=I.hok P _ R;obtain⟨hb,Y⟩:=I.builtinsAt T;have hg:=I.mod.glob.keeps I.bk;have C':=C.keeps I.bk
 have nofr:∀b,s.heap.objs.size<=b->b∉rC X.stack:=λb hb z=>by
  rcases aO.mp (I.stkSub b z)with y | y
  ·rw[y]at hb;exact b8 I.lt (aBe.mpr hb)
  ·exact I.nofs hb y
 cases Z:codeAmong pos qs.toList with
 |none=>
  refine PySem.W.kla_makeFunction J I.ok.glob hg hc C' T O Z Y hb λj i B tk hx k m K M=>?_;obtain⟨c2,q,vs,t,q1,q2,q3,q4⟩:=K;cases q1;have kp:∀b o,b≠P->s.heap.get? b=wz o->(B.push (CS name qual params body g cl ((X.mg "__name__").getD .none) j i)).get? b=wz o:=λb o z e=>aD _ (hx b o z e);have nP:∀b,H b=wy->b≠P:=λb e z=>by rw[z,R]at e;cases e
  have l:∀b u,H b=wz u->eY H j (.frz q (.own P)) b=wz u:=λb u e=>by rw[bY (eX e (I.hok.fresh k))];exact e
  have un:Un X.fs [] H (eY H j (.frz q (.own P))) s.heap (B.push (CS name qual params body g cl ((X.mg "__name__").getD .none) j i)):=
   ⟨λb o e n _ _=>kp b o (nP b n) e,λb o e n _ _=>⟨o.slots,kp b o (nP b n) e⟩,λb o e n _=>by rw[bY (dF (cH (bF e) k))];exact n,λb o e _=>by
    by_cases z:b=P
    ·exact⟨_,by rw[z];exact aD _ M⟩
    ·exact⟨o,kp b o z e⟩,λb xs e=>l _ _ e,λb o u e=>l _ _ e,λb ps e=>⟨#[],by rw[l _ _ e];simp⟩⟩
  have hok:pZ X.prog X.w (eY H j (.frz q (.own P))) (B.push (CS name qual params body g cl ((X.mg "__name__").getD .none) j i)):=λb u e=>by
   by_cases z:b=j
   ·subst z;rw[cD]at e;cases e;exact⟨aD _ q2,_,aD _ q2⟩
   ·rw[bY z]at e;by_cases z2:b=P
    ·subst z2;rw[R]at e;cases e;refine⟨_,aD _ M,?_,λp x hp=>?_⟩
     ·rw[S8];exact TriplesOk_snoc _ _ _ _ O
     ·rw[S8]at hp;rcases PV _ O _ hp with hp | hp
      ·obtain⟨c3,o3,r1,r2,r3⟩:=e3 p x hp;exact⟨c3,o3,r1,l _ _ r2,r3⟩
      ·exact⟨j,q,hp,cD,vs,_,t,q3,q4⟩
    ·refine(I.hok b u e).stay (λy v hy r=>kp y v ?_ r) (λy r=>l _ _ r) (λy xs r=>l _ _ r) λy o v r=>l _ _ r;rcases hy with rfl | hy
     ·exact z2
     ·intro z3;rw[z3,R]at hy;cases hy
  refine h _ _ B.objs.size j cl _ i (I.un un hok) l ⟨aX _ gC,by rw[bY (jP m)];exact(I.hok.fresh (aY k (jA m))),gC,⟨q,P,cD,vs,_,t,q3,q4⟩,nofr _ (aY k (jA m))⟩ F G
 |some cv=>
  obtain⟨j,q,r1,r2,r3⟩:=e3 pos cv Z;subst r1;refine PySem.W.kla_makeFunctionHit J I.ok.glob hg hc C' T O Z hb λi B tk hx L=>?_;exact h H _ B.objs.size j cl _ i (I.kept λb o e=>aD _ (hx b o e)) (λ_ _ e=>e) ⟨aX _ gC,I.hok.fresh L,gC,⟨q,P,r2,r3⟩,nofr _ L⟩ F G
end
def VF{A:d8}{R:Result->ã->Prop}{s:ã}{f c:à}{a:iO}{binds:List (â×á)}(i:A.depth<al)(l:s.heap.NoLimit)
  (G:s.heap.get? f=wz { cls:=.type "function",data:=.func a }) (p:a.scope.isCoroutine=ww) (k:a.scope.isGenerator=ww) (hb:a.body=.expr body) (E:a.code=.ref c) (C:s.heap.get? c=wz oc) (F:Ca oc)
  (d:bindArgs a args=pure binds) (g:∀x∈a.scope.names,x.2≠.cell) (m:∀x∈binds,a.scope.names.lookup x.1=wz .local) (hk:a.scope.kind=.function) (u:a.globals=eF) (n:a.builtins=m9)
  (h:∀q j,j.Ns s.heap.objs.size (λy=>binds.reverse.lookup y)->(∀b o,s.heap.get? b=wz o->j.get? b=wz o) ->
   å (ä prog w) (A.deeper (uF q a.scope s.heap.objs.size f a.code a.closure)) (è body (uF q a.scope s.heap.objs.size f a.code a.closure)) (λv I=>R (.ok (.ret v)) I) (λ_ _=>False) { s with heap:=j,toks:=s.toks+binds.length }) :
  u0 (ä prog w) A (.call (.ref f) args) R s:=by
 obtain⟨vs,q,t,hd,H⟩:=F;refine codeAny_of_tree ?_;show å _ A.in1 (callAny (.ref f) args) _ _ s;refine aI (wpAny_load G ?_);simp only[callFunction,p,k,hb,E];refine aI (e8 C hd H (aI (bH ?_)));rw[d,u,n];refine aI (bH (aI (wpAny_newFunctionEnv g m (λj z B=>?_) hk)));have kp:=λb o e=>B.extBut b o (dF (bF e)) (aD _ e);refine aI (wpAny_enterFrame (l.keeps kp) i (bH ⟨gC,?_⟩));have:=h q j z kp;rw[E]at this;exact PySem.W.kla_codeExpr (eE this (λ_ _ r=>r) λ_ _ r=>r.elim)
noncomputable abbrev zQ:Scope:={ kind:=.function,names:=[(d9 "entry",.local),(d9 "bottom",.free)],isGenerator:=ww,isCoroutine:=ww,more:=[] }
noncomputable def MI(X:Cx)(A':d8)(q:â)(f:à)(cd:á)(cl:List (â×à))(s:ã)(H:Hp):Cx where
 prog:=X.prog
 w:=X.w
 K:=X.K
 mg:=X.mg
 base:=X.base
 A:=A'.deeper (uF q zQ s.heap.objs.size f cd cl)
 N:=["entry","bottom"]
 s₀:=s
 H₀:=H
 env:=uF q zQ s.heap.objs.size f cd cl
 outer:=X.stack
 stack:=uF q zQ s.heap.objs.size f cd cl::X.stack
 ex:=[]
 fn:=λ_=>ww
 calm:=wx
 pn:=[]
 xe:=λ_ _=>False
def aD7{X:Cx}{A':d8}{q:â}{f w:à}{cd}{cl:List (â×à)}{s:ã}{l:ç}{tk:Nat}{b:Int}(I:dI X pins σ H s)(F:A'.frames=wz X.stack)(E:A'.handled=wy)
  (g:∀n c,cl.lookup n=wz c->X.env.cells.lookup n=wz c) (m:cl.lookup ("bottom":â)=wz w) (h:s.heap.IsCell w (wz (.int b t))) (r:fQ x u)
  (B:l.Ns s.heap.objs.size (λy=>[((d9 "entry":â),u)].reverse.lookup y)) (kp:∀b o,s.heap.get? b=wz o->l.get? b=wz o) :
  dI (MI X A' q f cd cl s H) [] [wz x,wz (.int b)] H { s with heap:=l,toks:=tk }:=by
 have d:=I.env0;have k:∀b:à,b∉(MI X A' q f cd cl s H).ex:=λb z=>b8 (show b∈([]:List à)from z) eH
 have K:∀y:â,zQ.names.lookup y=wz .cell\/zQ.names.lookup y=wz .free->y="bottom":=λy j=>by
  have e:zQ.names.lookup y=if y==(d9 "entry")then wz .local else if y==(d9 "bottom")then wz .free else none:=by
   rw[dW,dW];cases (y==d9 "entry")<;>cases (y==d9 "bottom")<;>rfl
  rw[e]at j;split at j
  ·rcases j with z | z<;>cases z
  ·split at j
   ·rename_i z;exact aw z
   ·rcases j with z | z<;>cases z
 obtain⟨L,G,A⟩:=h
 refine⟨⟨d.mod,gC,gC,gC,aN _,λy z c a a2=>I.ok.inj y z c (g y c a) (g z c a2),λy j=>?_,λy c z=>(nomatch (show ww=wx from z)),λ_=>E,eh F,.inr ⟨gC,gC⟩,λb z=>b8 z (k b),d.bs,d.bsz,λb _ _=>k b,λb z=>b8 z (k b),d.funs,d.frf,d.tab⟩,
  rfl,d.bare,Un.kept kp,⟨_,B,λi y v a a2 M=>?_⟩,λy c a=>?_,d.hok.fresh (aN _),λy c a=>I.freeC y c (g y c a),λp J=>b8 (show p∈([]:List (à×Obj))from J) eH,d.hok.kept kp,gC⟩
 ·have:=K y j;rw[this];exact⟨w,m⟩
 ·match i,a,a2 with
  |0,a,a2=>
   cases a;cases a2;exact⟨u,r,.inl ⟨gC,gC⟩⟩
  |1,a,a2=>
   cases a;cases a2;exact⟨.int b t,⟨t,gC⟩,.inr ⟨.inr gC,w,m,(⟨L,kp _ _ G,A⟩)⟩⟩
  |i+2,a,a2=>cases a
 ·obtain⟨v,o,l,C⟩:=I.cell y c (g y c a);exact⟨v,o,kp _ _ l,C⟩
def Un.butA{fs}{h c g:ç}{a:à}(u:Un fs ex H H1 h c)(f:gA a c g)(i:h.objs.size<=a):Un fs ex H H1 h g:=by
 have ne:∀b o,h.get? b=wz o->b≠a:=λb o e=>dF (cH (bF e) i);refine⟨λb o e n c d=>(f.2 b (ne b o e)).trans (u.keep b o e n c d),λb o e n c d=>?_,u.free,λb o e d=>?_,u.tups,u.frzs,u.tbls⟩
 ·obtain⟨k,z⟩:=u.slot b o e n c d;exact⟨k,(f.2 b (ne b o e)).trans z⟩
 ·obtain⟨j,z⟩:=u.there b o e d;exact⟨j,(f.2 b (ne b o e)).trans z⟩
def Un.new{fs}{h h1:ç}{a:à}(u:Un fs ex H H1 h h1)(hn:H1 a=wy)(ha:h.objs.size<=a):Un fs ex H (eY H1 a o) h h1 where
 keep:=u.keep
 slot:=u.slot
 free:=λb ob e n hx=>by rw[bY (dF (cH (bF e) ha))];exact u.free b ob e n hx
 there:=u.there
 tups:=λb xs e=>by have z:=u.tups b xs e;rw[bY (eX z hn)];exact z
 frzs:=λb ob v e=>by have z:=u.frzs b ob v e;rw[bY (eX z hn)];exact z
 tbls:=λb ps e=>by
  obtain⟨m,z⟩:=u.tbls b ps e;exact⟨m,by rw[bY (eX z hn)];exact z⟩
theorem pZ.new{h}{a:à}(x:pZ P w H h)(d:H a=wy)(new:jC P w (eY H a o) h a o):pZ P w (eY H a o) h:=λb u e=>by
 by_cases hb:b=a
 ·subst hb;rw[cD]at e;cases e;exact new
 ·rw[bY hb]at e;have st:∀c v,H c=wz v->eY H a o c=wz v:=λc v q=>by rw[bY (eX q d)];exact q
  exact(x b u e).stay (λc v _ q=>q) (λc q=>st _ _ q) (λc f q=>st _ _ q) λc ob v q=>st _ _ q
noncomputable abbrev Gk(p:Pos):Arguments:={ posonlyargs:=[],args:=[{ arg:="entry",annotation:=wy,pos:=p }],vararg:=wy,kwonlyargs:=[],kw_defaults:=[],kwarg:=wy,defaults:=[] }
def GG(K:aF)(H:Hp)(b:Int)(x:V)(k:Int):Prop:=∃q a c d top bot,x=.ref q/\rL K H q [a,c,.ref d]/\rL K H d [.int top,.int bot]/\Ay b bot/\P9 top (b / bot)/\k=top*(b / bot)
def GG.same{K}{H a:Hp}{b:Int}{k:Int}(h:GG K H b x k)(s:∀c u,H c=wz u->a c=wz u):GG K a b x k:=by
 obtain⟨q,j,l,d,top,bot,e,f,g,i⟩:=h;exact⟨q,j,l,d,top,bot,e,TL.bG.seqT s f,TL.bG.seqT s g,i⟩
section
variable{g l n B E F G M O a R S U:Pos}
def Yk{X:Cx}{q:â}{f:à}{cd}{pins:List (à×Obj)}{b k:Int}(I:dI (MI X A' q f cd cl s H) [] [wz x,wz (.int b)] H s1)(h:GG X.K H b x k) :
  å (ä X.prog X.w) (MI X A' q f cd cl s H).A (è (.BinOp (.Subscript (.Subscript (.Name "entry" g) (.Constant (.int 2) 0 l) n) (.Constant (.int 0) 0 B) E) .Mult (.BinOp (.Name "bottom" F) .FloorDiv (.Subscript (.Subscript (.Name "entry" G) (.Constant (.int 2) 0 M) O) (.Constant (.int 1) 0 a) R) S) U) (MI X A' q f cd cl s H).env)
   (EP (MI X A' q f cd cl s H) [] [wz x,wz (.int b)] λv j=>v=.int k/\j=H) (λ_ _=>False) s1:=by
 have p:PE (MI X A' q f cd cl s H) (.BinOp (.Subscript (.Subscript (.Name "entry" g) (.Constant (.int 2) 0 l) n) (.Constant (.int 0) 0 B) E) .Mult (.BinOp (.Name "bottom" F) .FloorDiv (.Subscript (.Subscript (.Name "entry" G) (.Constant (.int 2) 0 M) O) (.Constant (.int 1) 0 a) R) S) U) _:=
  LZ YI (uI aV (uI aV (pv 0) mC (by intro _ _;rfl)) mC (by intro _ _;rfl)) (LZ zK (pv 1) (uI aV (uI aV (pv 0) mC (by intro _ _;rfl)) mC (by intro _ _;rfl)))
 obtain⟨i,r,t,d,top,bot,rfl,c,e,m,o,rfl⟩:=h;refine p [] s1 _ H _ I ?_;refine⟨_,gC,.inr (.inl ⟨i,_,2,.ref d,gC,gC,c,gC,.inr (.inl ⟨d,_,0,.int top,gC,gC,e,gC,?_⟩)⟩)⟩;refine⟨_,gC,_,gC,.inr (.inl ⟨i,_,2,.ref d,gC,gC,c,gC,.inr (.inl ⟨d,_,1,.int bot,gC,gC,e,gC,?_⟩)⟩)⟩;exact⟨b,bot,gC,gC,m,top,b / bot,gC,gC,o,gC,gC⟩
def Yy(K:aF)(m:Nat)(o:TA):TE:=λj H Q=>o j H λvs e=>∃(p:à)(d:List V)(b:Int)(h:List Int),vs=[.ref p]/\nM K e p d/\d.length<64/\j[m]?=wz (wz (.int b))/\h.length=d.length/\(∀(i:Nat) x k,d[i]?=wz x->h[i]?=wz k->GG K e b x k) /\
 ∀f,(∀c u,e c=wz u->f c=wz u)->∀J r,SS.PY d.length (λi=>h.getD i 0) J->f r=wy->Q (.ref r) (eY f r (.lst (J.map λi=>d.getD i .non)))
def X9{X:Cx}{ib:Nat}{k:Nat}{c P:à}(hr:iE (k+3) X.A)(hT:tabA=wz P)(hc:X.env.code=.ref c)(C:BS X.K c P=wx)(um:X.N[ib]?=wz "bottom")(hk:X.env.kindOf "bottom"=wz .cell)
  (hg:Gl X "sorted") (hm:X.mg "sorted"=wy) (hv:d4 "sorted"=wz (.builtin "sorted")) (ha:PA X [e] ta)
  (he:autoParam (j8 pos (bZ [e] X.env)=(ww,è e X.env)::j8 pos (bZ [] X.env)) zzz._auto_1)
  (qh:autoParam ((j8 pos (bZ [e] X.env)).any (·.1)=false) zzz._auto_1) :
  PE X (.Call (.Name "sorted" np) [e] [⟨wz (d9 "key"),.Lambda (Gk ap) (.BinOp (.Subscript (.Subscript (.Name "entry" g) (.Constant (.int 2) 0 l) n) (.Constant (.int 0) 0 B) E) .Mult (.BinOp (.Name "bottom" F) .FloorDiv (.Subscript (.Subscript (.Name "entry" G) (.Constant (.int 2) 0 M) O) (.Constant (.int 1) 0 a) R) S) U) zQ lp,kp⟩] pos) (Yy X.K ib ta):=by
 intro pins s σ H Q I h;refine n6 (vP I hg hm hv ?_ cR cR);refine callWith_kw (iZ (ha pos pins s σ H _ I h) λus s1 zq=>?_) he qh;obtain⟨vs,H1,I1,r1,a⟩:=zq;obtain⟨p,xs,b,kz,rfl,hS,pu,wd,uu,qb,q⟩:=a;obtain⟨u,rfl,ru⟩:=nU r1;cases ru
 have lr:∀x∈zQ.names,x.2=.free->∃c,X.env.cells.lookup x.1=wz c:=λx hx hf=>by
  have oj:x=(d9 "entry",NameKind.local)\/x=(d9 "bottom",f9):=by simpa using hx
  rcases oj with rfl | rfl
  ·cases hf
  ·exact I.ok.has "bottom" (.inl hk)
 refine kws_cons (PySem.W.kla_eval gC (ZR I1 hT hc (PySem.W.codeHd_of_K I.mod.kin C) lr λH2 s2 f c' cl pm wp r sH L qz tz=>kws_nil ?_));obtain⟨cb,rh⟩:=tz "bottom" (aH _ (aP ..));obtain⟨aj,rv,qh,hz⟩:=r.list (L2.bG.seq sH hS);have d:=rv.length;have Z:=(iE.in1 hr).in1
 have nofr:∀b,s2.heap.objs.size<=b->b∉rC X.stack:=λb hb z=>by
  rcases aO.mp (r.stkSub b z)with y | y
  ·rw[y]at hb;exact b8 r.lt (aBe.mpr hb)
  ·exact r.nofs hb y
 let Tp:ã->Prop:=λY=>Y.os=s2.os/\t9 Y.gens/\Un (rC X.stack) [] H2 H2 s2.heap Y.heap/\pZ X.prog X.w H2 Y.heap
 have T:SS.VJ Tp s2.heap.objs.size:=by
  refine⟨λY x h' tk t hx hs=>⟨t.1,t.2.1,t.2.2.1.butA hs hx,t.2.2.2.but (r.hok.fresh hx) hs⟩,λY o t=>⟨t.1,t.2.1,t.2.2.1.trans (Un.kept λb u e=>aD _ e),t.2.2.2.kept λb u e=>aD _ e⟩⟩
 have turn:SS.mX X.prog X.w X.A.in1.in1 Tp s2.heap.objs.size f aj kz:=λi v k0 Y hv ur t=>by
  have I':=(λY t=>r.call' (ch:=[]) t.1 t.2.2.1 t.2.2.2 t.2.1 (λb z=>b8 z eH)) Y t
  obtain⟨x,hx,rx⟩:∃x,xs[i]?=wz x/\fQ x v:=by
   have hi:i<xs.length:=by rw[d];exact(aL.mp hv).1
   obtain⟨u,h1,h2⟩:=rv.get (aJ hi);rw[hv]at h1;cases h1;exact⟨_,aJ hi,h2⟩
  obtain⟨m,hn,hl⟩:=I'.loc;obtain⟨ub,wm,lb⟩:=hl ib "bottom" (.int b) um wd (.inr (.inl hk));obtain⟨tb,rfl⟩:=wm
  have cell:Y.heap.IsCell cb (wz (.int b tb)):=by
   rcases lb with⟨z,_⟩ | ⟨_,c0,z1,z2⟩
   ·rw[hk]at z;cases z
   ·have:=qz _ _ rh;rw[this]at z1;cases z1;exact z2
  obtain⟨oc,P',w1,w2⟩:=L.trk;obtain⟨wj,_⟩:=I'.hok c' _ w1;refine fx (VF Z.depth I'.nolimit (t.2.2.1.keep f _ L.obj L.free L.nfr eH) gC gC gC gC wj w2 gC (λy hy=>?_) (λy hy=>?_) gC gC gC λqn h1 qf kp=>?_)
  ·have km:y=(d9 "entry",NameKind.local)\/y=(d9 "bottom",f9):=by simpa using hy
   rcases km with rfl | rfl<;>simp
  ·rw[bC.mp hy];rfl
  ·have J:=aD7 (q:=qn) (f:=f) (cd:=.ref c') (tk:=Y.toks+1) (A':=X.A.in1.in1) I' r.ok.frames Z.hd qz rh cell rx qf kp;refine eE (Yk (pins:=pins) J ((qb i x k0 hx ur).same sH)) (λu s3 hu=>?_) λ_ _ z=>z;obtain⟨v3,H3,J3,r3,rfl,rfl⟩:=hu;obtain⟨t3,rfl⟩:=r3;exact⟨t3,gC,⟨J3.os.trans t.1,J3.bare,t.2.2.1.trans J3.base,J3.hok⟩,λb o hb e=>J3.base.keep b o e (r.hok.fresh hb) (nofr b hb) (by simp[MI])⟩
 refine SS.TK T (⟨gC,r.bare,Un.refl,r.hok⟩) qh.isList (aN _) (by rw[uu,d]) (by rw[<- d];exact pu) turn λY D out cc J t hD ho sb qg=>?_;have py:=r.hok.fresh hD;rw[<- d]at sb;have hL:(2:Nat)^24=bN:=rfl
 have vals:fW (J.map λi=>xs.getD i .non) out.toList:=by
  rw[qg]
  have:∀J:List Nat,(∀i∈J,i<xs.length)->fW (J.map λi=>xs.getD i .non) (J.map λi=>aj.getD i .none):=by
   intro J hJ
   induction J with
   |nil=>exact .nil
   |cons j J ih=>
    refine .cons ?_ (ih λi hi=>hJ i (aH _ hi));have hj:=hJ j (aP ..);obtain⟨u,h1,h2⟩:=rv.get (aJ hj);show fQ (xs.getD j .non) (aj.getD j .none);rw[dQ,dQ,h1,aJ hj];exact h2
  exact this J sb.lt
 refine⟨.ref D,_,r.call' (H':=eY H2 D (.lst (J.map λi=>xs.getD i .non))) t.1 (t.2.2.1.new py hD) (t.2.2.2.new py ⟨?_,out.toList,cc,vals,?_⟩) t.2.1 (λb z=>b8 z eH),gC,q H2 sH J D sb py⟩
 ·rw[aC,sb.len,<- hL];lia
 ·simpa[j0]using ho
end
end L2
namespace TL
open L2
variable{K:aF}{H L T U:Hp}{B:Hp}{O I:List à}{C:List Sl}{G:L2.St}
section
variable{X:Cx}{a b c e:æ}{es:List æ}{Y Z tc W:ET}{pos:Pos}
def FH{f g:D->D->(D->Prop)->Prop}(N:AI X r f)(n:AI X m g){u A E:TE}
  (P:∀B O H I C G Q i,Ok X.K B O H I C G->Y C Q->(∀d v L,bG H L->iK X.K (ê L I) d v->Q d->i v L)->u G H i)
  (hb:∀B O H I C G Q i,Ok X.K B O H I C G->Z C Q->(∀d v L,bG H L->iK X.K (ê L I) d v->Q d->i v L)->A G H i)
  (R:∀B O H I C G Q i,Ok X.K B O H I C G->tc C Q->(∀d v L,bG H L->iK X.K (ê L I) d v->Q d->i v L)->E G H i)
  (B:Hp) (O:List à) (H:Hp) (I:List à) (C:List Sl) (G:L2.St) (Q:D->Prop) (i:VK) (o:Ok X.K B O H I C G) (h:PJ f g Y Z tc C Q) (k:∀d v L,bG H L->iK X.K (ê L I) d v->Q d->i v L):NZ r m u A E G H i:=by
 refine P B O H I C G _ _ o h λJ x T j r1 q1=>?_;refine hb B O T I C G _ _ (o.grow j) q1 λs y U l t q2=>?_;refine N U I J s x y _ _ ((o.grow j).grow l).live (r1.same (cC l)) t q2 λd3 z H3 s3 r3 p=>?_
 cases r3 with
 |bool c=>
  refine⟨c,gC,?_⟩
  cases c with
  |false=>exact k _ _ H3 (j.trans (l.trans s3)) (.bool ww) p
  |true=>
   refine R B O H3 I C G _ _ (((o.grow j).grow l).grow s3) p λM w F q r4 q4=>?_;exact n F I s M y w Q i ((((o.grow j).grow l).grow s3).grow q).live ((t.same (cC s3)).same (cC q)) r4 q4 λd v L s' m S=>k d v L (j.trans (l.trans (s3.trans (q.trans s')))) m S
 |_=>exact p.elim
def aAo{f g:D->D->(D->Prop)->Prop}(m:oE X (c9 op) r)(h:oE X (c9 op') r')(i:AI X r f)(d:AI X r' g)(j:gK X a Y)(hb:gK X b Z)(k:gK X c tc)
  (l:autoParam (iz [op,op'] [b,c]=false) zzs._auto_1):gK X (.Compare a [op,op'] [b,c] pos) (PJ f g Y Z tc):=by
 obtain⟨u,n,q⟩:=j;obtain⟨v,o,s⟩:=hb;obtain⟨w,p,t⟩:=k;exact⟨_,YG m h n o p l,FH i d q s t⟩
def WK{f g:D->D->(D->Prop)->Prop}(t:oE X (c9 op) r)(l:oE X (c9 op') i)(n:AI X r f)(j:AI X i g)(p:gK X a Y)(hb:gK X b Z)(q:gK X c tc)
  (s:autoParam (iz [op,op'] [b,c]=false) zzs._auto_1):KQ X (.Compare a [op,op'] [b,c] pos) (M3 (PJ f g Y Z tc)):=by
 obtain⟨M,u,z⟩:=p;obtain⟨N,w,A⟩:=hb;obtain⟨P,y,E⟩:=q;refine⟨_,X0 t l u w y s,λB O H I C G Q J o h k=>?_⟩;refine FH n j z A E B O H I C G (λx=>match x with | .bool b=>Q b | _=>False) _ o h λd v L F i m=>?_
 cases i with
 |bool c=>exact⟨c,gC,k c L F m⟩
 |_=>exact m.elim
abbrev OT:=List Sl->(Option Int->Prop)->Prop
def Ai(X:Cx)(e:Option æ)(t:OT):Prop:=∃to,PO X e to/\∀B O H I C G Q d,Ok X.K B O H I C G->t C Q ->
 (∀i L,bG H L->Q i->d i L)->to G H d
def Nn:OT:=λ_ Q=>Q wy
def No(t:ET):OT:=λG Q=>t G λx=>match x with | .int i=>Q (wz i) | _=>False
def eL:Ai X wy Nn:=⟨_,aDc,λ_ _ H _ _ _ _ _ _ h k=>k _ H (L2.bG.refl H) h⟩
def eA(h:gK X e W):Ai X (wz e) (No W):=by
 obtain⟨v,p,r⟩:=h;refine⟨_,aDb p,λB O H I C G Q l o h k=>r B O H I C G _ _ o h λd x T j g f=>?_⟩
 cases g with
 |int i=>exact⟨i,gC,k _ T j f⟩
 |_=>exact f.elim
def Il(X:Cx)(r:V->Option Int->Option Int->Hp->VK->Prop)(f:D->Option Int->Option Int->(D->Prop)->Prop):Prop:=∀H I d x lo h Q g,(∀p∈I,AL (H p))->iK X.K (ê H I) d x->f d lo h Q ->
 (∀d v L,bG H L->iK X.K (ê L I) d v->Q d->g v L)->r x lo h H g
def Jl(f:D->Option Int->Option Int->(D->Prop)->Prop)(t:ET)(d th:OT):ET:=λG Q=>t G λx=>d G λl=>th G λu=>f x l u Q
def dO{r:V->Option Int->Option Int->Hp->VK->Prop}{f:D->Option Int->Option Int->(D->Prop)->Prop}{lo th}(q:gV X r)(m:Il X r f)(n:gK X e W)(p:Ai X lo tl)(s:Ai X hi th) :
  gK X (.Subscript e (.Slice lo hi wy p2) pos) (Jl f W tl th):=by
 obtain⟨S,t,N⟩:=n;obtain⟨vl,w,rl⟩:=p;obtain⟨vu,y,P⟩:=s;refine⟨_,YA q t w y,λB O H I C G Q j o h k=>N B O H I C G _ _ o h λd x T g M A=>?_⟩;refine rl B O T I C G _ _ (o.grow g) A λl U i E=>?_;refine P B O U I C G _ _ ((o.grow g).grow i) E λu H3 s3 F=>?_;exact m H3 I d x l u Q j (((o.grow g).grow i).grow s3).live ((M.same (cC i)).same (cC s3)) F λd v L R J z=>k d v L (g.trans (i.trans (s3.trans R))) J z
variable{st:é}{jE:List é}{t u:yO}
def jR:yO:=λd G=>d.nx G
def nY(t u:yO):yO:=λd G=>t { d with nx:=u d } G
def fA:xA X [] jR:=⟨_,Q6,λB O H I C G d g o h f=>f.nx H I C G o (L2.bG.refl _) h⟩
def aU(l:FO X st t)(m:xA X jE u):xA X (st::jE) (nY t u):=by
 obtain⟨y,p,s⟩:=l;obtain⟨x,q,v⟩:=m;refine⟨_,mZ p q,λB O H I C G g i o h f=>s B O H I C G { g with nx:=u g } { i with nx:=x i } o h ⟨λL j d k n w r=>?_,f.bk,f.ct,f.rt,f.ro,f.rp,f.rq,f.xb⟩⟩;exact v B O L j d k g i n r (f.later w)
def bP(d:FO X st t):xA X [st] t:=by
 obtain⟨h,f,g⟩:=d;exact⟨_,C6 f,g⟩
def Xt(i:Nat)(t:yO):yO:=λf G=>∃d,G[i]?=wz (.own d)/\t f (G.set i (.val (.list d)))
def uZ(i:Nat)(h:xA X sts t):xA X sts (Xt i t):=by
 obtain⟨v,p,r⟩:=h;refine⟨_,p,λB O H I C G g j o h f=>?_⟩;obtain⟨m,e,h⟩:=h;obtain⟨d,k,l⟩:=o.share e;exact r B O H d _ G g j k h (f.later l)
def Kt(W:ET):yO:=λd G=>W G d.rt
def cK(h:gK X e W):FO X (.Return (wz e) pos) (Kt W):=by
 obtain⟨v,p,r⟩:=h;refine⟨_,A2 p,λB O H I C G k l o h f=>r B O H I C G _ _ o h λd x L j i g=>?_⟩;exact f.rt d x L (o.base.trans j) (i.same (gY o.sub)) g
def yd(c:vX)(t u:yO):yO:=λd G=>c G λb=>if b=wx then t d G else u d G
def gW{c a b tc}(m:KQ X c tc)(l:xA X a t)(hb:xA X b u):FO X (.If c a b pos) (yd tc t u):=by
 obtain⟨y,q,v⟩:=m;obtain⟨w,n,r⟩:=l;obtain⟨x,p,s⟩:=hb;refine⟨_,Hq q n p,λB O H I C G i j o h f=>v B O H I C G _ _ o h λd T g k=>?_⟩
 cases d with
 |true=>exact r B O T I C G i j (o.grow g) k (f.later (cC g))
 |false=>exact s B O T I C G i j (o.grow g) k (f.later (cC g))
def LP(i:Nat)(W:ET):yO:=λf G=>W G λd=>f.nx (G.set i (.val d))
def W2{i:Nat}(h:gK X e W)(g:∀{v},PE X e v->PS X (.Assign [.Name x pos'] e pos) (xU v (lS i))):FO X (.Assign [.Name x pos'] e pos) (LP i W):=by
 obtain⟨v,p,r⟩:=h;refine⟨_,g p,λB O H I C G m n o h f=>r B O H I C G _ _ o h λd x L j l k=>?_⟩;exact f.nx L I _ _ ((o.grow j).set l) (cC j) k
def Bp(i:Nat)(t:AT):yO:=λf G=>t G λd=>d.length<=1000/\f.nx (G.set i (.own d))
def XP{i:Nat}{t}(h:wA X es t)(d:∀{v},PE X (.List es p2) v->PS X (.Assign [.Name x pos'] (.List es p2) pos) (xU v (lS i))):FO X (.Assign [.Name x pos'] (.List es p2) pos) (Bp i t):=by
 obtain⟨v,p,r⟩:=h;refine⟨_,d (JG p),λB O H I C G m n o h f=>r B O H I C G _ _ o h λs w T l k j=>⟨rJ (by rw[<- k.length];exact j.1),λq g=>?_⟩⟩;exact f.nx _ (q::I) _ _ ((o.grow l).setOwn g k) ((cC l).trans (by rw[pE g];exact L2.bG.refl _)) j.2
def Bn(i:Nat)(W:ET):yO:=λg G=>∃f,G[i]?=wz (.own f)/\W G λd=>f.length<=100000/\g.nx (G.set i (.own (f++[d])))
def AV{i:Nat}{e W}(Q:PE X n (nV i))(w:gK X e W)(z:autoParam (bZ [e] X.env=(ww,è e X.env)::bZ [] X.env) zzz._auto_1)
  (pb:∀{Y},PA X [e] Y->PS X (.Expr (.Call (.Attribute n "append" ap) [e] [] cp) pos) (GR (QO X.K "list" Q2 (nV i) Y))):FO X (.Expr (.Call (.Attribute n "append" ap) [e] [] cp) pos) (Bn i W):=by
 obtain⟨v,p,r⟩:=w;refine⟨_,pb (gF p mU z),λB O H I C G J M o h f=>?_⟩;obtain⟨F,e,h⟩:=h;obtain⟨q,m,j,s,N,P,k,l⟩:=o.own i F e;refine⟨.ref q,j,.inl ⟨gC,m,nM.of k⟩,r B O H I C G _ _ o h λd x T g E A=>?_⟩;refine⟨q,m,x,gC,gC,g _ _ k,?_,?_⟩
 ·rw[<- l.length];have:bN=2^24:=rfl;lia
 ·have y:=(l.same (cC g)).append (.cons E .nil);exact f.nx _ I _ G ((o.grow g).write e j y) ((cC g).trans (by rw[fU s];exact L2.bG.refl _)) A.2
noncomputable def yY(x:â):List D:=x.cps.toList.map λc=>.str ⟨#[c]⟩
noncomputable def JZ:D->Option (List D)
|.list ts=>wz ts
|.tuple ts=>wz ts
|.str x=>wz (yY x)
|_=>wy
def vM(G:List Sl):Prop:=∀(i:Nat)(s:Sl),(∀d,s≠.val d)->s≠.un->G[i]?≠wz s
def qF{G:List Sl}(h:vM G)(i:Nat)(d:D):vM (G.set i (.val d)):=λj s f k e=>by
 by_cases z:i=j
 ·subst z;have g:i<G.length:=by simpa using(aL.mp e).1
  rw[bT g]at e;exact f d (c8 e).symm
 ·rw[bM z]at e;exact h j s f k e
theorem vM.own{G}(h:vM G)(i:Nat)(d:List D):G[i]?≠wz (.own d):=h i _ (λ_ z=>nomatch z) λz=>nomatch z
theorem vM.dic{G}(h:vM G)(i:Nat)(d:List Int)(kvs:List (D×D)):G[i]?≠wz (.dic d kvs):=h i _ (λ_ z=>nomatch z) λz=>nomatch z
abbrev GT:=D->List Sl->(List Sl->Prop)->Prop
def P2(X:Cx)(k:æ)(g:GT):Prop:=∃j,PG X k j/\∀B O H I C G d v Q i,Ok X.K B O H I C G->iK X.K (ê H I) d v->g d C Q ->
 (∀f h,Ok X.K B O H I f h->(vM C->vM f)->Q f->i h H)->j v G H i
def gN(i:Nat):GT:=λd G Q=>Q (G.set i (.val d))
def eQ{i:Nat}(h:PG X (.Name x p) (lS i)):P2 X (.Name x p) (gN i):=
 ⟨_,h,λB O H I C G d v Q f o r h k=>k _ _ (o.set r) (λn=>qF n _ _) h⟩
def gP(i j:Nat):GT:=λd G Q=>∃a b,d=.tuple [a,b]/\Q ((G.set i (.val a)).set j (.val b))
def nA{i j:Nat}{t}(h:PG X t (Bf X.K 2 (HF (lS i) (HF (lS j) Be)))):P2 X t (gP i j):=
 ⟨_,h,λB O H I C G d v Q l o r h k=>by
  obtain⟨a,b,rfl,h⟩:=h
  cases r with
  |@tuple p xs _ hq r=>
   cases r with
   |cons f r=>
    cases r with
    |cons g r=>
     cases r;exact⟨_,_,gC,bG.seqT cA hq,gC,_,_,gC,_,_,gC,gC,k _ _ ((o.set f).set g) (λn=>qF (qF n _ _) _ _) h⟩⟩
structure aKp(K:aF)(Hs:Hp)(ts:List D)(J:It):Prop where
 stop:∀(i:Nat)H,bG Hs H->ts.length<=i->J.stop i H
 go:∀(i:Nat)H,bG Hs H->i<ts.length->J.go i H
 yld:∀(i:Nat)H I(y:V)L,(∀p∈I,AL (H p))->bG Hs (ê H I)->i<ts.length->J.yld i H y L->bG H L/\∃dx,ts[i]?=wz dx/\iK K (ê L I) dx y
abbrev IT:=List Sl->(List D->Prop)->Prop
def P0(X:Cx)(g iter:æ)(t:IT):Prop:=∃f,PI X g iter f/\∀B O H I C G Q R,Ok X.K B O H I C G->t C Q ->
 (∀d J L,bG H L->aKp X.K (ê L I) d J->Q d->R J L)->f G H R
def Kh(W:ET):IT:=λG Q=>W G λd=>∃f,JZ d=wz f/\Q f
def QX(r:iK K Hs d x)(l:JZ d=wz ts){R:It->Hp->Prop}(o:bG Hs T)(h:∀J,aKp K Hs ts J->R J T) :
  (∃a,x=.ref a/\(∃f,nM K T a f)/\R (Cu K a) T)\/(∃a,x=.ref a/\(∃f,rL K T a f)/\R (Cs K a) T)\/∃z,x=.str z/\R (Ak z) T:=by
 cases r with
 |@list p f us q rs=>
  obtain rfl:=c8 l;refine .inl ⟨p,gC,⟨f,L2.bG.seq o q⟩,h _ ⟨λi H e g=>⟨f,L2.bG.seq e q,by rw[<- rs.length];exact g⟩,λi H e g=>?_,λi H I y L _ e g j=>?_⟩⟩
  ·obtain⟨v,n,_⟩:=rs.get (aJ g);exact⟨f,v,L2.bG.seq e q,n⟩
  ·obtain⟨rfl,j⟩:=j;obtain⟨dx,m,k⟩:=rs.get' (j f (L2.bG.seq (e.trans cA) q));exact⟨L2.bG.refl _,dx,m,k.same e⟩
 |@tuple p f us q rs=>
  obtain rfl:=c8 l;refine .inr (.inl ⟨p,gC,⟨f,bG.seqT o q⟩,h _ ⟨λi H e g=>⟨f,bG.seqT e q,by rw[<- rs.length];exact g⟩,λi H e g=>?_,λi H I y L _ e g j=>?_⟩⟩)
  ·obtain⟨v,n,_⟩:=rs.get (aJ g);exact⟨f,v,bG.seqT e q,n⟩
  ·obtain⟨rfl,j⟩:=j;obtain⟨dx,m,k⟩:=rs.get' (j f (bG.seqT (e.trans cA) q));exact⟨L2.bG.refl _,dx,m,k.same e⟩
 |str z=>
  obtain rfl:=c8 l;have g:(yY z).length=z.cps.size:=by unfold yY;simp
  refine .inr (.inr ⟨z,gC,h _ ⟨λi H _ e=>by rw[g]at e;exact e,λi H _ e=>by rw[g]at e;exact e,λi H I y L _ _ e j=>?_⟩⟩);obtain⟨rfl,c,k,rfl⟩:=j;refine⟨L2.bG.refl _,.str ⟨#[c]⟩,?_,.str _⟩;unfold yY;rw[aQ];have:z.cps.toList[i]?=wz c:=by simpa using k
  rw[this];rfl
 |_=>cases l
def fP(f:gK X e W):P0 X tg e (Kh W):=by
 obtain⟨s,i,m⟩:=f;refine⟨_,X7 i,λB O H I C G Q R o h k=>m B O H I C G _ _ o h λd x T p l j=>?_⟩;obtain⟨r,g,q⟩:=j;exact QX l g cA λJ n=>k r J T p n q
noncomputable def fL(n:Nat):List D:=(gO n).map λ(k:Nat)=>cI (k:Int)
def Wq(t:AT):IT:=λG Q=>t G λd=>∃n,d=[.int n]/\-(2^62)<=n/\n<2^62/\Q (fL n.toNat)
def sU{e t}(m:wA X [e] t)(v:∀{Y},PA X [e] Y->PI X tg (.Call (.Name "range" p) [e] [] p') (Gg Y)):P0 X tg (.Call (.Name "range" p) [e] [] p') (Wq t):=by
 obtain⟨F,s,z⟩:=m;refine⟨_,v s,λB O H I C G Q R o h k=>z B O H I C G _ _ o h λE J T A f w=>?_⟩;obtain⟨n,rfl,j,l,q⟩:=w
 cases f with
 |cons f x=>
  cases x;cases f;refine⟨n,gC,j,l,k (fL n.toNat) _ T A ?_ q⟩;have d:(fL n.toNat).length=n.toNat:=by unfold fL;simp
  refine⟨λi H _ e=>by rw[d]at e;exact e,λi H _ e=>by rw[d]at e;exact e,λi H I y L _ _ e r=>?_⟩;obtain⟨rfl,rfl⟩:=r;have g:(0:Int)+(i:Int)=(i:Int):=by lia
  rw[g];rw[d]at e;refine⟨L2.bG.refl _,.int i,?_,.int _⟩;unfold fL;rw[aQ,kQ e];rfl
def Aa(j:IT)(g:GT)(Z:yO):yO:=λf G=>j G λi=>∃P:Nat->List Sl->Prop,P 0 G /\
 (∀k x d,i[k]?=wz x->P k d->g x d λh=>Z { f with nx:=P (k+1),ct:=P (k+1),bk:=f.nx } h)/\∀d,P i.length d->f.nx d
def Xz{iter Z}(he:P0 X tg iter ti)(hg:P2 X tg g)(hb:xA X body Z)
  (pf:∀{wi S bv},PI X tg iter wi->PG X tg S->BR X body bv->PS X (.For tg iter body [] pos) (Bz wi S bv)):FO X (.For tg iter body [] pos) (Aa ti g Z):=by
 obtain⟨ve,pe,re⟩:=he;obtain⟨S,pg,rg⟩:=hg;obtain⟨vb,pb,rb⟩:=hb;refine⟨_,pf pe pg pb,λB O H I C G DT DV o h f=>re B O H I C G _ _ o h λF J T s1 rj q1=>?_⟩;obtain⟨P,h0,hs,hd⟩:=q1;refine⟨λi m n L=>m=F.length-i/\i<=F.length/\∃k d,Ok X.K B O L k d n/\bG (ê T I) (ê L k)/\P i d,⟨_,gC,cP _,I,C,o.grow s1,L2.bG.refl _,h0⟩,?_⟩;rintro i m n L ⟨rfl,lg,k,d,o',Q,p'⟩;have sH:=Q.trans cA;have f':=f.later ((cC s1).trans Q);by_cases q:i<F.length
 ·refine .inr ⟨rj.go i L sH q,λM U=>∃w p,Ok X.K B O U w p M/\bG (ê T I) (ê U w)/\P (i+1) p,λM U z=>⟨F.length-(i+1),cS,gC,q,z⟩,λy U km=>?_⟩;obtain⟨s2,dx,hx,rx⟩:=rj.yld i L k y U o'.live Q q km;have s:=f'.later (cC s2);have A:=Q.trans (cC s2);refine rg B O U k d n dx y _ _ (o'.grow s2) rx (hs i dx d hx p') λN nj o3 _ q3=>?_;exact rb B O U k N nj _ _ o3 q3 ⟨λR l j r v E x=>⟨l,j,v,A.trans E,x⟩,λR l j r v E x=>s.nx R l j r v E x,λR l j r v E x=>⟨l,j,v,A.trans E,x⟩,s.rt,s.ro,s.rp,s.rq,s.xb⟩
 ·obtain rfl:i=F.length:=by lia
  exact .inl ⟨rj.stop _ L sH (aN _),f'.nx L k d n o' (L2.bG.refl _) (hd d p')⟩
noncomputable def M5(G:List Sl):Option Nat->Sl
|none=>.un
|some j=>match G[j]? with | some (.val d)=>.val d | _=>.un
noncomputable def kN(d:List (Option Nat))(G:List Sl):List Sl:=d.map (M5 G)
def VG{G}(h:M5 G q=.val d):∃j,q=wz j/\G[j]?=wz (.val d):=by
 cases q with
 |none=>cases h
 |some j=>
  refine⟨j,gC,?_⟩;unfold M5 at h;dsimp only at h;split at h
  ·next e=>cases h;exact e
  ·cases h
def VH{G}(g:∀d,s≠.val d)(f:s≠.un):M5 G q≠s:=λh=>by
 cases q with
 |none=>exact f h.symm
 |some j=>
  unfold M5 at h;dsimp only at h;split at h
  ·exact g _ h.symm
  ·exact f h.symm
def wO(d:List (Option Nat))(G:List Sl):vM (kN d G):=λi s j g h=>by
 unfold kN at h;rw[aQ]at h
 cases f:d[i]? with
 |none=>rw[f]at h;cases h
 |some q=>
  rw[f]at h;exact VH j g (c8 h)
def Ok.blk(o:Ok K B O H I C G)(fr:List (Option Nat)):Ok K B O H I (kN fr C) (zV fr G) where
 base:=o.base
 sub:=o.sub
 live:=o.live
 len:=by unfold kN zV;simp
 val:=λi d h=>by
  unfold kN at h;rw[aQ]at h
  cases hf:fr[i]? with
  |none=>rw[hf]at h;cases h
  |some q=>
   rw[hf]at h;obtain⟨j,rfl,e⟩:=VG (c8 h);obtain⟨v,h1,h2⟩:=o.val j d e;refine⟨v,?_,h2⟩;unfold zV;rw[aQ,hf];simp[h1]
 own:=λi ts h=>b8 h ((wO fr C).own i ts)
 dis:=λi j ts us p h=>b8 h ((wO fr C).own i ts)
 dc:=λi hs kvs h=>b8 h ((wO fr C).dic i hs kvs)
def Ok.adopt(o:Ok K B O H I C G){p:à}{u}(f:H p=wy)(w:autoParam (zx u=false) zzz._auto_1):Ok K B O (eY H p u) (p::I) C G:=by
 have k:ê (eY H p u) (p::I)=ê H I:=pE f;refine⟨o.base.trans (dN f),λq l=>aH _ (o.sub q l),λq l=>?_,o.len,λi d h=>by rw[k];exact o.val i d h,λi x h=>?_,o.dis,o.dc.to (λj E kvs h=>⟨h,gC⟩) (λq A a b _=>⟨aH _ a,bY λz=>by rw[z,f]at b;cases b⟩) (λq A _ _ a b=>⟨a,b⟩) (by rw[k];exact L2.bG.refl _)⟩
 ·by_cases e:q=p
  ·subst e;rw[cD];exact⟨_,gC,w⟩
  ·rw[bY e];rcases aO.mp l with z | z
   ·exact b8 z e
   ·exact o.live q z
 ·rw[k];obtain⟨q,y,m,n,r,s,g,v⟩:=o.own i x h;exact⟨q,y,m,aH _ n,r,s,by rw[bY λz=>by rw[z,f]at g;cases g];exact g,v⟩
def Ok.aside(o:Ok K B O H I C G){q:à}{u}(hp:q∈I)(hB:B q=wy)(hn:vM C)(hu:autoParam (zx u=false) zzz._auto_1):Ok K B O (eY H q u) I C G where
 base:=λb w e=>by
  rw[bY λz=>by rw[z,hB]at e;cases e];exact o.base b w e
 sub:=o.sub
 live:=λp hp'=>by
  by_cases e:p=q
  ·subst e;rw[cD];exact⟨_,gC,hu⟩
  ·rw[bY e];exact o.live p hp'
 len:=o.len
 val:=λi d h=>by rw[fU hp];exact o.val i d h
 own:=λi ts h=>b8 h (hn.own i ts)
 dis:=λi j ts us p h=>b8 h (hn.own i ts)
 dc:=λi hs kvs h=>b8 h (hn.dic i hs kvs)
def FP(X:Cx)(d:List æ)(t:vX):Prop:=∃g,P1 X d g/\∀B O H I C G Q f,Ok X.K B O H I C G->t C Q ->
 (∀b L,bG H L->Q b->f b L)->g G H f
def AF:vX:=λ_ Q=>Q wx
def gQ:FP X [] AF:=⟨_,aDe,λ_ _ H _ _ _ _ _ _ h k=>k _ H (L2.bG.refl H) h⟩
def E1{t}(h:KQ X e t):FP X [e] t:=by
 obtain⟨v,p,r⟩:=h;exact⟨_,aDd p,r⟩
def U5(j:List (Option Nat))(l:IT)(g:GT)(m:vX)(W:ET):ET:=λG Q=>l G λi=>i.length<=100000/\∃P:Nat->List Sl->List D->Prop,P 0 (kN j G) [] /\
 (∀k x d h,i[k]?=wz x->P k d h->g x d λf=>m f λb=>if b=wx then W f λy=>P (k+1) f (h++[y])else P (k+1) f h)/\∀d h,P i.length d h->Q (.list h)
def Dh(j:List (Option Nat))(g:GT)(l:vX)(W:ET)(i:List D)(G:List Sl)(Q:List D->Prop):Prop:=i.length<=100000/\∃P:Nat->List Sl->List D->Prop,P 0 (kN j G) [] /\
 (∀k x d h,i[k]?=wz x->P k d h->g x d λf=>l f λb=>if b=wx then W f λy=>P (k+1) f (h++[y])else P (k+1) f h)/\∀d h,P i.length d h->Q h
def OW(N:List (Option Nat)){W}(s:∀b,P2 (blk X scope N' b) tg g/\FP (blk X scope N' b) ifs tt/\gK (blk X scope N' b) elt W) :
  ∃gv vt ve,(∀b,PG (blk X scope N' b) tg (gv b)/\P1 (blk X scope N' b) ifs (vt b)/\PE (blk X scope N' b) elt (ve b))/\∀{B O}{T:Hp}{I C G}{Q:List D->Prop}{QV:VK}{A J},Ok X.K B O T I C G->aKp X.K (ê T I) A J->Dh N g tt W A C Q ->
   (∀n p xs L,bG T L->T p=wy->L p=wz (.lst xs)->Reps X.K (ê L (p::I)) n xs->Q n->QV (.ref p) L)->WS N (λ_ H R=>R J H) gv vt ve G T QV:=by
 refine⟨λb=>ae (s b).1,λb=>ae (s b).2.1,λb=>ae (s b).2.2,λb=>⟨(j2 (s b).1).1,(j2 (s b).2.1).1,(j2 (s b).2.2).1⟩,?_⟩;intro B O T I C G Q QV A J o rj q1 k bp f h;obtain⟨hz,P,h0,hs,hd⟩:=q1
 have F:B f=none:=by
  cases q:B f with
  |none=>rfl
  |some u=>rw[o.base f u q]at h;cases h
 refine⟨λi m M L=>m=A.length-i/\i<=A.length/\∃j n E,Ok X.K B O L (f::I) j M/\vM j/\L f=wz (.lst E)/\n.length<=i/\Reps X.K (ê L (f::I)) n E/\bG (ê T I) (ê L (f::I))/\bG T L/\P i j n,
  ⟨_,gC,cP _,kN N C,[],[],(o.blk N).adopt h,wO N C,cD,aN _,.nil,by rw[pE h];exact L2.bG.refl _,dN h,h0⟩,?_⟩
 rintro i m M L ⟨rfl,lg,j,n,E,o',n',ha,hl,hr,S,sF,p'⟩;have hL:bN=2^24:=rfl;by_cases w:i<A.length
 ·refine .inr ⟨rj.go i L (S.trans cA) w,λy U hy=>?_⟩;obtain⟨s2,dx,hx,rx⟩:=rj.yld i L (f::I) y U o'.live S w hy;refine((j2 (s bp).1).2) B O U (f::I) j M dx y _ _ (o'.grow s2) rx (hs i dx j n hx p') λl nj o3 n3 q3=>?_;refine((j2 (s bp).2.1).2) B O U (f::I) l nj _ _ o3 q3 λb H4 s4 q4=>?_;have r:=s2.trans s4
  cases b with
  |false=>
   exact⟨A.length-(i+1),cS,gC,w,l,n,E,o3.grow s4,n3 n',r _ _ ha,cS,hr.same (cC r),S.trans (cC r),sF.trans r,q4⟩
  |true=>
   refine((j2 (s bp).2.2).2) B O H4 (f::I) l nj _ _ (o3.grow s4) q4 λd v H5 s5 r5 q5=>?_;have x:=r.trans s5;have hm:ê (eY H5 f (.lst (E++[v]))) (f::I)=ê H5 (f::I):=fU (aP ..);refine⟨E,x _ _ ha,by rw[<- hr.length];lia,A.length-(i+1),cS,gC,w,l,n++[d],E++[v],((o3.grow s4).grow s5).aside (aP ..) F (n3 n'),n3 n',cD,by rw[aW,pJ];lia,?_,?_,?_,q5⟩
   ·rw[hm];exact(hr.same (cC x)).append (.cons r5 .nil)
   ·rw[hm];exact S.trans (cC x)
   ·intro b u e;rw[bY (λz=>by rw[z,h]at e;cases e)];exact(sF.trans x) b u e
 ·obtain rfl:i=A.length:=by lia
  exact .inl ⟨rj.stop _ L (S.trans cA) (aN _),k n f E L sF h ha hr (hd j n p')⟩
def LU{K}{H L:Hp}{I}{p:à}(live:∀q∈I,AL (H q))(d:H p=wy)(g:L p=wz (.lst xs))(rs:Reps K (ê L (p::I)) ds xs):iK K (ê L I) (.list ds) (.ref p):=
 .list (nM.of (mO (iW live d) g)) (rs.same (gY λq f=>aH _ f))
def ZN{iter W}(w:P0 X tg iter ti)
  (s:∀b,P2 (blk X scope N' b) tg g/\FP (blk X scope N' b) ifs tt/\gK (blk X scope N' b) elt W) {M:(TE)->Prop}
  (fin:∀{n}{i:BP->TG}{m:BP->TT}{l:BP->TE},PI X tg iter n->(∀b,PG (blk X scope N' b) tg (i b)/\P1 (blk X scope N' b) ifs (m b)/\PE (blk X scope N' b) elt (l b))->M (WS fr n i m l)) :
  ∃v,M v/\∀B O H I C G Q f,Ok X.K B O H I C G->U5 fr ti g tt W C Q ->
   (∀d v L,bG H L->iK X.K (ê L I) d v->Q d->f v L)->v G H f:=by
 obtain⟨n,z,E⟩:=w;obtain⟨i,m,l,p,r⟩:=OW fr s;exact⟨_,fin z p,λB O H I C G Q f o h k=>E B O H I C G _ _ o h λR J T j F A=>r (o.grow j) F A λP p S L N x y rs q=>k _ _ L (j.trans N) (LU (o.grow j).live x y rs) q⟩
def Mz{iter W}(j:P0 X tg iter ti)
  (i:∀b,P2 (blk X scope N' b) tg g/\FP (blk X scope N' b) ifs tt/\gK (blk X scope N' b) elt W)
  (k:∀{wi}{d:BP->TG}{h:BP->TT}{f:BP->TE},PI X tg iter wi->(∀b,PG (blk X scope N' b) tg (d b)/\P1 (blk X scope N' b) ifs (h b)/\PE (blk X scope N' b) elt (f b))->PE X (.ListComp elt [⟨tg,iter,ifs,0⟩] scope pos) (WS fr wi d h f)) :
  gK X (.ListComp elt [⟨tg,iter,ifs,0⟩] scope pos) (U5 fr ti g tt W):=ZN j i k
def nX{i:Nat}{iter W}(q:P0 X tg iter ti)
  (n:∀b,P2 (blk X scope N' b) tg g/\FP (blk X scope N' b) ifs tt/\gK (blk X scope N' b) elt W)
  (s:∀{wi}{j:BP->TG}{m:BP->TT}{l:BP->TE},PI X tg iter wi->(∀b,PG (blk X scope N' b) tg (j b)/\P1 (blk X scope N' b) ifs (m b)/\PE (blk X scope N' b) elt (l b)) ->
   PS X (.Assign [.Name x px] (.ListComp elt [⟨tg,iter,ifs,0⟩] scope pos) spos) (xU (WS fr wi j m l) (lS i))) :
  FO X (.Assign [.Name x px] (.ListComp elt [⟨tg,iter,ifs,0⟩] scope pos) spos) (LP i (U5 fr ti g tt W)):=by
 obtain⟨v,p,r⟩:=ZN (M:=λv=>PS X (.Assign [.Name x px] (.ListComp elt [⟨tg,iter,ifs,0⟩] scope pos) spos) (xU v (lS i))) q n s;refine⟨_,p,λB O H I C G z A o h f=>r B O H I C G _ _ o h λd x L k y w=>?_⟩;exact f.nx L I _ _ ((o.grow k).set y) (cC k) w
noncomputable def kL(N:List â)(d:List D):List Sl:=d.map Sl.val++IC (N.length-d.length) .un
def qM(live:∀p∈I,AL (H p))(r:Reps K (ê H I) ds vs):Ok K H I H I (kL N ds) (L2.nW N vs):=by
 have k:=r.length;refine⟨L2.bG.refl _,λ_ h=>h,live,?_,λi d h=>?_,λi n h=>?_,λi j n q p h=>?_,λi o kvs h=>?_⟩
 ·unfold kL L2.nW;simp[k]
 ·unfold kL at h;by_cases f:i<ds.length
  ·rw[eV (by simpa using f),aQ]at h
   cases hd:ds[i]? with
   |none=>rw[hd]at h;cases h
   |some g=>
    rw[hd]at h;cases h;obtain⟨v,l,m⟩:=r.get hd;refine⟨v,?_,m⟩;unfold L2.nW;rw[eV (by rw[aC,<- k];exact f),aQ,l];rfl
  ·rw[eM (by simpa using f),kZ]at h;split at h<;>cases h
 ·unfold kL at h;by_cases f:i<ds.length
  ·rw[eV (by simpa using f),aQ]at h
   cases hd:ds[i]? with
   |none=>rw[hd]at h;cases h
   |some g=>rw[hd]at h;cases h
  ·rw[eM (by simpa using f),kZ]at h;split at h<;>cases h
 ·unfold kL at h;by_cases f:i<ds.length
  ·rw[eV (by simpa using f),aQ]at h
   cases hd:ds[i]? with
   |none=>rw[hd]at h;cases h
   |some g=>rw[hd]at h;cases h
  ·rw[eM (by simpa using f),kZ]at h;split at h<;>cases h
 ·unfold kL at h;by_cases f:i<ds.length
  ·rw[eV (by simpa using f),aQ]at h
   cases hd:ds[i]? with
   |none=>rw[hd]at h;cases h
   |some g=>rw[hd]at h;cases h
  ·rw[eM (by simpa using f),kZ]at h;split at h<;>cases h
def nL{mg:â->Option á}{st}{f:à}{N pn:List â}{k:Nat}{n:kX}(F:NK K x qual st f fd)(S:bQ N pn (aS st))
  (l:∀{j}{A:d8}{outer}{s:ã}{H E},iE k (A.deeper (i9 qual (aS st) s.heap.objs.size f j))->N.Nodup->∀(i:List D)(Q:D->Prop),n i Q ->
   ∃t,xA (rW qA P w K mg base N qual (aS st) f j A outer s H E).nox (lB st) t/\t { nx:=λ_=>Q .none,rt:=Q } (kL N i)) (len:∀i Q,n i Q->i.length=pn.length:=by intro i Q h;(repeat obtain⟨_,h⟩:=h)<;>subst_vars<;>rfl):lW P w K mg base qA (k+1) f fd pn (lN K n):=by
 refine F.ok S (λvs H Q E h=>?_) λj A outer s H vs Q E z h=>?_
 ·obtain⟨I,i,m,_,r,q,_⟩:=h;rw[<- r.length];exact len i m q
 ·obtain⟨I,i,m,live,r,q,k⟩:=h;obtain⟨t,⟨ts,p,rd⟩,h⟩:=l z S.nd i m q;refine⟨ts,p,rd H I H I _ _ _ _ (qM live r) h ⟨λL M y u4 J o g=>?_,λ_ _ _ _ _ _ g=>g.elim,λ_ _ _ _ _ _ g=>g.elim,λd v L o R g=>k d v L o R g,λ_ _ _ _ _ _ _ _ _ g=>g.elim,λ_ _ _ _ _ _ _ _ _ _ _ _ _ _ _ _ _ _ g=>g.elim,λ_ _ _ _ _ _ _ _ _ _ _ _ _ _ g=>g.elim,e6⟩⟩;exact k _ _ L J.base .none g
end
end TL
namespace HT
section
variable{prog:cV}{w:f7}{A:d8}{E:á->ã->Prop}{s:ã}
def getItem_tuple_all{t g:à}{a:Array á}{lo}{Q:á->ã->Prop}(b:mj s.heap t a)(f:s.heap.IsSliceOf g vl vu .none)(j:IsPart vl lo)(k:IsPart vu hi)
  (hw:sIx a.size 0 lo=0/\sIx a.size a.size hi=a.size) (h:Q (.ref t) s):å (ä prog w) A (v0 (.ref t) (.ref g)) Q E s:=by
 obtain⟨os,e,d,i⟩:=id f;unfold v0
 try with_reducible refine m8 ?_
 first | refine aI (bH ?_) | skip
 refine aI (nh b.typeIs cR ?_)
 refine aI (j4 b.typeIs j6
  (nN j6 b.typeIs la ?_ (lj _ _)))
 show å _ _ (aa (.ref t) >>= _) _ _ s;refine aI (tupleItemsOf_ b ?_);refine aI (kc (⟨os,e,d⟩) ?_);rw[a9 cR];refine aI (sO f j k ?_)
 have c:(((sIx a.size 0 lo:Nat):Int)==0&&(1:Int)==1&&(sIx a.size a.size hi-sIx a.size 0 lo)==a.size)=true:=by
  rw[hw.1,hw.2];simp
 show å _ _ (if(((sIx a.size 0 lo:Nat):Int)==0&&(1:Int)==1&&(sIx a.size a.size hi-sIx a.size 0 lo)==a.size)=wx then _ else _) _ _ s;rw[a9 c];refine aI (aI (kc b.typeIs (bH ?_)));rw[a9 cR]
 first
  |exact aI (n7 (aI (bH (bH ⟨_,gC,bH h⟩))))
  |exact aI (n7 (bH ⟨_,gC,bH h⟩))
  |exact aI (n7 (aI (bH ⟨_,gC,bH h⟩)))
end
end HT
namespace L2
section
variable{X:Cx}
def Eg:V->Option Int->Option Int->Hp->VK->Prop:=λx lo a H Q=>∃z,x=.str z/\z.length<=bN/\Q (.str (Txt.slice z lo a)) H
def Xv:gV X Eg:=by
 intro b s p H x v w y lo a r Q I o c n f h;obtain⟨z,rfl,m,q⟩:=h;obtain⟨t,rfl⟩:=o;refine⟨"str",_,PySem.F.slot_str_getitem.lookup,z7 _ _ _,?_⟩
 have fin:∀lo a:Option Int,Q (.str (Txt.slice z lo a)) H->(Txt.slice z lo a).length<=bN/\∀(d:Tok)(k:Nat),EP X b p Q (.str (Txt.slice z lo a) d) { s with toks:=k }:=λlo a q=>
  ⟨aY (Txt.slice_le z _ _) m,λd k=>⟨.str _,H,I.tok k,⟨d,gC⟩,q⟩⟩
 cases n with
 |none=>
  cases f with
  |none=>exact n9 (l:=wy) (u:=wy) (st:=wy) c gC (z9 (fin wy wy q))
  |int j e=>exact n9 (l:=wy) (u:=wz (j,e)) (st:=wy) c gC (z9 (fin wy (wz j) q))
 |int i g=>
  cases f with
  |none=>exact n9 (l:=wz (i,g)) (u:=wy) (st:=wy) c gC (z9 (fin (wz i) wy q))
  |int j e=>exact n9 (l:=wz (i,g)) (u:=wz (j,e)) (st:=wy) c gC (z9 (fin (wz i) (wz j) q))
def Gp(K:aF):V->Option Int->Option Int->Hp->VK->Prop:=λx lo c H Q=>∃a b,x=.ref a/\rL K H a b /\
 ((HT.sIx b.length 0 lo=0/\HT.sIx b.length b.length c=b.length)->Q (.ref a) H)/\(¬(HT.sIx b.length 0 lo=0/\HT.sIx b.length b.length c=b.length)->∀p,H p=wy->Q (.ref p) (eY H p (.tup (PN b lo c))))
def aCv:gV X (Gp X.K):=by
 intro d s u H x v q t lo f p Q I m g k l h;obtain⟨a,b,rfl,j,n,o⟩:=h;by_cases hw:HT.sIx b.length 0 lo=0/\HT.sIx b.length b.length f=b.length
 ·cases m;obtain⟨e,r,i,w⟩:=I.tuple j;have c:e.toArray.size=b.length:=by rw[bI];exact r.length.symm
  exact⟨"tuple",_,PyProof.Rows.slot_tuple_getitem.lookup,i.typeIs,HT.getItem_tuple_all i g k l (by rw[c];exact hw) ⟨.ref a,H,I,gC,n hw⟩⟩
 ·exact Xw d s u H (.ref a) v q t lo f p Q I m g k l ⟨a,b,gC,j,hw,o hw⟩
def XJ(K:aF):V->Option Int->Option Int->Hp->VK->Prop:=λx lo a H Q=>Ef K x lo a H Q\/Gp K x lo a H Q\/Eg x lo a H Q
def fM:gV X (XJ X.K):=aCw.or (aCv.or Xv)
def XO(K:aF):R2:=λx y H Q=>∃a b c d,x=.ref a/\y=.ref b/\rL K H a c/\rL K H b d/\c.length+d.length<=bN /\
 (c=[]->Q (.ref b) H)/\(c≠[]->d=[]->Q (.ref a) H)/\(c≠[]->d≠[]->∀p,H p=wy->Q (.ref p) (eY H p (.tup (c++d))))
def YK:oE X (j9 .Add) (XO X.K):=by
 intro f s R H x y v u Q I r t h;obtain⟨a,b,w,P,rfl,rfl,p,hb,C,J,L,M⟩:=h;by_cases d:w=[]
 ·cases r;cases t;obtain⟨k,N,F,_⟩:=I.tuple p;obtain⟨e,S,G,_⟩:=I.tuple hb;obtain⟨⟨z,A,o,O⟩,q,B,n,hd⟩:=id F;obtain⟨⟨m,g,data2,l⟩,c,i,E,j⟩:=id G;subst B hd i j;exact bt ⟨_,q,gC⟩ ⟨_,c,gC⟩ cu ir uG tK (sB _ _) (tuple_addW0 a b k.toArray e.toArray n E A g O l (by simp[(N.nil_iff.mpr d)])) ⟨q,c,⟨.ref b,H,I,gC,J d⟩⟩
 ·exact aDk f s R H (.ref a) (.ref b) v u Q I r t ⟨a,b,w,P,gC,gC,p,hb,d,C,L d,M d⟩
def Ht(K:aF):R2:=λx y H Q=>∃l b a c,x=.ref l/\y=.ref b/\nM K H l a/\nM K H b c/\a.length+c.length<=bN/\∀p,H p=wy->Q (.ref p) (eY H p (.lst (a++c)))
def RG:oE X (j9 .Add) (Ht X.K):=by
 intro t s S H x y v u Q I M N h;obtain⟨l,b,P,R,rfl,rfl,E,hb,r,q⟩:=h;cases M;cases N;obtain⟨c,w,⟨⟨A,B,m,O⟩,n,p,G,J,hd⟩,_⟩:=I.list E;obtain⟨a,z,⟨⟨k,e,data2,j⟩,L,d,f,o,g⟩,_⟩:=I.list hb;subst G hd f g;have i:c.toArray.size+a.toArray.size<=bN:=by rw[bI,bI,<- w.length,<- z.length];exact r
 refine bt ⟨_,p,gC⟩ ⟨_,d,gC⟩ noFill_list_add seq_list_add PySem.F.slot_list_add PySem.F.entry_list_add (PySem.F.args_list_add_2 _ _) (list_addW l b c.toArray a.toArray n L B e O j i) ⟨p,d,?_⟩;have C:c.toArray++a.toArray=(c++a).toArray:=by simp
 rw[C];exact⟨.ref _,_,I.lnew (w.append z) (by rw[aW];exact r),gC,q _ I.fresh⟩
def Q3(K:aF):R2:=λx y H Q=>(XN λi j=>.int (i+j)) x y H Q\/(∃i j,x=.str i/\y=.str j/\i.length+j.length<=bN/\Q (.str (i++j)) H)\/XO K x y H Q\/Ht K x y H Q
def bK:oE X (j9 .Add) (Q3 X.K):=Yf.or (OD.or (YK.or RG))
def Q1:R2:=λx y H Q=>(rI P9 λi j=>.int (i*j)) x y H Q\/∃z n,x=.str z/\y=.int n/\z.length<=1000/\0<=n/\n<=1000/\Q (.str (Txt.mul z n)) H
def OC:oE X (j9 .Mult) (λx y H Q=>∃z n,x=.str z/\y=.int n/\z.length<=1000/\0<=n/\n<=1000/\Q (.str (Txt.mul z n)) H):=by
 intro c s m H x y v u Q I e f h;obtain⟨z,n,rfl,rfl,d,g,i,q⟩:=h;obtain⟨t,rfl⟩:=e;obtain⟨l,rfl⟩:=f;refine SB.mul ⟨by simp;lia,λa _=>?_,λ_ _=>?_⟩ λb k=>⟨.str _,H,I.tok k,⟨b,gC⟩,q⟩
 ·have:(1000:Int)<=(2^63-1) / n:=by
   rw[Int.le_ediv_iff_mul_le cS];lia
  lia
 ·have:z.length*n.toNat<=1000*1000:=oW d cS;unfold Builtin.Str.tooLong;have j:bN=2^24:=rfl;simp only[decide_eq_false_iff_not];lia
def jB:oE X (j9 .Mult) Q1:=YI.or OC
def uC(C:X.calm=wx):lU X (.builtin "all") (λx H Q=>∃(p:à)(bs:List Bool),x=[.ref p]/\nM X.K H p (bs.map V.bl)/\Q (.bl (bs.all id)) H):=by
 intro t s T H x R Q I r h;obtain⟨p,bs,rfl,F,q⟩:=h;obtain⟨u,rfl,G⟩:=nU r;cases G;obtain⟨d,l,w,N⟩:=I.list F
 have k:p≠s.heap.objs.size:=by
  obtain⟨o,E,_⟩:=w.isList;exact dF (bF E)
 have j:=w.isList;refine call_all_walk (i4 j ?_);refine⟨_,_,_,_,_,_,λi=>(bs[i]?).getD wx,gC,bo (A:=X.A.in1) (I.ok.hd C) _ p k d.toArray,⟨⟨_,aX _ gC,gC,gC⟩,j.push _⟩,λi v O L J B c=>?_,λM P hk=>?_⟩
 ·have n:d[i]?=wz v:=by simpa using B
  have a:=l.length;have f:=(aL.mp n).1;have hb:i<bs.length:=by rw[aC]at a;lia
  obtain⟨S,m,y⟩:=l.get (by rw[aQ,aJ hb];rfl);rw[n]at m;cases m;cases y;refine g3 ?_;dsimp only at c;rw[aJ hb]at c;exact c
 ·have e:(gO d.toArray.size).all (λi=>(bs[i]?).getD wx)=bs.all id:=by
   have a:=l.length;rw[aC]at a;rw[bI,<- a];rw[dX,fK,fK];constructor
   ·intro h b hb;obtain⟨i,f,rfl⟩:=pV.mp hb;have:=h i (rN.mpr f);rw[aJ f]at this;exact this
   ·intro h i f;have g:=rN.mp f;rw[aJ g];exact h _ (iU g)
  rw[e];refine⟨.bl _,H,I.kept λb o e=>hk b o ?_ (aD _ e),gC,q⟩;intro z;have:b=s.heap.objs.size:=by simpa using z
  exact b8 (bF e) (by rw[this];exact fB _)
def GC(N:X.calm=wx):lU X (.builtin "min") (λL H Q=>∃p ns,L=[.ref p]/\nM X.K H p (ns.map V.int)/\ns≠[]/\∀m,m∈ns->(∀n∈ns,m<=n)->Q (.int m) H):=by
 intro F s σ H L Z Q I r h;obtain⟨p,ns,rfl,R,g,q⟩:=h;obtain⟨u,rfl,T⟩:=nU r;cases T;obtain⟨a,J,G,W⟩:=I.list R;have f:=J.length;rw[aC]at f;have C:=VR.mpr g
 have x:p≠s.heap.objs.size:=by
  obtain⟨o,y,_⟩:=G.isList;exact dF (bF y)
 have d:=G.isList
 have k:p<s.heap.objs.size:=by
  obtain⟨o,y,_⟩:=d;exact bF y
 have c:∀(i:Nat)(v:á),a.toArray[i]?=wz v->∃t,v=.int ((ns[i]?).getD 0) t:=λi v l=>by
  have E:a[i]?=wz v:=by simpa using l
  have w:=(aL.mp E).1;have hb:i<ns.length:=by lia
  obtain⟨w',B,M⟩:=J.get (by rw[aQ,aJ hb];rfl);rw[E]at B;cases B;rw[aJ hb];exact M
 refine call_min_walk (i4 d ?_);refine⟨_,_,_,_,_,_,_,gC,bo (A:=X.A.in1) (I.ok.hd N) _ p x a.toArray,⟨⟨_,aX _ gC,gC,gC⟩,d.push _⟩,λb hb=>?_,by rw[bI];lia,CmpOf.ints_lt (λi=>(ns[i]?).getD 0) c,λv U Y l hk=>?_⟩
 ·rw[eD];have:b=s.heap.objs.size\/b=p:=by simpa using hb
  rcases this with rfl | rfl
  ·exact lD _
  ·exact oX k
 ·obtain⟨t,rfl⟩:=c _ _ l;have hb:=argBest_lt (λi=>(ns[i]?).getD 0) (a.toArray.size-1);have S:a.toArray.size=ns.length:=by rw[bI];lia
  have w:argBest (λi j=>decide ((ns[i]?).getD 0<(ns[j]?).getD 0)) (a.toArray.size-1)<ns.length:=by have:=hb.1;lia
  refine⟨.int _,H,I.kept λb o e=>hk b o ?_ (aD _ e),⟨t,gC⟩,q _ ?_ λn P=>?_⟩
  ·intro z;have:b=s.heap.objs.size:=by simpa using z
   exact b8 (bF e) (by rw[this];exact fB _)
  ·rw[aJ w];exact iU w
  ·obtain⟨j,O,rfl⟩:=pV.mp P;have:=hb.2 j cS;rw[aJ O]at this;exact this
def Bl:R2:=λx y H Q=>∃b,y=.bl b/\Q (.bl (decide (x=.bl b))) H
def JB:R2:=λx y H Q=>∃b,y=.bl b/\Q (.bl (!decide (x=.bl b))) H
def Gj{b:Bool}(r:fQ x v):plainIs v (.bool b)=wx/\(v==bn b)=decide (x=.bl b):=by
 cases x with
 |non=>cases r;exact⟨gC,gC⟩
 |bl c=>cases r;cases b<;>cases c<;>exact⟨gC,gC⟩
 |int _=>obtain⟨t,rfl⟩:=r;exact⟨gC,gC⟩
 |str _=>obtain⟨t,rfl⟩:=r;exact⟨gC,gC⟩
 |byt _=>obtain⟨t,rfl⟩:=r;exact⟨gC,gC⟩
 |flt _=>obtain⟨t,rfl⟩:=r;exact⟨gC,gC⟩
 |ref _=>cases r;exact⟨gC,gC⟩
 |ty _=>cases r;exact⟨gC,gC⟩
def T8:oE X (c9 .IsNot) JB:=by
 intro a s g H x y v u Q I e f h;obtain⟨b,rfl,q⟩:=h;cases f;obtain⟨c,d⟩:=Gj e;refine wpAny_isNot_plain c ?_;rw[d];exact⟨.bl _,H,I,gC,q⟩
def Yh:oE X (c9 .Is) Bl:=by
 intro a s g H x y v u Q I e f h;obtain⟨b,rfl,q⟩:=h;cases f;obtain⟨c,d⟩:=Gj e;refine wpAny_is_plain c ?_;rw[d];exact⟨.bl _,H,I,gC,q⟩
def aDt:NJ X "str.find" (λx b H Q=>∃z y,x=.str z/\b=[.str y]/\Q (.int (Txt.find z y)) H):=by
 intro a s g H x b v f Q I d r h;obtain⟨z,y,rfl,rfl,q⟩:=h;obtain⟨t,rfl⟩:=d;obtain⟨u,rfl,c⟩:=nU r;obtain⟨e,rfl⟩:=c;exact SC.find ⟨.int _,H,I.tok _,⟨_,gC⟩,q⟩
theorem IJ:∀{a:List â}{us},fW (a.map V.str) us->StrsAre us a
|[],_,r=>by rw[mY]at r;cases r;exact .nil
|y::a,us,r=>by
 rw[bB]at r
 cases r with
 |cons b c=>
  obtain⟨t,rfl⟩:=b;exact .cons y t (IJ c)
def lR:NJ X "str.join" (λx c H Q=>∃z p a,x=.str z/\c=[.ref p]/\nM X.K H p (a.map V.str)/\(a.map (·.length)).sum+a.length*z.length<=16777216/\Q (.str (Txt.join z a)) H):=by
 intro b s o H x c v n Q I l r h;obtain⟨z,p,a,rfl,rfl,d,e,q⟩:=h;obtain⟨t,rfl⟩:=l;obtain⟨u,rfl,i⟩:=nU r;cases i;obtain⟨f,j,g,_⟩:=I.list d;exact PyProof.Rows.join_list g.isList (by simpa using IJ j) e λm k=>⟨.str _,H,I.tok k,⟨m,gC⟩,q⟩
def NS(K:aF)(H:Hp):V->String->Prop
|.non,T=>T="NoneType"
|.bl _,T=>T="bool"
|.int _,T=>T="int"
|.str _,T=>T="str"
|.ref p,T=>(T="list"/\∃a,nM K H p a)\/(T="tuple"/\∃a,rL K H p a)\/(T="list"/\∃P,H p=wz (.ext P)/\∀h,P h->∃o,h.get? p=wz o/\o.cls=.type "list")
|_,_=>False
def aD3{E:á->ã->Prop}{Q:á->ã->Prop}{b:Bool}(I:dI X pins σ H s)(g:fQ x u)(ty:NS X.K H x T)
  (e:dU X.K (.type T) c=wz b) (h:∀m,Q (.bool b) { s with toks:=m }):å (ä X.prog X.w) A (call (.builtin "isinstance") [u,c]) Q E s:=by
 cases x with
 |non=>cases (show T="NoneType" from ty);exact wQ I g .non e h
 |bl y=>cases (show T="bool" from ty);exact wQ I g (.bl y) e h
 |int i=>cases (show T="int" from ty);exact wQ I g (.int i) e h
 |str y=>cases (show T="str" from ty);exact wQ I g (.str y) e h
 |ref p=>
  cases g;rcases ty with⟨rfl,q,f⟩ | ⟨rfl,q,f⟩ | ⟨rfl,P,f,l⟩
  ·obtain⟨j,_,k,_⟩:=I.list f;obtain⟨o,n,d,a,_⟩:=k;exact eU rM I.kIn ⟨o,d,a⟩ e (λz=>nomatch z) h
  ·obtain⟨j,_,k,_⟩:=I.tuple f;obtain⟨o,d,a,_⟩:=k;exact eU QA I.kIn ⟨o,d,a⟩ e (λz=>nomatch z) h
  ·obtain⟨o,d,a⟩:=l _ (I.hok p _ f).1;exact eU rM I.kIn ⟨o,d,a⟩ e (λz=>nomatch z) h
 |_=>exact g9 ty
end
end L2
namespace TL
open L2
variable{K:aF}{H L M O:Hp}{B:Hp}{N F:List à}{J:List Sl}{G:L2.St}
section
variable{X:Cx}{a b c e:æ}{P:List æ}{R S:ET}{pos p:Pos}
def fI(C:Int->Int->Prop)(g:Int->Int->Int):D->D->(D->Prop)->Prop
|.int i,.int j,Q=>C i j/\Q (.int (g i j))
|_,_,_=>False
def Jj(g:Int->Int->Int):D->D->(D->Prop)->Prop
|.int i,.int j,Q=>Q (.int (g i j))
|_,_,_=>False
def Jk(g:Int->Int->Bool):D->D->(D->Prop)->Prop
|.int i,.int j,Q=>Q (.bool (g i j))
|_,_,_=>False
def K0{C:Int->Int->Prop}{g:Int->Int->Int}:AI X (rI C λi j=>.int (g i j)) (fI C g):=by
 intro H F m n x y Q l live d f h k
 cases d with
 |int i=>
  cases f with
  |int j=>exact⟨i,j,gC,gC,h.1,k _ _ H (L2.bG.refl H) (.int _) h.2⟩
  |_=>exact h.elim
 |_=>exact h.elim
def UG{g:Int->Int->Int}:AI X (XN λi j=>.int (g i j)) (Jj g):=by
 intro H F m n x y Q l live d f h k
 cases d with
 |int i=>
  cases f with
  |int j=>exact⟨i,j,gC,gC,k _ _ H (L2.bG.refl H) (.int _) h⟩
  |_=>exact h.elim
 |_=>exact h.elim
def qN{g:Int->Int->Bool}:AI X (XN λi j=>.bl (g i j)) (Jk g):=by
 intro H F m n x y Q l live d f h k
 cases d with
 |int i=>
  cases f with
  |int j=>exact⟨i,j,gC,gC,k _ _ H (L2.bG.refl H) (.bool _) h⟩
  |_=>exact h.elim
 |_=>exact h.elim
def zd:D->D->(D->Prop)->Prop
|.int i,.int j,Q=>Q (.int (i+j))
|.str x,.str y,Q=>x.length+y.length<=100000/\Q (.str (x++y))
|.tuple x,.tuple y,Q=>x.length+y.length<=100000/\Q (.tuple (x++y))
|.list x,.list y,Q=>x.length+y.length<=100000/\Q (.list (x++y))
|_,_,_=>False
def B1{n:Nat}(h:n<=100000):n<=bN:=by have:bN=2^24:=rfl;lia
def dR:AI X (Q3 X.K) zd:=by
 intro H F s t x y Q r live q n h k
 cases q with
 |int i=>
  cases n with
  |int j=>exact .inl ⟨i,j,gC,gC,k _ _ H (L2.bG.refl H) (.int _) h⟩
  |_=>exact h.elim
 |str i=>
  cases n with
  |str j=>exact .inr (.inl ⟨i,j,gC,gC,B1 h.1,k _ _ H (L2.bG.refl H) (.str _) h.2⟩)
  |_=>exact h.elim
 |tuple l d=>
  cases n with
  |tuple m f=>
   refine .inr (.inr (.inl ⟨_,_,_,_,gC,gC,bG.seqT cA l,bG.seqT cA m,B1 (by rw[<- d.length,<- f.length];exact h.1),λz=>?_,λz1 o=>?_,λz1 o p g=>?_⟩))
   ·subst z;cases d;exact k _ _ H (L2.bG.refl H) (.tuple m f) h.2
   ·subst o;cases f;have e:=h.2;rw[eK]at e;exact k _ _ H (L2.bG.refl H) (.tuple l d) e
   ·exact k _ _ _ (dN g) (rF live g (d.append f)) h.2
  |_=>exact h.elim
 |list l d=>
  cases n with
  |list m f=>
   exact .inr (.inr (.inr ⟨_,_,_,_,gC,gC,L2.bG.seq cA l,L2.bG.seq cA m,B1 (by rw[<- d.length,<- f.length];exact h.1),λp g=>k _ _ _ (dN g) (zD live g (d.append f)) h.2⟩))
  |_=>exact h.elim
 |_=>exact h.elim
def Ka:D->D->(D->Prop)->Prop
|.int i,.int j,Q=>P9 i j/\Q (.int (i*j))
|.str z,.int n,Q=>z.length<=1000/\0<=n/\n<=1000/\Q (.str (Txt.mul z n))
|_,_,_=>False
def rH:AI X Q1 Ka:=by
 intro H F l m x y Q g live f d h k
 cases f with
 |int i=>
  cases d with
  |int j=>exact .inl ⟨i,j,gC,gC,h.1,k _ _ H (L2.bG.refl H) (.int _) h.2⟩
  |_=>exact h.elim
 |str z=>
  cases d with
  |int n=>exact .inr ⟨z,n,gC,gC,h.1,h.2.1,h.2.2.1,k _ _ H (L2.bG.refl H) (.str _) h.2.2.2⟩
  |_=>exact h.elim
 |_=>exact h.elim
noncomputable def yu:D->D->Option Bool
|.none,.none=>wz wx
|.bool x,.bool y=>wz (decide (x=y))
|.int x,.int y=>wz (decide (x=y))
|.str x,.str y=>wz (decide (x=y))
|.str _,.none | .none,.str _=>wz ww
|_,_=>wy
def Av(x y:D)(Q:D->Prop):Prop:=match yu x y with | some c=>Q (.bool c) | none=>False
def Dj(x y:D)(Q:D->Prop):Prop:=match yu x y with | some c=>Q (.bool (!c)) | none=>False
def MS{x y:D}{u v:V}{c:Bool}(d:iK K H x u)(f:iK K H y v)(h:yu x y=wz c):Bt u v=wx/\decide (u=v)=c:=by
 unfold yu at h;split at h<;>cases h<;>cases d<;>cases f<;>exact⟨gC,eH⟩
def iL:AI X Dd Av:=by
 intro H F d f x y Q m live j l h k;unfold Av at h
 cases e:yu d f with
 |none=>rw[e]at h;exact h.elim
 |some c=>
  rw[e]at h;obtain⟨g,i⟩:=MS j l e;refine⟨g,?_⟩;rw[i];exact k _ _ H (L2.bG.refl H) (.bool c) h
def zu:AI X Db Dj:=by
 intro H F d f x y Q m live j l h k;unfold Dj at h
 cases e:yu d f with
 |none=>rw[e]at h;exact h.elim
 |some c=>
  rw[e]at h;obtain⟨g,i⟩:=MS j l e;refine⟨g,?_⟩;rw[i];exact k _ _ H (L2.bG.refl H) (.bool (!c)) h
noncomputable def wR(b:Bool):D->Bool
|.bool c=>decide (c=b)
|_=>ww
theorem Reps.atI{i:Int}(r:Reps K H ds vs)(h:atI ds i=wz d):∃v,atI vs i=wz v/\iK K H d v:=by
 unfold L2.atI at h |-
 rw[<- r.length]
 cases e:VX ds.length i with
 |none=>rw[e]at h;cases h
 |some j=>
  rw[e]at h;exact r.get h
inductive P4(ts:List D)(i:Int)(Q:D->Prop):Prop
|mk (d:D) (h:atI ts i=wz d) (k:Q d):P4 ts i Q
def Jg(x y:D)(Q:D->Prop):Prop:=match x,y with
|.list ts,.int i=>P4 ts i Q
|.tuple ts,.int i=>P4 ts i Q
|.str z,.int i=>z.length<=100000/\∃c,atI z.cps.toList i=wz c/\Q (.str ⟨#[c]⟩)
|_,_=>False
def cM:AI X (zj X.K) Jg:=by
 intro H F g o x y Q n live l m h k
 cases m with
 |int i=>
  cases l with
  |list q s=>
   obtain⟨d,e,h⟩:=h;obtain⟨v,f,r⟩:=s.atI e;exact .inl ⟨_,_,i,v,gC,gC,L2.bG.seq cA q,f,k _ _ H (L2.bG.refl H) r h⟩
  |tuple q s=>
   obtain⟨d,e,h⟩:=h;obtain⟨v,f,r⟩:=s.atI e;exact .inr (.inl ⟨_,_,i,v,gC,gC,bG.seqT cA q,f,k _ _ H (L2.bG.refl H) r h⟩)
  |str z=>
   obtain⟨j,c,e,h⟩:=h;exact .inr (.inr ⟨z,i,c,gC,gC,B1 j,e,k _ _ H (L2.bG.refl H) (.str _) h⟩)
  |_=>exact h.elim
 |_=>cases g<;>exact h.elim
noncomputable def fY{f:Type}(d:List f)(lo g:Option Int):List f:=(d.drop (HT.sIx d.length 0 lo)).take (HT.sIx d.length d.length g-HT.sIx d.length 0 lo)
def Jf(x:D)(lo d:Option Int)(Q:D->Prop):Prop:=match x with
|.list ts=>Q (.list (fY ts lo d))
|.tuple ts=>Q (.tuple (fY ts lo d))
|.str z=>z.length<=100000/\Q (.str (Txt.slice z lo d))
|_=>False
def Reps.cut(r:Reps K H ds vs)(lo d:Option Int):Reps K H (fY ds lo d) (PN vs lo d):=by
 unfold fY PN;rw[r.length];exact(r.drop _).take _
def lA:Il X (XJ X.K) Jf:=by
 intro H F d x lo g Q j live r h k
 cases r with
 |list q s=>exact .inl ⟨_,_,gC,L2.bG.seq cA q,λp f=>k _ _ _ (dN f) (zD live f (s.cut lo g)) h⟩
 |@tuple p xs ts q s=>
  refine .inr (.inl ⟨_,_,gC,bG.seqT cA q,λz=>?_,λ_ p f=>k _ _ _ (dN f) (rF live f (s.cut lo g)) h⟩)
  have e:fY ts lo g=ts:=by
   unfold fY;rw[s.length,z.1,z.2,wG,rP,<- s.length,fJ]
  have i:Q (.tuple (fY ts lo g)):=h;rw[e]at i;exact k _ _ H (L2.bG.refl H) (.tuple q s) i
 |str z=>exact .inr (.inr ⟨z,gC,B1 h.1,k _ _ H (L2.bG.refl H) (.str _) h.2⟩)
 |_=>exact h.elim
def Ji(x y:D)(Q:D->Prop):Prop:=match x,y with
|.str z,.str y=>Q (.bool (Txt.contains y z))
|.str z,.list ts=>∃d:List â,ts=d.map .str/\Q (.bool (decide (z∈d)))
|.str z,.tuple ts=>∃d:List â,ts=d.map .str/\Q (.bool (decide (z∈d)))
|_,_=>False
theorem sR:∀{d:List â}{vs},Reps K H (d.map aK) vs->vs=d.map V.str
|[],_,r=>by rw[mY]at r;cases r;rfl
|y::d,vs,r=>by
 rw[bB]at r
 cases r with
 |cons f g=>
  cases f;rw[bB,sR g]
def R4(z:â)(d:List â):zm (.str z) (d.map V.str)=decide (z∈d):=by
 unfold zm
 induction d with
 |nil=>simp
 |cons y d f=>
  rw[bB,kJ,f,dX];simp only[oD,qH,av,c7,aO];exact⟨λh=>h.imp kh id,λh=>h.imp kh id⟩
def HG(d:List â):(d.map V.str).all zW=true:=by
 induction d with
 |nil=>rfl
 |cons y d f=>rw[bB,K4,f];rfl
def XM(K:aF):R2:=λx y H Q=>(∃i j,x=.str i/\y=.str j/\Q (.bl (!(i5 j i 0 j.length 1).isEmpty)) H)\/Dc K ww x y H Q
def mD:oE X (c9 .In) (XM X.K):=G4.or UA
def EF:AI X (XM X.K) Ji:=by
 intro H F l f x y Q j live g i h k
 cases g with
 |str z=>
  cases i with
  |str w=>exact .inl ⟨z,w,gC,gC,k _ _ H (L2.bG.refl H) (.bool _) h⟩
  |list q s=>
   obtain⟨d,rfl,h⟩:=h;have e:=sR s;subst e;refine .inr ⟨_,_,gC,.inl (L2.bG.seq cA q),gC,HG d,?_⟩;rw[a8 cR,R4];exact k _ _ H (L2.bG.refl H) (.bool _) h
  |tuple q s=>
   obtain⟨d,rfl,h⟩:=h;have e:=sR s;subst e;refine .inr ⟨_,_,gC,.inr (bG.seqT cA q),gC,HG d,?_⟩;rw[a8 cR,R4];exact k _ _ H (L2.bG.refl H) (.bool _) h
  |_=>exact h.elim
 |_=>cases f<;>exact h.elim
def aVq(x y:D)(Q:D->Prop):Prop:=match x,y with
|.str z,.list ts=>∃d:List â,ts=d.map .str/\Q (.bool (!decide (z∈d)))
|.str z,.tuple ts=>∃d:List â,ts=d.map .str/\Q (.bool (!decide (z∈d)))
|_,_=>False
def Ev{r:List V->Hp->VK->Prop}{f:List D->(D->Prop)->Prop}(n:tH X r f)(m:wA X (e::P) t)(s:∀{R},PA X (e::P) R->PE X (.Call g (e::P) [] pos) (WU r R)):gK X (.Call g (e::P) [] pos) (kO f t):=by
 obtain⟨v,q,z⟩:=m;refine⟨_,s q,λB N H F J G Q j o h k=>z B N H F J G _ _ o h λl C M i y w=>?_⟩;exact n M F l C Q j (o.grow i).live y w λd v L A x u=>k d v L (i.trans A) x u
def f1(f:D->(D->Prop)->Prop):List D->(D->Prop)->Prop
|[d],Q=>f d Q
|_,_=>False
def c1{r:List V->Hp->VK->Prop}{f:D->(D->Prop)->Prop}(h:∀H F d x Q g,(∀p∈F,AL (H p))->iK X.K (ê H F) d x->f d Q ->
  (∀d v L,bG H L->iK X.K (ê L F) d v->Q d->g v L)->r [x] H g):tH X r (f1 f):=by
 intro H F m n Q g live rs i k
 cases rs with
 |nil=>exact i.elim
 |cons j l=>
  cases l with
  |nil=>exact h H F _ _ Q g live j i k
  |cons _ _=>exact i.elim
def Kc(d:D)(Q:D->Prop):Prop:=match d with
|.list ts=>Q (.int ts.length)
|.tuple ts=>Q (.int ts.length)
|.str z=>z.length<=100000/\Q (.int z.length)
|_=>False
def cZ:lU X (.builtin "len") (λf H Q=>(∃p d,f=[.ref p]/\(nM X.K H p d\/rL X.K H p d)/\Q (.int d.length) H)\/∃z,f=[.str z]/\z.length<=bN/\Q (.int z.length) H):=KE.or KD
def jS:tH X (λg H Q=>(∃p f,g=[.ref p]/\(nM X.K H p f\/rL X.K H p f)/\Q (.int f.length) H)\/∃z,g=[.str z]/\z.length<=bN/\Q (.int z.length) H) (f1 Kc):=c1 λH F d x Q i live r h k=>by
 cases r with
 |list q s=>
  refine .inl ⟨_,_,gC,.inl (L2.bG.seq cA q),?_⟩;rw[<- s.length];exact k _ _ H (L2.bG.refl H) (.int _) h
 |tuple q s=>
  refine .inl ⟨_,_,gC,.inr (bG.seqT cA q),?_⟩;rw[<- s.length];exact k _ _ H (L2.bG.refl H) (.int _) h
 |str z=>exact .inr ⟨z,gC,B1 h.1,k _ _ H (L2.bG.refl H) (.int _) h.2⟩
 |_=>exact h.elim
def BG(d:D)(Q:D->Prop):Prop:=match d with
|.list ts=>Q (.tuple ts)
|.tuple ts=>Q (.tuple ts)
|_=>False
def pB:tH X (λi H Q=>∃p f,i=[.ref p]/\((nM X.K H p f/\∀l,H l=wy->Q (.ref l) (eY H l (.tup f)))\/(rL X.K H p f/\Q (.ref p) H))) (f1 BG):=c1 λH F d x Q j live r h k=>by
 cases r with
 |list q s=>exact⟨_,_,gC,.inl ⟨L2.bG.seq cA q,λl g=>k _ _ _ (dN g) (rF live g s) h⟩⟩
 |tuple q s=>exact⟨_,_,gC,.inr ⟨bG.seqT cA q,k _ _ H (L2.bG.refl H) (.tuple q s) h⟩⟩
 |_=>exact h.elim
theorem LR:∀{d:List Bool}{vs},Reps K H (d.map sC) vs->vs=d.map V.bl
|[],_,r=>by rw[mY]at r;cases r;rfl
|y::d,vs,r=>by
 rw[bB]at r
 cases r with
 |cons f g=>
  cases f;rw[bB,LR g]
theorem sS:∀{d:List Int}{vs},Reps K H (d.map cI) vs->vs=d.map V.int
|[],_,r=>by rw[mY]at r;cases r;rfl
|y::d,vs,r=>by
 rw[bB]at r
 cases r with
 |cons f g=>
  cases f;rw[bB,sS g]
def Bj(d:D)(Q:D->Prop):Prop:=∃bs:List Bool,d=.list (bs.map sC)/\Q (.bool (bs.all id))
def Cj:tH X (λf H Q=>∃(p:à)(bs:List Bool),f=[.ref p]/\nM X.K H p (bs.map V.bl)/\Q (.bl (bs.all id)) H) (f1 Bj):=c1 λH F d x Q g live r h k=>by
 obtain⟨bs,rfl,h⟩:=h
 cases r with
 |list q s=>
  have e:=LR s;subst e;exact⟨_,bs,gC,L2.bG.seq cA q,k _ _ H (L2.bG.refl H) (.bool _) h⟩
def Ke(d:D)(Q:D->Prop):Prop:=∃ns,d=.list (ns.map cI)/\ns≠[]/\∀m,m∈ns->(∀n∈ns,m<=n)->Q (.int m)
def Mr:tH X (λj H Q=>∃p ns,j=[.ref p]/\nM X.K H p (ns.map V.int)/\ns≠[]/\∀m,m∈ns->(∀n∈ns,m<=n)->Q (.int m) H) (f1 Ke):=c1 λH F d x Q l live r h k=>by
 obtain⟨ns,rfl,f,h⟩:=h
 cases r with
 |list q s=>
  have e:=sS s;subst e;exact⟨_,ns,gC,L2.bG.seq cA q,f,λm g i=>k _ _ H (L2.bG.refl H) (.int _) (h m g i)⟩
noncomputable def Am:D->String
|.none=>"NoneType"
|.bool _=>"bool"
|.int _=>"int"
|.str _=>"str"
|.list _=>"list"
|.tuple _=>"tuple"
|.dict []=>"list"
|.dict [(.none,_)]=>"list"
|.dict _=>"dict"
noncomputable def yh(T:String)(d:D):Bool:=(Am d==T)||(T=="int"&&Am d=="bool")
def J1{i:Int}(h:T∈["int","str","list","tuple","bool"]):yh T (.dict [(.int i,x)])=false:=by
 simp only[aO,cG,f6]at h;rcases h with rfl | rfl | rfl | rfl | rfl<;>rfl
def Bg(T:String)(d:D)(Q:D->Prop):Prop:=match d with | .dict ((.str _,_)::_)=>False | d=>Q (.bool (yh T d))
def aD4{Q:D->Prop}(h:∀x y r,d≠.dict ((.str x,y)::r))(q:Bg T d Q):Q (.bool (yh T d)):=by
 unfold Bg at q;split at q
 ·exact q.elim
 ·exact q
def Jv(T:String)(S:ET):ET:=λG Q=>S G λd=>Bg T d Q
def Eo(K:aF)(T:String):Prop:=∀tn∈["NoneType","bool","int","str","list","tuple"],dU K (.type tn) (.type T)=wz ((tn==T)||(T=="int"&&tn=="bool"))
def Bm(K:aF)(T:String):List V->Hp->VK->Prop:=λg H Q=>∃x b,g=[x,.ty T]/\((∃f,NS K H x f/\dU K (.type f) (.type T)=wz b)\/(∃p C dx,x=.ref p/\H p=wz (.ext (pH p C dx))/\(∀d,dx=wz d->∃fs,H d=wz (.xd fs))/\FN K C/\dU K (.ref C) (.type T)=wz b))/\Q (.bl b) H
def EV{G}{H:Hp}{E:á->ã->Prop}{Q:á->ã->Prop}{p C:à}{c}{b:Bool}(I:dI X pins G H s)(n:H p=wz (.ext (pH p C dx)))(hd:∀d,dx=wz d->∃fs,H d=wz (.xd fs))(x:FN X.K C)
  (e:dU X.K (.ref C) c=wz b) (h:∀r,Q (.bool b) { s with toks:=r }):å (ä X.prog X.w) A (call (.builtin "isinstance") [.ref p,c]) Q E s:=by
 refine eU (MJ x) I.kIn ?_ e (λz=>nomatch z) h;obtain⟨⟨o,vs,f,g,i,k⟩,_⟩:=I.hok p _ n;have j:wD o=true:=by unfold wD;rw[k]
 cases dx with
 |none=>exact⟨o,wy,f,g,j,by rw[i];trivial⟩
 |some d=>
  obtain⟨fs,m⟩:=hd d gC;obtain⟨u,⟨q,P,t,l,_⟩,_⟩:=I.hok d _ m;exact⟨o,wz q,f,g,j,by rw[i];exact l⟩
def aA2:lU X (.builtin "isinstance") (Bm X.K T):=by
 intro i s G H o n Q I r h;obtain⟨x,b,rfl,⟨m,k,hk⟩ | ⟨p,C,dx,rfl,j,hd,l,hk⟩,q⟩:=h
 ·obtain⟨u,w,rfl,f,d⟩:=QI r;cases d;exact aD3 I f k hk λg=>⟨.bl b,H,I.tok g,gC,q⟩
 ·obtain⟨u,w,rfl,f,d⟩:=QI r;cases d;cases f;exact EV I j hd l hk λg=>⟨.bl b,H,I.tok g,gC,q⟩
def Wm(hk:Eo X.K T)(A:gK X e S)
  (E:∀{v},PE X e v->PE X (.Call g1 [e,g2] [] pos) (WU (Bm X.K T) (qJ v (qJ (tC (.ty T)) CF))))
  (m:autoParam (T∈["int","str","list","tuple","bool"]) zzy._auto_1):gK X (.Call g1 [e,g2] [] pos) (Jv T S):=by
 obtain⟨v,I,W⟩:=A;refine⟨_,E I,λB N H F J G Q w o h k=>W B N H F J G _ _ o h λd x M n U j=>?_⟩
 have fin:∀l,l∈["NoneType","bool","int","str","list","tuple"]->Am d=l->NS X.K M x l->Bm X.K T [x,V.ty T] M w:=λl t u C=>by
  refine⟨x,_,gC,.inl ⟨l,C,hk l t⟩,?_⟩;have q:=aD4 (λx y r z=>by subst z;have Y:("dict":String)=l:=u;subst Y;exact b8 t cR) j;unfold yh at q;rw[u]at q;exact k _ _ M n (.bool _) q
 cases U with
 |none=>exact fin "NoneType" eH gC gC
 |bool b=>exact fin "bool" eH gC gC
 |int i=>exact fin "int" eH gC gC
 |str z=>exact fin "str" eH gC gC
 |list q s=>exact fin "list" eH gC (.inl ⟨gC,_,L2.bG.seq cA q⟩)
 |tuple q s=>exact fin "tuple" eH gC (.inr (.inl ⟨gC,_,bG.seqT cA q⟩))
 |wild h=>exact fin "list" eH gC (.inr (.inr ⟨gC,_,cA _ _ h,λ_ ⟨_,_,e,_⟩=>⟨_,e,gC⟩⟩))
 |tape h _=>exact fin "list" eH gC (.inr (.inr ⟨gC,_,cA _ _ h,λ_ ⟨_,_,_,_,_,_,_,e,_⟩=>⟨_,e,gC⟩⟩))
 |exc x h=>
  refine⟨_,ww,gC,.inr ⟨_,_,_,gC,cA _ _ h,(λ_ z=>nomatch z),x.1,x.2 T m⟩,?_⟩;have f:Q (.bool (yh T (.dict _))):=j;rw[J1 m]at f;exact k _ _ M n (.bool _) f
 |excA x h g=>
  refine⟨_,ww,gC,.inr ⟨_,_,_,gC,cA _ _ h,λ_ z=>by cases z;exact⟨_,cA _ _ g⟩,x.1,x.2 T m⟩,?_⟩;have f:Q (.bool (yh T (.dict _))):=j;rw[J1 m]at f;exact k _ _ M n (.bool _) f
 |excD x h g _=>
  refine⟨_,ww,gC,.inr ⟨_,_,_,gC,cA _ _ h,λ_ z=>by cases z;exact⟨_,cA _ _ g⟩,x.1,x.2 T m⟩,?_⟩;have f:Q (.bool (yh T (.dict _))):=j;rw[J1 m]at f;exact k _ _ M n (.bool _) f
 |dct _ _ _ _=>exact(show False from j).elim
 |addr z=>exact(show False from j).elim
 |ins _ _=>exact(show False from j).elim
def HL(f:â->List D->(D->Prop)->Prop)(S:ET)(t:AT):ET:=λG Q=>S G λd=>∃z,d=.str z/\t G λg=>f z g Q
def Nf(z:â)(d:List D)(Q:D->Prop):Prop:=match d with | [.str y]=>Q (.int (Txt.find z y)) | _=>False
def Z6(z:â)(f:List D)(Q:D->Prop):Prop:=match f with | [.list ts]=>∃d,ts=d.map aK/\(d.map (·.length)).sum+d.length*z.length<=16777216/\Q (.str (Txt.join z d)) | _=>False
def A8{f:â->List D->(D->Prop)->Prop}{r:V->List V->Hp->VK->Prop}(w:gK X n S)(s:wA X (e::P) t)
  (u:∀H F z j l Q i,Reps X.K (ê H F) j l->f z j Q->(∀d v L,bG H L->iK X.K (ê L F) d v->Q d->i v L)->r (.str z) l H i)
  (A:∀{v R},PE X n v->PA X (e::P) R->PE X (.Call g (e::P) [] pos) (QO X.K "str" r v R)):gK X (.Call g (e::P) [] pos) (HL f S t):=by
 obtain⟨v,C,Z⟩:=w;obtain⟨va,y,Y⟩:=s;refine⟨_,A C y,λB N H F J G Q i o h k=>Z B N H F J G _ _ o h λd x M q U m=>?_⟩;obtain⟨z,rfl,m⟩:=m;cases U;refine⟨gC,Y B N M F J G _ _ (o.grow q) m λj l O s2 W I=>?_⟩;exact u O F z j l Q i W I λd v L s' T E=>k d v L (q.trans (s2.trans s')) T E
def Zm(i:gK X n S)(g:wA X (e::P) t)
  (j:∀{v R},PE X n v->PA X (e::P) R->PE X (.Call (.Attribute n "find" ap) (e::P) [] pos) (QO X.K "str" (λx f H Q=>∃z y,x=.str z/\f=[.str y]/\Q (.int (Txt.find z y)) H) v R)):gK X (.Call (.Attribute n "find" ap) (e::P) [] pos) (HL Nf S t):=
 A8 i g (λH F z o f Q m r h k=>by
  cases r with
  |nil=>exact h.elim
  |cons d l=>
   cases l with
   |cons _ _=>cases d<;>exact h.elim
   |nil=>
    cases d with
    |str y=>exact⟨z,y,gC,gC,k _ _ H (L2.bG.refl H) (.int _) h⟩
    |_=>exact h.elim) j
def lT(j:gK X n S)(i:wA X (e::P) t)
  (m:∀{v R},PE X n v->PA X (e::P) R->PE X (.Call (.Attribute n "join" ap) (e::P) [] pos) (QO X.K "str" (λx g H Q=>∃z p d,x=.str z/\g=[.ref p]/\nM X.K H p (d.map V.str)/\(d.map (·.length)).sum+d.length*z.length<=16777216/\Q (.str (Txt.join z d)) H) v R)):gK X (.Call (.Attribute n "join" ap) (e::P) [] pos) (HL Z6 S t):=
 A8 j i (λH F z w g Q u r h k=>by
  cases r with
  |nil=>exact h.elim
  |cons f o=>
   cases o with
   |cons _ _=>cases f<;>exact h.elim
   |nil=>
    cases f with
    |list q s=>
     obtain⟨d,rfl,l,h⟩:=h;have e:=sR s;subst e;exact⟨z,_,d,gC,gC,L2.bG.seq cA q,l,k _ _ H (L2.bG.refl H) (.str _) h⟩
    |_=>exact h.elim) m
def iK.reads{k:List (à×Obj)}{s:ã}{G:L2.St}(I:dI X k G H s){d:D}{x:V}{u:á}(hd:d.hasDict=ww)(r:iK X.K H d x)(l:fQ x u):∃g,Reads s.heap u d g:=by
 refine iK.rec (motive_2:=λm C _=>∀v,lX m=ww->fW C v->∃g,ReadsAll s.heap v m g)
  (λu _ r=>by cases r;exact⟨_,.none⟩) (λb u _ r=>by cases r;exact⟨_,.bool b⟩) (λi u _ r=>by obtain⟨t,rfl⟩:=r;exact⟨_,.int i t⟩) (λz u _ r=>by obtain⟨t,rfl⟩:=r;exact⟨_,.str z t⟩)
  (λq _ a u hd r=>?_) (λq _ a u hd r=>?_) ?_ ?_ ?_ ?_ ?_ ?_ ?_ ?_ (λv _ r=>by cases r;exact⟨_,.nil⟩) (λ{d m x C} _ _ a b v hd r=>?_) r u hd l
 ·cases r;obtain⟨A,l,⟨o,n,h,j,_,w⟩,_⟩:=I.list q;obtain⟨g,y⟩:=a _ hd l;exact⟨_,.list h j w (by simpa using y)⟩
 ·cases r;obtain⟨A,l,⟨o,h,j,n,w⟩,_⟩:=I.tuple q;obtain⟨g,y⟩:=a _ hd l;exact⟨_,.tuple h j w (by simpa using y)⟩
 case refine_11=>
  have f:(d.hasDict||lX m)=false:=hd;rw[Bool.or_eq_false_iff]at f
  cases r with
  |cons E Q=>
   obtain⟨g,h⟩:=a _ f.1 E;obtain⟨bs,j⟩:=b _ f.2 Q;exact⟨_,.cons h j⟩
 all_goals intros;rename_i hd _;cases hd
end
end TL
namespace TL
open L2
noncomputable def Bw(a:List (â×l6)):Bool:=match a.filter (λy=>y.2==d7)with
|[]=>wx
|[x]=>a.lookup x.1==wz .cell
|_=>ww
def aDm(h:Bw names=wx):wT names:=by
 unfold Bw at h;split at h
 ·rename_i e;exact .inl e
 ·rename_i x e;have a:x∈names.filter (λy=>y.2==d7):=by rw[e];exact bC.mpr gC
  exact .inr ⟨x.1,by rw[e,<- (aw (dM.mp a).2)],beq_iff_eq.mp h⟩
 ·cases h
noncomputable def pT(a out:Scope)(c b:List â)(d:List (Option Nat)):Bool:=
 decide (a.kind=.function)&&Bw a.names&&a.names.all (λy=>decide (y.2≠.free)||decide (out.names.lookup y.1=wz .cell))&&a.names.all (λy=>decide (y.2≠.local)||decide (a.names.lookup y.1=wz .local))&&vR a.names out.names c b d
section
variable{X:Cx}{c iter j:æ}{d:List æ}{a:Scope}{pos:Pos}{f:List â}{k:List (Option Nat)}{n:TI}{g:BP->TG}{m:BP->TT}{l:BP->TE}
def G9{out:Scope}(h:pT a out Nx f k=wx):a.kind=.function/\wT a.names/\(∀y∈a.names,y.2=.free->out.names.lookup y.1=wz .cell)/\(∀y∈a.names,y.2=.local->a.names.lookup y.1=wz .local)/\vR a.names out.names Nx f k=true:=by
 unfold pT at h;simp only[cU,fK,qH,c7]at h;obtain⟨⟨⟨⟨i,o⟩,p⟩,q⟩,r⟩:=h;exact⟨i,aDm o,λy b e=>(p y b).elim (λz=>b8 e z) id,λy b e=>(q y b).elim (λz=>b8 e z) id,r⟩
def YB(h:pT a X.env.scope X.N f k=wx)(e:X.calm=wx)(t:PI X j iter n)
  (s:∀b,PG (blk X a f b) j (g b)/\P1 (blk X a f b) d (m b)/\PE (blk X a f b) c (l b)) (u:autoParam (∀x,j3 iter X.env x=pure x) zzx._auto_1):PE X (.ListComp c [⟨j,iter,d,0⟩] a pos) (WS k n g m l):=by
 obtain⟨i,o,p,q,r⟩:=G9 h;exact OK e i o r p q t s u
def lL{i:Nat}{r e:Pos}(h:pT a X.env.scope X.N f k=wx)(y:X.N.Nodup)(p:X.N[i]?=wz x)(E:VL X.env.scope x)(o:X.calm=wx)(B:PI X j iter n)
  (z:∀b,PG (blk X a f b) j (g b)/\P1 (blk X a f b) d (m b)/\PE (blk X a f b) c (l b))
  (q:kP (.ListComp c [⟨j,iter,d,0⟩] a pos) (wz (.Name x r)) e.line X.env=pure wx) (C:autoParam (∀x,j3 iter X.env x=pure x) zzx._auto_1) (A:autoParam (X.fn x=wx\/X.env.scope.names.lookup x=wz .local) zzv._auto_1) :
  PS X (.Assign [.Name x r] (.ListComp c [⟨j,iter,d,0⟩] a pos) e) (xU (WS k n g m l) (lS i)):=by
 obtain⟨s,t,u,v,w⟩:=G9 h;exact X2 y p E o s t w u v B z q C A
end
def PU:d4 "all"=wz (.builtin "all"):=by decide +kernel
def We:d4 "min"=wz (.builtin "min"):=by decide +kernel
def Wd:d4 "max"=wz (.builtin "max"):=by decide +kernel
def rY:d4 "isinstance"=wz (.builtin "isinstance"):=by decide +kernel
def gX:d4 "len"=wz (.builtin "len"):=by decide +kernel
def mG:d4 "tuple"=wz (.type "tuple"):=by decide +kernel
def SO:d4 "list"=wz (.type "list"):=by decide +kernel
def uD:d4 "str"=wz (.type "str"):=by decide +kernel
def FM:d4 "int"=wz (.type "int"):=by decide +kernel
def UR(K:aF):Eo K "tuple":=by
 intro a h;simp only[aO,cG,f6]at h;rcases h with rfl | rfl | rfl | rfl | rfl | rfl<;>first | rfl | (with_unfolding_all rfl) | decide +kernel
def IU{d:Type}(l:List d)(i:Nat)(a b:d):(l.set i a).set i b=l.set i b:=by
 apply kE;intro j;by_cases h:i=j
 ·subst h;by_cases c:i<l.length
  ·rw[bT (by simpa using c),bT c]
  ·rw[eP (by simpa using c),eP (by simpa using c)]
 ·rw[bM h,bM h,bM h]
def Gm{f:List D}{i:List Sl}{m:ET}{Q:D->Prop}(R:Nat->D->D->Prop)(A:f.length<=100000)
  (v:∀k x q,f[k]?=wz x->(∀y,R k x y->q y)->m (i.set 0 (.val x)) q)
  (u:∀o,o.length=f.length->(∀k x y,f[k]?=wz x->o[k]?=wz y->R k x y)->Q (.list o)) :
  f.length<=100000/\∃P:Nat->List Sl->List D->Prop,P 0 i [] /\
   (∀k x a c,f[k]?=wz x->P k a c->gN 0 x a λd=>AF d λb=>if b=wx then m d λy=>P (k+1) d (c++[y])else P (k+1) d c)/\∀a c,P f.length a c->Q (.list c):=by
 refine⟨A,λk a c=>(∀x,a.set 0 (.val x)=i.set 0 (.val x))/\c.length=k/\∀(j:Nat)(x y:D),f[j]?=wz x->c[j]?=wz y->R j x y,⟨λ_=>rfl,gC,λj x y _ h=>by simp at h⟩,λk x a c r h=>?_,λa c h=>u c h.2.1 h.2.2⟩;obtain⟨s,p,t⟩:=h;show m (a.set 0 (.val x)) _;rw[s x];refine v k x _ r λy w=>⟨λz=>IU _ _ _ _,by simp[p],λj B C l g=>?_⟩;by_cases E:j<k
 ·rw[eV cS]at g;exact t j B C l g
 ·rw[eM cS]at g
  have:j=k:=by
   by_cases e:j=k
   ·exact e
   ·have:j-c.length≠0:=by lia
    cases q:j-c.length with
    |zero=>exact b8 q this
    |succ n=>rw[q]at g;simp at g
  subst this;rw[r]at l;cases l;simp[p]at g;subst g;exact w
def Xc{d:List D}{l:List Sl}{p:ET}{Q:D->Prop}(f:D->D)(t:d.length<=100000)(s:∀x q,x∈d->q (f x)->p (l.set 0 (.val x)) q)(r:Q (.list (d.map f))) :
  d.length<=100000/\∃P:Nat->List Sl->List D->Prop,P 0 l [] /\
   (∀k x a g,d[k]?=wz x->P k a g->gN 0 x a λc=>AF c λb=>if b=wx then p c λy=>P (k+1) c (g++[y])else P (k+1) c g)/\∀a g,P d.length a g->Q (.list g):=by
 refine Gm (λk x y=>y=f x) t (λk x q j h=>s x q (bD j) (h _ gC)) λm o h=>?_
 have e:m=d.map f:=by
  apply kE;intro i;rw[aQ]
  cases j:d[i]? with
  |none=>
   rw[eP (by rw[o];exact sE.mp j)];rfl
  |some x=>
   have n:i<m.length:=by rw[o];exact(aL.mp j).1
   have:=h i x m[i] j (aJ n);rw[aJ n,this];rfl
 rw[e];exact r
def aDv{d:List D}{i:List Sl}{j:vX}{n:ET}{Q:D->Prop}(p:D->Bool)(f:D->D)(u:d.length<=100000)(r:∀x q,x∈d->q (p x)->j (i.set 0 (.val x)) q)
  (t:∀x q,x∈d->q (f x)->n (i.set 0 (.val x)) q) (s:Q (.list ((d.filter p).map f))) :
  d.length<=100000/\∃P:Nat->List Sl->List D->Prop,P 0 i [] /\
   (∀k x a c,d[k]?=wz x->P k a c->gN 0 x a λg=>j g λb=>if b=wx then n g λy=>P (k+1) g (c++[y])else P (k+1) g c)/\∀a c,P d.length a c->Q (.list c):=by
 refine⟨u,λk a c=>(∀x,a.set 0 (.val x)=i.set 0 (.val x))/\c=((d.take k).filter p).map f,⟨λ_=>rfl,gC⟩,λk x a c m h=>?_,λa c h=>?_⟩
 ·obtain⟨o,rfl⟩:=h;have l:=bD m;show j (a.set 0 (.val x)) _;rw[o x];refine r x _ l ?_;have e:d.take (k+1)=d.take k++[x]:=by rw[eW,m];rfl
  cases hb:p x with
  |true=>
   rw[a9 rfl];refine t x _ l ⟨λz=>IU _ _ _ _,?_⟩;rw[e,jT,bV];simp[hb]
  |false=>
   rw[a8 cR];refine⟨λz=>IU _ _ _ _,?_⟩;rw[e,jT,bV];simp[hb]
 ·obtain⟨_,rfl⟩:=h;rw[fJ];exact s
section
variable{c:List (Option Nat)}{b:IT}{e:vX}{d:ET}{a:List Sl}{Q:D->Prop}{ts:List D}
abbrev wB(b:IT)(a:List Sl)(ts:List D):Prop:=∀R,R ts->b a R
def iR(g:wB b a ts)(f:D->D)(j:ts.length<=100000)(i:∀x q,x∈ts->q (f x)->d ((kN c a).set 0 (.val x)) q)(h:Q (.list (ts.map f))):U5 c b (gN 0) AF d a Q:=
 g _ (Xc f j i h)
def JT(f:wB b a ts)(R:Nat->D->D->Prop)(j:ts.length<=100000)
  (i:∀k x q,ts[k]?=wz x->(∀y,R k x y->q y)->d ((kN c a).set 0 (.val x)) q)
  (h:∀g,g.length=ts.length->(∀k x y,ts[k]?=wz x->g[k]?=wz y->R k x y)->Q (.list g)):U5 c b (gN 0) AF d a Q:=
 f _ (Gm R j i h)
def ER(g:wB b a ts)(p:D->Bool)(f:D->D)(k:ts.length<=100000)(h:∀x q,x∈ts->q (p x)->e ((kN c a).set 0 (.val x)) q)
  (j:∀x q,x∈ts->q (f x)->d ((kN c a).set 0 (.val x)) q) (i:Q (.list ((ts.filter p).map f))):U5 c b (gN 0) e d a Q:=
 g _ (aDv p f k h j i)
def Kb{g:GT}{h:FR}(i:wB b a ts)(P:Nat->List Sl->Prop)(l:P 0 a)
  (m:∀k x f,ts[k]?=wz x->P k f->g x f λj=>tb { h with nx:=P (k+1),ct:=P (k+1),bk:=h.nx } j) (hd:∀f,P ts.length f->h.nx f):Aa b g tb h a:=i _ ⟨P,l,m,hd⟩
end
def mR(x y:â):(x++y).cps.toList=x.cps.toList++y.cps.toList:=by
 show(x.cps++y.cps).toList=_;simp
def sX{x y:â}(h:x.cps.toList=y.cps.toList):x=y:=by
 cases x with
 |mk a=>
  cases y with
  |mk b=>
   have:a=b:=by simpa using d6 aLi h
   rw[this]
def N8(b:Array Nat)(a k:Nat):(gO k).filterMap (λm=>b[a+m]?)=(b.toList.drop a).take k:=by
 induction k with
 |zero=>simp
 |succ k c=>
  rw[F2,List.filterMap_append,c,eW,rO];congr 1;simp only[kR,List.filterMap_nil];rw[lZ];cases b[a+k]?<;>rfl
def SK(v:Option Int)(n d:Nat)(hd:d<=n):(match v with | none=>(d:Int) | some i=>max 0 (min (if i<0 then i+(n:Int)else i) (n:Int)))=((HT.sIx n d v:Nat):Int):=by
 cases v with
 |none=>rfl
 |some i=>
  have:=HT.clip_eq i n d;rw[<- this];dsimp only;split<;>lia
def aAw(v:Option Int)(n:Nat):(match v with | none=>(0:Int) | some i=>max 0 (min (if i<0 then i+(n:Int)else i) (n:Int)))=((HT.sIx n 0 v:Nat):Int):=SK v n 0 (cP _)
def W4{a c b d:Int}(e:a=c)(f:b=d):mf a b 1=mf c d 1:=by rw[e,f]
def nI(z:â)(lo c:Option Int):(Txt.slice z lo c).cps.toList=fY z.cps.toList lo c:=by
 have d:z.cps.toList.length=z.length:=by simp[h9]
 have j:=HT.sIx_le z.length 0 (cP _) lo;have hb:=HT.sIx_le z.length z.length (aN _) c
 have i:ah lo c 1 z.length=(gO (HT.sIx z.length z.length c-HT.sIx z.length 0 lo)).map (λk=>HT.sIx z.length 0 lo+k):=by
  unfold ah;refine(W4 (aAw lo z.length) (SK c z.length z.length (aN _))).trans ?_;unfold mf;simp only[show(1:Int)>0 by decide,ew]
  generalize HT.sIx z.length 0 lo=a
  generalize HT.sIx z.length z.length c=b
  have e:(if(a:Int)<(b:Int)then((b:Int)-a+1-1) / 1 else 0).toNat=b-a:=by split<;>lia
  rw[e];apply fX;intro k _;lia
 unfold Txt.slice fY;rw[d,i]
 generalize HT.sIx z.length 0 lo=a at *
 generalize HT.sIx z.length z.length c=b at *
 split
 ·next h=>
  simp only[ai,iY,av,aC,mJ]at h;have f:a=0:=by lia
  have g:b-a=z.cps.toList.length:=by rw[d];exact h
  rw[g,f,rP,fJ]
 ·rw[V5];exact N8 z.cps a (b-a)
def O1:∀a,(Txt.join ⟨#[]⟩ a).cps.toList=(a.map (·.cps.toList)).flatten:=by
 intro a;show(m4 ⟨#[]⟩ a).cps.toList=_;rw[j5]
 induction a with
 |nil=>rfl
 |cons x a b=>
  cases a with
  |nil=>simp[y7]
  |cons y r=>
   show(x++⟨#[]⟩++y7 ⟨#[]⟩ (y::r)).cps.toList=_;rw[mR,mR,b];simp
def O4(x:â)(c:Nat):Txt.contains x ⟨#[c]⟩=decide (c∈x.cps.toList):=StrLaws.found_one x c
section
variable{f:ET}{u t e:yO}{c:vX}{d:FR}{a:List Sl}{i:Nat}
def cN(v:D)(h:∀q,q v->f a q)(k:u d (a.set i (.val v))):nY (LP i f) u d a:=h _ k
def eJ(R:D->Prop)(h:∀q,(∀v,R v->q v)->f a q)(k:∀v,R v->u d (a.set i (.val v))):nY (LP i f) u d a:=h _ k
def hX(R:Bool->Prop)(h:∀q,(∀b,R b->q b)->c a q)(j:R wx->t { d with nx:=u d } a)(g:R ww->e { d with nx:=u d } a):nY (yd c t e) u d a:=by
 refine h _ λb hb=>?_
 cases b with
 |true=>rw[a9 rfl];exact j hb
 |false=>rw[a8 cR];exact g hb
def JK(R:Bool->Prop)(h:∀q,(∀b,R b->q b)->c a q)(j:R wx->t d a)(g:R ww->e d a):yd c t e d a:=by
 refine h _ λb hb=>?_
 cases b with
 |true=>rw[a9 rfl];exact j hb
 |false=>rw[a8 cR];exact g hb
def pA{ts:List D}{g:GT}(h:wB ti a ts)(P:Nat->List Sl->Prop)(l:P 0 a)
  (m:∀k x b,ts[k]?=wz x->P k b->g x b λj=>tb { d with nx:=P (k+1),ct:=P (k+1),bk:=u d } j) (hd:∀b,P ts.length b->u d b):nY (Aa ti g tb) u d a:=
 Kb h P l m hd
def pW{t:AT}(b:List D)(g:b.length<=1000)(h:∀q,q b->t a q)(k:u d (a.set i (.own b))):nY (Bp i t) u d a:=h _ ⟨g,k⟩
def aCz{b:List D}(v:D)(g:a[i]?=wz (.own b))(j:b.length<=100000)(h:∀q,q v->f a q)(k:u d (a.set i (.own (b++[v])))):nY (Bn i f) u d a:=⟨b,g,h _ ⟨j,k⟩⟩
def wM{ts:List D}(v:D)(b:a[i]?=wz (.own ts))(g:ts.length<=100000)(h:∀q,q v->f a q)(k:d.nx (a.set i (.own (ts++[v])))):Bn i f d a:=⟨ts,b,h _ ⟨g,k⟩⟩
def wL(v:D)(h:∀q,q v->f a q)(k:d.nx (a.set i (.val v))):LP i f d a:=h _ k
end
mutual
theorem nF:∀{d:D},d.canLay0=wx->d.hasDict=ww
|.none,_=>rfl
|.bool _,_=>rfl
|.int _,_=>rfl
|.str _,_=>rfl
|.list _,h=>noDictAll h
|.tuple _,h=>noDictAll h
|.dict _,h=>by cases h
theorem noDictAll:∀{a:List D},eB a=wx->lX a=ww
|[],_=>rfl
|d::a,h=>by
 have b:(d.canLay0&&eB a)=true:=h;rw[cU]at b;show(d.hasDict||lX a)=ww;rw[nF b.1,noDictAll b.2];rfl
end
section
variable{X:Cx}{b e:æ}
def BZ(K:aF)(ok:D->D->Prop)(f:D->D->Bool):R2:=λx y H Q=>∃a c,iK K H a x/\iK K H c y/\ok a c/\Q (.bl (f a c)) H
def Nb(ok:D->D->Prop)(f:D->D->Bool)(x y:D)(Q:D->Prop):Prop:=ok x y/\Q (.bool (f x y))
def A5{ok:D->D->Prop}{f:D->D->Bool}:AI X (BZ X.K ok f) (Nb ok f):=by
 intro H j a c x y Q i live d g h k;exact⟨a,c,d.same cA,g.same cA,h.1,k _ _ H (L2.bG.refl H) (.bool _) h.2⟩
def Bh(a c:D):Prop:=a.canLay0=wx/\c.canLay0=wx/\min a.depth c.depth<=60
def Yg{k:Nat}(g:iE k X.A):oE X (c9 .Eq) (BZ X.K Bh dA):=by
 intro c s t H x y v u Q I l m h;obtain⟨o,p,i,j,⟨c1,a,r⟩,q⟩:=h;obtain⟨n,d⟩:=iK.reads I (nF c1) i l;obtain⟨bs,f⟩:=iK.reads I (nF a) j m;exact SeqAt.compareEq_reads d f c1 a (by have:=g.un;lia) ⟨.bl _,H,I,gC,q⟩
def OB{k:Nat}(g:iE k X.A):oE X (c9 .NotEq) (BZ X.K Bh λx y=>!dA x y):=by
 intro c s t H x y v u Q I l m h;obtain⟨o,p,i,j,⟨c1,a,r⟩,q⟩:=h;obtain⟨n,d⟩:=iK.reads I (nF c1) i l;obtain⟨bs,f⟩:=iK.reads I (nF a) j m;exact SeqAt.compareNe_reads d f c1 a (by have:=g.un;lia) ⟨.bl _,H,I,gC,q⟩
def CH(x y:D):Prop:=match y with
|.list ts=>eB ts=wx/\x.canLay0=wx/\min (fG ts) x.depth<=60
|.tuple ts=>eB ts=wx/\x.canLay0=wx/\min (fG ts) x.depth<=60
|_=>False
noncomputable def DE(x y:D):Bool:=match y with
|.list ts=>ts.any λz=>dA z x
|.tuple ts=>ts.any λz=>dA z x
|_=>ww
def UB{k:Nat}(i:iE k X.A):oE X (c9 .In) (BZ X.K CH DE):=by
 intro j s t H x y v u Q I o p h;obtain⟨l,c,m,n,a,q⟩:=h
 have hd:l.hasDict=ww/\c.hasDict=false:=by
  cases c with
  |list d=>exact⟨nF a.2.1,noDictAll a.1⟩
  |tuple d=>exact⟨nF a.2.1,noDictAll a.1⟩
  |_=>exact a.elim
 obtain⟨r,f⟩:=iK.reads I hd.1 m o;obtain⟨bs,g⟩:=iK.reads I hd.2 n p
 cases c with
 |list d=>exact SeqAt.in_list_reads g f a.1 a.2.1 (by have:=i.un;have:=a.2.2;lia) ⟨.bl _,H,I,gC,q⟩
 |tuple d=>exact SeqAt.in_tuple_reads g f a.1 a.2.1 (by have:=i.un;have:=a.2.2;lia) ⟨.bl _,H,I,gC,q⟩
 |_=>exact a.elim
def zJ{k:Nat}(i:iE k X.A):oE X (c9 .NotIn) (BZ X.K CH λx y=>!DE x y):=by
 intro j s t H x y v u Q I o p h;obtain⟨l,c,m,n,a,q⟩:=h
 have hd:l.hasDict=ww/\c.hasDict=false:=by
  cases c with
  |list d=>exact⟨nF a.2.1,noDictAll a.1⟩
  |tuple d=>exact⟨nF a.2.1,noDictAll a.1⟩
  |_=>exact a.elim
 obtain⟨r,f⟩:=iK.reads I hd.1 m o;obtain⟨bs,g⟩:=iK.reads I hd.2 n p
 cases c with
 |list d=>exact SeqAt.notIn_list_reads g f a.1 a.2.1 (by have:=i.un;have:=a.2.2;lia) ⟨.bl _,H,I,gC,q⟩
 |tuple d=>exact SeqAt.notIn_tuple_reads g f a.1 a.2.1 (by have:=i.un;have:=a.2.2;lia) ⟨.bl _,H,I,gC,q⟩
 |_=>exact a.elim
def Dq(x y:D)(Q:D->Prop):Prop:=match x,y with
|.str z,.str y=>Q (.bool (Txt.contains y z))
|x,y=>CH x y/\Q (.bool (DE x y))
def JI{k:Nat}(a:iE k X.A):oE X (c9 .In) (λx y H Q=>(∃i j,x=.str i/\y=.str j/\Q (.bl (!(i5 j i 0 j.length 1).isEmpty)) H)\/BZ X.K CH DE x y H Q):=G4.or (UB a)
def RP:AI X (λx y H Q=>(∃i j,x=.str i/\y=.str j/\Q (.bl (!(i5 j i 0 j.length 1).isEmpty)) H)\/BZ X.K CH DE x y H Q) Dq:=by
 intro H l a c x y Q d live f g h k;have gen:CH a c/\Q (.bool (DE a c))->_:=λh=>(.inr ⟨a,c,f.same cA,g.same cA,h.1,k _ _ H (L2.bG.refl H) (.bool _) h.2⟩:(∃i j,x=.str i/\y=.str j/\d (.bl (!(i5 j i 0 j.length 1).isEmpty)) H)\/BZ X.K CH DE x y H d)
 cases f with
 |str z=>
  cases g with
  |str w=>exact .inl ⟨z,w,gC,gC,k _ _ H (L2.bG.refl H) (.bool _) h⟩
  |_=>exact gen h
 |_=>exact gen h
noncomputable def wS:D->Bool
|.none=>wx
|_=>ww
def Jh(x y:D)(Q:D->Prop):Prop:=match y with | .bool b=>Q (.bool (wR b x)) | .none=>Q (.bool (wS x)) | _=>False
def Zq(x y:D)(Q:D->Prop):Prop:=match y with | .bool b=>Q (.bool (!wR b x)) | .none=>Q (.bool (!wS x)) | _=>False
def YJ:oE X (c9 .Is) (λx y H Q=>Bl x y H Q\/(y=.non/\Q (.bl (decide (x=.non))) H)):=Yh.or Yi
def T9:oE X (c9 .IsNot) (λx y H Q=>JB x y H Q\/(y=.non/\Q (.bl (!decide (x=.non))) H)):=T8.or aDj
def Ey:AI X (λx y H Q=>Bl x y H Q\/(y=.non/\Q (.bl (decide (x=.non))) H)) Jh:=by
 intro H i a g x y Q f live c d h k
 cases d with
 |bool b=>
  refine .inl ⟨b,gC,?_⟩;have e:(decide (x=V.bl b))=wR b a:=by cases c<;>simp[wR]
  rw[e];exact k _ _ H (L2.bG.refl H) (.bool _) h
 |none=>
  refine .inr ⟨gC,?_⟩;have e:(decide (x=V.non))=wS a:=by cases c<;>simp[wS]
  rw[e];exact k _ _ H (L2.bG.refl H) (.bool _) h
 |_=>exact h.elim
def Y1:AI X (λx y H Q=>JB x y H Q\/(y=.non/\Q (.bl (!decide (x=.non))) H)) Zq:=by
 intro H i a g x y Q f live c d h k
 cases d with
 |bool b=>
  refine .inl ⟨b,gC,?_⟩;have e:(!decide (x=V.bl b))=!wR b a:=by cases c<;>simp[wR]
  rw[e];exact k _ _ H (L2.bG.refl H) (.bool _) h
 |none=>
  refine .inr ⟨gC,?_⟩;have e:(!decide (x=V.non))=!wS a:=by cases c<;>simp[wS]
  rw[e];exact k _ _ H (L2.bG.refl H) (.bool _) h
 |_=>exact h.elim
end
end TL
namespace L2
section
variable{P:cV}{w:f7}{A:d8}{E:á->ã->Prop}{s:ã}
def OJ{i t:à}{k:Nat}{Q:á->ã->Prop}(a:s.heap.IsTupleIter i t k)(h:s.heap.IsTuple t xs)(j:xs[k]?=wz x)
  (f:∀c,c.IsTupleIter i t (k+1)->gA i s.heap c->Q x { s with heap:=c }):å (ä P w) A (k7 (.ref i)) Q E s:=by
 obtain⟨o,b,g,hd⟩:=id a;obtain⟨m,e,_,l,d⟩:=h;refine aI (j4 a.typeIs l8 (nN l8 a.typeIs dn ?_ (cn _)));show å _ _ (field (.ref i) 0 >>= _) _ _ s;refine aI (e8 b hd (x:=.ref t) gC ?_);rw[a8 (show¬((d0 t==k6)=wx)from bX)];refine aI (e8 b hd gC ?_);refine aI (k9 e d ?_);simp only[CY,j];refine aI (u8 b hd eH (bH ⟨x,gC,bH (f _ ?_ (gA.update ..))⟩));exact⟨_,pK _ b (w6 (m6 hd _)),(kd ..).trans g,by rw[m6 hd];simp[o6]⟩
def EL{i t:à}{k:Nat}{Q:á->ã->Prop}(g:A.handled=wy)(a:s.heap.IsTupleIter i t k)(j:s.heap.IsTuple t xs)(l:xs[k]?=wy)
  (h:∀b e,aS8 i s.heap b->(∃o,b.get? e=wz o/\o.cls=.type "StopIteration")->E (.ref e) { s with heap:=b }):å (ä P w) A (k7 (.ref i)) Q E s:=by
 obtain⟨o,d,m,hd⟩:=id a;obtain⟨p,f,_,n,c⟩:=j;refine aI (j4 a.typeIs l8 (nN l8 a.typeIs dn ?_ (cn _)));show å _ _ (field (.ref i) 0 >>= _) _ _ s;refine aI (e8 d hd (x:=.ref t) gC ?_);rw[a8 (show¬((d0 t==k6)=wx)from bX)];refine aI (e8 d hd gC ?_);refine aI (k9 f c ?_);simp only[CY,l];refine aI (n7 (aI (u8 d hd eH ?_)));refine aI ?_;refine aI (jL ?_ (by size_fits));refine aI (wpAny_of_eq (by first | rfl | (simp only[firstArgMember];rfl)) ?_);refine jL ?_ (by size_fits);refine aI (wpAny_handled ?_)
 first | rw[show A.in1.handled=wy from g] | rw[g]
 refine aI (bH (wpAny_throw ?_));exact h _ _ (((gA.update ..).extBut.push _).push _) ⟨_,aX _ gC,gC⟩
end
structure pR(P:cV)(w:f7)(i l:à)(st:Nat->ç->Prop)(src:Array á->ç->Prop):Prop where
 stAt:∀k h h',st k h->(∀o,h.get? i=wz o->h'.get? i=wz o)->st k h'
 srcAt:∀xs h h',src xs h->(∀o,h.get? l=wz o->h'.get? l=wz o)->src xs h'
 has:∀k h,st k h->∃o,h.get? i=wz o/\∀v,o.data≠.cell v
 item:∀(A:d8)E(s:ã)(k:Nat)(xs:Array á)(x:á)Q,st k s.heap->src xs s.heap->xs[k]?=wz x ->
  (∀h',st (k+1) h'->gA i s.heap h'->Q x { s with heap:=h' })->å (ä P w) A (k7 (.ref i)) Q E s
 fin:∀(A:d8)E(s:ã)(k:Nat)(xs:Array á)Q,A.handled=wy->st k s.heap->src xs s.heap->xs[k]?=wy ->
  (∀h' e,aS8 i s.heap h'->(∃o,h'.get? e=wz o/\o.cls=.type "StopIteration")->E (.ref e) { s with heap:=h' })->å (ä P w) A (k7 (.ref i)) Q E s
def PK(i l:à):pR P w i l (λk h=>h.IsListIter i l k) (λxs h=>h.IsList l xs) where
 stAt:=λ_ _ _ x e=>x.at e
 srcAt:=λ_ _ _ x e=>x.at e
 has:=λk h x=>by obtain⟨o,e,c,d⟩:=x;exact⟨o,e,λv q=>by rw[d]at q;cases q⟩
 item:=λ_ _ _ _ _ _ _ h1 h2 hx hQ=>wpAny_nextOf_list_item h1 h2 hx hQ
 fin:=λ_ _ _ _ _ _ hh h1 h2 hx hE=>wpAny_nextOf_list_end hh h1 h2 hx hE
def BL(i l:à):pR P w i l (λk h=>h.IsTupleIter i l k) (λxs h=>h.IsTuple l xs) where
 stAt:=λ_ _ _ x e=>x.at e
 srcAt:=λ_ _ _ x e=>x.at e
 has:=λk h x=>by obtain⟨o,e,c,d⟩:=x;exact⟨o,e,λv q=>by rw[d]at q;cases q⟩
 item:=λ_ _ _ _ _ _ _ h1 h2 hx hQ=>OJ h1 h2 hx hQ
 fin:=λ_ _ _ _ _ _ hh h1 h2 hx hE=>EL hh h1 h2 hx hE
section
variable{P:cV}{w:f7}{A:d8}{E:á->ã->Prop}{s:ã}{z TI TO j l p q:à}{g i:Nat->ç->Prop}{d f:Array á->ç->Prop}{k:Nat}{m n:Array á}{a b:á}
def WA{Q:á->ã->Prop}(C:pR P w j p g d)(F:pR P w l q i f)(D:ff z TI TO j l p q)(I:fb s.heap z TI TO .none)(Y:IsPair s.heap TI (.ref j) (.ref l))(Z:IsPair s.heap TO a b)
  (h1:g k s.heap) (h2:i k s.heap) (ry:d m s.heap) (ot:f n s.heap) (hx:m[k]?=wz x) (hy:n[k]?=wz y)
  (hQ:∀r,fb r z TI TO (o6 s.heap.objs.size)->IsPair r TO x y->g (k+1) r->i (k+1) r->IsPair r s.heap.objs.size x y->r.objs.size=s.heap.objs.size+1 ->
   (∀c o,c≠z->c≠TO->c≠j->c≠l->s.heap.get? c=wz o->r.get? c=wz o)->Q (.ref s.heap.objs.size) { s with heap:=r }) :
  å (ä P w) A (y3.«zip.__next__» ⟨[.ref z],[]⟩) (λfin s'=>∃v,fin=.done (.ret v)/\Q v s') E s:=by
 show å _ _ (field (.ref z) 2 >>= _) _ _ _;refine aI (e8 I gC gC ?_);refine aI (e8 I gC gC ?_);refine aI (k9 Y gC ?_);refine aI ?_;refine aI (e8 I gC gC (bH ?_));refine aI (n7 ?_);refine aI (e8 I gC gC ?_);refine aI (l5 I eH λha wb sa=>?_);refine aI ?_;refine aI (aI (bc ?_));refine aI (C.item _ _ _ k m x _ (C.stAt _ _ _ h1 λo e=>sa.extBut _ _ D.i1z e) (C.srcAt _ _ _ ry λo e=>sa.extBut _ _ D.l1z e) hx λhb W u=>bH ?_);have O:=u.extBut _ _ D.TOi1 (sa.extBut _ _ D.TOz Z);refine aI (k9 O gC ?_);refine aI (ar O λhc sx B=>?_);refine aI (dw (bH ?_));refine aI (aI (bc ?_))
 refine aI (F.item _ _ _ k n y _ (F.stAt _ _ _ h2 λo e=>B.extBut _ _ D.TOi2.symm (u.extBut _ _ D.i12.symm (sa.extBut _ _ D.i2z e)))
  (F.srcAt _ _ _ ot λo e=>B.extBut _ _ D.l2TO (u.extBut _ _ D.l2i1 (sa.extBut _ _ D.l2z e))) hy λhd X M=>bH ?_)
 have R:=M.extBut _ _ D.TOi2 sx;refine aI (k9 R gC ?_);refine aI (ar R λG h N=>?_)
 replace h:IsPair G TO x y:=h
 refine aI (dw (bH (bH ?_)));refine aI (k9 h gC ?_);refine aI (wpAny_newTuple ?_);have H:G.objs.size=s.heap.objs.size:=by rw[N.1,M.1,B.1,u.1,sa.1]
 have K:=N.extBut _ _ D.TOz.symm (M.extBut _ _ D.i2z.symm (B.extBut _ _ D.TOz.symm (u.extBut _ _ D.i1z.symm wb)))
 have ke:∀c o,c≠z->c≠TO->c≠j->c≠l->s.heap.get? c=wz o->G.get? c=wz o:=λc o c1 S T U e=>
  N.extBut _ _ S (M.extBut _ _ U (B.extBut _ _ S (u.extBut _ _ T (sa.extBut _ _ c1 e))))
 have t:=bF K;refine aI ?_;refine aI (l5 (aD _ K) eH λhg wc sg=>?_);refine l5 wc eH λhi L si=>?_;have up:∀c o,c≠z->G.get? c=wz o->hi.get? c=wz o:=λc o c1 e=>si.extBut _ _ c1 (sg.extBut _ _ c1 (aD _ e));have hT:=si.extBut _ _ (jP t) (sg.extBut _ _ (jP t) (aX _ gC));have J:hi.objs.size=G.objs.size+1:=by rw[si.1,sg.1,eD]
 rw[H]at L hT J;refine bH ⟨_,gC,?_⟩;rw[H];exact hQ hi L (up _ _ D.TOz h) (C.stAt _ _ _ (C.stAt _ _ _ W λo e=>N.extBut _ _ D.TOi1.symm (M.extBut _ _ D.i12 (B.extBut _ _ D.TOi1.symm e))) λo e=>up _ o D.i1z e) (F.stAt _ _ _ (F.stAt _ _ _ X λo e=>N.extBut _ _ D.TOi2.symm e) λo e=>up _ o D.i2z e) hT J λc o c1 S T U e=>up c o c1 (ke c o c1 S T U e)
def V7{Q:Fin->ã->Prop}(hh:A.handled=wy)(I:pR P w j p g d)(K:pR P w l q i f)(D:ff z TI TO j l p q)(B:fb s.heap z TI TO .none)(M:IsPair s.heap TI (.ref j) (.ref l))(N:IsPair s.heap TO a b)
  (h1:g k s.heap) (h2:i k s.heap) (S:d m s.heap) (T:f n s.heap) (y:m[k]?=wy\/n[k]?=wy)
  (Y:∀L e,(∀c o,c≠z->c≠TO->c≠j->c≠l->s.heap.get? c=wz o->L.get? c=wz o)->(∃o,L.get? e=wz o/\o.cls=.type "StopIteration")->E (.ref e) { s with heap:=L }) :
  å (ä P w) A (y3.«zip.__next__» ⟨[.ref z],[]⟩) Q E s:=by
 show å _ _ (field (.ref z) 2 >>= _) _ _ _;refine aI (e8 B gC gC ?_);refine aI (e8 B gC gC ?_);refine aI (k9 M gC ?_);refine aI ?_;refine aI (e8 B gC gC (bH ?_));refine aI (n7 ?_);refine aI (e8 B gC gC ?_);refine aI (l5 B eH λha C sa=>?_);refine aI ?_;refine aI (aI (bc ?_));have X:=I.stAt _ _ _ h1 λo e=>sa.extBut _ _ D.i1z e;have q1:=I.srcAt _ _ _ S λo e=>sa.extBut _ _ D.l1z e
 cases U:m[k]? with
 |none=>
  refine aI (I.fin _ _ _ k m _ hh X q1 U λhb e u O=>?_);obtain⟨W,r,t⟩:=O;have F:=u _ _ D.i1z.symm C;have R:e≠z:=λx=>by subst x;rw[F]at r;cases r;simp at t
  refine l5 F eH λZ _ v=>Y Z e (λc o c1 _ J _ x=>v.extBut _ _ c1 (u _ _ J (sa.extBut _ _ c1 x))) ⟨W,v.extBut _ _ R r,t⟩
 |some x=>
  have hy:n[k]?=none:=by rcases y with h | h;rw[U]at h;cases h;exact h
  refine aI (I.item _ _ _ k m x _ X q1 U λhb wr u=>bH ?_);have H:=u.extBut _ _ D.TOi1 (sa.extBut _ _ D.TOz N);refine aI (k9 H gC ?_);refine aI (ar H λZ sx v=>?_);refine aI (dw (bH ?_));refine aI (aI (bc ?_))
  refine aI (K.fin _ _ _ k n _ hh (K.stAt _ _ _ h2 λo e=>v.extBut _ _ D.TOi2.symm (u.extBut _ _ D.i12.symm (sa.extBut _ _ D.i2z e)))
   (K.srcAt _ _ _ T λo e=>v.extBut _ _ D.l2TO (u.extBut _ _ D.l2i1 (sa.extBut _ _ D.l2z e))) hy λhd e sd O=>?_)
  obtain⟨W,r,t⟩:=O;have G:=sd _ _ D.i2z.symm (v.extBut _ _ D.TOz.symm (u.extBut _ _ D.i1z.symm C));refine l5 G eH λhf _ sf=>Y hf e (λc o c1 c2 J c4 x=>sf.extBut _ _ c1 (sd _ _ c4 (v.extBut _ _ c2 (u.extBut _ _ J (sa.extBut _ _ c1 x))))) ⟨W,sf.extBut _ _ (λx=>by subst x;rw[G]at r;cases r;simp at t) r,t⟩
def V9{Q:Option á->ã->Prop}(K:pR P w j p g d)(L:pR P w l q i f)(D:ff z TI TO j l p q)(B:fb s.heap z TI TO .none)(h:IsPair s.heap TI (.ref j) (.ref l))(r:IsPair s.heap TO a b)
  (M:g k s.heap) (N:i k s.heap) (t:d m s.heap) (u:f n s.heap) (R:m[k]?=wz x) (S:n[k]?=wz y)
  (O:∀e,fb e z TI TO (o6 s.heap.objs.size)->IsPair e TO x y->g (k+1) e->i (k+1) e->IsPair e s.heap.objs.size x y->e.objs.size=s.heap.objs.size+1 ->
   (∀c o,c≠z->c≠TO->c≠j->c≠l->s.heap.get? c=wz o->e.get? c=wz o)->Q (wz (.ref s.heap.objs.size)) { s with heap:=e }):å (ä P w) A (md (.ref z)) Q E s:=by
 have v:s.TypeIs (.ref z) "zip":=⟨_,B,gC⟩
 exact aI (iu (j4 v x9 (nN x9 v F.entry_zip_next
  (WA K L D B h r M N t u R S λe C a2 G a4 H I J=>bH (O e C a2 G a4 H I J)) (ku _))))
def aBv{Q:Option á->ã->Prop}(M:A.handled=wy)(C:pR P w j p g d)(G:pR P w l q i f)(D:ff z TI TO j l p q)(B:fb s.heap z TI TO .none)(t:IsPair s.heap TI (.ref j) (.ref l))(u:IsPair s.heap TO a b)
  (H:g k s.heap) (I:i k s.heap) (v:d m s.heap) (x:f n s.heap) (h:m[k]?=wy\/n[k]?=wy)
  (J:∀r,(∀c o,c≠z->c≠TO->c≠j->c≠l->s.heap.get? c=wz o->r.get? c=wz o)->Q wy { s with heap:=r }):å (ä P w) A (md (.ref z)) Q E s:=by
 have y:s.TypeIs (.ref z) "zip":=⟨_,B,gC⟩;refine aI (iu (j4 y x9 (nN x9 y F.entry_zip_next (V7 M C G D B t u H I v x h λr e hk L=>?_) (ku _))));obtain⟨o,N,K⟩:=L;refine aI (wpAny_isInstance ⟨o,N,K⟩ isSubtype_stop ?_);exact bH (J _ hk)
end
section
variable{X:Cx}{a:List (à×Obj)}{f:St}{H:Hp}{s:ã}{d:ç}
def dI.turnedL{B:Nat}{i:List à}(I:dI X a f H s)(j:∀b∈i,CO X a H b)(k:∀b o,b∉i->s.heap.get? b=wz o->d.get? b=wz o):dI X a f H { s with heap:=d,toks:=B }:=by
 have h:∀b u,H b=wz u->b∉i:=λb u e z=>by rw[(j b z).1]at e;cases e
 refine I.step (λb hb=>?_) (λb o _ _ g e _=>k b o g e) (λb o _ _ g e _=>⟨o.slots,k b o g e⟩) (λ_ _ _ _ n=>n)
  (λb o g e=>⟨o,k b o g e⟩) (λ_ _ e=>e) (λ_ _ _ e=>e) (λb F e=>⟨#[],by rw[e];simp⟩) (λm y=>?_) (λb u e=>?_) I.bare
 ·obtain⟨C,f1,E,t,w,x⟩:=j b hb;exact⟨t,f1,w,x⟩
 ·obtain⟨o,p,l,A,r⟩:=y;exact⟨o,p,l,k _ o (λz=>(j _ z).2.1 gC) A,r⟩
 ·refine(I.hok b u e).stay (λc v g q=>k c v ?_ q) (λ_ q=>q) λ_ _ q=>q;rcases g with z | z
  ·rw[z];exact h b u e
  ·exact h c _ z
def dI.turnedNew{F:Nat}{i:List à}{T:à}{o:HO}(I:dI X a f H s)(j:∀b∈i,CO X a H b)(k:∀b u,b∉i->s.heap.get? b=wz u->d.get? b=wz u)(p:s.heap.objs.size<=T)(new:jC X.prog X.w (eY H T o) d T o) :
  dI X a f (eY H T o) { s with heap:=d,toks:=F }:=by
 have h:∀b u,H b=wz u->b∉i:=λb u e z=>by rw[(j b z).1]at e;cases e
 have ne:∀b u,H b=wz u->(eY H T o) b=wz u:=λb u e=>by rw[bY (eX e (I.hok.fresh p))];exact e
 have l:∀b u,s.heap.get? b=wz u->b≠T:=λb u e z=>by
  exact b8 (cH (bF e) p) (by rw[z];exact fB _)
 refine I.step (λb hb=>?_) (λb o _ _ g e _=>k b o g e) (λb o _ _ g e _=>⟨o.slots,k b o g e⟩) (λb u _ e n=>by rw[bY (l b u e)];exact n)
  (λb o g e=>⟨o,k b o g e⟩) (λb G e=>ne _ _ e) (λb u v e=>ne _ _ e) (λb L e=>⟨#[],by rw[ne _ _ e];simp⟩) (λm C=>?_) (λb u e=>?_) I.bare
 ·obtain⟨J,f1,K,y,A,B⟩:=j b hb;exact⟨y,f1,A,B⟩
 ·obtain⟨o,x,t,E,r⟩:=C;exact⟨o,x,t,k _ o (λz=>(j _ z).2.1 gC) E,r⟩
 ·by_cases hb:b=T
  ·subst hb;rw[cD]at e;cases e;exact new
  ·rw[bY hb]at e;refine(I.hok b u e).stay (λc v g q=>k c v ?_ q) (λc q=>ne _ _ q) (λc G q=>ne _ _ q) λc ob v q=>ne _ _ q;rcases g with z | z
   ·rw[z];exact h b u e
   ·exact h c _ z
end
noncomputable def Cr(c d:Hp->List V->Prop):It:=
 ⟨λi H=>∃a b x y,c H a/\d H b/\a[i]?=wz x/\b[i]?=wz y,
  λi H v e=>∃p x y,H p=wy/\v=.ref p/\e=eY H p (.tup [x,y])/\(∀a,c H a->a[i]?=wz x)/\∀b,d H b->b[i]?=wz y,
  λi H=>∃a b,c H a/\d H b/\(a.length<=i\/b.length<=i)⟩
structure Src(P:cV)(w:f7)(K:aF)(S:Hp->List V->Prop)(src:Array á->ç->Prop):Prop where
 vals:∀(X:Cx),X.prog=P->X.w=w->X.K=K->∀{pins:List (à×Obj)}{σ:St}{H:Hp}{s:ã}{xs:List V},dI X pins σ H s->S H xs->∃aj:List á,fW xs aj/\src aj.toArray s.heap
 inj:∀(X:Cx),X.prog=P->X.w=w->X.K=K->∀{pins:List (à×Obj)}{σ:St}{H:Hp}{s:ã}{xs ys:List V},dI X pins σ H s->S H xs->S H ys->xs=ys
def IP{K}(a:à):Src P w K (λH xs=>rL K H a xs) (λaj h=>h.IsTuple a aj) where
 vals:=λX hP hw hK _ _ _ _ _ I h=>by subst hK;obtain⟨aj,r,p,_⟩:=I.tuple h;exact⟨aj,r,p⟩
 inj:=λX hP hw hK _ _ _ _ _ _ I h h'=>by subst hK;exact I.tuple_inj h h'
def W3{K}(a:à):Src P w K (λH xs=>nM K H a xs) (λaj h=>h.IsList a aj) where
 vals:=λX hP hw hK _ _ _ _ _ I h=>by subst hK;obtain⟨aj,r,p,_⟩:=I.list h;exact⟨aj,r,p.isList⟩
 inj:=λX hP hw hK _ _ _ _ _ _ I h h'=>by subst hK;exact I.list_inj h h'
def LA{P:cV}{w:f7}{K:aF}{u9:List æ}{x1:Nat}{pos:Pos}{z TI TO i1 i2 l1 l2:à}{su my:Nat->ç->Prop}{on oo:Array á->ç->Prop}{S1 S2:Hp->List V->Prop}
  (d1:pR P w i1 l1 su on) (d2:pR P w i2 l2 my oo) (e1:Src P w K S1 on) (e2:Src P w K S2 oo) (D:ff z TI TO i1 i2 l1 l2) :
  NA P w K (.Tuple u9 x1 pos) (Cr S1 S2) [z,TI,TO,i1,i2] z (λi h=>fb h z TI TO .none/\IsPair h TI (.ref i1) (.ref i2)/\(∃a b,IsPair h TO a b)/\su i h/\my i h) where
 mem:=by simp
 obj:=λi h st b hb=>by
  obtain⟨hz,kl,⟨a,c,le⟩,h1,h2⟩:=st;simp only[aO,cG,f6]at hb;rcases hb with rfl | rfl | rfl | rfl | rfl
  ·exact⟨_,hz,λv q=>by cases q⟩
  ·exact⟨_,kl,λv q=>by cases q⟩
  ·exact⟨_,le,λv q=>by cases q⟩
  ·exact d1.has i h h1
  ·exact d2.has i h h2
 keep:=λi h h' st k=>by
  obtain⟨hz,kl,⟨a,b,le⟩,h1,h2⟩:=st;exact⟨k z eH _ hz,k TI eH _ kl,⟨a,b,k TO eH _ le⟩,d1.stAt _ _ _ h1 λo e=>k i1 eH o e,d2.stAt _ _ _ h2 λo e=>k i2 eH o e⟩
 item:=by
  intro X hP hw hK hc i pins s σ H E I hf st hg;obtain⟨hz,kl,⟨a,b,le⟩,h1,h2⟩:=st;obtain⟨xs,ys,x,y,s1,s2,hx,hy⟩:=hg;obtain⟨us,r1,q1⟩:=e1.vals X hP hw hK I s1;obtain⟨vs,r2,q2⟩:=e2.vals X hP hw hK I s2;obtain⟨u,hu,ru⟩:=r1.get hx;obtain⟨v,hv,rv⟩:=r2.get hy;refine V9 d1 d2 D hz kl le h1 h2 q1 q2 (by simpa using hu) (by simpa using hv) λh' a1 a2 a3 a4 a5 a6 a7=>⟨_,gC,?_⟩;refine wpAny_letOwnedTupleGo_zip a1 λlq wa sb=>?_;have neT:∀c o,s.heap.get? c=wz o->c≠s.heap.objs.size:=λc o e=>dF (bF e)
  have kk:∀c o,c∉[z,TI,TO,i1,i2]->s.heap.get? c=wz o->lq.get? c=wz o:=λc o z5 e=>by
   simp only[aO,cG,f6,not_or]at z5;exact sb.extBut _ _ z5.1 (a7 c o z5.1 z5.2.2.1 z5.2.2.2.1 z5.2.2.2.2 e)
  have hT:=sb.extBut _ _ (jP (bF hz)) a5;have I1:dI X pins σ (eY H s.heap.objs.size (.tup [x,y])) { s with heap:=lq }:=I.turnedNew hf kk (aN _) ⟨(by show 2<=bN;decide),[u,v],.cons ru (.cons rv .nil),⟨_,hT,gC,_,gC,gC⟩⟩;refine⟨.ref s.heap.objs.size,_,I1,gC,⟨_,x,y,I.hok.fresh (aN _),gC,gC,λya h'=>by rw[e1.inj X hP hw hK I h' s1];exact hx,λyb h'=>by rw[e2.inj X hP hw hK I h' s2];exact hy⟩,?_,λc z5=>?_⟩
  ·exact⟨wa,sb.extBut _ _ D.TIz (a7 _ _ D.TIz D.TITO D.TIi1 D.TIi2 kl),⟨_,_,sb.extBut _ _ D.TOz a2⟩,d1.stAt _ _ _ a3 λo e=>sb.extBut _ _ D.i1z e,d2.stAt _ _ _ a4 λo e=>sb.extBut _ _ D.i2z e⟩
  ·have eo:c≠s.heap.objs.size:=by
    simp only[aO,cG,f6]at z5;rcases z5 with rfl | rfl | rfl | rfl | rfl
    ·exact neT _ _ hz
    ·exact neT _ _ kl
    ·exact neT _ _ le
    ·obtain⟨o,e,_⟩:=d1.has _ _ h1;exact neT _ _ e
    ·obtain⟨o,e,_⟩:=d2.has _ _ h2;exact neT _ _ e
   rw[bY eo];exact(hf c z5).1
 done:=by
  intro X hP hw hK hc i pins s σ H E I hf st hg;obtain⟨hz,kl,⟨a,b,le⟩,h1,h2⟩:=st;obtain⟨xs,ys,s1,s2,lg⟩:=hg;obtain⟨us,r1,q1⟩:=e1.vals X hP hw hK I s1;obtain⟨vs,r2,q2⟩:=e2.vals X hP hw hK I s2;have n1:=r1.length;have n2:=r2.length;refine aBv (I.ok.hd hc) d1 d2 D hz kl le h1 h2 q1 q2 ?_ λh' a7=>⟨gC,I.turnedL hf λc o z5 e=>?_⟩
  ·rcases lg with q | q
   ·exact .inl (oF (by rw[bI];lia))
   ·exact .inr (oF (by rw[bI];lia))
  ·simp only[aO,cG,f6,not_or]at z5;exact a7 c o z5.1 z5.2.2.1 z5.2.2.2.1 z5.2.2.2.2 e
 self:=λA i s Q E st h=>cz st.1 h
noncomputable abbrev yn(c1:String)(h:ç)(a:à):Heap:=h.push { cls:=.type c1,data:=.fields #[.ref a,.int 0 0] }
noncomputable abbrev ym(c1 a:String)(h:ç)(b c:à):Heap:=(yn c1 h b).push { cls:=.type a,data:=.fields #[.ref c,.int 0 0] }
noncomputable abbrev yl(c1 b:String)(h:ç)(a c:à):Heap:=(ym c1 b h a c).push { cls:=.type "tuple",data:=.seq #[.ref h.objs.size,.ref (yn c1 h a).objs.size] }
noncomputable abbrev ye(c1 a:String)(h:ç)(b c:à):Heap:=(yl c1 a h b c).push { cls:=.type "tuple",data:=.seq #[.none,.none] }
noncomputable abbrev hH(c1 a:String)(h:ç)(b c:à):Heap:=(ye c1 a h b c).push { cls:=.type "zip",data:=.fields #[.none,.bool ww,.bool ww,.ref (ym c1 a h b c).objs.size,.ref (yl c1 a h b c).objs.size] }
def NL(a b:à)(m j:Array á) :
  Meets (y3.«zip.__new__» ⟨[.type "zip",.ref a,.ref b],[]⟩) (λ_ R s=>s.heap.IsTuple a m/\s.heap.IsTuple b j /\
   R (.ok (.ret (.ref (ye "tuple_iterator" "tuple_iterator" s.heap a b).objs.size))) { s with heap:=hH "tuple_iterator" "tuple_iterator" s.heap a b }):=
 .of_wp λprog w A R s h=>by
  obtain⟨k,g,d,l,os⟩:=s;obtain⟨e,f,h⟩:=h;have i:=sub_zip;have c:CA (Shared.heap ⟨k.push { cls:=.type "tuple_iterator",data:=.fields #[.ref a,.int 0 0] },g,d,l,os⟩) b j:=CA.push f _
  wp_walk using u7 e,u7 c
  exact⟨_,gC,h⟩
section
variable{P:cV}{w:f7}{A:d8}{E:á->ã->Prop}{s:ã}
def M1{a b:à}{Q:á->ã->Prop}(f:s.heap.IsTuple a xs)(g:s.heap.IsTuple b ys)
  (h:∀d,fb d (s.heap.objs.size+4) (s.heap.objs.size+2) (s.heap.objs.size+3) .none->IsPair d (s.heap.objs.size+2) (.ref s.heap.objs.size) (.ref (s.heap.objs.size+1)) ->
   IsPair d (s.heap.objs.size+3) .none .none->d.IsTupleIter s.heap.objs.size a 0->d.IsTupleIter (s.heap.objs.size+1) b 0 ->
   (∀c o,s.heap.get? c=wz o->d.get? c=wz o)->Q (.ref (s.heap.objs.size+4)) { s with heap:=d }) :
  å (ä P w) A (call (.type "zip") [.ref a,.ref b]) Q E s:=by
 refine jh F.called_zip cR (F.typeCall_zip_2 _ _) (F.newCall_zip_2 _ _) (λobj=>jc obj _ _) F.entry_zip_new (NL a b xs ys) ⟨f,g,?_⟩;have n1:(yn "tuple_iterator" s.heap a).objs.size=s.heap.objs.size+1:=eD ..;have i:(ym "tuple_iterator" "tuple_iterator" s.heap a b).objs.size=s.heap.objs.size+2:=by rw[eD,n1]
 have n3:(yl "tuple_iterator" "tuple_iterator" s.heap a b).objs.size=s.heap.objs.size+3:=by rw[eD,i]
 have m:(ye "tuple_iterator" "tuple_iterator" s.heap a b).objs.size=s.heap.objs.size+4:=by rw[eD,n3]
 have e:(hH "tuple_iterator" "tuple_iterator" s.heap a b).get? (ye "tuple_iterator" "tuple_iterator" s.heap a b).objs.size=wz _:=aX _ gC;have l:(hH "tuple_iterator" "tuple_iterator" s.heap a b).get? (yl "tuple_iterator" "tuple_iterator" s.heap a b).objs.size=wz _:=aD _ (aX _ gC);have k:(hH "tuple_iterator" "tuple_iterator" s.heap a b).get? (ym "tuple_iterator" "tuple_iterator" s.heap a b).objs.size=wz _:=aD _ (aD _ (aX _ gC));have j:(hH "tuple_iterator" "tuple_iterator" s.heap a b).get? (yn "tuple_iterator" s.heap a).objs.size=wz _:=aD _ (aD _ (aD _ (aX _ gC)));rw[i,n3,m]at e;rw[n1,i]at k;rw[n3]at l;rw[n1]at j;rw[m];exact⟨⟨_,e,gC⟩,h _ e k l ⟨_,(aD _ (aD _ (aD _ (aD _ (aX _ gC))))),gC,gC⟩ ⟨_,j,gC,gC⟩ λc o x=>aD _ (aD _ (aD _ (aD _ (aD _ x))))⟩
end
def M4:d4 "zip"=wz (.type "zip"):=by decide +kernel
def Dw(K:aF)(e:TA):TI:=λg H R=>e g H λvs b=>∃c d a f,vs=[.ref c,.ref d]/\rL K b c a/\rL K b d f/\R (Cr (λH a=>rL K H c a) λH a=>rL K H d a) b
section
variable{X:Cx}
def X6{T:Nat}(F:Gl X "zip")(G:X.mg "zip"=wy)(E:PA X [a,b] ta)(J:autoParam (bZ [a,b] X.env=[(ww,è a X.env),(ww,è b X.env)]) zzz._auto_1)(f:autoParam (bZ [b] X.env=[(ww,è b X.env)]) zzz._auto_1) :
  PI X (.Tuple u9 T tpos) (.Call (.Name "zip" p) [a,b] [] pos) (Dw X.K ta):=by
 intro g s W H R I h;refine Call_ (vP I F G M4 (i6 (iZ (E pos g s W H _ I h) λZ d U=>?_) (by rw[J,f]) (by rw[f];rfl)));obtain⟨vs,C,e,P,N⟩:=U;obtain⟨o,t,xs,ys,rfl,m,n,q⟩:=N
 cases P with
 |cons r u=>
  cases u with
  |cons O u=>
   cases u;cases r;cases O;obtain⟨v,Q,A,L⟩:=e.tuple m;obtain⟨w,S,B,M⟩:=e.tuple n;refine M1 (show d.heap.IsTuple o v.toArray from A) (show d.heap.IsTuple t w.toArray from B) λY y i j k l hk=>cz y ?_;refine⟨_,[d.heap.objs.size+4,d.heap.objs.size+2,d.heap.objs.size+3,d.heap.objs.size,d.heap.objs.size+1],_,_,C,gC,e.kept hk,LA (BL _ o) (BL _ t) (IP o) (IP t) (zipApart_new A.lt B.lt),⟨y,i,⟨_,_,j⟩,k,l⟩,λc x=>?_,q⟩;simp only[aO,cG,f6]at x;have z:d.heap.objs.size<=c:=by rcases x with rfl | rfl | rfl | rfl | rfl<;>first | exact aN _ | exact FV _ _
   exact e.fpOk z (e.hok.fresh z)
end
end L2
namespace TL
open L2
variable{K:aF}
noncomputable def uP(a bs:List D):List D:=(a.zip bs).map λp=>.tuple [p.1,p.2]
def qI(a bs:List D):(uP a bs).length=min a.length bs.length:=by unfold uP;simp
def yQ{bs}{i:Nat}(h:(uP as bs)[i]?=wz x):∃a b,as[i]?=wz a/\bs[i]?=wz b/\x=.tuple [a,b]:=by
 unfold uP at h;rw[aQ]at h
 cases e:(as.zip bs)[i]? with
 |none=>rw[e]at h;cases h
 |some p=>
  rw[e]at h;obtain⟨c,d⟩:=gM.mp e;exact⟨p.1,p.2,c,d,(c8 h).symm⟩
def Oi(t:AT):IT:=λc Q=>t c λb=>∃a bs,b=[.tuple a,.tuple bs]/\Q (uP a bs)
section
variable{X:Cx}{a b:æ}
def ZX{m:Nat}(w:wA X [a,b] t)(I:∀{ta},PA X [a,b] ta->PI X (.Tuple u9 m tpos) (.Call (.Name "zip" p) [a,b] [] p') (Dw X.K ta)):P0 X (.Tuple u9 m tpos) (.Call (.Name "zip" p) [a,b] [] p') (Oi t):=by
 obtain⟨va,E,O⟩:=w;refine⟨_,I E,λB C H F f U Q R o h k=>O B C H F f U _ _ o h λZ xs n P d J=>?_⟩;obtain⟨Y,bs,rfl,q⟩:=J
 cases d with
 |cons d L=>
  cases L with
  |cons M N=>
   cases N
   cases d with
   |@tuple p1 us _ er rs1=>
    cases M with
    |@tuple p2 vs _ hq2 rs2=>
     have n1:=rs1.length;have n2:=rs2.length;refine⟨p1,p2,us,vs,gC,bG.seqT cA er,bG.seqT cA hq2,k _ _ n P ⟨λi H e c=>?_,λi H e c=>?_,λi H G y W live e c A=>?_⟩ q⟩
     ·rw[qI]at c;exact⟨us,vs,bG.seqT e er,bG.seqT e hq2,cS⟩
     ·rw[qI]at c;exact⟨us,vs,us[i],vs[i],bG.seqT e er,bG.seqT e hq2,aJ cS,aJ cS⟩
     ·obtain⟨p,x,y',l,rfl,rfl,u,v⟩:=A;obtain⟨g,r,S⟩:=rs1.get' (u us (bG.seqT (e.trans cA) er));obtain⟨j,s,T⟩:=rs2.get' (v vs (bG.seqT (e.trans cA) hq2));refine⟨dN l,.tuple [g,j],?_,rF live l (.cons (S.same e) (.cons (T.same e) .nil))⟩;unfold uP;rw[aQ,(gM (z:=(g,j))).mpr ⟨r,s⟩];rfl
end
section
variable{g:List (Option Nat)}{ti:IT}{i:ET}{e:List Sl}{Q:D->Prop}{ts:List D}
def A0{f:Type}(l:List f)(a b c d:f):(((l.set 0 a).set 1 b).set 0 c).set 1 d=(l.set 0 c).set 1 d:=by
 match l with
 |[]=>rfl
 |[_]=>rfl
 |_::_::_=>rfl
def wP(j:wB ti e ts)(f:D->D)(s:ts.length<=100000)(o:∀x∈ts,∃a b,x=.tuple [a,b])(r:∀a b q,.tuple [a,b]∈ts->q (f (.tuple [a,b]))->i (((kN g e).set 0 (.val a)).set 1 (.val b)) q)(p:Q (.list (ts.map f))):U5 g ti (gP 0 1) AF i e Q:=by
 refine j _ ⟨s,λk c d=>(∀x y,(c.set 0 (.val x)).set 1 (.val y)=((kN g e).set 0 (.val x)).set 1 (.val y))/\d=(ts.take k).map f,⟨λ_ _=>rfl,gC⟩,λk x c d m h=>?_,λc d h=>?_⟩
 ·obtain⟨n,rfl⟩:=h;have l:=bD m;obtain⟨a,b,rfl⟩:=o x l;refine⟨a,b,gC,?_⟩;rw[n a b];refine r a b _ l ⟨λx y=>A0 _ _ _ _ _,?_⟩;rw[eW,m,bV];rfl
 ·obtain⟨_,rfl⟩:=h;rw[fJ];exact p
end
end TL
namespace L2
open PySem.SeqAt
open AutoSeq1 (wpAny_loadPart')
def F6(l:à)(a:Array á)(n:Nat)(v:Option à)(H:Array (Option á))(x:á)(e:á->Bool)(j:Nat)(J:j<a.size)(r:e a[j]=wx)(t:∀m K,m<j->e a[m]=ww) :
  Meets (y3.«tuple.index» ⟨[.ref l,x],[]⟩)
   (λA R s=>s.heap.get? l=wz { cls:=.type "tuple",dict:=v,data:=.seq a n,slots:=H }/\(∀y,y∈a->EqAt A.in1 s y x (e y))/\R (.ok (.ret (.int j s.toks))) { s with toks:=s.toks+1 }):=by
 intro prog w A R s h;obtain⟨G,g,d,I,os⟩:=s;obtain⟨F,C,h⟩:=h;unfold y3.«tuple.index»;simp only[Std.Legacy.Range.forIn_eq_forIn_range']
 wp_walk using ee F
 have B:([:min a.size a.size]:Std.Legacy.Range).size=a.size:=by simp[Std.Legacy.Range.size]
 rw[B];refine wpAny_forIn_list _ (λjE b u=>b=(wy,())/\u=⟨G,g,d,I,os⟩/\∃k,jE=S6 k (a.size-k)/\k<=j) _ (λi jE b u p=>?_) (λb u p=>?_) _ _ ⟨gC,gC,0,eH,cP _⟩
 ·obtain⟨rfl,rfl,k,o,hk⟩:=p;have c:k<a.size:=by lia
  have z:a.size-k=(a.size-(k+1))+1:=by lia
  rw[z,aBr]at o;obtain⟨rfl,rfl⟩:=e9 o;have E:a[i]?=wz a[i]:=by simp[c]
  rw[E];refine aI (C _ (Array.getElem_mem c) prog w _ _ ?_);by_cases q:i=j
  ·subst q;rw[r,a9 rfl]
   wp_walk
   exact h
  ·have f:i<j:=by lia
   rw[t i c f,a8 cR];exact bH ⟨gC,gC,i+1,gC,f⟩
 ·obtain⟨_,_,k,o,hk⟩:=p;have:=d6 jQ o;simp at this;lia
end L2
namespace TL
open L2 PySem.SeqAt
section
variable{X:Cx}{e:æ}{a:List æ}{b c:ET}{pos:Pos}
def UE(f:List D)(d:D)(j:Nat):Prop:=eB f=wx/\d.canLay0=wx/\min (fG f) d.depth<=60/\(∃t,f[j]?=wz t/\dA t d=wx)/\∀m t,m<j->f[m]?=wz t->dA t d=ww
def N4(K:aF):V->List V->Hp->VK->Prop:=λx g H Q=>∃y f d j,g=[y]/\iK K H (.tuple f) x/\iK K H d y/\UE f d j/\Q (.int j) H
def UN(P:X.A.units+200<x6):NJ X "tuple.index" (N4 X.K):=by
 intro G s σ H x xs v us Q I Z Y h;obtain⟨y,g,d,j,rfl,T,U,⟨c1,z,k,⟨t,E,N⟩,r⟩,q⟩:=h;obtain⟨u,rfl,W⟩:=Y.one;obtain⟨as,L⟩:=iK.reads I (show(dB g).hasDict=ww from noDictAll c1) T Z;obtain⟨bs,M⟩:=iK.reads I (nF z) U W
 cases L with
 |@tuple l o items n _ as' h3 h4 h5 h6=>
  have f:=jy g items.toList _ c1 h6;have C:items.size=g.length:=by rw[<- f,aC,fT]
  have O:=(aL.mp E).1;have B:j<items.size:=by lia
  have J:∀(m:Nat)(k:m<items.size),g[m]?=wz (jw s.heap items[m]):=λm k=>by
   rw[<- f,aQ];simp[k]
  obtain⟨oc,R,S,w⟩:=o;cases h4;cases h5;refine q9 F.slot_tuple_index ⟨_,h3,gC⟩ F.entry_tuple_index (F.args_tuple_index_2 _ _) (F6 _ items _ R w u (λy=>dA (jw s.heap y) d) j B ?_ ?_) ⟨h3,lu h6 M c1 z (by have:=P;lia),?_⟩
  ·have:=J j B;rw[E]at this;rw[<- c8 this];exact N
  ·intro m p i;exact r m _ i (J m p)
  ·exact⟨.int j,H,I.tok _,⟨_,gC⟩,q⟩
def ZG{k:Nat}(d:iE k X.A):NJ X "tuple.index" (N4 X.K):=UN (by have:=d.un;lia)
def Wj(b:ET)(t:AT):ET:=λg Q=>b g λd=>∃f,d=.tuple f/\t g λh=>∃x j,h=[x]/\UE f x j/\Q (.int j)
def aAn(z:gK X n b)(y:wA X (e::a) t)
  (C:∀{v c},PE X n v->PA X (e::a) c->PE X (.Call (.Attribute n "index" ap) (e::a) [] pos) (QO X.K "tuple" (N4 X.K) v c)):gK X (.Call (.Attribute n "index" ap) (e::a) [] pos) (Wj b t):=by
 obtain⟨v,E,N⟩:=z;obtain⟨S,A,M⟩:=y;refine⟨_,C E A,λB i H l f s Q P o h k=>N B i H l f s _ _ o h λd x u m G g=>?_⟩;obtain⟨O,rfl,g⟩:=g
 cases G with
 |@tuple p xs _ hq rs=>
  refine⟨.inr (.inl ⟨gC,.inr ⟨_,bG.seqT cA hq⟩⟩),M B i u l f s _ _ (o.grow m) g λR T w r I F=>?_⟩;obtain⟨d,j,rfl,hok,q⟩:=F
  cases I with
  |cons J L=>
   cases L;exact⟨_,O,d,j,gC,(iK.tuple hq rs).same ((cC r).trans cA),J.same cA,hok,k _ _ w (m.trans r) (.int _) q⟩
end
section
variable{K:aF}{H a:Hp}{B:Hp}{f c:List à}{d:List Sl}{g:L2.St}
noncomputable def without(H:Hp)(p:à):Hp:=λb=>if b=p then wy else H b
def yU{p:à}:ê (without H p) c=ê H (p::c):=by
 funext b;unfold ê without;by_cases e:b=p
 ·simp[e]
 ·by_cases h:b∈c<;>simp[e,h]
def tQ{p:à}(s:bG H a)(h:H p=wy):bG H (without a p):=λb o e=>by
 unfold without;rw[a8 λz=>by rw[z,h]at e;cases e];exact s b o e
def BW{p:à}(e:H p=wz u):eY (without H p) p u=H:=by
 funext b;by_cases h:b=p
 ·subst h;rw[cD,e]
 ·rw[bY h];unfold without;rw[a8 h]
def bG.free'(s:bG H a){p:à}(h:a p=wy):H p=none:=by
 cases q:H p with
 |none=>rfl
 |some u=>rw[s p u q]at h;cases h
def Ok.takeOwn(o:Ok K B f H c d g){i:Nat}{p:à}(s:bG H a)(e:H p=wy)(h:a p=wz (.lst xs))(r:Reps K (ê a (p::c)) ts xs) :
  Ok K B f a (p::c) (d.set i (.own ts)) (g.set i (wz (.ref p))):=by
 have b:without a p p=none:=by unfold without;rw[a9 rfl]
 have:=(o.grow (tQ s e)).setOwn (i:=i) b (by rw[yU];exact r)
 rwa [BW h]at this
end
section
variable{X:Cx}{a b c e:æ}{G:List æ}{C u l:ET}{pos:Pos}
def Zd(i:Nat)(t:vX):vX:=λf Q=>∃d,f[i]?=wz (.own d)/\t (f.set i (.val (.list d))) Q
def TH(i:Nat)(h:KQ X e t):KQ X e (Zd i t):=by
 obtain⟨v,p,r⟩:=h;refine⟨_,p,λB g H q m j Q n o h k=>?_⟩;obtain⟨w,e,h⟩:=h;obtain⟨d,f,s⟩:=o.share e;exact r B g H d _ j _ _ f h k
abbrev FT:=List Sl->(List D->Prop)->Prop
def SX(X:Cx)(e:æ)(t:FT):Prop:=∃l,PE X e l/\∀B m H h d k Q g,Ok X.K B m H h d k->t d Q ->
 (∀i p j f,bG H f->H p=wy->f p=wz (.lst j)->Reps X.K (ê f (p::h)) i j->Q i->g (.ref p) f)->l k H g
def Jp(t:FT):ET:=λf Q=>t f λd=>Q (.list d)
def xN(h:SX X e t):gK X e (Jp t):=by
 obtain⟨v,p,r⟩:=h;refine⟨_,p,λB m H n d w Q x o h k=>r B m H n d w _ _ o h λy p z f s g j rs q=>k _ _ f s ?_ q⟩;exact .list (nM.of (mO (iW o.live g) j)) (rs.same (gY λq i=>aH _ i))
def Jz(t:AT):FT:=λf Q=>t f λd=>d.length<=1000/\Q d
def Z9(h:wA X G t):SX X (.List G pos) (Jz t):=by
 obtain⟨v,p,r⟩:=h;refine⟨_,JG p,λB n H s f x Q z o h k=>r B n H s f x _ _ o h λm w y j i g=>⟨rJ (by rw[<- i.length];exact g.1),λq d=>?_⟩⟩;exact k m q w _ (j.trans (dN d)) (bG.free' j d) cD (by rw[pE d];exact i) g.2
def Gc(C u:ET):FT:=λf Q=>C f λx=>u f λy=>∃d bs,x=.list d/\y=.list bs/\d.length+bs.length<=100000/\Q (d++bs)
def Xo(z:gK X a C)(hb:gK X b u):SX X (.BinOp a .Add b pos) (Gc C u):=by
 obtain⟨U,E,M⟩:=z;obtain⟨W,F,N⟩:=hb;refine⟨_,LZ RG E F,λB j H m d s Q P o h k=>M B j H m d s _ _ o h λS x t i K I=>?_⟩;refine N B j t m d s _ _ (o.grow i) I λT y O f L J=>?_;obtain⟨R,bs,rfl,rfl,A,q⟩:=J
 cases K with
 |list v n=>
  cases L with
  |list w r=>
   refine⟨_,_,_,_,gC,gC,L2.bG.seq ((cC f).trans cA) v,L2.bG.seq cA w,B1 (by rw[<- n.length,<- r.length];exact A),λp g=>?_⟩;exact k _ p _ _ ((i.trans f).trans (dN g)) (bG.free' (i.trans f) g) cD (by rw[pE g];exact(n.same (cC f)).append r) q
def zo(m:List (Option Nat))(n:IT)(g:GT)(o:vX)(l:ET):FT:=λj Q=>n j λi=>i.length<=100000/\∃P:Nat->List Sl->List D->Prop,P 0 (kN m j) [] /\
 (∀k x d h,i[k]?=wz x->P k d h->g x d λf=>o f λb=>if b=wx then l f λy=>P (k+1) f (h++[y])else P (k+1) f h)/\∀d h,P i.length d h->Q h
def Jr(Q:List D->Prop)(d:D):Prop:=match d with | .list ds=>Q ds | _=>False
def Ih{l}{Q:List D->Prop}(h:U5 fr ti g tt l σ (Jr Q)):zo fr ti g tt l σ Q:=h
def aDw{iter l}(I:P0 X tg iter ti)
  (F:∀b,P2 (blk X scope N' b) tg g/\FP (blk X scope N' b) ifs tt/\gK (blk X scope N' b) elt l) {M:(TE)->Prop}
  (fin:∀{A}{s:BP->TG}{z:BP->TT}{y:BP->TE},PI X tg iter A->(∀b,PG (blk X scope N' b) tg (s b)/\P1 (blk X scope N' b) ifs (z b)/\PE (blk X scope N' b) elt (y b))->M (WS fr A s z y)) :
  ∃v,M v/\∀B t H i d m Q n,Ok X.K B t H i d m->zo fr ti g tt l d Q ->
   (∀x p j f,bG H f->H p=wy->f p=wz (.lst j)->Reps X.K (ê f (p::i)) x j->Q x->n (.ref p) f)->v m H n:=by
 obtain⟨A,O,R⟩:=I;obtain⟨s,z,y,p,r⟩:=OW fr F;exact⟨_,fin O p,λB t H i d m Q n o h k=>R B t H i d m _ _ o h λx J U w S P=>r (o.grow w) S P λE p j f T L N rs q=>k E p j f (w.trans T) (bG.free' w L) N rs q⟩
def Nd{iter l}(j:P0 X tg iter ti)
  (i:∀b,P2 (blk X scope N' b) tg g/\FP (blk X scope N' b) ifs tt/\gK (blk X scope N' b) elt l)
  (k:∀{wi}{d:BP->TG}{h:BP->TT}{f:BP->TE},PI X tg iter wi->(∀b,PG (blk X scope N' b) tg (d b)/\P1 (blk X scope N' b) ifs (h b)/\PE (blk X scope N' b) elt (f b))->PE X (.ListComp elt [⟨tg,iter,ifs,0⟩] scope pos) (WS fr wi d h f)) :
  SX X (.ListComp elt [⟨tg,iter,ifs,0⟩] scope pos) (zo fr ti g tt l):=aDw j i k
abbrev NB:=List D->(List D->Prop)->Prop
def iP(K:aF)(k:NB):Sp:=λvs H Q _=>∃f h g,(∀p∈f,AL (H p))/\Reps K (ê H f) h vs/\k h g /\
 ∀i p j d,bG H d->H p=wy->d p=wz (.lst j)->Reps K (ê d (p::f)) i j->g i->Q (.ref p) d
def Gd(f:NB)(t:AT):FT:=λg Q=>t g λd=>f d Q
def Zt{k:Nat}{f:à}{pn}(F:lW X.prog X.w X.K X.mg X.base qA k f fd pn (iP X.K sp))(T:X.mg x=wz (.ref f))(hk:gS X.K (.ref f)=wx)(hb:qT X.K fd pn [])
  (U:iE k X.A) (r:wA X (e::G) t) (I:∀{C},PA X (e::G) C->PE X (.Call (.Name x p) (e::G) [] pos) (GU (iP X.K sp) [] E0 C)):SX X (.Call (.Name x p) (e::G) [] pos) (Gd sp t):=by
 obtain⟨v,E,M⟩:=r;refine⟨_,I E,λB z H j i P Q S o h k=>M B z H j i P _ _ o h λn W R d L J=>?_⟩;rw[eK];exact⟨j,n,Q,(o.grow d).live,L,J,λO p g m N s y rs q=>k O p g m (d.trans N) (bG.free' d s) y rs q⟩
def kS{K}{mg:â->Option á}{st}{f:à}{N pn:List â}{k:Nat}{o:NB}(F:NK K x qual st f fd)(S:bQ N pn (aS st))
  (j:∀{i}{A:d8}{outer}{s:ã}{H E},iE k (A.deeper (i9 qual (aS st) s.heap.objs.size f i))->N.Nodup->∀(g:List D)(Q:List D->Prop),o g Q ->
   ∃t,xA (rW qA P w K mg base N qual (aS st) f i A outer s H E).nox (lB st) t/\t { nx:=λ_=>False,rt:=λ_=>False,ro:=Q } (kL N g)) (len:autoParam (∀g Q,o g Q->g.length=pn.length) zzm._auto_1):lW P w K mg base qA (k+1) f fd pn (iP K o):=by
 refine F.ok S (λvs H Q E h=>?_) λi A outer s H vs Q E B h=>?_
 ·obtain⟨n,g,m,_,r,q,_⟩:=h;rw[<- r.length];exact len g m q
 ·obtain⟨n,g,m,live,r,q,k⟩:=h;obtain⟨t,⟨v,p,J⟩,h⟩:=j B S.nd g m q;exact⟨v,p,J H n H n _ _ _ _ (qM live r) h ⟨λ_ _ _ _ _ _ d=>d.elim,λ_ _ _ _ _ _ d=>d.elim,λ_ _ _ _ _ _ d=>d.elim,λ_ _ _ _ _ d=>d.elim,λv p M y L z O I rs d=>k v p M y L z I rs d,λ_ _ _ _ _ _ _ _ _ _ _ _ _ _ _ _ _ _ d=>d.elim,λ_ _ _ _ _ _ _ _ _ _ _ _ _ _ d=>d.elim,e6⟩⟩
def XD(i:Nat)(t:FT):yO:=λf d=>t d λg=>f.nx (d.set i (.own g))
def TR{i:Nat}{t:FT}{v:TE}(r:∀B m H g d k Q z,Ok X.K B m H g d k->t d Q ->
   (∀n p w j,bG H j->H p=wy->j p=wz (.lst w)->Reps X.K (ê j (p::g)) n w->Q n->z (.ref p) j)->v k H z)
  (B:Hp) (m:List à) (H:Hp) (g:List à) (d:List Sl) (k:L2.St) (x:FR) (y:aBb) (o:Ok X.K B m H g d k) (h:XD i t x d) (f:P5 X.K B m H g x y):xU v (lS i) y k H:=by
 refine r B m H g d k _ _ o h λn p w j s A E rs q=>?_;exact f.nx j (p::g) _ _ (o.takeOwn s A E rs) (by rw[<- yU];exact cC (tQ s A)) q
def aCo{i:Nat}(h:SX X e t)(d:∀{v},PE X e v->PS X (.Assign [.Name x pos'] e pos) (xU v (lS i))):FO X (.Assign [.Name x pos'] e pos) (XD i t):=by
 obtain⟨v,p,r⟩:=h;exact⟨_,d p,TR r⟩
def Gw(t:FT):yO:=λd f=>t f d.ro
def wK(h:SX X e t):FO X (.Return (wz e) pos) (Gw t):=by
 obtain⟨v,p,r⟩:=h;refine⟨_,A2 p,λB k H m d x y A o h f=>r B k H m d x _ _ o h λn p w i s g j rs q=>?_⟩;refine f.ro n p w i (o.base.trans s) (bG.free' o.base g) (λz=>iW o.live g (o.sub p z)) j (rs.same (gY λq hq=>?_)) q;rcases aO.mp hq with rfl | hq
 ·exact aP ..
 ·exact aH _ (o.sub q hq)
def aC3(i:Nat):yO:=λf g=>∃d,g[i]?=wz (.own d)/\f.ro d
def sM{i:Nat}(s:PE X n (nV i)):FO X (.Return (wz n) pos) (aC3 i):=by
 refine⟨_,A2 s,λB y H A v E w x o h f=>?_⟩;obtain⟨d,e,h⟩:=h;obtain⟨q,t,g,j,k,m,p,r⟩:=o.own i d e;refine⟨.ref q,g,f.ro d q t H o.base k m p (r.same (gY λz hz=>?_)) h⟩;rcases aO.mp hz with rfl | hz
 ·exact j
 ·exact o.sub z hz
def XC(c:vX)(u:yO):yO:=λg h=>∃P:Nat->List Sl->Prop,(∃n,P n h)/\∀n d,P n d->c d λb=>if b=wx then u { g with nx:=λf=>∃m,m<n/\P m f,ct:=λf=>∃m,m<n/\P m f,bk:=g.nx } d else g.nx d
def DX{c u}(Y:KQ X c tc)(hb:xA X body u)(pw:∀{R Q},PT X c R->BR X body Q->PS X (.While c body [] pos) (WN R Q)):FO X (.While c body [] pos) (XC tc u):=by
 obtain⟨R,pc,rc⟩:=Y;obtain⟨Q,pb,rb⟩:=hb;refine⟨_,pw pc pb,λB E H O S σ DT DV o h f=>?_⟩;obtain⟨P,⟨n0,W⟩,Z⟩:=h;refine⟨λn k A=>∃i d,Ok X.K B E A i d k/\bG (ê H O) (ê A i)/\P n d,⟨n0,O,S,o,L2.bG.refl _,W⟩,?_⟩;rintro n k A ⟨i,d,N,U,p'⟩;refine rc B E A i d k _ _ N (Z n d p') λb T I F=>?_;have q:=(f.later U).later (cC I);have w:=U.trans (cC I)
 cases b with
 |true=>
  rw[a9 rfl]at F |-
  refine⟨λy J=>∃m,m<n/\∃t p,Ok X.K B E J t p y/\bG (ê H O) (ê J t)/\P m p,λy J z=>z,?_⟩;exact rb B E T i d k _ _ (N.grow I) F ⟨λL j g r s x ⟨m,M,v⟩=>⟨m,M,j,g,s,w.trans x,v⟩,λL j g r s x v=>q.nx L j g r s x v,λL j g r s x ⟨m,M,v⟩=>⟨m,M,j,g,s,w.trans x,v⟩,q.rt,q.ro,q.rp,q.rq,q.xb⟩
 |false=>
  rw[a8 cR]at F |-
  exact q.nx T i d k (N.grow I) (L2.bG.refl _) F
def Di(i j k:Nat):GT:=λd f Q=>∃a b c,d=.tuple [a,b,c]/\Q (((f.set i (.val a)).set j (.val b)).set k (.val c))
def U0{i j k:Nat}(h:PG X t (Bf X.K 3 (HF (lS i) (HF (lS j) (HF (lS k) Be))))):P2 X t (Di i j k):=
 ⟨_,h,λB w H x q y d v Q s o r h k=>by
  obtain⟨a,b,c,rfl,h⟩:=h
  cases r with
  |@tuple p xs _ hq r=>
   cases r with
   |cons f r=>
    cases r with
    |cons g r=>
     cases r with
     |cons m r=>
      cases r;exact⟨_,_,gC,bG.seqT cA hq,gC,_,_,gC,_,_,gC,_,_,gC,gC,k _ _ (((o.set f).set g).set m) (λn=>qF (qF (qF n _ _) _ _) _ _) h⟩⟩
def Jo(c:vX)(C u:ET):ET:=λd Q=>c d λb=>if b=wx then C d Q else u d Q
def uM(x:KQ X c tc)(w:gK X a C)(hb:gK X b u):gK X (.IfExp c a b pos) (Jo tc C u):=by
 obtain⟨M,A,I⟩:=x;obtain⟨K,y,E⟩:=w;obtain⟨L,z,F⟩:=hb;refine⟨_,YC A y z,λB m H n f s Q J o h k=>I B m H n f s _ _ o h λd t i g=>?_⟩
 cases d with
 |true=>
  rw[a9 rfl]at g |-
  exact E B m t n f s Q _ (o.grow i) g λd v j r q p=>k d v j (i.trans r) q p
 |false=>
  rw[a8 cR]at g |-
  exact F B m t n f s Q _ (o.grow i) g λd v j r q p=>k d v j (i.trans r) q p
end
end TL
namespace L2
open PySem.SeqAt
open AutoSeq1 (wpAny_loadPart')
section
variable{X:Cx}{d:List (à×Obj)}{f:St}{H:Hp}{s:ã}{p:à}
def dI.retold(I:dI X d f H s)(h:H p=wz u)(k:∀g,u≠.tup g)(j:∀o v,u≠.frz o v)(nb:∀i,u≠.tbl i)(t:∀a,u≠.own a)(new:jC X.prog X.w (eY H p u') s.heap p u'):dI X d f (eY H p u') s:=by
 have ne:∀b v,H b=wz v->v≠u->eY H p u' b=wz v:=λb v e r=>by
  rw[bY λz=>by rw[z,h]at e;exact r (c8 e).symm];exact e
 have fin:=I.step (t':=s.toks) (d':=s.drawn) (ch:=[]) (λb hb=>by cases hb) (λb o _ _ _ e _=>e) (λb o _ _ _ e _=>⟨o.slots,e⟩)
  (λb o _ e n=>by rw[bY λz=>by rw[z,h]at n;cases n];exact n) (λb o _ e=>⟨o,e⟩) (λb g e=>ne _ _ e (λz=>k g z.symm)) (λb o v e=>ne _ _ e (λz=>j o v z.symm))
  (λb i e=>⟨#[],by rw[ne _ _ e (λz=>nb i z.symm)];simp⟩) (λm l=>l) (λb v e=>?_) I.bare
 ·exact fin
 ·by_cases hb:b=p
  ·subst hb;rw[cD]at e;cases e;exact new
  ·rw[bY hb]at e;exact(I.hok b v e).stay (λc w _ q=>q) (λc q=>ne _ _ q λz=>t b z.symm) (λc g q=>ne _ _ q λz=>k g z.symm) λc ob y q=>ne _ _ q λz=>j ob y z.symm
end
def PD(l:à)(c:Array á)(n:Nat)(b:à)(a:Array á)(o:Nat)(i:Option à)(p:Array (Option á))(j:¬(!c.isEmpty&&o9 (c.size+a.size))=wx)(k:c.size<=bN)(e:c.size+a.size<=bN+1) :
  Meets (y3.«list.extend» ⟨[.ref l,.ref b],[]⟩) (λ_ R s=>s.heap.get? l=wz { cls:=.type "list",dict:=wy,data:=.seq c n,slots:=#[] }/\s.heap.get? b=wz { cls:=.type "list",dict:=i,data:=.seq a o,slots:=p }/\R (.ok (.ret k6)) { s with heap:=s.heap.update l (e7 λx=>x++a),toks:=s.toks }):=
 .of_wp λprog w A R s h=>by
  obtain⟨v,g,d,y,os⟩:=s;obtain⟨f,hb,h⟩:=h;have f1:=AutoSeq1.idx_int;have q:=AutoSeq1.sub_tuple_tuple;have r:=AutoSeq1.sub_list_list;have t:=AutoSeq1.sub_tuple_list;have u:=AutoSeq1.sub_list_tuple;have m:(c++a).size<=bN+1:=by rw[BU];exact e
  wp_walk using(wpAny_updateSeq f gC),ee f,ee hb
  exact⟨_,gC,h⟩
section
variable{X:Cx}
def Hu(K:aF):V->List V->Hp->VK->Prop:=λx vs H Q=>∃l b a c,x=.ref l/\vs=[.ref b]/\H l=wz (.lst a)/\nM K H b c/\a.length+c.length<=bN/\Q .non (eY H l (.lst (a++c)))
def JP:Io X "list.extend" (Hu X.K):=by
 intro j s T H x vs v O Q I J G h;obtain⟨l,b,P,S,rfl,rfl,i,p,M,q⟩:=h;cases J;obtain⟨u,rfl,E⟩:=G.one;cases E;obtain⟨z,c,n,r,L,e⟩:=I.lstM i;obtain⟨a,k,⟨o,A,m,t,w,hd⟩,R⟩:=I.list p;have y:=k.length;have f:c.toArray.size+a.toArray.size<=bN:=by rw[bI,bI];lia
 have d:¬(!c.toArray.isEmpty&&o9 (c.toArray.size+a.toArray.size))=true:=by
  rw[Y2 f,Bool.and_false];exact bX
 obtain⟨N,B,C,g⟩:=o;cases t;cases hd;refine q9 F.slot_list_extend ⟨_,e,gC⟩ F.entry_list_extend (F.args_list_extend_2 _ _) (PD l c.toArray n b a.toArray A B g d (by rw[bI];lia) cS) ⟨e,m,?_⟩;refine⟨.non,_,I.lset i e eH (r.append k) ?_,gC,q⟩;rw[aW];lia
end
end L2
namespace TL
open L2
section
variable{X:Cx}{e:æ}{b a:ET}{pos:Pos}
def Gv(i:Nat)(a:ET):yO:=λh g=>∃c,g[i]?=wz (.own c)/\a g λd=>∃f,d=.list f/\c.length+f.length<=100000/\h.nx (g.set i (.own (c++f)))
def IM{i:Nat}{e a}(N:PE X n (nV i))(y:gK X e a)(z:autoParam (bZ [e] X.env=(ww,è e X.env)::bZ [] X.env) zzz._auto_1)
  (pb:∀{b},PA X [e] b->PS X (.Expr (.Call (.Attribute n "extend" ap) [e] [] cp) pos) (GR (QO X.K "list" (Hu X.K) (nV i) b))):FO X (.Expr (.Call (.Attribute n "extend" ap) [e] [] cp) pos) (Gv i a):=by
 obtain⟨v,p,r⟩:=y;refine⟨_,pb (gF p mU z),λB C H s j u G I o h f=>?_⟩;obtain⟨F,e,h⟩:=h;obtain⟨q,t,k,w,L,M,l,m⟩:=o.own i F e;refine⟨.ref q,k,.inl ⟨gC,t,nM.of l⟩,r B C H s j u _ _ o h λd x J c E g=>?_⟩;obtain⟨O,rfl,A,g⟩:=g
 cases E with
 |@list p2 zs _ hq rs=>
  refine⟨q,p2,t,zs,gC,gC,c _ _ l,L2.bG.seq cA hq,B1 (by rw[<- m.length,<- rs.length];exact A),?_⟩;exact f.nx _ s _ u ((o.grow c).write e k ((m.same (cC c)).append rs)) ((cC c).trans (by rw[fU w];exact L2.bG.refl _)) g
def sV{K}{mg:â->Option á}{k:Nat}{f:à}{pn}:lW P w K mg base qA k f fd pn (lN K λ_ _=>False):=
 ⟨λvs H Q E ⟨_,_,_,_,_,h,_⟩=>h.elim,λA outer s H c d vs Q E _ _ _ _ ⟨_,_,_,_,_,h,_⟩=>h.elim⟩
def U1{K}{mg:â->Option á}{k:Nat}{f:à}{pn}:lW P w K mg base qA k f fd pn (iP K λ_ _=>False):=
 ⟨λvs H Q E ⟨_,_,_,_,_,h,_⟩=>h.elim,λA outer s H c d vs Q E _ _ _ _ ⟨_,_,_,_,_,h,_⟩=>h.elim⟩
def BI{K}{mg:â->Option á}{k:Nat}{f:à}{pn}{i d:kX}(F:lW P w K mg base qA k f fd pn (lN K i))(h:∀c Q,d c Q->i c Q):lW P w K mg base qA k f fd pn (lN K d):=
 F.imp λvs H Q E ⟨o,c,g,j,l,m,n⟩=>⟨o,c,g,j,l,h c g m,n⟩
def Kd(d:D)(Q:D->Prop):Prop:=∃ns,d=.list (ns.map cI)/\ns≠[]/\∀m,m∈ns->(∀n∈ns,n<=m)->Q (.int m)
end
end TL
namespace L2
section
variable{X:Cx}
def GD(N:X.calm=wx):lU X (.builtin "max") (λL H Q=>∃p ns,L=[.ref p]/\nM X.K H p (ns.map V.int)/\ns≠[]/\∀m,m∈ns->(∀n∈ns,n<=m)->Q (.int m) H):=by
 intro F s σ H L Z Q I r h;obtain⟨p,ns,rfl,R,g,q⟩:=h;obtain⟨u,rfl,T⟩:=nU r;cases T;obtain⟨a,J,G,W⟩:=I.list R;have f:=J.length;rw[aC]at f;have C:=VR.mpr g
 have x:p≠s.heap.objs.size:=by
  obtain⟨o,y,_⟩:=G.isList;exact dF (bF y)
 have d:=G.isList
 have k:p<s.heap.objs.size:=by
  obtain⟨o,y,_⟩:=d;exact bF y
 have c:∀(i:Nat)(v:á),a.toArray[i]?=wz v->∃t,v=.int ((ns[i]?).getD 0) t:=λi v l=>by
  have E:a[i]?=wz v:=by simpa using l
  have w:=(aL.mp E).1;have hb:i<ns.length:=by lia
  obtain⟨w',B,M⟩:=J.get (by rw[aQ,aJ hb];rfl);rw[E]at B;cases B;rw[aJ hb];exact M
 refine call_max_walk (i4 d ?_);refine⟨_,_,_,_,_,_,_,gC,bo (A:=X.A.in1) (I.ok.hd N) _ p x a.toArray,⟨⟨_,aX _ gC,gC,gC⟩,d.push _⟩,λb hb=>?_,by rw[bI];lia,CmpOf.ints_gt (λi=>(ns[i]?).getD 0) c,λv U Y l hk=>?_⟩
 ·rw[eD];have:b=s.heap.objs.size\/b=p:=by simpa using hb
  rcases this with rfl | rfl
  ·exact lD _
  ·exact oX k
 ·obtain⟨t,rfl⟩:=c _ _ l;have hb:=argBest_gt (λi=>(ns[i]?).getD 0) (a.toArray.size-1);have S:a.toArray.size=ns.length:=by rw[bI];lia
  have w:argBest (λi j=>decide ((ns[i]?).getD 0>(ns[j]?).getD 0)) (a.toArray.size-1)<ns.length:=by have:=hb.1;lia
  refine⟨.int _,H,I.kept λb o e=>hk b o ?_ (aD _ e),⟨t,gC⟩,q _ ?_ λn P=>?_⟩
  ·intro z;have:b=s.heap.objs.size:=by simpa using z
   exact b8 (bF e) (by rw[this];exact fB _)
  ·rw[aJ w];exact iU w
  ·obtain⟨j,O,rfl⟩:=pV.mp P;have:=hb.2 j cS;rw[aJ O]at this;exact this
def Ng(_ j:Int):Prop:=0<j/\j<2^200
def L4:oE X (j9 .FloorDiv) (rI Ng λi j=>.int (i / j)):=zk λi j _ _ _ _ _ a q=>by
 have c:=a.1;have d:=a.2;have b:j.natAbs<2^200:=by lia
 have e:=(Nat.log2_lt cS).mpr b;exact floordiv_int cS (by rw[KZ i cS];exact q) (.inl (PyProof.noPylong_of_log2 cS))
end
end L2
namespace TL
open L2
section
variable{X:Cx}{e:æ}
theorem EX{K}:∀ns:List Int,Reps K H (ns.map cI) (ns.map V.int)
|[]=>.nil
|n::ns=>.cons (.int n) (EX ns)
def Mq:tH X (λf H Q=>∃p ns,f=[.ref p]/\nM X.K H p (ns.map V.int)/\ns≠[]/\∀m,m∈ns->(∀n∈ns,n<=m)->Q (.int m) H) (f1 Kd):=c1 λH i d x Q g live r h k=>by
 obtain⟨ns,rfl,a,h⟩:=h
 cases r with
 |list q s=>
  have e:=sS s;subst e;exact⟨_,ns,gC,L2.bG.seq cA q,a,λm b c=>k _ _ H (L2.bG.refl H) (.int _) (h m b c)⟩
end
section
variable{X:Cx}{e:æ}{a:List æ}{b c:ET}{pos:Pos}
abbrev Co:=List Sl->(List D->List D->Prop)->Prop
def Cp(X:Cx)(e:æ)(t:Co):Prop:=∃c,PE X e c/\∀B m H g f l Q h,Ok X.K B m H g f l->t f Q ->
 (∀i bs r p q j k d,bG H d->H r=wy->H p=wy->H q=wy->p≠q->d r=wz (.tup [.ref p,.ref q])->d p=wz (.lst j)->d q=wz (.lst k)->Reps X.K (ê d (p::q::g)) i j->Reps X.K (ê d (p::q::g)) bs k->Q i bs->h (.ref r) d)->c l H h
abbrev zg:=List D->(List D->List D->Prop)->Prop
def zN(K:aF)(l:zg):Sp:=λvs H Q _=>∃f i g,(∀p∈f,AL (H p))/\Reps K (ê H f) i vs/\l i g /\
 ∀h bs r p q j k d,bG H d->H r=wy->H p=wy->H q=wy->p≠q->d r=wz (.tup [.ref p,.ref q])->d p=wz (.lst j)->d q=wz (.lst k)->Reps K (ê d (p::q::f)) h j->Reps K (ê d (p::q::f)) bs k->g h bs->Q (.ref r) d
def Hm(f:zg)(t:AT):Co:=λg Q=>t g λd=>f d Q
def X4{k:Nat}{f:à}{pn}(F:lW X.prog X.w X.K X.mg X.base qA k f fd pn (zN X.K sp))(Z:X.mg x=wz (.ref f))(hk:gS X.K (.ref f)=wx)(hb:qT X.K fd pn [])
  (hr:iE k X.A) (J:wA X (e::a) t) (N:∀{b},PA X (e::a) b->PE X (.Call (.Name x p) (e::a) [] pos) (GU (zN X.K sp) [] E0 b)):Cp X (.Call (.Name x p) (e::a) [] pos) (Hm sp t):=by
 obtain⟨v,M,g⟩:=J;refine⟨_,N M,λB L H j i U Q Y o h k=>g B L H j i U _ _ o h λs l W d P O=>?_⟩;rw[eK];exact⟨j,s,Q,(o.grow d).live,P,O,λn bs r p q l T m S u y z C E G I g R q=>k n bs r p _ l T m (d.trans S) (bG.free' d u) (bG.free' d y) (bG.free' d z) C E G I g R q⟩
def Jb{K}{mg:â->Option á}{st}{f:à}{N pn:List â}{k:Nat}{n:zg}(F:NK K x qual st f fd)(S:bQ N pn (aS st))
  (j:∀{i}{A:d8}{outer}{s:ã}{H E},iE k (A.deeper (i9 qual (aS st) s.heap.objs.size f i))->N.Nodup->∀(g:List D)(Q:List D->List D->Prop),n g Q ->
   ∃t,xA (rW qA P w K mg base N qual (aS st) f i A outer s H E).nox (lB st) t/\t { nx:=λ_=>False,rt:=λ_=>False,rp:=Q } (kL N g)) (len:autoParam (∀g Q,n g Q->g.length=pn.length) zzm._auto_1):lW P w K mg base qA (k+1) f fd pn (zN K n):=by
 refine F.ok S (λvs H Q E h=>?_) λi A outer s H vs Q E J h=>?_
 ·obtain⟨m,g,l,_,r,q,_⟩:=h;rw[<- r.length];exact len g l q
 ·obtain⟨m,g,l,live,r,q,k⟩:=h;obtain⟨t,⟨T,p,O⟩,h⟩:=j J S.nd g l q;exact⟨T,p,O H m H m _ _ _ _ (qM live r) h ⟨λ_ _ _ _ _ _ d=>d.elim,λ_ _ _ _ _ _ d=>d.elim,λ_ _ _ _ _ _ d=>d.elim,λ_ _ _ _ _ d=>d.elim,λ_ _ _ _ _ _ _ _ _ d=>d.elim,λu bs r p q U W o R v y z B C G I L M d=>k u bs r p q U W o R v y z B C G I L M d,λ_ _ _ _ _ _ _ _ _ _ _ _ _ _ d=>d.elim,e6⟩⟩
def Jm(t:Co):ET:=λf Q=>t f λd bs=>Q (.tuple [.list d,.list bs])
def Cb(h:Cp X e t):gK X e (Jm t):=by
 obtain⟨v,p,r⟩:=h;refine⟨_,p,λB y H d u G Q I o h k=>r B y H d u G _ _ o h λJ bs r p q K L w F m g j x n i l C E A=>?_⟩;have f:∀{z:à},H z=wy->z∉d:=λs=>iW o.live s;have sub:∀z∈d,z∈p::q::d:=λz s=>aH _ (aH _ s);exact k _ _ w F (.tuple (rL.of (mO (f m) n)) (.cons (.list (nM.of (mO (f g) i)) (C.same (gY sub))) (.cons (.list (nM.of (mO (f j) l)) (E.same (gY sub))) .nil))) A
end
end TL
namespace L2
open PySem.SeqAt
section
variable{X:Cx}
theorem vJ(ns:List Int):∀k,preSum (λi=>(ns[i]?).getD 0) k=(ns.take k).sum
|0=>rfl
|k+1=>by
 show preSum _ k+(ns[k]?).getD 0=_;rw[vJ ns k,eW,wI]
 cases ns[k]? with
 |none=>simp
 |some x=>simp
theorem GV:∀ns:List Int,(∀n∈ns,0<=n/\n<2^40)->0<=ns.sum/\ns.sum<=(ns.length:Int)*2^40
|[],_=>by simp
|n::ns,h=>by
 have b:=h n (aP ..);have c:=GV ns λx a=>h x (aH _ a);rw[dY,bA];constructor
 ·lia
 ·lia
def GB(O:X.calm=wx):lU X (.builtin "sum") (λM H Q=>∃(p:à)(ns:List Int),M=[.ref p]/\nM X.K H p (ns.map V.int)/\(∀n∈ns,0<=n/\n<2^40)/\ns.length<=1000/\Q (.int ns.sum) H):=by
 intro G s σ H M us Q I r h;obtain⟨p,ns,rfl,S,m,y,q⟩:=h;obtain⟨u,rfl,T⟩:=nU r;cases T;obtain⟨c,L,J,Z⟩:=I.list S;have g:=L.length;rw[aC]at g
 have B:p≠s.heap.objs.size:=by
  obtain⟨o,C,_⟩:=J.isList;exact dF (bF C)
 have a:=J.isList
 have l:p<s.heap.objs.size:=by
  obtain⟨o,C,_⟩:=a;exact bF C
 have w:∀(i:Nat)(v:á),c.toArray[i]?=wz v->∃t,v=.int ((ns[i]?).getD 0) t:=λi v N=>by
  have F:c[i]?=wz v:=by simpa using N
  have Y:=(aL.mp F).1;have hb:i<ns.length:=by lia
  obtain⟨w',x,E⟩:=L.get (by rw[aQ,aJ hb];rfl);rw[F]at x;cases x;rw[aJ hb];exact E
 have d:∀k:Nat,0<=(ns.take k).sum/\(ns.take k).sum<2^63:=λk=>by
  have x:=GV (ns.take k) λn R=>m n (eG R);have E:(ns.take k).length<=1000:=by rw[bU];lia
  lia
 refine call_sum_walk (i4 a ?_);refine⟨_,_,_,_,_,_,λi=>(ns[i]?).getD 0,gC,bo (A:=X.A.in1) (I.ok.hd O) _ p B c.toArray,⟨⟨_,aX _ gC,gC,gC⟩,a.push _⟩,λb hb=>?_,w,λj P=>?_,λW tk U hk=>?_⟩
 ·rw[eD];have:b=s.heap.objs.size\/b=p:=by simpa using hb
  rcases this with rfl | rfl
  ·exact lD _
  ·exact oX l
 ·rw[bI]at P;have f:j<ns.length:=by lia
  refine⟨?_,?_⟩
  ·have:=m ns[j] (iU f);show InLong ((ns[j]?).getD 0);rw[aJ f];show -(2^63)<=ns[j]/\ns[j]<2^63;lia
  ·rw[vJ];have:=d (j+1);show -(2^63)<=_/\_<2^63;lia
 ·refine⟨.int _,H,I.kept λb o e=>hk b o ?_ (aD _ e),⟨U,gC⟩,?_⟩
  ·intro z;have:b=s.heap.objs.size:=by simpa using z
   exact b8 (bF e) (by rw[this];exact fB _)
  ·rw[vJ,gG (by rw[bI];lia)];exact q
end
def E7(l:à)(a:Array á) :
  Meets (y3.«enumerate.__new__» ⟨[.type "enumerate",.ref l],[]⟩) (λ_ R s=>s.heap.IsList l a /\
   R (.ok (.ret (.ref (s.heap.push { cls:=.type "list_iterator",data:=.fields #[.ref l,.int 0 0] }).objs.size)))
    { s with heap:=(s.heap.push { cls:=.type "list_iterator",data:=.fields #[.ref l,.int 0 0] }).push { cls:=.type "enumerate",data:=.fields #[.none,.bool ww,.ref s.heap.objs.size,o6 0,.none,.none] } }):=
 .of_wp λprog w A R s h=>by
  obtain⟨i,g,d,j,os⟩:=s;obtain⟨f,h⟩:=h;have e:=sub_enumerate;have b:=f
  wp_walk
  refine wpAny_stack_any λst=>bH ?_;split
  ·rename_i c _ _ _ _ _;cases (c==gb "enumerate")
   ·wp_walk using i4 b
    exact⟨_,gC,h⟩
   ·wp_walk using i4 b
    exact⟨_,gC,h⟩
  ·wp_walk using i4 b
   exact⟨_,gC,h⟩
section
variable{P:cV}{w:f7}{A:d8}{E:á->ã->Prop}{s:ã}
def CL{l:à}{Q:á->ã->Prop}(e:s.heap.IsList l items)
  (h:∀a,IsEnum a (s.heap.objs.size+1) s.heap.objs.size 0 .none->a.IsListIter s.heap.objs.size l 0->a.objs.size=s.heap.objs.size+2 ->
   (∀b o,s.heap.get? b=wz o->a.get? b=wz o)->Q (.ref (s.heap.objs.size+1)) { s with heap:=a }) :
  å (ä P w) A (call (.type "enumerate") [.ref l]) Q E s:=by
 refine jh F.called_enumerate cR (F.typeCall_enumerate_1 _) (F.newCall_enumerate_1 _) (λobj=>F.args_object_init_2 obj _) F.entry_enumerate_new
  (E7 l items) ⟨e,?_⟩
 have c:(s.heap.push { cls:=.type "list_iterator",data:=.fields #[.ref l,.int 0 0] }).objs.size=s.heap.objs.size+1:=eD ..;rw[c]
 have d:IsEnum ((s.heap.push { cls:=.type "list_iterator",data:=.fields #[.ref l,.int 0 0] }).push
   { cls:=.type "enumerate",data:=.fields #[.none,.bool ww,.ref s.heap.objs.size,o6 0,.none,.none] }) (s.heap.objs.size+1) s.heap.objs.size 0 .none:=by
  have:=aX (s.heap.push { cls:=.type "list_iterator",data:=.fields #[.ref l,.int 0 0] })
   (o:={ cls:=.type "enumerate",data:=.fields #[.none,.bool ww,.ref s.heap.objs.size,o6 0,.none,.none] }) gC
  rw[c]at this;exact this
 exact⟨⟨_,d,gC⟩,h _ d ⟨_,aD _ (aX _ gC),gC,gC⟩ (by rw[eD,c]) λb o x=>aD _ (aD _ x)⟩
end
noncomputable def Ip(K:aF)(a:à):It:=
 ⟨λi H=>∃b x,nM K H a b/\b[i]?=wz x,
  λi H v c=>∃p x,H p=wy/\v=.ref p/\c=eY H p (.tup [.int (i:Int),x])/\∀b,nM K H a b->b[i]?=wz x,
  λi H=>∃b,nM K H a b/\b.length<=i⟩
def TF{K}{x1:Nat}{e it l:à}(rk:e≠it) :
  NA P w K (.Tuple u9 x1 pos) (Ip K l) [e,it] e (λi h=>(∃old,IsEnum h e it (i:Int) old)/\h.IsListIter it l i) where
 mem:=by simp
 obj:=λi h st b hb=>by
  obtain⟨⟨old,he⟩,lf⟩:=st;simp only[aO,cG,f6]at hb;rcases hb with rfl | rfl
  ·exact⟨_,he,λv q=>by cases q⟩
  ·obtain⟨o,e,c,d⟩:=lf;exact⟨o,e,λv z=>by rw[d]at z;cases z⟩
 keep:=λi h h' st k=>by
  obtain⟨⟨old,he⟩,lf⟩:=st;exact⟨⟨old,k e eH _ he⟩,lf.at λo x=>k it eH o x⟩
 item:=by
  intro X hP hw hK hc i pins s σ H E I hf st hg;subst hP hw hK;obtain⟨⟨old,he⟩,lf⟩:=st;obtain⟨xs,x,hq,hx⟩:=hg;obtain⟨aj,rv,p,hz⟩:=I.list hq;obtain⟨u,hu,ru⟩:=rv.get hx;refine wpAny_pyNext_enum_item he lf p.isList (by simpa using hu) rk λh' a1 a2 a3 a4 a5=>⟨_,gC,?_⟩;refine wpAny_letOwnedTupleGo_enum a1 λh2 b1 sb=>?_;have oh:=bF he
  have kk:∀c o,c∉[e,it]->s.heap.get? c=wz o->h2.get? c=wz o:=λc o z5 x=>by
   simp only[aO,cG,f6,not_or]at z5;exact sb.extBut _ _ z5.1 (a5 c o z5.1 z5.2 x)
  have I1:dI X pins σ (eY H s.heap.objs.size (.tup [.int (i:Int),x])) { s with heap:=h2,toks:=s.toks+1 }:=I.turnedNew hf kk (aN _) ⟨(by show 2<=bN;decide),[.int i s.toks,u],.cons ⟨_,gC⟩ (.cons ru .nil),⟨_,(sb.extBut _ _ (jP oh) a3),gC,_,gC,gC⟩⟩;refine⟨.ref s.heap.objs.size,_,I1,gC,⟨_,x,I.hok.fresh (aN _),gC,gC,λys hy=>by rw[I.list_inj hy hq];exact hx⟩,?_,λc z5=>?_⟩
  ·exact⟨⟨_,by rw[lY];exact b1⟩,a2.at λo x=>sb.extBut _ _ (i0 rk) x⟩
  ·have eo:c≠s.heap.objs.size:=by
    simp only[aO,cG,f6]at z5;rcases z5 with rfl | rfl
    ·exact dF oh
    ·obtain⟨o,z,_⟩:=lf;exact dF (bF z)
   rw[bY eo];exact(hf c z5).1
 done:=by
  intro X hP hw hK hc i pins s σ H E I hf st hg;subst hP hw hK;obtain⟨⟨old,he⟩,lf⟩:=st;obtain⟨xs,hq,hx⟩:=hg;obtain⟨aj,rv,p,hz⟩:=I.list hq;have hl:=rv.length;refine wpAny_pyNext_enum_end (I.ok.hd hc) he lf p.isList (by simp;lia) λh' eb=>⟨gC,I.turnedL hf λc o z5 x=>?_⟩;simp only[aO,cG,f6,not_or]at z5;exact eb c o z5.2 x
 self:=λA i s Q E st h=>by
  obtain⟨⟨old,he⟩,_⟩:=st;exact ng he h
def FL:d4 "enumerate"=wz (.type "enumerate"):=by decide +kernel
def Gf(K:aF)(b:TA):TI:=λd H R=>b d H λvs a=>∃l c,vs=[.ref l]/\nM K a l c/\R (Ip K l) a
section
variable{X:Cx}
def aDg{E:Nat}(n:Gl X "enumerate")(o:X.mg "enumerate"=wy)(m:PA X [a] ta)(u:autoParam (bZ [a] X.env=[(ww,è a X.env)]) zzz._auto_1) :
  PI X (.Tuple u9 E tpos) (.Call (.Name "enumerate" p) [a] [] pos) (Gf X.K ta):=by
 intro b s G H R I h;refine Call_ (vP I n o FL (i6 (iZ (m pos b s G H _ I h) λL f F=>?_) (by rw[u];rfl) (by rfl)));obtain⟨vs,k,d,z,y⟩:=F;obtain⟨l,M,rfl,t,q⟩:=y
 cases z with
 |cons r A=>
  cases A;cases r;obtain⟨C,B,x,w⟩:=d.list t;refine CL x.isList λJ i e v hk=>ng i ?_;refine⟨_,[f.heap.objs.size+1,f.heap.objs.size],_,_,k,gC,d.kept hk,TF (Nat.succ_ne_self _),⟨⟨_,i⟩,e⟩,λc g=>?_,q⟩;simp only[aO,cG,f6]at g;have j:f.heap.objs.size<=c:=by rcases g with rfl | rfl<;>first | exact aN _ | exact FV _ _
  exact d.fpOk j (d.hok.fresh j)
end
end L2
namespace TL
open L2 PySem.SeqAt
variable{K:aF}
def ze(K:aF)(a:à)(c:List â):Prop:=∃o b n,K.lookup a=wz o/\o.cls=.type "tuple"/\o.dict=wy/\o.data=.seq b n/\b.size<=bN/\fW (c.map V.str) b.toList
theorem xY:∀a:List â,Reps K H (a.map aK) (a.map V.str)
|[]=>.nil
|y::a=>.cons (.str y) (xY a)
noncomputable def E8(a:List D):List D:=uP (fL a.length) a
def sZ(a:List D):(E8 a).length=a.length:=by unfold E8;rw[qI];unfold fL;simp
def BK{i:Nat}(h:as[i]?=wz a):(E8 as)[i]?=wz (.tuple [.int (i:Int),a]):=by
 unfold E8 uP fL;rw[aQ,(gM (z:=(cI (i:Int),a))).mpr ⟨by rw[aQ,kQ ((aL.mp h).1)];rfl,h⟩];rfl
def Wp(t:AT):IT:=λc Q=>t c λb=>∃a,b=[.list a]/\Q (E8 a)
section
variable{X:Cx}{a b e:æ}{w:List æ}{c C g:ET}{pos:Pos}
def AA{x:â}{p:à}{d:List â}{pos}(f:Gl X x)(i:X.mg x=wz (.ref p))(hk:ze X.K p d)(hd:autoParam ((x==("__debug__":â))=false) zzy._auto_1):gK X (.Name x pos) (eC (.tuple (d.map aK))):=
 ⟨_,pX (v:=.ref p) f i gC hd,λ_ _ H _ _ _ _ _ _ h k=>k _ _ H (L2.bG.refl H) (.tuple (.inr hk) (xY d)) h⟩
def aD2{m:Nat}(v:wA X [a] t)(I:∀{c},PA X [a] c->PI X (.Tuple u9 m tpos) (.Call (.Name "enumerate" p) [a] [] p') (Gf X.K c)):P0 X (.Tuple u9 m tpos) (.Call (.Name "enumerate" p) [a] [] p') (Wp t):=by
 obtain⟨W,E,M⟩:=v;refine⟨_,I E,λB A H F j P Q R o h k=>M B A H F j P _ _ o h λU Y n N f J=>?_⟩;obtain⟨T,rfl,q⟩:=J
 cases f with
 |cons f L=>
  cases L
  cases f with
  |@list p1 us _ er rs1=>
   have n1:=rs1.length;refine⟨p1,us,gC,L2.bG.seq cA er,k _ _ n N ⟨λi H e d=>?_,λi H e d=>?_,λi H G y S live e d z=>?_⟩ q⟩
   ·rw[sZ]at d;exact⟨us,L2.bG.seq e er,cS⟩
   ·rw[sZ]at d;exact⟨us,us[i],L2.bG.seq e er,aJ cS⟩
   ·obtain⟨p,x,l,rfl,rfl,u⟩:=z;obtain⟨r,s,O⟩:=rs1.get' (u us (L2.bG.seq (e.trans cA) er));exact⟨dN l,.tuple [.int (i:Int),r],BK s,rF live l (.cons (.int _) (.cons (O.same e) .nil))⟩
def Kf(d:D)(Q:D->Prop):Prop:=∃ns:List Int,d=.list (ns.map cI)/\(∀n∈ns,0<=n/\n<2^40)/\ns.length<=1000/\Q (.int ns.sum)
def Ms:tH X (λj H Q=>∃(p:à)(ns:List Int),j=[.ref p]/\nM X.K H p (ns.map V.int)/\(∀n∈ns,0<=n/\n<2^40)/\ns.length<=1000/\Q (.int ns.sum) H) (f1 Kf):=c1 λH m d x Q l live r h k=>by
 obtain⟨ns,rfl,i,f,h⟩:=h
 cases r with
 |list q s=>
  have e:=sS s;subst e;exact⟨_,ns,gC,L2.bG.seq cA q,i,f,k _ _ H (L2.bG.refl H) (.int _) h⟩
def I0(K:aF):V->List V->Hp->VK->Prop:=λx h H Q=>∃y f d j,h=[y]/\iK K H (.list f) x/\iK K H d y/\UE f d j/\j<1000000/\Q (.int j) H
def OM(U:X.A.units+200<x6):NJ X "list.index" (I0 X.K):=by
 intro M s σ H x xs v us Q I rx rv h;obtain⟨y,i,d,j,rfl,Z,r2,⟨c1,E,p,⟨t,L,R⟩,z⟩,S,q⟩:=h;obtain⟨u,rfl,ru⟩:=rv.one;obtain⟨as,O⟩:=iK.reads I (show(eO i).hasDict=ww from noDictAll c1) Z rx;obtain⟨bs,P⟩:=iK.reads I (nF E) r2 ru
 cases O with
 |@list l o items n _ as' h3 h4 h5 h6=>
  have f:=jy i items.toList _ c1 h6;have J:items.size=i.length:=by rw[<- f,aC,fT]
  have T:=(aL.mp L).1;have G:j<items.size:=by lia
  have N:∀(m:Nat)(p:m<items.size),i[m]?=wz (jw s.heap items[m]):=λm p=>by
   rw[<- f,aQ];simp[p]
  obtain⟨oc,W,Y,B⟩:=o;cases h4;cases h5;refine q9 F.slot_list_index ⟨_,h3,gC⟩ F.entry_list_index (F.args_list_index_2 _ _) (list_indexAt _ items _ W B u (λy=>dA (jw s.heap y) d) j G cS ?_ ?_) ⟨h3,lu h6 P c1 E (by have:=U;lia),?_⟩
  ·have:=N j G;rw[L]at this;rw[<- c8 this];exact R
  ·intro m r k;exact z m _ k (N m r)
  ·exact⟨.int j,H,I.tok _,⟨_,gC⟩,q⟩
def G8{k:Nat}(d:iE k X.A):NJ X "list.index" (I0 X.K):=OM (by have:=d.un;lia)
def SE(g:ET)(t:AT):ET:=λh Q=>g h λd=>∃f,d=.list f/\t h λi=>∃x j,i=[x]/\UE f x j/\j<1000000/\Q (.int j)
def HJ(F:gK X n g)(A:wA X (e::w) t)
  (I:∀{v c},PE X n v->PA X (e::w) c->PE X (.Call (.Attribute n "index" ap) (e::w) [] pos) (QO X.K "list" (I0 X.K) v c)):gK X (.Call (.Attribute n "index" ap) (e::w) [] pos) (SE g t):=by
 obtain⟨v,J,S⟩:=F;obtain⟨Y,G,R⟩:=A;refine⟨_,I J G,λB l H m f u Q U o h k=>S B l H m f u _ _ o h λd x y r M i=>?_⟩;obtain⟨T,rfl,i⟩:=i
 cases M with
 |@list p xs _ hq rs=>
  refine⟨.inl ⟨gC,_,L2.bG.seq cA hq⟩,R B l y m f u _ _ (o.grow r) i λW Z z s N L=>?_⟩;obtain⟨d,j,rfl,hok,E,q⟩:=L
  cases N with
  |cons O P=>
   cases P;exact⟨_,T,d,j,gC,(iK.list hq rs).same ((cC s).trans cA),O.same cA,hok,E,k _ _ z (r.trans s) (.int _) q⟩
def Du(f:List D)(d:D):Prop:=eB f=wx/\d.canLay0=wx/\min (fG f) d.depth<=60
def JA(K:aF):V->List V->Hp->VK->Prop:=λx h H Q=>∃y f d,h=[y]/\iK K H (.list f) x/\iK K H d y/\Du f d/\Q (.int ((f.countP λt=>dA t d:Nat):Int)) H
def ON(r:X.A.units+200<x6):NJ X "list.count" (JA X.K):=by
 intro k s T H x S v R Q I M L h;obtain⟨y,i,d,rfl,E,G,⟨c1,j,O⟩,q⟩:=h;obtain⟨u,rfl,J⟩:=L.one;obtain⟨N,m⟩:=iK.reads I (show(eO i).hasDict=ww from noDictAll c1) E M;obtain⟨bs,p⟩:=iK.reads I (nF j) G J
 cases m with
 |@list l o items n _ as' h3 h4 h5 h6=>
  obtain⟨P,z,B,f⟩:=o;cases h4;cases h5;refine q9 F.slot_list_count ⟨_,h3,gC⟩ F.entry_list_count (F.args_list_count_2 _ _) (list_countAt _ items _ z f u (λy=>dA (jw s.heap y) d)) ⟨h3,lu h6 p c1 j (by have:=r;lia),?_⟩;refine⟨.int _,H,I.tok _,⟨_,gC⟩,?_⟩
  have e:(items.toList.countP λy=>dA (jw s.heap y) d)=i.countP λt=>dA t d:=by
   rw[<- (jy i items.toList _ c1 h6),F5];rfl
  rw[e];exact q
def UL{k:Nat}(d:iE k X.A):NJ X "list.count" (JA X.K):=ON (by have:=d.un;lia)
def Zj(g:ET)(t:AT):ET:=λh Q=>g h λd=>∃f,d=.list f/\t h λi=>∃x,i=[x]/\Du f x/\Q (.int ((f.countP λt=>dA t x:Nat):Int))
def U3(A:gK X n g)(z:wA X (e::w) t)
  (F:∀{v c},PE X n v->PA X (e::w) c->PE X (.Call (.Attribute n "count" ap) (e::w) [] pos) (QO X.K "list" (JA X.K) v c)):gK X (.Call (.Attribute n "count" ap) (e::w) [] pos) (Zj g t):=by
 obtain⟨v,G,P⟩:=A;obtain⟨U,E,O⟩:=z;refine⟨_,F G E,λB j H l f s Q S o h k=>P B j H l f s _ _ o h λd x u m J i=>?_⟩;obtain⟨R,rfl,i⟩:=i
 cases J with
 |@list p xs _ hq rs=>
  refine⟨.inl ⟨gC,_,L2.bG.seq cA hq⟩,O B j u l f s _ _ (o.grow m) i λT W y r L I=>?_⟩;obtain⟨d,rfl,hok,q⟩:=I
  cases L with
  |cons M N=>
   cases N;exact⟨_,R,d,gC,(iK.list hq rs).same ((cC r).trans cA),M.same cA,hok,k _ _ y (m.trans r) (.int _) q⟩
def Ze(g:ET):vX:=λh Q=>g h λd=>∃f,d=.list f/\Q (!f.isEmpty)
def GQ(h:gK X e g)(pt:∀{t},PE X e t->PT X e (λf H Q=>t f H λx j=>∃k,Bc X.K x j k/\Q k j)):KQ X e (Ze g):=by
 obtain⟨v,p,r⟩:=h;refine⟨_,pt p,λB s H u i f Q E o h k=>r B s H u i f _ _ o h λd x m A z y=>?_⟩;obtain⟨l,rfl,q⟩:=y
 cases z with
 |@list p xs _ hq rs=>
  have n:=rs.length;refine⟨!xs.isEmpty,.inl ⟨xs,L2.bG.seq cA hq,gC⟩,?_⟩
  have:(!xs.isEmpty)=(!l.isEmpty):=by
   cases xs<;>cases l<;>first | rfl | (simp at n)
  rw[this];exact k _ m A q
def TW(c C:FT):yO:=λf d=>c d λh=>C d λbs=>f.rp h bs
def LL{c C}(F:SX X n c)(Q:SX X m C)(R:autoParam (bZ [n,m] X.env=(ww,è n X.env)::bZ [m] X.env) zzz._auto_1)(I:autoParam (bZ [m] X.env=(ww,è m X.env)::bZ [] X.env) zzz._auto_1):FO X (.Return (wz (.Tuple [n,m] x1 p2)) pos) (TW c C):=by
 obtain⟨va,Y,ra⟩:=F;obtain⟨vb,Z,rb⟩:=Q;refine⟨_,A2 (JF (gF Y (gF Z mU I) R)),λB s H l j M DT DV o h f=>?_⟩;refine ra B s H l j M _ _ o h λP p O t x N v rs q1=>?_
 have U:Ok X.K B s t (p::l) j M:=by
  have F:without t p p=none:=by unfold without;rw[a9 rfl]
  have W:=(o.grow (tQ x N)).adopt (u:=.lst O) F
  rwa [BW v]at W
 refine rb B s t (p::l) j M _ _ U q1 λbs q ys A y G J L q2=>?_;refine⟨aB gC,λr k=>?_⟩;have i:=y _ _ v
 have S:bG (ê t (p::l)) (ê (eY A r (.tup [.ref p,.ref q])) (p::q::s)):=λb u hb=>by
  unfold ê at hb |-
  by_cases d:b∈p::l
  ·rw[a9 d]at hb;cases hb
  ·rw[a8 d]at hb;have E:=y _ _ hb;rw[a8,bY (λz=>by rw[z,k]at E;cases E)]
   ·exact E
   ·intro z;rcases aO.mp z with z | z
    ·exact d (z▸aP ..)
    ·rcases aO.mp z with z | z
     ·exact(λz=>by rw[z,G]at hb;cases hb) z
     ·exact d (aH _ (o.sub b z))
 have T:bG (ê A (q::p::l)) (ê (eY A r (.tup [.ref p,.ref q])) (p::q::s)):=(cC (dN k)).trans (gY λz hz=>by
  rcases aO.mp hz with rfl | hz
  ·exact aH _ (aP ..)
  ·rcases aO.mp hz with rfl | hz
   ·exact aP ..
   ·exact aH _ (aH _ (o.sub z hz)))
 exact f.rp P bs r p q O ys _ (o.base.trans (x.trans (y.trans (dN k)))) (bG.free' (o.base.trans (x.trans y)) k) ((λhz=>bG.free' o.base hz) N) (bG.free' (o.base.trans x) G) (λz=>by rw[z,G]at v;cases v) cD (by rw[bY (λz=>by rw[z,k]at i;cases i)];exact i) (by rw[bY (λz=>by rw[z,k]at J;cases J)];exact J) (rs.same S) (L.same T) q2
end
end TL
namespace TL
def Wf:d4 "sum"=wz (.builtin "sum"):=by decide +kernel
open L2
section
variable{g:List (Option Nat)}{j:IT}{l:vX}{i:ET}{d:List Sl}{Q:D->Prop}{c:List D}
def MF(r:wB j d c)(p:D->Bool)(f:D->D)(A:c.length<=100000)(u:∀x∈c,∃a b,x=.tuple [a,b])
  (v:∀a b q,.tuple [a,b]∈c->q (p (.tuple [a,b]))->l (((kN g d).set 0 (.val a)).set 1 (.val b)) q)
  (z:∀a b q,.tuple [a,b]∈c->q (f (.tuple [a,b]))->i (((kN g d).set 0 (.val a)).set 1 (.val b)) q) (w:Q (.list ((c.filter p).map f))):U5 g j (gP 0 1) l i d Q:=by
 refine r _ ⟨A,λk m n=>(∀x y,(m.set 0 (.val x)).set 1 (.val y)=((kN g d).set 0 (.val x)).set 1 (.val y))/\n=((c.take k).filter p).map f,⟨λ_ _=>rfl,gC⟩,λk x m n s h=>?_,λm n h=>?_⟩
 ·obtain⟨t,rfl⟩:=h;have o:=bD s;obtain⟨a,b,rfl⟩:=u x o;refine⟨a,b,gC,?_⟩;rw[t a b];refine v a b _ o ?_;have e:c.take (k+1)=c.take k++[.tuple [a,b]]:=by rw[eW,s];rfl
  cases hb:p (.tuple [a,b])with
  |true=>
   rw[a9 rfl];refine z a b _ o ⟨λx y=>A0 _ _ _ _ _,?_⟩;rw[e,jT,bV];simp[hb]
  |false=>
   rw[a8 cR];refine⟨λx y=>A0 _ _ _ _ _,?_⟩;rw[e,jT,bV];simp[hb]
 ·obtain⟨_,rfl⟩:=h;rw[fJ];exact w
end
open PySem.Builtin PySem.Builtin.Str PySem.StrLaws
def AU(x:â)(c i:Nat):subAt x ⟨#[c]⟩ i=(x.cps.toList[i]?==wz c):=by
 rw[subAt_eq]
 cases h:x.cps.toList[i]? with
 |none=>
  have:=uX (sE.mp h);rw[this];rfl
 |some a=>
  have e:x.cps.toList.drop i=a::x.cps.toList.drop (i+1):=by
   rw[KY ((aL.mp h).1)];congr 1;exact(aL.mp h).2
  rw[e];show(a::List.take 0 _==[c])=(wz a==wz c);simp
theorem A4(x:â)(c b:Nat):∀n a st,st.snd<=a->st.fst.size<=a->a+n<=b ->
 (mx (S6 a n) st (occBody x ⟨#[c]⟩ x.length b)).run.fst.size=st.fst.size+(S6 a n).countP λi=>x.cps.toList[i]?==wz c
|0,_,_,_,_,_=>rfl
|n+1,a,st,h1,h2,h3=>by
 rw[aBr,F4,DK];unfold occBody;by_cases d:((st.fst.size<b/\st.snd<=a)/\a+(⟨#[c]⟩:â).length<=x.length)/\subAt x ⟨#[c]⟩ a=wx
 ·rw[a9 d];have f:=A4 x c b n (a+1) (st.fst.push a,a+(⟨#[c]⟩:â).length) (aN _) (by rw[FX];lia) cS;have e:=d.2;rw[AU]at e;rw[a9 e];refine f.trans ?_;rw[FX];lia
 ·rw[a8 d]
  have e:¬((x.cps.toList[a]?==wz c)=wx):=λq=>d ⟨⟨⟨cS,h1⟩,by
   have:x.cps.toList[a]?=wz c:=by simpa using q
   have g:=(aL.mp this).1;have:x.cps.toList.length=x.length:=by simp[h9]
   show a+1<=x.length;lia⟩,by rw[AU];exact q⟩
  rw[a8 e];exact(A4 x c b n (a+1) (st.fst,st.snd) (by show st.snd<=a+1;lia) (by show st.fst.size<=a+1;lia) cS)
theorem B6(c:Nat):∀L:List Nat,(gO L.length).countP (λi=>L[i]?==wz c)=L.count c
|[]=>rfl
|a::L=>by
 rw[bA,List.range_succ_eq_map,DK,F5,List.count_cons,<- B6 c L];have b:((λi=>(a::L)[i]?==wz c)∘Nat.succ)=λi=>L[i]?==wz c:=by funext i;rfl
 rw[b];congr 1
def RO(x:â)(c:Nat):(occurrences x ⟨#[c]⟩ 0 x.length (x.length+1)).length=x.cps.toList.count c:=by
 rw[occ_eq,fT];rw[(A4 x c (x.length+1) (x.length+1-0) 0 (#[],0) (aN _) (aN _) cS)];have a:x.cps.toList.length=x.length:=by simp[h9]
 show 0+_=_;rw[QC,wG,<- List.range_eq_range',F2,List.countP_append,<- a,B6]
 have:([x.cps.toList.length].countP λi=>x.cps.toList[i]?==wz c)=0:=by
  rw[List.countP_singleton,eP (aN _)];rfl
 rw[this];rfl
noncomputable def jn(c:Nat):List (List Nat)->List Nat
|[]=>[]
|[p]=>p
|p::q::r=>p++c::jn c (q::r)
theorem zR(c:Nat):∀a,(y7 ⟨#[c]⟩ a).cps.toList=jn c (a.map (·.cps.toList))
|[]=>rfl
|[p]=>rfl
|p::q::r=>by
 have b:=zR c (q::r);show(p++⟨#[c]⟩++y7 ⟨#[c]⟩ (q::r)).cps.toList=_
 have app:∀x y:â,(x++y).cps.toList=x.cps.toList++y.cps.toList:=λx y=>by
  show(x.cps++y.cps).toList=_;simp
 rw[app,app,b,oJ]
 rfl
theorem ML(c:Nat):∀p r,(jn c (p::r)).count c=r.length+((p::r).map (V6 c)).sum
|p,[]=>by show p.count c=0+(p.count c+0);lia
|p,q::r=>by
 have a:=ML c q r;show(p++c::jn c (q::r)).count c=_;rw[List.count_append,List.count_cons_self,a];simp only[bA,bB,dY];lia
theorem ZW(c:Nat):∀p w r s,(∀l∈p::r,c∉l)->(∀l∈w::s,c∉l)->jn c (p::r)=jn c (w::s)->p::r=w::s
|p,w,[],[],_,_,h=>by
 have:p=w:=h;rw[this]
|p,w,[],q::s,h1,_,h=>by
 have e:p=w++c::jn c (q::s):=h;exact b8 (by rw[e];simp) (h1 p (aP ..))
|p,w,q::r,[],_,h2,h=>by
 have e:p++c::jn c (q::r)=w:=h;exact b8 (by rw[<- e];simp) (h2 w (aP ..))
|p,w,q::r,t::s,h1,h2,h=>by
 have e:=h;have d:=h1 p (aP ..);have hw:=h2 w (aP ..)
 have j:∀(p w a b:List Nat),c∉p->c∉w->p++c::a=w++c::b->p=w/\a=b:=λp=>by
  induction p with
  |nil=>
   intro w a b _ hw e
   cases w with
   |nil=>exact⟨gC,(e9 e).2⟩
   |cons y w=>exact b8 (by rw[(e9 e).1];exact aP ..) hw
  |cons x p n=>
   intro w a b d hw e
   cases w with
   |nil=>exact b8 (by rw[<- (e9 e).1];exact aP ..) d
   |cons y w=>
    obtain⟨f,g⟩:=e9 e;obtain⟨k,m⟩:=n w a b (λz=>d (aH _ z)) (λz=>hw (aH _ z)) g;exact⟨by rw[f,k],m⟩
 obtain⟨f,g⟩:=j p w _ _ d hw e;rw[f,(ZW c q t r s (λl i=>h1 l (aH _ i)) (λl i=>h2 l (aH _ i)) g)]
def xW(c:Nat)(E:c<256)(w:â)(e:List â)(h:∀x∈w::e,c∉x.cps.toList):Txt.split (Txt.join ⟨#[c]⟩ (w::e)) ⟨#[c]⟩=w::e:=by
 have ext:∀{x y:â},x.cps.toList=y.cps.toList->x=y:=λ{x y} h=>by
  cases x with
  |mk a=>
   cases y with
   |mk b=>
    have:a=b:=by simpa using d6 aLi h
    rw[this]
 have inj:∀{j g:List â},j.map (·.cps.toList)=g.map (·.cps.toList)->j=g:=λ{j}=>by
  induction j with
  |nil=>intro g h;cases g with | nil=>rfl | cons _ _=>cases h
  |cons x j A=>
   intro g h
   cases g with
   |nil=>cases h
   |cons y g=>
    rw[bB,bB]at h;obtain⟨k,p⟩:=e9 h;rw[ext k,A p]
 generalize H:Txt.join ⟨#[c]⟩ (w::e)=x
 have z:x.cps.toList=jn c ((w::e).map (·.cps.toList)):=by
  rw[<- H];show(glued _ _).cps.toList=_;rw[glued_eq_join,zR]
 have u:∀l∈(w::e).map (·.cps.toList),c∉l:=λl s=>by
  obtain⟨y,I,rfl⟩:=aR.mp s;exact h y I
 -- any list of parts that glues to x and has as many as there are cs and one
 have fin:∀(q:â)(qs:List â),glued ⟨#[c]⟩ (q::qs)=x->qs.length=x.cps.toList.count c->q::qs=w::e:=λq qs o hn=>by
  have i:x.cps.toList=jn c ((q::qs).map (·.cps.toList)):=by rw[<- o,glued_eq_join,zR]
  have r:=ML c q.cps.toList (qs.map (·.cps.toList));rw[<- bB (f:=λy:â=>y.cps.toList),<- i,aC,hn]at r;have J:(((q::qs).map (·.cps.toList)).map (V6 c)).sum=0:=by lia
  have v:∀l∈(q::qs).map (·.cps.toList),c∉l:=λl s F=>by
   have k:l.count c∈((q::qs).map (·.cps.toList)).map (V6 c):=aR.mpr ⟨l,s,gC⟩
   have p:∀(ns:List Nat),ns.sum=0->∀n∈ns,n=0:=λns=>by
    induction ns with
    |nil=>intro _ n hn;simp at hn
    |cons m ns A=>
     intro G n hn;rw[dY]at G;rcases aO.mp hn with rfl | hn
     ·lia
     ·exact A cS n hn
   have:=p _ J _ k;have:=List.count_pos_iff.mpr F;lia
  refine inj ?_;rw[bB,bB];refine ZW c _ _ _ _ v u ?_;rw[<- bB (f:=λy:â=>y.cps.toList),<- bB (f:=λy:â=>y.cps.toList),<- i,<- z]
 have t:x.cps.toList.length=x.length:=by simp[h9]
 unfold Txt.split;split
 ·next ou=>
  have hk:k8 ⟨#[c]⟩=1:=by
   unfold k8;rw[a9 (by simp[E])]
  rw[hk,qH,qv,qv]at ou
  have k:1<=k8 x:=by
   unfold k8;split
   ·lia
   ·split<;>lia
  have C:x.length=0:=by
   rcases ou with q | q
   ·have K:x.length<1:=q;lia
   ·lia
  refine fin x [] gC ?_;have:=oC.mp (by rw[t];exact C);rw[this];rfl
 ·split
  ·next hem=>
   refine fin x [] gC ?_;rw[<- RO];have:occurrences x ⟨#[c]⟩ 0 x.length (x.length+1)=[]:=by simpa using hem
   rw[this]
   rfl
  ·have d:=lh x (occurrences x ⟨#[c]⟩ 0 x.length (x.length+1)) (⟨#[c]⟩:â).length;have o:=glued_between_self x ⟨#[c]⟩ (x.length+1)
   cases B:partsBetween x (occurrences x ⟨#[c]⟩ 0 x.length (x.length+1)) (⟨#[c]⟩:â).length with
   |nil=>rw[B]at d;cases d
   |cons q qs=>
    rw[B]at d o;refine fin q qs o ?_;rw[<- RO];rw[bA]at d;lia
end TL
namespace L2
open PySem.Builtin.Str
section
variable{X:Cx}
theorem GN:∀l,fW ((l.map (·.1)).map V.str) (strValues l)
|[]=>.nil
|p::l=>.cons ⟨p.2,gC⟩ (GN l)
def XI:V->List V->Hp->VK->Prop:=λx a H Q=>∃z y,x=.str z/\a=[.str y]/\(y.length==0)=ww/\z.length<=100000/\∀p,H p=wy->Q (.ref p) (eY H p (.lst ((Txt.split z y).map V.str)))
def sT:NJ X "str.split" XI:=by
 intro d s w H x E v C Q I r p h;obtain⟨z,y,rfl,rfl,i,B,q⟩:=h;obtain⟨t,rfl⟩:=r;obtain⟨u,rfl,o⟩:=nU p;obtain⟨f,rfl⟩:=o;have A:bN=2^24:=rfl
 have fin:∀(l:List (â×Tok))(k:Nat),l.map (·.1)=Txt.split z y->l.length<=bN->EP X d w Q (.ref s.heap.objs.size) { s with toks:=k,heap:=s.heap.push { cls:=.type "list",data:=.seq (strValues l).toArray } }:=λl k j m=>by
  have c:=I.hok.fresh (aN _);refine⟨.ref s.heap.objs.size,eY H s.heap.objs.size (.lst ((Txt.split z y).map V.str)),I.laid (λb u e=>aD _ e) (aN _) ?_,gC,q _ c⟩;rw[<- j];exact⟨by rw[aC,aC];exact m,strValues l,0,GN l,aX _ gC⟩
 have g:=StrLaws.occ_length_le z y 0 z.length (z.length+1);have n:=lh z (occurrences z y 0 z.length (z.length+1)) y.length;cases a:(decide (z.length<y.length)||decide (strKind z<strKind y))
 ·cases c:(occurrences z y 0 z.length (z.length+1)).isEmpty
  ·refine q9 bj (z7 _ _ _) bd (ay _ _) (meets_str_split_sep z y t f a i c cS cS) ?_;rw[strsFrom_eq];refine fin (numbered s.toks _) _ ((numbered_texts _ _).trans ((a8 (cm a)).trans (a8 (cm c))).symm) ?_;have:=d6 jQ (numbered_texts s.toks (partsBetween z (occurrences z y 0 z.length (z.length+1)) y.length));rw[aC]at this;lia
  ·exact q9 bj (z7 _ _ _) bd (ay _ _) (meets_str_split_not_found z y t f a i c) (fin [(z,t)] _ ((a8 (cm a)).trans (a9 c)).symm (by show 1<=bN;decide))
 ·exact q9 bj (z7 _ _ _) bd (ay _ _) (meets_str_split_cannot_occur z y t f a) (fin [(z,t)] _ (a9 a).symm (by show 1<=bN;decide))
def XL(K:aF):V->List V->Hp->VK->Prop:=λx b H Q=>∃z p a,x=.str z/\b=[.ref p]/\rL K H p (a.map V.str)/\(a.map (·.length)).sum+a.length*z.length<=16777216/\Q (.str (Txt.join z a)) H
def ZF:NJ X "str.join" (XL X.K):=by
 intro a s o H x m v l Q I i r h;obtain⟨z,p,n,rfl,rfl,b,c,q⟩:=h;obtain⟨t,rfl⟩:=i;obtain⟨u,rfl,f⟩:=nU r;cases f;obtain⟨d,g,e,_⟩:=I.tuple b;exact PyProof.Rows.join_tuple e (by simpa using IJ g) c λj k=>⟨.str _,H,I.tok k,⟨j,gC⟩,q⟩
end
end L2
namespace TL
open L2
section
variable{X:Cx}{e:æ}{a:List æ}{b c:ET}{pos:Pos}
def lQ:FO X s (λ_ _=>False):=⟨λ_ _ _=>False,λ_ _ _ _ _ _ h=>h.elim,λ_ _ _ _ _ _ _ _ _ h _=>h.elim⟩
def Wo(z:â)(d:List D)(Q:D->Prop):Prop:=match d with | [.str y]=>(y.length==0)=ww/\z.length<=100000/\Q (.list ((Txt.split z y).map aK)) | _=>False
def sY(E:gK X n c)(C:wA X (e::a) t)
  (J:∀{v b},PE X n v->PA X (e::a) b->PE X (.Call (.Attribute n "split" ap) (e::a) [] pos) (QO X.K "str" XI v b)):gK X (.Call (.Attribute n "split" ap) (e::a) [] pos) (HL Wo c t):=by
 obtain⟨v,L,R⟩:=E;obtain⟨W,I,P⟩:=C;refine⟨_,J L I,λB m H r f w Q T o h k=>R B m H r f w _ _ o h λd x A j M i=>?_⟩;obtain⟨z,rfl,i⟩:=i;cases M;refine⟨gC,P B m A r f w _ _ (o.grow j) i λU Y S u N g=>?_⟩
 cases N with
 |nil=>exact g.elim
 |cons s O=>
  cases O with
  |cons _ _=>cases s<;>exact g.elim
  |nil=>
   cases s with
   |str y=>
    obtain⟨F,G,q⟩:=g;refine⟨z,y,gC,gC,F,G,λp l=>?_⟩;exact k _ _ _ (j.trans (u.trans (dN l))) (zD ((o.grow j).grow u).live l (xY _)) q
   |_=>exact g.elim
def Wn(z:â)(f:List D)(Q:D->Prop):Prop:=match f with | [.tuple ts]=>∃d,ts=d.map aK/\(d.map (·.length)).sum+d.length*z.length<=16777216/\Q (.str (Txt.join z d)) | _=>False
def aAm(g:gK X n c)(f:wA X (e::a) t)
  (j:∀{v b},PE X n v->PA X (e::a) b->PE X (.Call (.Attribute n "join" ap) (e::a) [] pos) (QO X.K "str" (XL X.K) v b)):gK X (.Call (.Attribute n "join" ap) (e::a) [] pos) (HL Wn c t):=
 A8 g f (λH u z p w Q o r h k=>by
  cases r with
  |nil=>exact h.elim
  |cons d l=>
   cases l with
   |cons _ _=>cases d<;>exact h.elim
   |nil=>
    cases d with
    |tuple q s=>
     obtain⟨m,rfl,i,h⟩:=h;have e:=sR s;subst e;exact⟨z,_,m,gC,gC,bG.seqT cA q,i,k _ _ H (L2.bG.refl H) (.str _) h⟩
    |_=>exact h.elim) j
end
section
def VI:d4 "sorted"=wz (.builtin "sorted"):=by decide +kernel
end
end TL
namespace L2
def FQ(K:aF)(cd:á):Prop:=∃c P,cd=.ref c/\tabA=wz P/\BS K c P=wx
def NK.okC{K}{mg:â->Option á}{st}{f:à}{c:iO}{N g:List â}{k:Nat}{i:Sp}(F:NK K x qual st f c)(S:bQ N g (aS st))(len:∀vs H Q E,i vs H Q E->vs.length=g.length)
  (b:∀a,c.code=a->∀A outer s H vs Q E,iE k (A.deeper (i9 qual (aS st) s.heap.objs.size f a))->i vs H Q E ->
   ∃t,BR (rW qA P w K mg base N qual (aS st) f a A outer s H E).nox (lB st) t/\t { nx:=λ_ j=>Q .non j,rt:=Q } (nW N vs) H):lW P w K mg base qA (k+1) f c g i:=by
 obtain⟨p,r,kV,l,u,an,a,ct,o,rfl,n,d⟩:=F.ex;refine Ci n d S len λA outer s H vs Q E m e=>?_;obtain⟨t,h,q⟩:=b a gC A outer s H vs Q E m e;exact⟨t,h.nox,q⟩
end L2
namespace TL
open L2
def Jc{K}{mg:â->Option á}{st}{f:à}{g:iO}{N pn:List â}{k:Nat}{l:NB}(L:FQ K g.code)(F:NK K x qual st f g)(S:bQ N pn (aS st))(len:∀c Q,l c Q->c.length=pn.length)
  (d:∀b,FQ K b->∀A outer s H E,iE k (A.deeper (i9 qual (aS st) s.heap.objs.size f b))->∀c Q,l c Q ->
   ∃t,xA (rW qA P w K mg base N qual (aS st) f b A outer s H E).nox (lB st) t/\t { nx:=λ_=>False,rt:=λ_=>False,ro:=Q } (kL N c)):lW P w K mg base qA (k+1) f g pn (iP K l):=by
 refine F.okC S (λvs H Q E h=>?_) λb i A outer s H vs Q E u h=>?_
 ·obtain⟨j,c,e,_,r,q,_⟩:=h;rw[<- r.length];exact len c e q
 ·obtain⟨j,c,e,live,r,q,k⟩:=h;obtain⟨t,⟨m,p,y⟩,h⟩:=d b (i▸L) A outer s H E u c e q;exact⟨m,p,y H j H j _ _ _ _ (qM live r) h ⟨λ_ _ _ _ _ _ a=>a.elim,λ_ _ _ _ _ _ a=>a.elim,λ_ _ _ _ _ _ a=>a.elim,λ_ _ _ _ _ a=>a.elim,λm p B n z o C v rs a=>k m p B n z o v rs a,λ_ _ _ _ _ _ _ _ _ _ _ _ _ _ _ _ _ _ a=>a.elim,λ_ _ _ _ _ _ _ _ _ _ _ _ _ _ a=>a.elim,e6⟩⟩
def Az(b:Int)(e:D)(k:Int):Prop:=∃q st top bot,e=.tuple [q,st,.tuple [.int top,.int bot]]/\Ay b bot/\P9 top (b / bot)/\k=top*(b / bot)
def Az.rep{K}{b k:Int}(h:Az b e k)(r:iK K H e x):GG K H b x k:=by
 obtain⟨q,st,top,bot,rfl,d,f,g⟩:=h
 cases r with
 |tuple m a=>
  cases a with
  |cons o a=>
   cases a with
   |cons p a=>
    cases a with
    |cons i a=>
     cases a
     cases i with
     |tuple n c=>
      cases c with
      |cons j c=>
       cases c with
       |cons l c=>
        cases c;cases j;cases l;exact⟨_,_,_,_,top,bot,gC,m,n,d,f,g⟩
theorem GG.mask{K}{b k:Int}(h:GG K (TL.ê H ps) b x k):GG K H b x k:=h.same λ_ _ e=>cA _ _ e
def Xn(g:Nat)(t:AT):FT:=λd Q=>t d λf=>∃(a:List D)(b:Int)(c:List Int),f=[.list a]/\a.length<64/\d[g]?=wz (.val (.int b))/\c.length=a.length/\(∀(i:Nat) e k,a[i]?=wz e->c[i]?=wz k->Az b e k) /\
 ∀J,SS.PY a.length (λi=>c.getD i 0) J->Q (J.map λi=>a.getD i .none)
def Z8{X:Cx}{ib:Nat}{k:Nat}(g:iE (k+3) X.A)(L:FQ X.K ci)(hc:X.env.code=ci)(m:X.N[ib]?=wz "bottom")(hk:X.env.kindOf "bottom"=wz .cell)
  (hg:Gl X "sorted") (hm:X.mg "sorted"=wy) (hv:d4 "sorted"=wz (.builtin "sorted")) (ha:wA X [e] t)
  (he:autoParam (j8 pos (bZ [e] X.env)=(ww,è e X.env)::j8 pos (bZ [] X.env)) zzz._auto_1)
  (w:autoParam ((j8 pos (bZ [e] X.env)).any (·.1)=false) zzz._auto_1) :
  SX X (.Call (.Name "sorted" np) [e] [⟨wz (d9 "key"),.Lambda (Gk ap) (.BinOp (.Subscript (.Subscript (.Name "entry" p1) (.Constant (.int 2) 0 p2) p3) (.Constant (.int 0) 0 p4) p5) .Mult (.BinOp (.Name "bottom" p6) .FloorDiv (.Subscript (.Subscript (.Name "entry" p7) (.Constant (.int 2) 0 p8) p9) (.Constant (.int 1) 0 C) q2) q3) q4) zQ lp,kp⟩] pos) (Xn ib t):=by
 obtain⟨c,P,rfl,Z,Y⟩:=L;obtain⟨ta,pa,ra⟩:=ha;refine⟨_,X9 g Z hc Y m hk hg hm hv pa he w,λB p0 H O G σ Q QV o h k=>ra B p0 H O G σ _ _ o h λds vs H1 s1 E C=>?_⟩;obtain⟨l,b,kz,rfl,a,hb,p,f,q⟩:=C;obtain⟨v,y,z⟩:=o.val ib _ hb;cases z
 cases E with
 |cons E r2=>
  cases r2
  cases E with
  |@list pp xv _ hs rs=>
   have s:=rs.length;refine⟨_,_,b,kz,gC,L2.bG.seq cA hs,by rw[<- s];exact a,y,by rw[p,s],λi x k0 hx n=>?_,λT S J r F g=>?_⟩
   ·obtain⟨d,hd,rd⟩:=rs.get' hx;exact GG.mask ((f i d k0 hd n).rep rd)
   ·rw[<- s]at F;have R:=s1.trans S;refine k _ r _ _ (R.trans (dN g)) (bG.free' R g) cD ?_ (q J F);rw[pE g]
    have:∀J:List Nat,(∀i∈J,i<l.length)->Reps X.K (TL.ê T O) (J.map λi=>l.getD i .none) (J.map λi=>xv.getD i .non):=by
     intro J I
     induction J with
     |nil=>exact .nil
     |cons j J ih=>
      refine .cons ?_ (ih λi hi=>I i (aH _ hi));have M:=I j (aP ..);obtain⟨u,U,W⟩:=(rs.same (cC S)).get (aJ M);show iK _ _ (l.getD j .none) (xv.getD j .non);rw[dQ,dQ,U,aJ M];exact W
    exact this J F.lt
end TL
namespace L2
noncomputable def On(K:aF)(cd:á)(P:à):Bool:=match cd with | .ref c=>BS K c P | _=>ww
def Xb{K cd}{P:à}(h:On K cd P=wx)(e:tabA=wz P):FQ K cd:=by
 cases cd with
 |ref c=>exact⟨c,P,gC,e,h⟩
 |_=>cases h
def aH4{h:ç}{c P:à}(C:aBd h c P)(e:h.get? P=wz { cls:=.none,data:=.fields #[] }):ak h P:=(C.tab e).isCodeTable
section
variable{X:Cx}{d:List (à×Obj)}{f:St}{H:Hp}{s:ã}{p q:à}
def WH(h:H p=wz u):eY H p u=H:=by
 funext b;by_cases e:b=p
 ·subst e;rw[cD,h]
 ·rw[bY e]
def LD:∀g h,TL.tR p q g->(∀o,g.get? p=wz o->h.get? p=wz o)->TL.tR p q h:=λg h ⟨a,b,c,i,j,l,n,e,r⟩ k=>⟨a,b,c,i,j,l,n,k _ e,r⟩
noncomputable def yV(q:à)(a b c:Int):HO:=.lst [.ref q,.int a,.int b,.int c]
def dI.openTape(I:dI X d f H s)(h:H p=wz (.ext (TL.tR p q))):∃a b c,0<=a/\(c=0\/c=1)/\dI X d f (eY H p (yV q a b c)) s:=by
 obtain⟨⟨a,b,c,j,k,l,n,e,g,i⟩,_⟩:=I.hok p _ h;exact⟨a,b,c,g,i,I.retold h (λr z=>by cases z) (λo v z=>by cases z) (λm z=>by cases z) (λa z=>by cases z) ⟨aB gC,_,n,.cons gC (.cons ⟨j,gC⟩ (.cons ⟨k,gC⟩ (.cons ⟨l,gC⟩ .nil))),e⟩⟩
def dI.closeTape{a b c:Int}(I:dI X d f H s)(h:H p=wz (yV q a b c))(g:0<=a)(i:c=0\/c=1):dI X d f (eY H p (.ext (TL.tR p q))) s:=by
 obtain⟨z,j,n,r,e⟩:=I.hok p _ h
 cases r with
 |cons k r=>cases r with
  |cons l r=>cases r with
   |cons m r=>cases r with
    |cons t r=>
     cases r;cases k;obtain⟨u,rfl⟩:=l;obtain⟨w,rfl⟩:=m;obtain⟨x,rfl⟩:=t;exact I.retold h (λA z=>by cases z) (λo v z=>by cases z) (λy z=>by cases z) (λa z=>by cases z) ⟨⟨a,b,c,u,w,x,n,e,g,i⟩,⟨_,e⟩,LD⟩
def aDi(i:Nat)(h:PE X e te):PE X e (λf H Q=>∃p q,f[i]?=wz (wz (.ref p))/\H p=wz (.ext (TL.tR p q))/\∀a b c,0<=a->(c=0\/c=1) ->
  te f (eY H p (yV q a b c)) λv g=>g=eY H p (yV q a b c)/\Q v H):=by
 intro d s f H Q I ⟨p,q,_,m,t⟩;obtain⟨a,b,c,k,l,o⟩:=I.openTape m;refine iZ (h d s f _ _ o (t a b c k l)) λu y x=>?_;obtain⟨v,g,n,r,e,w⟩:=x;subst e;have j:=n.closeTape cD k l;rw[C1,WH m]at j;exact⟨v,H,j,r,w⟩
def aDh(i:Nat)(h:PG X tg g):PG X tg (λv f H Q=>∃p q,f[i]?=wz (wz (.ref p))/\H p=wz (.ext (TL.tR p q))/\∀a b c,0<=a->(c=0\/c=1) ->
  g v f (eY H p (yV q a b c)) λj m=>(∃a b c,0<=a/\(c=0\/c=1)/\m=eY H p (yV q a b c))/\Q j H):=by
 intro d s f H v u Q I y ⟨p,q,_,o,w⟩;obtain⟨a,b,c,k,l,t⟩:=I.openTape o;refine iZ (h d s f _ v u _ t y (w a b c k l)) λ_ A z=>?_;obtain⟨j,m,r,⟨a,b,c,k,l,e⟩,x⟩:=z;subst e;have n:=r.closeTape cD k l;rw[C1,WH o]at n;exact⟨j,H,n,x⟩
def T6(h:PE X e te):PE X e (λf H Q=>te f H λv g=>∃p q a b c,v=.ref p/\g p=wz (yV q a b c)/\0<=a/\(c=0\/c=1)/\Q (.ref p) (eY g p (.ext (TL.tR p q)))):=by
 intro d s f H Q I l;refine iZ (h d s f H _ I l) λu o n=>?_;obtain⟨v,g,i,r,q⟩:=n;obtain⟨p,q,a,b,c,rfl,e,j,k,m⟩:=q;exact⟨.ref p,_,i.closeTape e j k,r,m⟩
end
end L2
namespace TL
open L2
section
variable{X:Cx}{a b c e:æ}{j:ET}{pos:Pos}
noncomputable def jY(ns:List Int):D:=.dict [(.none,.list (ns.map cI))]
def LS{K}{H:Hp}{ns:List Int}(r:iK K H (jY ns) v):∃p q,v=.ref p/\H p=wz (.ext (tR p q))/\nM K H q (ns.map V.int):=by
 unfold jY at r
 generalize f:(pM [(.none,.list (ns.map cI))])=d at r
 cases r with
 |@tape p q ms h g=>
  injection f with f;injection f with f;injection f with _ f;injection f with f
  have e:ns=ms:=by
   have:=d6 (aW1 λd:D=>match d with | .int i=>i | _=>0) f;simpa[bE,Function.comp_def]using this
  subst e;exact⟨p,q,gC,h,g⟩
 |_=>cases f
def My(i k:Nat):ET:=λd Q=>∃ns,d[i]?=wz (.val (jY ns))/\match k with
|0=>Q (.list (ns.map cI))
|1=>∀a,0<=a->Q (.int a)
|2=>∀b,Q (.int b)
|3=>∀c,(c=0\/c=1)->Q (.int c)
|_=>False
def zZ{i:Nat}(k:Nat)(w:PE X (.Subscript n ix pos) (yf (zj X.K) (nV i) (tC (.int k)))):gK X (.Subscript n ix pos) (My i k):=by
 refine⟨_,aDi i w,λB G H E F I Q l o h C=>?_⟩;obtain⟨ns,e,h⟩:=h;obtain⟨v,f,r⟩:=o.val i _ e;obtain⟨p,q,rfl,m,y⟩:=LS r;refine⟨p,q,f,cA _ _ m,λa b c t u=>⟨.ref p,f,?_⟩⟩
 have fin:∀(x:V)(d:D),atI [V.ref q,.int a,.int b,.int c] (k:Int)=wz x->iK X.K (ê H E) d x->Q d->zj X.K (.ref p) (.int (k:Int)) (eY H p (yV q a b c)) (λv g=>g=eY H p (yV q a b c)/\l v H):=λx d A z s=>
  .inl ⟨p,_,_,x,gC,gC,nM.of cD,A,gC,C d x H (L2.bG.refl H) z s⟩
 match k,h with
 |0,h=>exact fin _ _ gC (.list y (EX ns)) h
 |1,h=>exact fin _ _ gC (.int a) (h a t)
 |2,h=>exact fin _ _ gC (.int b) (h b)
 |3,h=>exact fin _ _ gC (.int c) (h c u)
def zC(i k:Nat)(j:ET):yO:=λg f=>j f λd=>(∃ns,f[i]?=wz (.val (jY ns)))/\(match k with | 1=>∃a,d=.int a/\0<=a | 2=>∃b,d=.int b | _=>False)/\g.nx f
def xV{i:Nat}{e}(k:Nat)(F:gK X e j)(G:PG X (.Subscript n ix p2) (Dv (nV i) (tC (.int k)) Go))
  (J:∀{v g},PE X e v->PG X (.Subscript n ix p2) g->PS X (.Assign [.Subscript n ix p2] e pos) (xU v g)):FO X (.Assign [.Subscript n ix p2] e pos) (zC i k j):=by
 obtain⟨v,K,L⟩:=F;refine⟨_,J K (aDh i G),λB I H w m A M N o h f=>?_⟩;refine L B I H w m A _ _ o h λd x O z y l=>?_;have u:=o.grow z;obtain⟨⟨ns,e⟩,hd,l⟩:=l;obtain⟨v,t,r⟩:=u.val i _ e;obtain⟨p,q,rfl,C,P⟩:=LS r;refine⟨p,q,t,cA _ _ C,λa b c E s=>⟨.ref p,t,?_⟩⟩;have nx:=f.nx _ w _ A u (cC z) l
 match k,hd with
 |1,⟨a',hd,ha'⟩=>
  subst hd;cases y;exact⟨p,_,_,1,gC,gC,cD,gC,⟨a',b,c,ha',s,C1⟩,nx⟩
 |2,⟨b',hd⟩=>
  subst hd;cases y;exact⟨p,_,_,2,gC,gC,cD,gC,⟨a,b',c,E,s,C1⟩,nx⟩
def Zk(t:FT):ET:=λf Q=>t f λd=>∃ns c,d=[.list (ns.map cI),.int 0,.int 0,.int c]/\(c=0\/c=1)/\Q (jY ns)
def U2(h:SX X e t):gK X e (Zk t):=by
 obtain⟨v,p,r⟩:=h;refine⟨_,T6 p,λB w H i f F Q I o h k=>r B w H i f F _ _ o h λJ p E G s g n rs q=>?_⟩;obtain⟨ns,c,rfl,m,q⟩:=q
 cases rs with
 |cons x rs=>cases rs with
  |cons y rs=>cases rs with
   |cons A rs=>cases rs with
    |cons C rs=>
     cases rs;cases y;cases A;cases C
     cases x with
     |@list l E _ hq hr=>
      have e:=sS hr;subst e;refine⟨p,l,0,0,c,gC,n,aTq 0,m,k (jY ns) _ _ (λb u d=>?_) (.tape (mO (iW o.live g) cD) (L2.bG.seq (λb u d=>?_) hq)) q⟩
      ·rw[bY λz=>by rw[z,g]at d;cases d];exact s b u d
      ·unfold ê at d |-
       by_cases hb:b∈p::i
       ·rw[a9 hb]at d;cases d
       ·rw[a8 hb]at d;rw[a8 λz=>hb (aH _ z),bY λz=>hb (by rw[z];exact aP ..)];exact d
end
section
variable{X:Cx}{e:æ}{a:List æ}{b:ET}{pos:Pos}
def Zs{K}{mg:â->Option á}{k:Nat}{f:à}{pn}{i d:NB}(F:lW P w K mg base qA k f fd pn (iP K i))(h:∀c Q,d c Q->i c Q):lW P w K mg base qA k f fd pn (iP K d):=
 F.imp λvs H Q E ⟨o,c,g,j,l,m,n⟩=>⟨o,c,g,j,l,h c g m,n⟩
inductive aE9:List æ->List â->Prop
|nil:aE9 [] []
|cons {z:â} {x1:Nat} {p:Pos} {a:List æ} {zs:List â}:aE9 a zs->aE9 (.Constant (.str z) x1 p::a) (z::zs)
def BO{a:List æ}{c:List â}(h:aE9 a c):wA X a (λ_ Q=>Q (c.map aK)):=by
 induction h with
 |nil=>exact aG
 |cons _ d=>exact aA bO d
def IK{i:Nat}(c:X.N.Nodup)(g:X.N[i]?=wz x)(k:VL X.env.scope x)(d:gK X e b)(j:autoParam (kP e (wz (.Name x pos')) pos.line X.env=pure false) zzz._auto_1)(f:autoParam (X.fn x=wx\/X.env.scope.names.lookup x=wz .local) zzw._auto_1) :
  FO X (.Assign [.Name x pos'] e pos) (LP i b):=W2 d λh=>nD c g k h j f
end
end TL
namespace L2
def Nj{h:ç}{a:à}(p:h.IsList a xs):a<h.objs.size:=by
 obtain⟨o,b,_⟩:=p;exact bF b
end L2
namespace TL
open L2
set_option genInjectivity false in
structure uE where
 I:Type
 S:Type
 ad:I->List à
 tau:I->D
 At:I->aF->Hp->List à->S->Prop
 to:∀{T:I}{K:aF}{H H':Hp}{ps t7:List à}{n:S},At T K H ps n->(∀a∈ad T,H' a=H a)->bG (ê H ps) (ê H' t7)->At T K H' t7 n
 liv:∀{T:I}{K:aF}{H:Hp}{ps:List à}{n:S},At T K H ps n->∀a∈ad T,AL (H a)
 inj:∀{T T':I},tau T=tau T'->T=T'
def iD(c:List à)(H b:Hp):Prop:=∀a o,a∉c->H a=wz o->b a=wz o
section
variable{K:aF}{H k w x B:Hp}{l g m:List à}{f:List Sl}{p:L2.St}
def iD.of(s:bG H k):iD m H k:=λa o _ e=>s a o e
def iD.refl:iD m H H:=λ_ _ _ e=>e
def iD.trans(s:iD m H w)(t:iD m w x):iD m H x:=λa o n e=>t a o n (s a o n e)
theorem iD.mask(c:∀a∈m,a∈g)(s:iD m H k):bG (ê H g) (ê k g):=λa o e=>by
 unfold TL.ê at e |-
 by_cases b:a∈g
 ·rw[a9 b]at e;cases e
 ·rw[a8 b]at e |-
  exact s a o (λz=>b (c a z)) e
def Ok.growZ(o:Ok K B l H g f p)(hp:∀a∈m,a∈l)(hB:∀a∈m,B a=wy)(s:iD m H k)(hl:∀a∈m,AL (k a)):Ok K B l k g f p where
 base:=λa u e=>s a u (λz=>by rw[hB a z]at e;cases e) (o.base a u e)
 sub:=o.sub
 live:=λq hq=>by
  by_cases e:q∈m
  ·exact hl q e
  ·obtain⟨u,h1,h2⟩:=o.live q hq;exact⟨u,s q u e h1,h2⟩
 len:=o.len
 val:=λi d h=>let ⟨v,h1,h2⟩:=o.val i d h;⟨v,h1,h2.same (s.mask λa z=>o.sub a (hp a z))⟩
 own:=λi ts h=>let ⟨q,xs,h1,h2,h3,h4,h5,h6⟩:=o.own i ts h;⟨q,xs,h1,h2,h3,h4,s q _ (λz=>h4 (hp q z)) h5,h6.same (s.mask λa z=>o.sub a (hp a z))⟩
 dis:=o.dis
 dc:=o.dc.to (λj hs kvs h=>⟨h,gC⟩) (λq φ a b c=>⟨a,(s q _ (λz=>c (hp q z)) b).trans b.symm⟩) (λq φ _ _ a b=>⟨a,b⟩) (s.mask λa z=>o.sub a (hp a z))
variable{F:uE}{T:F.I}{n y:F.S}
def uE.At.grow(t:F.At T K H g n)(s:bG H k):F.At T K k g n:=F.to t (λa c=>by
 obtain⟨u,b,_⟩:=F.liv t a c;rw[b];exact s a u b) (cC s)
structure oG(F:uE)(K:aF)(B:Hp)(l:List à)(H:Hp)(g:List à)(f:List Sl)(p:L2.St)(T:F.I)(n:F.S):Prop where
 ok:Ok K B l H g f p
 mem:∀a∈F.ad T,a∈l
 nb:∀a∈F.ad T,B a=wy
 tp:F.At T K H g n
def oG.mem'(o:oG F K B l H g f p T n):∀a∈F.ad T,a∈g:=λa h=>o.ok.sub a (o.mem a h)
theorem oG.grow(o:oG F K B l H g f p T n)(s:bG H k):oG F K B l k g f p T n:=⟨o.ok.grow s,o.mem,o.nb,o.tp.grow s⟩
def oG.growX(o:oG F K B l H g f p T n)(s:iD (F.ad T) H k)(t:F.At T K k g y):oG F K B l k g f p T y:=⟨o.ok.growZ o.mem o.nb s (F.liv t),o.mem,o.nb,t⟩
theorem oG.set(o:oG F K B l H g f p T n){i:Nat}(r:iK K (ê H g) d v):oG F K B l H g (f.set i (.val d)) (p.set i (wz v)) T n:=⟨o.ok.set r,o.mem,o.nb,o.tp⟩
end
section
variable{F:uE}
abbrev EZ(F:uE):=D->F.S->List Sl->(F.S->D->Prop)->Prop
abbrev AZ(F:uE):=D->F.S->List Sl->(F.S->List D->Prop)->Prop
abbrev TZ(F:uE):=D->F.S->List Sl->(F.S->Bool->Prop)->Prop
def uO(X:Cx)(e:æ)(t:EZ F):Prop:=∃h,PE X e h/\∀B j H c a i T n Q f,oG F X.K B j H c a i T n->t (F.tau T) n a Q ->
 (∀g d v b,iD (F.ad T) H b->F.At T X.K b c g->iK X.K (ê b c) d v->Q g d->f v b)->h i H f
def SY(X:Cx)(i:List æ)(t:AZ F):Prop:=∃g,PA X i g/\∀B j H c a h T n Q d,oG F X.K B j H c a h T n->t (F.tau T) n a Q ->
 (∀f e vs b,iD (F.ad T) H b->F.At T X.K b c f->Reps X.K (ê b c) e vs->Q f e->d vs b)->g h H d
def PZ(X:Cx)(e:æ)(t:TZ F):Prop:=∃h,PT X e h/\∀B j H g a i T n Q d,oG F X.K B j H g a i T n->t (F.tau T) n a Q ->
 (∀f b c,iD (F.ad T) H c->F.At T X.K c g f->Q f b->d b c)->h i H d
def yi(X:Cx)(e:æ)(t:TZ F):Prop:=∃h,PW X e h/\∀B j H g a i T n Q d,oG F X.K B j H g a i T n->t (F.tau T) n a Q ->
 (∀f b c,iD (F.ad T) H c->F.At T X.K c g f->Q f b->d b c)->h i H d
section
variable{X:Cx}{a b e:æ}{i:List æ}{j m C:EZ F}{pos:Pos}
def zE(t:ET):EZ F:=λ_ n c Q=>t c (Q n)
def lV(h:gK X e t):uO (F:=F) X e (zE t):=by
 obtain⟨v,p,r⟩:=h;exact⟨v,p,λB l H u c x T n Q g o h k=>r B l H u c x (Q n) g o.ok h λd v f s w q=>k n d v f (.of s) (o.tp.grow s) w q⟩
def zA(t:AT):AZ F:=λ_ n c Q=>t c (Q n)
def mW(h:wA X i t):SY (F:=F) X i (zA t):=by
 obtain⟨v,p,r⟩:=h;exact⟨v,p,λB l H u c x T n Q g o h k=>r B l H u c x (Q n) g o.ok h λd v f s w q=>k n d v f (.of s) (o.tp.grow s) w q⟩
def zT(t:vX):TZ F:=λ_ n c Q=>t c (Q n)
def pO(h:KQ X e t):PZ (F:=F) X e (zT t):=by
 obtain⟨v,p,r⟩:=h;exact⟨v,p,λB g H l c u T n Q f o h k=>r B g H l c u (Q n) f o.ok h λb d s q=>k n b d (.of s) (o.tp.grow s) q⟩
def yz(f:D->D->(D->Prop)->Prop)(j m:EZ F):EZ F:=λd n c Q=>j d n c λn1 x=>m d n1 c λg y=>f x y (Q g)
def zI{f:D->D->(D->Prop)->Prop}(R:AI X r f){J L:TE}
  (U:∀B t H l c p T n Q q,oG F X.K B t H l c p T n->j (F.tau T) n c Q->(∀s d v g,iD (F.ad T) H g->F.At T X.K g l s->iK X.K (ê g l) d v->Q s d->q v g)->J p H q)
  (hb:∀B t H l c p T n Q q,oG F X.K B t H l c p T n->m (F.tau T) n c Q->(∀s d v g,iD (F.ad T) H g->F.At T X.K g l s->iK X.K (ê g l) d v->Q s d->q v g)->L p H q)
  (B:Hp) (t:List à) (H:Hp) (l:List à) (c:List Sl) (p:L2.St) (T:F.I) (n:F.S) (Q:F.S->D->Prop) (q:VK) (o:oG F X.K B t H l c p T n) (h:yz f j m (F.tau T) n c Q) (k:∀s d v g,iD (F.ad T) H g->F.At T X.K g l s->iK X.K (ê g l) d v->Q s d->q v g):yf r J L p H q:=by
 refine U B t H l c p T n _ _ o h λn1 O x M E t1 r1 Y=>?_;have z:=o.growX E t1;refine hb B t M l c p T n1 _ _ z Y λw P y N u G r2 Z=>?_;exact R N l O P x y (Q w) q (z.growX u G).ok.live (r1.same (u.mask o.mem')) r2 Z λd v g A r' W=>k w d v g ((E.trans u).trans (.of A)) (G.grow A) r' W
def MR{f:D->D->(D->Prop)->Prop}(g:oE X (j9 op) r)(c:AI X r f)(d:uO X a j)(hb:uO X b m):uO X (.BinOp a op b pos) (yz f j m):=by
 obtain⟨o,h,l⟩:=d;obtain⟨p,k,n⟩:=hb;exact⟨_,LZ g h k,zI c l n⟩
def Ie{f:D->D->(D->Prop)->Prop}(h:oE X (c9 op) r)(c:AI X r f)(d:uO X a j)(hb:uO X b m)(g:autoParam (i3 op b=false) zzr._auto_1):uO X (.Compare a [op] [b] pos) (yz f j m):=by
 obtain⟨p,k,n⟩:=d;obtain⟨q,l,o⟩:=hb;exact⟨_,RB h k l g,zI c n o⟩
def Na{f:D->D->(D->Prop)->Prop}(g:hA X r)(c:AI X r f)(d:uO X a j)(hb:uO X b m)(h:autoParam (DJ b) zzq._auto_1):uO X (.Subscript a b pos) (yz f j m):=by
 obtain⟨p,k,n⟩:=d;obtain⟨q,l,o⟩:=hb;exact⟨_,uI g k l h,zI c n o⟩
def K6:AZ F:=λ_ n _ Q=>Q n []
def DN(t:EZ F)(r:AZ F):AZ F:=λd n c Q=>t d n c λn1 x=>r d n1 c λf g=>Q f (x::g)
def oA:SY (F:=F) X [] K6:=⟨_,mU,λ_ _ H _ _ _ _ _ _ _ o h k=>k _ _ _ H .refl o.tp .nil h⟩
def gB(t:uO X e C)(u:SY X i tr)(v:autoParam (bZ (e::i) X.env=(ww,è e X.env)::bZ i X.env) zzz._auto_1):SY X (e::i) (DN C tr):=by
 obtain⟨P,w,I⟩:=t;obtain⟨R,y,J⟩:=u;refine⟨_,gF w y v,λB f H g c q T n Q M o h k=>I B f H g c q T n _ _ o h λn1 d x r l K E z=>?_⟩;refine J B f r g c q T n1 _ _ (o.growX l K) z λO N S s p L G A=>?_;exact k _ _ _ s (l.trans p) L (.cons (E.same (p.mask o.mem')) G) A
def Mg(t:AZ F):EZ F:=λf n d Q=>t f n d λn1 c=>c.length<=1000/\Q n1 (.tuple c)
def Mo(t:AZ F):EZ F:=λf n d Q=>t f n d λn1 c=>c.length<=1000/\Q n1 (.list c)
def PB{t:AZ F}(h:SY X i t):uO X (.Tuple i x1 pos) (Mg t):=by
 obtain⟨v,p,r⟩:=h;refine⟨_,JF p,λB u H w d x T n Q z o h k=>r B u H w d x T n _ _ o h λn1 A E y l s g f=>⟨rJ (by rw[<- g.length];exact f.1),λq c=>?_⟩⟩;exact k _ _ _ _ (l.trans (.of (dN c))) (s.grow (dN c)) (rF (o.growX l s).ok.live c g) f.2
def Ig{t:AZ F}(h:SY X i t):uO X (.List i pos) (Mo t):=by
 obtain⟨v,p,r⟩:=h;refine⟨_,JG p,λB u H w d x T n Q z o h k=>r B u H w d x T n _ _ o h λn1 A E y l s g f=>⟨rJ (by rw[<- g.length];exact f.1),λq c=>?_⟩⟩;exact k _ _ _ _ (l.trans (.of (dN c))) (s.grow (dN c)) (zD (o.growX l s).ok.live c g) f.2
def Hi(f:List D->(D->Prop)->Prop)(t:AZ F):EZ F:=λg n d Q=>t g n d λn1 c=>f c (Q n1)
def Ce{r:List V->Hp->VK->Prop}{f:List D->(D->Prop)->Prop}{t:AZ F}(A:tH X r f)(z:SY X (e::i) t)(I:∀{j:TA},PA X (e::i) j->PE X (.Call g (e::i) [] pos) (WU r j)):uO X (.Call g (e::i) [] pos) (Hi f t):=by
 obtain⟨v,G,N⟩:=z;refine⟨_,I G,λB E H l c P T n Q x o h k=>N B E H l c P T n _ _ o h λn1 y O w q s M K=>?_⟩;exact A w l y O (Q n1) x (o.growX q s).ok.live M K λd v u p L J=>k n1 d v u (q.trans (.of p)) (s.grow p) L J
def vS{k:Nat}{f:à}{pn:List â}{c:kX}{x:â}{t:AZ F}(F:lW X.prog X.w X.K X.mg X.base qA k f fd pn (lN X.K c))(U:X.mg x=wz (.ref f))(hk:gS X.K (.ref f)=wx)(hb:qT X.K fd pn [])
  (W:iE k X.A) (z:SY X (e::i) t) (I:∀{j:TA},PA X (e::i) j->PE X (.Call (.Name x p) (e::i) [] pos) (GU (lN X.K c) [] E0 j)):uO X (.Call (.Name x p) (e::i) [] pos) (Hi c t):=by
 obtain⟨v,G,O⟩:=z;refine⟨_,I G,λB E H l g P T n Q S o h k=>O B E H l g P T n _ _ o h λn1 y Y R r s N L=>?_⟩;rw[eK];exact⟨l,y,Q n1,(o.growX r s).ok.live,N,L,λd v u q M J=>k n1 d v u (r.trans (.of q)) (s.grow q) M J⟩
abbrev wY(F:uE):=D->F.S->List D->(F.S->D->Prop)->Prop
def jG(K:aF)(l:wY F):Sp:=λvs H Q _=>∃c T n h g,(∀p∈c,AL (H p))/\(∀a∈F.ad T,a∈c)/\F.At T K H c n/\Reps K (ê H c) h vs/\l (F.tau T) n h g /\
 ∀k d v f,iD (F.ad T) H f->F.At T K f c k->iK K (ê f c) d v->g k d->Q v f
def Vo(f:wY F)(t:AZ F):EZ F:=λc n g Q=>t c n g λn1 d=>f c n1 d Q
def rK{k:Nat}{f:à}{fd:iO}{pn:List â}{q:wY F}{x:â}{t:AZ F}(w:SY X (e::i) t)(E:∀{j:TA},PA X (e::i) j->PE X (.Call (.Name x p) (e::i) [] pos) (GU (jG X.K q) [] E0 j)):uO X (.Call (.Name x p) (e::i) [] pos) (Vo q t):=by
 obtain⟨v,A,M⟩:=w;refine⟨_,E A,λB z H g c P T n Q S o h k=>M B z H g c P T n _ _ o h λn1 u U R l r L I=>?_⟩;rw[eK];exact⟨g,T,n1,u,Q,(o.growX l r).ok.live,o.mem',r,L,I,λy d v s N O J G=>k y d v s (l.trans N) O J G⟩
def Ek(t:EZ F):TZ F:=λd n c Q=>t d n c λn1 x=>match x with | .bool b=>Q n1 b | _=>False
def NR{f:D->D->(D->Prop)->Prop}(u:oE X (c9 op) r)(q:AI X r f)(s:uO X a j)(hb:uO X b m)(t:autoParam (i3 op b=false) zzr._auto_1):PZ X (.Compare a [op] [b] pos) (Ek (yz f j m)):=by
 obtain⟨O,z,I⟩:=s;obtain⟨P,A,J⟩:=hb;refine⟨_,Q5 u z A t,λB y H E g M T n Q N o h k=>?_⟩;refine zI q I J B y H E g M T n (λn1 x=>match x with | .bool b=>Q n1 b | _=>False) _ o h λw d v p K L G l=>?_
 cases G with
 |bool c=>exact⟨c,gC,k w c p K L l⟩
 |_=>exact l.elim
variable{l z:TZ F}{jE:List æ}
def Vq(t:TZ F):TZ F:=λd n c Q=>t d n c λn1 b=>Q n1 (!b)
def Vm(t u:TZ F):TZ F:=λd n c Q=>t d n c λn1 b=>if b=wx then u d n1 c Q else Q n1 ww
def L1(t u:TZ F):TZ F:=λd n c Q=>t d n c λn1 b=>if b=wx then Q n1 wx else u d n1 c Q
def NQ(h:PZ X a l):PZ X (.UnaryOp .Not a pos) (Vq l):=by
 obtain⟨v,p,r⟩:=h;exact⟨_,XY p,λB f H g c u T n Q w o h k=>r B f H g c u T n _ _ o h λn1 b d s t q=>k _ _ d s t q⟩
def WD(h:yi X e l):PZ X e l:=by
 obtain⟨v,p,r⟩:=h;exact⟨_,p.pt,r⟩
def QH(h:PZ X a l):yi X (.BoolOp .And [a] pos) l:=by
 obtain⟨v,p,r⟩:=h;exact⟨_,Q4 p,r⟩
def Yr(h:PZ X a l):yi X (.BoolOp .Or [a] pos) l:=by
 obtain⟨v,p,r⟩:=h;exact⟨_,XS p,r⟩
def WE(v:PZ X a l)(hb:yi X (.BoolOp .And (b::jE) pos) z):yi X (.BoolOp .And (a::b::jE) pos) (Vm l z):=by
 obtain⟨L,x,E⟩:=v;obtain⟨M,y,G⟩:=hb;refine⟨_,XT x y,λB p H q d t T n Q K o h k=>E B p H q d t T n _ _ o h λn1 c g f s r=>?_⟩
 cases c with
 |true=>exact G B p g q d t T n1 Q _ (o.growX f s) r λw b u I J A=>k w b u (f.trans I) J A
 |false=>exact k _ _ g f s r
def Vl(v:PZ X a l)(hb:yi X (.BoolOp .Or (b::jE) pos) z):yi X (.BoolOp .Or (a::b::jE) pos) (L1 l z):=by
 obtain⟨L,x,E⟩:=v;obtain⟨M,y,G⟩:=hb;refine⟨_,Hr x y,λB p H q d t T n Q K o h k=>E B p H q d t T n _ _ o h λn1 c g f s r=>?_⟩
 cases c with
 |true=>exact k _ _ g f s r
 |false=>exact G B p g q d t T n1 Q _ (o.growX f s) r λw b u I J A=>k w b u (f.trans I) J A
end
end
section
variable{F:uE}
section
variable{K:aF}{H B:Hp}{a b:List à}{c:List Sl}{d:L2.St}{T:F.I}{n:F.S}
def oG.with(o:oG F K B a H b c d T n)(e:Ok K B a H b n8 u4):oG F K B a H b n8 u4 T n:=⟨e,o.mem,o.nb,o.tp⟩
end
set_option genInjectivity false in
structure NE(F:uE) where
 nx:F.S->List Sl->Prop
 rt:F.S->D->Prop
 bk:F.S->List Sl->Prop:=λ_ _=>False
 ct:F.S->List Sl->Prop:=λ_ _=>False
 xB:Hp->List à->Prop:=λ_ _=>True
abbrev SZ(F:uE):=D->NE F->F.S->List Sl->Prop
structure HV(F:uE)(K:aF)(B:Hp)(p0:List à)(H:Hp)(ps:List à)(T:F.I)(DC:NE F)(DV:aBb):Prop where
 nx:∀H' t7 n8 u4 n',oG F K B p0 H' t7 n8 u4 T n'->bG (ê H ps) (ê H' t7)->DC.nx n' n8->DV.nx u4 H'
 bk:∀H' t7 n8 u4 n',oG F K B p0 H' t7 n8 u4 T n'->bG (ê H ps) (ê H' t7)->DC.bk n' n8->DV.bk u4 H'
 ct:∀H' t7 n8 u4 n',oG F K B p0 H' t7 n8 u4 T n'->bG (ê H ps) (ê H' t7)->DC.ct n' n8->DV.ct u4 H'
 rt:∀n' d v H',bG B H'->F.At T K H' p0 n'->iK K (ê H' p0) d v->DC.rt n' d->DV.rt v H'
 xb:DC.xB B p0
def yM(X:Cx)(st:é)(t:SZ F):Prop:=∃f,PS X st f/\∀B d H e a g T n b c,oG F X.K B d H e a g T n->t (F.tau T) b n a->HV F X.K B d H e T b c->f c g H
def vZ(X:Cx)(st:List é)(t:SZ F):Prop:=∃f,BR X st f/\∀B d H e a g T n b c,oG F X.K B d H e a g T n->t (F.tau T) b n a->HV F X.K B d H e T b c->f c g H
section
variable{K:aF}{H c B:Hp}{g k:List à}{l:List Sl}{m:L2.St}{T:F.I}{n:F.S}
def HV.later(f:HV F K B g H k T DC DV)(e:bG (ê H k) (ê c t7)):HV F K B g c t7 T DC DV:=
 ⟨λ_ _ _ _ _ o s q=>f.nx _ _ _ _ _ o (e.trans s) q,λ_ _ _ _ _ o s q=>f.bk _ _ _ _ _ o (e.trans s) q,λ_ _ _ _ _ o s q=>f.ct _ _ _ _ _ o (e.trans s) q,f.rt,f.xb⟩
noncomputable def B4(B:Hp)(b:List à)(H:Hp):Hp:=λa=>if a∈b then H a else B a
def JX{a:à}(h:a∈as):B4 B as H a=H a:=a9 h
def pG{a:à}(h:a∉as):B4 B as H a=B a:=a8 h
def BE(h:∀a∈as,B a=wy):bG B (B4 B as H):=λa u e=>by
 rw[pG λz=>by rw[h a z]at e;cases e];exact e
def oG.up(o:oG F K B g H k l m T n):Ok K (B4 B (F.ad T) H) g H k l m where
 base:=λa u e=>by
  by_cases z:a∈F.ad T
  ·rw[JX z]at e;exact e
  ·rw[pG z]at e;exact o.ok.base a u e
 sub:=o.ok.sub
 live:=o.ok.live
 len:=o.ok.len
 val:=o.ok.val
 own:=λi ts h=>let ⟨q,xs,h1,h2,h3,h4,h5,h6⟩:=o.ok.own i ts h;⟨q,xs,h1,h2,by rw[pG λz=>h4 (o.mem q z)];exact h3,h4,h5,h6⟩
 dis:=o.ok.dis
 dc:=o.ok.dc.to (λj hs kvs h=>⟨h,gC⟩) (λq φ a b _=>⟨a,gC⟩) (λq φ _ _ a b=>⟨by rw[pG λz=>b (o.mem q z)];exact a,b⟩) (L2.bG.refl _)
def oG.down(o:oG F K B g H k l m T n)(o':Ok K (B4 B (F.ad T) H) g c t7 n8 u4)(s:bG (ê H k) (ê c t7)):oG F K B g c t7 n8 u4 T n where
 ok:=⟨(BE o.nb).trans o'.base,o'.sub,o'.live,o'.len,o'.val,λi ts h=>let ⟨q,xs,h1,h2,h3,h4,h5,h6⟩:=o'.own i ts h;⟨q,xs,h1,h2,bG.free' (BE o.nb) h3,h4,h5,h6⟩,o'.dis,o'.dc.to (λj hs kvs h=>⟨h,gC⟩) (λq φ a b _=>⟨a,gC⟩) (λq φ _ _ a b=>⟨bG.free' (BE o.nb) a,b⟩) (L2.bG.refl _)⟩
 mem:=o.mem
 nb:=o.nb
 tp:=F.to o.tp (λa ha=>by
  obtain⟨u,e,_⟩:=F.liv o.tp a ha;rw[e];exact o'.base a u (by rw[JX ha];exact e)) s
def aAc{p:NE F}(o:oG F K B g H k l m T n)(f:HV F K B g H k T p DV):P5 K (B4 B (F.ad T) H) g H k { nx:=p.nx n,rt:=λ_=>False,bk:=p.bk n,ct:=p.ct n } DV:=
 ⟨λc e a h j i b=>f.nx c e a h n (o.down j i) i b,λc e a h j i b=>f.bk c e a h n (o.down j i) i b,λc e a h j i b=>f.ct c e a h n (o.down j i) i b,
  λd v c i q b=>b.elim,
  λ_ _ _ _ _ _ _ _ _ b=>b.elim,λ_ _ _ _ _ _ _ _ _ _ _ _ _ _ _ _ _ _ b=>b.elim,λ_ _ _ _ _ _ _ _ _ _ _ _ _ _ b=>b.elim,e6⟩
end
section
variable{X:Cx}{a b c e:æ}{l:List æ}{j:EZ F}{pos:Pos}{st:é}{jE:List é}{t u:SZ F}
def zP(t:yO):SZ F:=λ_ d n f=>t { nx:=d.nx n,rt:=λ_=>False,bk:=d.bk n,ct:=d.ct n } f
def mL{t}(h:FO X st t):yM (F:=F) X st (zP t):=by
 obtain⟨m,p,r⟩:=h;refine⟨m,p,λB i H k d q T n s g o h f=>?_⟩;exact r _ i H k d q _ g o.up h (aAc o f)
def WB:SZ F:=λ_ d n f=>d.nx n f
def xR(t u:SZ F):SZ F:=λf d n g=>t f { d with nx:=u f d } n g
def iH:vZ (F:=F) X [] WB:=⟨_,Q6,λB p H g d i T n k m o h f=>f.nx H g d i n o (L2.bG.refl _) h⟩
def cJ(s:yM X st t)(v:vZ X jE u):vZ X (st::jE) (xR t u):=by
 obtain⟨L,y,E⟩:=s;obtain⟨J,z,G⟩:=v;refine⟨_,mZ y z,λB q H A p K T n g i o h f=>E B q H A p K T n { g with nx:=u (F.tau T) g } { i with nx:=J i } o h ⟨λr k d m w x I C=>?_,f.bk,f.ct,f.rt,f.xb⟩⟩;exact G B q r k d m T w g i x C (f.later I)
def dL(d:yM X st t):vZ X [st] t:=by
 obtain⟨h,f,g⟩:=d;exact⟨_,C6 f,g⟩
def Mc(j:EZ F):SZ F:=λg d n f=>j g n f d.rt
def iG(h:uO X e j):yM X (.Return (wz e) pos) (Mc j):=by
 obtain⟨v,p,r⟩:=h;refine⟨_,A2 p,λB q H s g A T n C E o h f=>r B q H s g A T n _ _ o h λm d x k z i y w=>?_⟩;exact f.rt m d x k (o.growX z i).ok.base (F.to i (λ_ _=>rfl) (gY o.ok.sub)) (y.same (gY o.ok.sub)) w
def yk(c:TZ F)(t u:SZ F):SZ F:=λf g n d=>c f n d λn1 b=>if b=wx then t f g n1 d else u f g n1 d
def jO{c a b}(y:PZ X c tc)(x:vZ X a t)(hb:vZ X b u):yM X (.If c a b pos) (yk tc t u):=by
 obtain⟨M,C,I⟩:=y;obtain⟨K,z,E⟩:=x;obtain⟨L,A,G⟩:=hb;refine⟨_,Hq C z A,λB i H k g m T n p q o h f=>I B i H k g m T n _ _ o h λn1 d r w J v=>?_⟩;have s:=o.growX w J;have f1:=f.later (w.mask o.mem')
 cases d with
 |true=>exact E B i r k g m T n1 p q s v f1
 |false=>exact G B i r k g m T n1 p q s v f1
def Af(i:Nat)(j:EZ F):SZ F:=λh g n f=>j h n f λn1 d=>g.nx n1 (f.set i (.val d))
def tS{i:Nat}(h:uO X e j)(g:∀{v},PE X e v->PS X (.Assign [.Name x pos'] e pos) (xU v (lS i))):yM X (.Assign [.Name x pos'] e pos) (Af i j):=by
 obtain⟨v,p,r⟩:=h;refine⟨_,g p,λB y H m k E T n G I o h f=>r B y H m k E T n _ _ o h λw d x s q C A z=>?_⟩;exact f.nx s m _ _ w ((o.growX q C).set A) (q.mask o.mem') z
def Mi(q:IT)(g:GT)(p:SZ F):SZ F:=λr f n o=>q o λi=>∃P:Nat->F.S->List Sl->Prop,P 0 n o /\
 (∀k m x d,i[k]?=wz x->P k m d->g x d λh=>p r { f with nx:=P (k+1),ct:=P (k+1),bk:=f.nx } m h)/\∀m d,P i.length m d->f.nx m d
def Ya{iter}{tb:SZ F}(he:P0 X tg iter ti)(hg:P2 X tg g)(hb:vZ X body tb)
  (pf:∀{wi:TI}{gv:TG}{bv:TS},PI X tg iter wi->PG X tg gv->BR X body bv->PS X (.For tg iter body [] pos) (Bz wi gv bv)):yM X (.For tg iter body [] pos) (Mi ti g tb):=by
 obtain⟨ve,pe,re⟩:=he;obtain⟨gv,pg,rg⟩:=hg;obtain⟨vb,pb,rb⟩:=hb;refine⟨_,pf pe pg pb,λB G H U R σ T n DC DV o h f=>re B G H U R σ _ _ o.ok h λO J H1 s1 rj q1=>?_⟩;obtain⟨P,h0,hs,hd⟩:=q1;refine⟨λi m r v=>m=O.length-i/\i<=O.length/\∃c p d,oG F X.K B G v p d r T c/\bG (ê H1 U) (ê v p)/\P i c d,⟨_,gC,cP _,n,U,R,o.grow s1,L2.bG.refl _,h0⟩,?_⟩;rintro i m r v ⟨rfl,lg,c,p,d,o',W,p'⟩;have sH:=W.trans cA;have f':=f.later ((cC s1).trans W);by_cases x:i<O.length
 ·refine .inr ⟨rj.go i v sH x,λQ w=>∃c2 I s,oG F X.K B G w I s Q T c2/\bG (ê H1 U) (ê w I)/\P (i+1) c2 s,λQ w z=>⟨O.length-(i+1),cS,gC,x,z⟩,λy w km=>?_⟩;obtain⟨s2,dx,hx,rx⟩:=rj.yld i v p y w o'.ok.live W x km;have Z:=f'.later (cC s2);have M:=W.trans (cC s2);have o2:=o'.grow s2;refine rg B G w p d r dx y _ _ o2.ok rx (hs i c dx d hx p') λS nj o3 _ q3=>?_;exact rb B G w p S nj T c _ _ (o2.with o3) q3 ⟨λY q k A C E N L=>⟨C,q,k,E,M.trans N,L⟩,λY q k A C E N L=>Z.nx Y q k A C E N L,λY q k A C E N L=>⟨C,q,k,E,M.trans N,L⟩,Z.rt,Z.xb⟩
 ·obtain rfl:i=O.length:=by lia
  exact .inl ⟨rj.stop _ v sH (aN _),f'.nx v p d r c o' (L2.bG.refl _) (hd c d p')⟩
noncomputable def jM(H:Hp)(d:List à):Hp:=λa=>if a∈d then wy else H a
def R6{mg:â->Option á}{K st}{f:à}{N pn:List â}{k:Nat}{W:wY F}(Fn:NK K x qual st f fd)(S:bQ N pn (aS st))
  (y:∀{m}{A:d8}{outer}{s:ã}{H E},iE k (A.deeper (i9 qual (aS st) s.heap.objs.size f m))->N.Nodup->∀(Y:F.I)(n:F.S)(g:List D)(Q:F.S->D->Prop),W (F.tau Y) n g Q ->
   ∃t,vZ (rW qA P w K mg base N qual (aS st) f m A outer s H E).nox (lB st) t/\t (F.tau Y) { nx:=λn _=>Q n .none,rt:=Q } n (kL N g)) (len:∀τ n g Q,W τ n g Q->g.length=pn.length:=by intro τ n g Q h;(repeat obtain⟨_,h⟩:=h)<;>subst_vars<;>rfl):lW P w K mg base qA (k+1) f fd pn (jG K W):=by
 refine Fn.ok S (λvs H Q E h=>?_) λm A outer s H vs Q E hr h=>?_
 ·obtain⟨z,T,n,g,L,_,_,_,r,q,_⟩:=h;rw[<- r.length];exact len _ _ g L q
 ·obtain⟨z,T,n,g,L,live,hp,tp,r,q,k⟩:=h;obtain⟨t,⟨ts,p,rd⟩,h⟩:=y hr S.nd T n g L q;have o:=qM (N:=N) live r
  have O:∀(i:Nat)(J:List D),(kL N g)[i]?≠wz (.own J):=λi J e=>by
   obtain⟨q,_,_,_,M,_,G,_⟩:=o.own i J e;rw[M]at G;cases G
  have sW:bG (jM H (F.ad T)) H:=λa u e=>by
   unfold jM at e;split at e
   ·cases e
   ·exact e
  have Z:∀{C:Hp},bG (jM H (F.ad T)) C->iD (F.ad T) H C:=λs a u ne e=>s a u (by unfold jM;rw[a8 ne];exact e)
  have o2:Ok K (jM H (F.ad T)) z H z (kL N g) (L2.nW N vs):=⟨sW,o.sub,o.live,o.len,o.val,λi J e=>b8 e (O i J),o.dis,λi hs kvs e=>by
   obtain⟨⟨q,l,_,_,M,_,G,_⟩,_⟩:=o.dc i hs kvs e;rw[M]at G;cases G⟩
  have o3:oG F K (jM H (F.ad T)) z H z (kL N g) (L2.nW N vs) T n:=⟨o2,hp,λa ha=>a9 ha,tp⟩;refine⟨ts,p,rd _ z H z _ _ T n _ _ o3 h ⟨λC t7 n8 u4 R U s' B=>?_,λ_ _ _ _ _ _ _ B=>B.elim,λ_ _ _ _ _ _ _ B=>B.elim,λR d v C s' t' r' B=>k R d v C (Z s') t' r' B,e6⟩⟩;exact k R _ _ C (Z U.ok.base) (F.to U.tp (λ_ _=>rfl) (gY U.ok.sub)) .none B
end
end
end TL
namespace L2
section
variable{c:Type}[DecidableEq c]
noncomputable def sI(kvs:List (c×V))(k:c):Option V:=(kvs.find? λkv=>decide (kv.1=k)).map (·.2)
noncomputable def vI(kvs:List (c×V))(k:c)(v:V):List (c×V):=
 if(kvs.any λkv=>decide (kv.1=k))=wx then kvs.map (λkv=>if kv.1=k then(kv.1,v)else kv)else kvs++[(k,v)]
noncomputable def lH(kvs:List (c×V))(k:c):List (c×V):=kvs.filter λkv=>decide (kv.1≠k)
def DP{p:c×V}{k}(e:p.1=k):sI (p::r) k=wz p.2:=by simp[sI,kC,e]
def DQ{p:c×V}{k}(e:¬p.1=k):sI (p::r) k=sI r k:=by simp[sI,kC,e]
theorem K9(k:c):∀kvs,(kvs.any λkv=>decide (kv.1=k))=(sI kvs k).isSome
|[]=>rfl
|p::r=>by
 rw[kJ];by_cases e:p.1=k
 ·simp only[DP e,b7 e,aLl,S5]
 ·rw[DQ e,c6 e,aK2];exact K9 k r
def vO(kvs:List (c×V))(k:c)(v:V):(vI kvs k v).length<=kvs.length+1:=by
 unfold vI;split
 ·rw[aC];lia
 ·rw[aW,bA,wJ];lia
def wZ.isSome_eq{o:Option V}{u:Option á}(r:wZ o u):o.isSome=u.isSome:=by
 cases o with
 |none=>cases u with
  |none=>rfl
  |some _=>exact(show False from r).elim
 |some _=>cases u with
  |none=>exact(show False from r).elim
  |some _=>rfl
def KV.val(r:KV kvs vs)(k:c):wZ (sI kvs k) (ey vs k):=by
 induction r with
 |nil=>exact e6
 |@cons p q ps qs h t ih=>
  obtain⟨d,f⟩:=h;by_cases e:p.1=k
  ·have a:=d.symm.trans e;have b:ey (q::qs) k=wz q.2:=by simp[ey,kC,a]
   rw[DP e,b];exact f
  ·have a:¬q.1=k:=λz=>e (d.trans z);have b:ey (q::qs) k=ey qs k:=by simp[ey,kC,a]
   rw[DQ e,b];exact ih
theorem KV.any{kvs:List (c×V)}{vs:List (c×á)}(r:KV kvs vs)(k:c):(kvs.any λkv=>decide (kv.1=k))=vs.any λkv=>decide (kv.1=k):=by
 induction r with
 |nil=>rfl
 |cons h t a=>rw[kJ,kJ,a,h.1]
def KV.repl{kvs:List (c×V)}{vs:List (c×á)}(r:KV kvs vs)(k:c)(d:fQ y u) :
  KV (kvs.map λkv=>if kv.1=k then(kv.1,y)else kv) (vs.map λkv=>if kv.1=k then(kv.1,u)else kv):=by
 induction r with
 |nil=>exact .nil
 |@cons p q ps qs h t ih=>
  rw[bB,bB];refine .cons ?_ ih;obtain⟨a,b⟩:=h;by_cases e:p.1=k
  ·rw[a9 e,a9 (a.symm.trans e)];exact⟨a,d⟩
  ·rw[a8 e,a8 (λz=>e (a.trans z))];exact⟨a,b⟩
def KV.put(r:KV kvs vs)(k:c)(a:fQ y u):KV (vI kvs k y) (stored vs k u):=by
 unfold vI stored;rw[r.any k];by_cases e:(vs.any λkv=>decide (kv.1=k))=wx
 ·rw[a9 e,a9 e];exact r.repl k a
 ·rw[a8 e,a8 e];exact Paired.snoc r ⟨gC,a⟩
def KV.drop(r:KV kvs vs)(k:c):KV (lH kvs k) (without vs k):=by
 unfold lH without
 induction r with
 |nil=>exact .nil
 |@cons p q ps qs h t ih=>
  obtain⟨d,g⟩:=h;rw[cW,cW];by_cases e:p.1=k
  ·have a:¬decide (p.1≠k)=true:=by simp[e]
   have b:¬decide (q.1≠k)=true:=by simp[d.symm.trans e]
   rw[a8 a,a8 b];exact ih
  ·have f:¬q.1=k:=λz=>e (d.trans z);have a:decide (p.1≠k)=true:=by simp[e]
   have b:decide (q.1≠k)=true:=by simp[f]
   rw[a9 a,a9 b];exact .cons ⟨d,g⟩ ih
theorem KV.length{kvs:List (c×V)}{vs:List (c×á)}(r:KV kvs vs):kvs.length=vs.length:=y4 r
def aAr(kvs:List (c×V))(k:c):(lH kvs k).length<=kvs.length:=bW _ _
end
def HB{k}(r:fQ (kV k) u):(jF P w).is k u=true:=by
 cases k with
 |inl i=>obtain⟨t,e⟩:=(show∃t,u=m5 i t from r);subst e;exact MB P w i t
 |inr x=>obtain⟨t,e⟩:=(show∃t,u=y0 x t from r);subst e;exact MA P w x t
theorem HC:∀{a:List mX}{us},fW (a.map kV) us->ItemsAre (jF P w) a us
|[],_,r=>by rw[mY]at r;cases r;exact .nil
|k::a,_,r=>by
 rw[bB]at r
 cases r with
 |cons h t=>exact .cons (HB h) (HC t)
abbrev KT(H:Hp):List (List mX×V)->List (List mX×à×á)->Prop:=Paired λp q=>p.1=q.1/\H q.2.1=wz (.tup (p.1.map kV))/\fQ p.2 q.2.2
def KT.val(r:KT H kvs xs)(k:List mX):wZ (sI kvs k) ((iy xs k).map (·.2)):=by
 induction r with
 |nil=>exact e6
 |@cons p q ps qs h t ih=>
  obtain⟨c,_,d⟩:=h;by_cases e:p.1=k
  ·have a:=c.symm.trans e;have b:iy (q::qs) k=wz q.2:=by simp[iy,kC,a]
   rw[DP e,b];exact d
  ·have a:¬q.1=k:=λz=>e (c.trans z);have b:iy (q::qs) k=iy qs k:=by simp[iy,kC,a]
   rw[DQ e,b];exact ih
def KT.repl{kvs:List (List mX×V)}{c:List (List mX×à×á)}(r:KT H kvs c)(k:List mX)(f:fQ y u) :
  KT H (kvs.map λkv=>if kv.1=k then(kv.1,y)else kv) (c.map (putAt k u)):=by
 induction r with
 |nil=>exact .nil
 |@cons p q ps qs h t ih=>
  rw[bB,bB];refine .cons ?_ ih;obtain⟨a,b,d⟩:=h;unfold putAt;by_cases e:p.1=k
  ·rw[a9 e,a9 (a.symm.trans e)];exact⟨a,b,f⟩
  ·rw[a8 e,a8 (λz=>e (a.trans z))];exact⟨a,b,d⟩
def KT.put(r:KT H kvs xs)(k:List mX){b:à}(hb:H b=wz (.tup (k.map kV)))(a:fQ y u) :
  KT H (vI kvs k y) (storedH xs k b u):=by
 have e:(kvs.any λkv=>decide (kv.1=k))=(iy xs k).isSome:=by
  rw[K9,(r.val k).isSome_eq,VP]
 unfold vI storedH;rw[e];by_cases q:(iy xs k).isSome=wx
 ·rw[a9 q,a9 q];exact r.repl k a
 ·rw[a8 q,a8 q];exact Paired.snoc r ⟨gC,hb,a⟩
def KT.keeps{H a:Hp}(r:KT H kvs xs)(d:∀b c,H b=wz (.tup c)->a b=wz (.tup c)):KT a kvs xs:=
 Paired.mapP r λ_ _ z=>⟨z.1,d _ _ z.2.1,z.2.2⟩
section
variable{P:cV}{w:f7}{H:Hp}{h:ç}{a:à}
def Gs(ok:pZ P w H h)(e:Rd H a u):jC P w H h a u:=e.ok ok
def MU{kvs:List (mX×V)}(ok:pZ P w H h)(e:Rd H a (.dK kvs)):kvs.length<=bN/\(a==l4)=ww/\∃vs,KV kvs vs/\h.DictOf (jF P w) a vs:=
 show jC P w H h a (.dK kvs)from Gs ok e
def FD{kvs:List (mX×V)}(ok:pZ P w H h)(e:H a=wz (.dK kvs)):kvs.length<=bN/\(a==l4)=ww/\∃vs,KV kvs vs/\h.DictOf (jF P w) a vs:=MU ok (.inl e)
def JW{c:List mX}(ok:pZ P w H h)(e:H a=wz (.tup (c.map kV))):(cx (jF P w)).is h c a:=by
 obtain⟨_,b,r,o,d,f,n,g,_⟩:=(show jC P w H h a (.tup (c.map kV))from ok a _ e);exact⟨o,b.toArray,n,d,f,g,by simpa using HC r⟩
def SF{kvs:List (List mX×V)}(ok:pZ P w H h)(e:Rd H a (.dT kvs)):kvs.length<=bN/\(a==l4)=ww /\
  ∃b,KT H kvs b/\h.DictOfH (cx (jF P w)) a b:=by
 obtain⟨z,y,b,r,o,d,c,f,g,i,j,k⟩:=(show jC P w H h a (.dT kvs)from Gs ok e);refine⟨z,y,b,r,o,d,c,f,g,i,j,λx hx=>?_,k⟩
 have all:∀{l:List (List mX×V)}{m:List (List mX×à×á)},KT H l m->∀x∈m,(cx (jF P w)).is h x.1 x.2.1:=by
  intro l m q
  induction q with
  |nil=>intro x hx;exact nomatch hx
  |@cons p q ps qs hq t ih=>
   intro x hx;rcases aO.mp hx with e | hx
   ·subst e;exact JW ok (by rw[<- hq.1];exact hq.2.1)
   ·exact ih x hx
 exact all r x hx
def Mw{kvs:List (List mX×V)}(ok:pZ P w H h)(e:H a=wz (.dT kvs)):kvs.length<=bN/\(a==l4)=ww /\
  ∃b,KT H kvs b/\h.DictOfH (cx (jF P w)) a b:=SF ok (.inl e)
end
def AJ(H:Hp)(a:à)(y:V)(r:Option V):Prop:=
 (∃kvs k,Rd H a (.dK kvs)/\y=kV k/\r=sI kvs k)\/∃kvs k b,Rd H a (.dT kvs)/\y=.ref b/\H b=wz (.tup (k.map kV))/\r=sI kvs k
def P7(H:Hp)(a:à)(y v:V)(c:Hp):Prop:=
 (∃kvs k,H a=wz (.dK kvs)/\y=kV k/\kvs.length<bN/\c=eY H a (.dK (vI kvs k v))) \/
 ∃kvs k b,H a=wz (.dT kvs)/\y=.ref b/\H b=wz (.tup (k.map kV))/\kvs.length<bN/\c=eY H a (.dT (vI kvs k v))
theorem AJ.k{a:à}{k}(e:H a=wz (.dK kvs)):AJ H a (kV k) (sI kvs k):=.inl ⟨kvs,k,.inl e,gC,gC⟩
theorem P7.k{a:à}{kvs:List (mX×V)}{k}(e:H a=wz (.dK kvs))(b:kvs.length<bN):P7 H a (kV k) v (eY H a (.dK (vI kvs k v))):=.inl ⟨kvs,k,e,gC,b,gC⟩
section
variable{X:Cx}{d:List (à×Obj)}{f:St}{H:Hp}{s:ã}{a:à}{y v:V}{u r:á}{o:Option V}{A:d8}{E:á->ã->Prop}
def dI.big(I:dI X d f H s):l4<s.heap.objs.size:=by
 exact CV cR ((I.mod.glob.keeps I.bk).lt)
def U7{Q:á->ã->Prop}(C:A.units+1<x6)(I:dI X d f H s)(g:AJ H a y (wz v))(q:fQ y u)(h:∀i t,dI X d f H t->fQ v i->Q i t) :
  å (ä X.prog X.w) A (v0 (.ref a) u) Q E s:=by
 rcases g with⟨kvs,k,e,m,l⟩ | ⟨kvs,k,b,e,m,x,l⟩
 ·subst m;obtain⟨z,hd,vs,rel,j⟩:=MU I.hok e;obtain⟨i,hw,c⟩:=wZ.some_of (by rw[l];exact rel.val k);exact wpAny_getItem_of (HB q) j.mapOf hw (h i _ (I.tok _) c)
 ·subst m;cases (show u=d0 b from q);obtain⟨z,hd,F,rel,j⟩:=SF I.hok e;obtain⟨i,hw,c⟩:=wZ.some_of (by rw[l];exact rel.val k);obtain⟨p,B,n⟩:=dP.mp hw;refine wpAny_getItem_heap (bf C) (JW I.hok x) j B ?_;rw[n];exact h i _ (I.tok _) c
def Zi{Q:á->ã->Prop}(p:A.units+1<x6)(I:dI X d f H s)(g:AJ H a y o)(j:fQ y u)(h:∀m,dI X d f H m->Q (.bool (!o.isSome)) m) :
  å (ä X.prog X.w) A (c9 .NotIn u (.ref a)) Q E s:=by
 rcases g with⟨kvs,k,e,i,l⟩ | ⟨kvs,k,b,e,i,n,l⟩
 ·subst i;obtain⟨z,hd,vs,rel,c⟩:=MU I.hok e;refine wpAny_notIn_of (HB j) hd c.mapOf ?_;rw[<- (rel.val k).isSome_eq,<- l];exact h _ (I.tok _)
 ·subst i;cases (show u=d0 b from j);obtain⟨z,hd,t,rel,c⟩:=SF I.hok e;refine wpAny_notIn_heap (bf p) (JW I.hok n) hd c ?_;have q:=(rel.val k).isSome_eq;rw[VP]at q;rw[<- q,<- l];exact h _ (I.tok _)
def DF{c:ç}{i:Nat}(I:dI X d f H s)(h:zh (H a))(g:gA a s.heap c)(e:∃q,c.get? a=wz q)(new:jC X.prog X.w (eY H a ob) c a ob) :
  dI X d f (eY H a ob) { s with heap:=c,toks:=i }:=
 I.write h (.inl gC) (λb q hb z=>(g.2 b hb).trans z) e new
def PL{b:ç}{kvs:List (mX×V)}(z:kvs.length<=bN)(hd:(a==l4)=ww)(rel:KV kvs vs)(c:b.DictOf (jF P w) a vs) :
  jC P w H' b a (.dK kvs):=⟨z,hd,vs,rel,c⟩
def U6{Q:Unit->ã->Prop}(S:A.units+1<x6)(I:dI X d f H s)(g:P7 H a y v H')(G:fQ y u)(F:fQ v r)(h:∀J,dI X d f H' J->Q () J) :
  å (ä X.prog X.w) A (setItem (.ref a) u r) Q E s:=by
 rcases g with⟨kvs,k,e,p,l,n⟩ | ⟨kvs,k,b,e,p,B,l,n⟩
 ·subst p n;obtain⟨z,hd,vs,rel,m⟩:=FD I.hok e;have T:vs.length<=bN:=by rw[<- rel.length];exact z
  have t:(vI kvs k v).length<=bN:=by have:=vO kvs k v;lia
  refine wpAny_setItem_pairs (HB G) m λM i x=>h _ ?_;exact DF I (by rw[e];exact e6) x (let ⟨q,_,_,j,_⟩:=i;⟨q,j⟩) (PL t hd (rel.put k F) i)
 ·subst p n;cases (show u=d0 b from G);obtain⟨z,hd,U,rel,m⟩:=Mw I.hok e;have T:U.length<=bN:=by rw[<- y4 rel];exact z
  have t:(vI kvs k v).length<=bN:=by have:=vO kvs k v;lia
  refine wpAny_setItem_heap (bf S) (JW I.hok B) m λM i x=>h _ ?_;obtain⟨q,L,K,j,N,O,P,_,R⟩:=i;refine DF I (by rw[e];exact e6) x ⟨q,j⟩ ⟨t,hd,_,(rel.put k B F).keeps λc W C=>?_,q,L,K,j,N,O,P,R⟩;rw[bY (Nk C e (λz=>nomatch z))];exact C
end
section
variable{X:Cx}{b:List (à×Obj)}{c:St}{H:Hp}{s:ã}{a:à}{kvs:List (mX×V)}{k:mX}{u:á}{A:d8}{E:á->ã->Prop}
def Mv{more}{Q:á->ã->Prop}(I:dI X b c H s)(e:H a=wz (.dK kvs))(j:fQ (kV k) u)(l:sI kvs k=wz v)(n:more=[]\/∃x,more=[x])
  (h:∀f o,dI X b c (eY H a (.dK (lH kvs k))) o->fQ v f->Q f o):å (ä X.prog X.w) A (call (.builtin "dict.pop") (.ref a::u::more)) Q E s:=by
 obtain⟨z,hd,vs,rel,m⟩:=FD I.hok e;obtain⟨f,hw,g⟩:=wZ.some_of (by rw[<- l];exact rel.val k)
 have r:(keyPart u).isSome=true:=by
  cases k with
  |inl i=>obtain⟨t,q⟩:=(show∃t,u=m5 i t from j);subst q;rfl
  |inr x=>obtain⟨t,q⟩:=(show∃t,u=y0 x t from j);subst q;rfl
 have p:argsOk "dict.pop" ⟨.ref a::u::more,[]⟩:=by
  rcases n with q | ⟨x,q⟩
  ·subst q;exact PySem.F.args_dict_pop_2 _ _
  ·subst q;exact PySem.F.args_dict_pop_3 _ _ _
 refine ji uU m.typeIs PySem.F.entry_dict_pop p (meets_dict_pop_there (jF X.prog X.w) a (HB j) more n r)
  ⟨vs,f,m,by rw[<- rel.length];exact z,hw,λB d y=>h f _ ?_ g⟩
 exact DF I (by rw[e];exact e6) y (let ⟨q,_,_,hq,_⟩:=d;⟨q,hq⟩) (PL (aY (aAr kvs k) z) hd (rel.drop k) d)
def Mu{Q:á->ã->Prop}(I:dI X b c H s)(e:Rd H a (.dK kvs))(h:∀t d,dI X b c H d->Q (.int kvs.length t) d):å (ä X.prog X.w) A (call (.builtin "len") [.ref a]) Q E s:=by
 obtain⟨z,hd,vs,rel,f⟩:=MU I.hok e;refine call_len_dict hd f (by rw[<- rel.length];rw[am]at z;lia) ?_;rw[<- rel.length];exact h _ _ (I.tok _)
end
def Ba(i:æ):Prop:=∀b a,dv i ww b a=operate [b,a] (v0 b a)
def aCf{E:á->ã->Prop}{id}{Q:á->ã->Prop}
  (j:typeLookup (.type T) "__getitem__"=pure (wz (.builtin id))) (k:Ba slice)
  (h:å (ä prog w) A (è value env) (λo c=>å (ä prog w) A (è slice env) (λi a=>a.TypeIs o T/\å (ä prog w) A (v0 o i) Q E a) E c) E s) :
  å (ä prog w) A (è (.Subscript value slice pos) env) Q E s:=by
 refine li (eE h (λo c e=>eE e (λi a b=>?_) λ_ _ x=>x) λ_ _ x=>x);obtain⟨g,b⟩:=b;refine aI ?_;rw[getitemInPython_of_ne g.not_modules];refine aI (wpAny_specialOf g j ?_)
 have fin:å (ä prog w) A (dv slice ww o i) (λr d=>å (ä prog w) A (letTemporaryGo value o r >>= λ_=>pure r) Q E d) E a:=by
  rw[k o i];exact wpAny_operating (eE b (λr d f=>aI (wpAny_letTemporaryGo (bH f))) λ_ _ x=>x)
 first
  |exact bH (aI fin)
  |exact aI (bH (aI fin))
  |exact aI fin
def MW{s:ã}{a:à}(I:dI X pins σ H s)(g:AJ H a y o):s.TypeIs (.ref a) "dict":=by
 rcases g with⟨kvs,k,e,_,_⟩ | ⟨kvs,k,b,e,_,_,_⟩
 ·obtain⟨_,_,vs,_,c⟩:=MU I.hok e;exact c.typeIs
 ·obtain⟨_,_,d,_,c⟩:=SF I.hok e;exact c.typeIs
def LG(e ty:TE):TE:=λc H Q=>e c H λx d=>ty c d λy b=>∃a v,x=.ref a/\AJ b a y (wz v)/\Q v b
def QN(ty e:TE):TE:=λc H Q=>ty c H λy d=>e c d λx b=>∃a o,x=.ref a/\AJ b a y o/\Q (.bl (!o.isSome)) b
def XE(f ty tv:TE):TS:=λD b H=>tv b H λv d=>f b d λx e=>ty b e λy H3=>∃a c,x=.ref a/\P7 H3 a y v c/\D.nx b c
section
variable{X:Cx}{o i b:æ}{pos c:Pos}{d ty tv:TE}
def rG(w:X.A.units+1<x6)(r:PE X o d)(q:PE X i ty)(t:Ba i):PE X (.Subscript o i pos) (LG d ty):=by
 intro e s k H Q I h;refine aCf PySem.F.slot_dict_getitem.lookup t (iZ (r e s k H _ I h) λu G ⟨x,l,n,C,z⟩=>iZ (q e G k l _ n z) λK L J=>?_);obtain⟨y,m,j,E,a,v,ex,g,B⟩:=J;subst ex;obtain rfl:=C;exact⟨MW j g,U7 w j g E λM s3 p f=>⟨v,m,p,f,B⟩⟩
def G3(r:X.A.units+1<x6)(p:PE X i ty)(q:PE X o d):PC X .NotIn i o (QN ty d):=by
 intro e s f H Q I h;refine iZ (p e s f H _ I h) λF C ⟨y,j,l,B,v⟩=>iZ (q e C f j _ l v) λu G E=>?_;obtain⟨x,k,m,z,a,t,ex,g,w⟩:=E;subst ex;obtain rfl:=z;exact Zi r m g B λs3 n=>⟨.bl (!t.isSome),k,n,gC,w⟩
def JE(B:X.A.units+1<x6)(w:PE X o d)(t:PE X i ty)(C:PE X b tv)(z:kP b (wz (.Subscript o i c)) pos.line X.env=pure ww) :
  PS X (.Assign [.Subscript o i c] b pos) (XE d ty tv):=by
 intro e s f H D I h;refine wpAny_Assign_Subscript (iZ (C e s f H _ I h) λr M ⟨v,j,m,J,E⟩=>iZ (w e M f j _ m E) λu N ⟨x,k,n,K,F⟩=>iZ (t e N f k _ n F) λP s3 O=>?_) z;obtain⟨y,H3,p,L,a,l,ex,g,G⟩:=O;subst ex;obtain rfl:=K;exact U6 B p g L J λQ q=>⟨f,l,q,G⟩
end
def MV(h:ç)(hb:l4<h.objs.size):jC P w H (h.push { cls:=.type "dict",data:=.dict #[] }) h.objs.size (.dK []):=
 ⟨cP _,beq_eq_false_iff_ne.mpr (i0 (dF hb)),[],.nil,Heap.DictOf.new h⟩
def WT:TE:=λ_ H Q=>∀p,H p=wy->Q (.ref p) (eY H p (.dK []))
section
variable{X:Cx}{pos:Pos}
def YD:PE X (.Dict [] [] pos) WT:=λa s b H Q I h=>
 wpAny_Dict_empty ⟨.ref s.heap.objs.size,_,I.laid (λ_ _ q=>aD _ q) (aN _) (MV s.heap I.big),gC,h _ (I.hok.fresh (aN _))⟩
end
def NY:List (TE×TE)->St->Hp->(List (V×V)->Hp->Prop)->Prop
|[],_,H,Q=>Q [] H
| (tk,tv)::r,σ,H,Q=>tk σ H λx a=>tv σ a λy b=>NY r σ b λc H3=>Q ((x,y)::c) H3
abbrev VV:List (V×V)->List (á×á)->Prop:=Paired λp q=>fQ p.1 q.1/\fQ p.2 q.2
def Ah(X:Cx)(pos:Pos)(c:List (Option æ))(a:List æ)(d:List (TE×TE)):Prop:=
 ∀b s e H Q,dI X b e H s->NY d e H Q ->
  å (ä X.prog X.w) X.A (evalPairs (pairTrees c a X.env pos)) (λvs h=>∃g f,dI X b e f h/\VV g vs/\Q g f) X.xe s
def Q7:Ah X pos [] [] []:=λa s b H Q I h=>pairTrees_nil_walk ⟨[],H,I,.nil,h⟩
def D9{k tv}(hk:PE X k tk)(j:PE X v tv)(i:Ah X pos ks vs trs) :
  Ah X pos (wz k::ks) (v::vs) ((tk,tv)::trs):=λa s b H Q I h=>
 pairTrees_cons_walk (iZ (hk a s b H _ I h) λu r ⟨x,c,e,p,m⟩=>iZ (j a r b c _ e m) λw t ⟨y,d,f,q,n⟩=>
  iZ (i a t b d _ f n) λz s3 ⟨l,H3,g,rel,o⟩=>⟨(x,y)::l,H3,g,.cons ⟨p,q⟩ rel,o⟩)
noncomputable def yE(kvs more:List (mX×V)):List (mX×V):=more.foldl (λa kv=>vI a kv.1 kv.2) kvs
def KV.merge:∀{more rs kvs vs},KV more rs->KV kvs vs->KV (yE kvs more) (merged vs rs):=by
 intro more rs kvs vs r
 induction r generalizing kvs vs with
 |nil=>intro q;exact q
 |@cons p q ps qs h t ih=>
  intro a
  have e:KV (vI kvs p.1 p.2) (stored vs q.1 q.2):=by
   have:=a.put p.1 h.2;rw[<- h.1];exact this
  exact ih e
theorem xI:∀more kvs,(yE kvs more).length<=kvs.length+more.length
|[],kvs=>by show kvs.length<=kvs.length+0;lia
|p::r,kvs=>by
 have a:=xI r (vI kvs p.1 p.2);have b:=vO kvs p.1 p.2;show(yE (vI kvs p.1 p.2) r).length<=_;rw[bA];lia
theorem FJ:∀{kvs:List (mX×V)}{ws},VV (kvs.map λkv=>(kV kv.1,kv.2)) ws->∃rs,Carries (jF P w) ws rs/\KV kvs rs
|[],_,r=>by rw[mY]at r;cases r;exact⟨[],e6,.nil⟩
|p::kvs,_,r=>by
 rw[bB]at r
 cases r with
 |@cons a b as bs h t=>
  obtain⟨rs,c,q⟩:=FJ t;obtain⟨e,d⟩:=b;exact⟨(p.1,d)::rs,⟨HB h.1,gC,c⟩,.cons ⟨gC,h.2⟩ q⟩
def LF(a:List (TE×TE)):TE:=λd H Q=>∀p,H p=wy->NY a d (eY H p (.dK [])) λc b=>b p=wz (.dK [])/\∃kvs,c=kvs.map (λkv=>(kV kv.1,kv.2))/\kvs.length<=15/\Q (.ref p) (eY b p (.dK (yE [] kvs)))
def RA{b:List (Option æ)}{d:List æ}(h:Ah X pos b d trs)(g:b.all (·.isSome)=wx)(r:b.length=d.length)(n:b≠[])
  (j:b.length<=15):PE X (.Dict b d pos) (LF trs):=by
 intro i s C H Q I q;refine wpAny_Dict_walk (knd:=jF X.prog X.w) g r n j (iZ (h i _ C _ _ (I.laid (a:=s.heap.objs.size) (o:=.dK []) (h':=s.heap.push { cls:=.type "dict",data:=.dict #[] }) (t':=s.toks) (λ_ _ q=>aD _ q) (aN _) (MV s.heap I.big)) (q _ (I.hok.fresh (aN s.heap.objs.size)))) λK J B=>?_);obtain⟨G,E,k,rel,e,kvs,m,F,v⟩:=B;subst m;obtain⟨rs,c,y⟩:=FJ rel;obtain⟨z,hd,A,x,l⟩:=FD k.hok e;cases x;refine⟨rs,c,l,λh' f t=>⟨.ref s.heap.objs.size,_,?_,gC,v⟩⟩
 have u:(yE [] kvs).length<=bN:=by
  have p:=xI kvs [];rw[wJ]at p;rw[am];lia
 exact DF k (by rw[e];exact e6) t (let ⟨q,_,_,hq,_⟩:=f;⟨q,hq⟩) (PL u hd (y.merge .nil) f)
end L2
namespace TL
open L2
noncomputable def hZ(s:é)(j:Nat):Stmt:=match s with
|.ClassDef _ _ _ b _ _ _ _ _ _ _=>b.getD j (.Pass ⟨0,0,0,0⟩)
|_=>.Pass ⟨0,0,0,0⟩
noncomputable def O3(C:à)(ns:List â)(a:List D):D:=.dict [(.str "obj",.tuple [.int (C:Nat),.list (ns.map aK),.list a])]
theorem LI:∀{b c:List â},b.map aK=c.map aK->b=c
|[],[],_=>rfl
|[],_::_,h=>by cases h
|_::_,[],h=>by cases h
|x::b,y::c,h=>by
 rw[bB,bB]at h;injection h with a d
 injection a with a
 rw[a,LI d]
def C5{K}{H:Hp}{C:à}(r:iK K H (O3 C ns ds) v):∃p dx fs,v=.ref p/\H p=wz (.ins C dx fs)/\fs.map (·.1)=ns/\Reps K H ds (fs.map (·.2)):=by
 unfold O3 at r
 generalize a:(pM [(.str "obj",.tuple [.int (C:Nat),.list (ns.map aK),.list ds])])=d at r
 cases r with
 |@ins p C' dx fs ds' h1 h2=>
  injection a with a
  injection a with a _
  injection a with _ a
  injection a with a
  injection a with b a
  injection a with c a
  injection a with e _
  injection b with b
  injection c with c
  injection e with e
  obtain rfl:=kF.inj b;subst e;exact⟨p,dx,fs,gC,h1,(LI c).symm,h2⟩
 |@dct p es ep kvs h1 h2 h3 h4=>
  injection a with a
  injection a with a _
  injection a with a _
  injection a with a
  exact b8 a cL
 |addr z=>
  injection a with a
  injection a with a _
  injection a with a _
  injection a with a
  exact b8 a cL
 |_=>cases a
theorem EO{K}:∀{fs:List (â×V)}{ds},Reps K H ds (fs.map (·.2))->((fs.map (·.1)).zip ds).lookup f=wz x->∃v,fs.lookup f=wz v/\iK K H x v
|[],_,_,h=>by cases h
| (g,u)::fs,ds,r,h=>by
 cases r with
 |@cons t ts _ _ r1 r2=>
  show∃v,(match f==g with | true=>wz u | false=>fs.lookup f)=wz v/\_;have a:(match f==g with | true=>wz t | false=>((fs.map (·.1)).zip ts).lookup f)=wz x:=h
  cases hb:f==g with
  |true=>
   rw[hb]at a;cases a;exact⟨u,gC,r1⟩
  |false=>
   rw[hb]at a;exact EO r2 a
theorem pF:∀{fs:List (â×V)},f∉fs.map (·.1)->fs.lookup f=wy
|[],_=>rfl
| (g,u)::fs,h=>by
 have a:(f==g)=false:=beq_eq_false_iff_ne.mpr λz=>h (by rw[z];exact aP ..);show(match f==g with | true=>wz u | false=>fs.lookup f)=wy;rw[a];exact pF λz=>h (aH _ z)
section
variable{X:Cx}{o e:æ}{b:ET}{pos:Pos}
def Do(K:aF)(f:â)(b:ET):ET:=λc Q=>b c λd=>∃C ns a x,d=O3 C ns a/\AM K C/\fZ K C f/\(ns.zip a).lookup f=wz x/\Q x
def mF{K}(m:X.K=K)(s:gK X e b)(hb:autoParam (g4 e f X.env (è e X.env)=è e X.env) zzz._auto_1):gK X (.Attribute e f pos) (Do K f b):=by
 subst m;obtain⟨v,p,r⟩:=s;refine⟨_,OA p hb,λB z H A g I Q J o h k=>r B z H A g I _ _ o h λd x i G F E=>?_⟩;obtain⟨C,ns,L,y,rfl,n,u,t,q⟩:=E;obtain⟨a,dx,fs,rfl,j,rfl,l⟩:=C5 F;obtain⟨w,hw,c⟩:=EO l t;exact⟨a,C,dx,fs,w,gC,cA _ _ j,n,u,hw,k _ _ i G c q⟩
end
inductive xD(K:aF)(H:Hp):List (Int×D)->List (mX×V)->Prop
|nil:xD K H [] []
|cons {i:Int} {d:D} {v:V} {a:List (Int×D)} {b:List (mX×V)} (r:iK K H d v) (t:xD K H a b):xD K H ((i,d)::a) ((.inl i,v)::b)
noncomputable def yA(kvs:List (Int×D))(i:Int)(d:D):List (Int×D):=if kvs.any (λe=>decide (e.1=i))=wx then kvs.map (λe=>if e.1=i then(e.1,d)else e)else kvs++[(i,d)]
noncomputable def xO(kvs:List (Int×D))(i:Int):List (Int×D):=kvs.filter λe=>decide (e.1≠i)
noncomputable def qZ(kvs:List (Int×D))(i:Int):Option D:=(kvs.find? λe=>decide (e.1=i)).map (·.2)
section
variable{K:aF}{H c:Hp}
theorem xD.same(s:bG H c):∀{a b},xD K H a b->xD K c a b
|_,_,.nil=>.nil
|_,_,.cons r t=>.cons (r.same s) (t.same s)
theorem xD.length:∀{a:List (Int×D)}{b:List (mX×V)},xD K H a b->a.length=b.length
|_,_,.nil=>rfl
|_,_,.cons r t=>d6 (·+1) t.length
theorem xD.vals:∀{a:List (Int×D)}{b:List (mX×V)},xD K H a b->Reps K H (a.map (·.2)) (b.map (·.2))
|_,_,.nil=>.nil
|_,_,.cons r t=>.cons r t.vals
theorem xD.val(i:Int):∀{a b},xD K H a b->(qZ a i=wy/\sI b (.inl i)=wy)\/∃d v,qZ a i=wz d/\sI b (.inl i)=wz v/\iK K H d v
|_,_,.nil=>.inl ⟨gC,gC⟩
| (j,d)::a,(_,v)::b,.cons r t=>by
 unfold qZ sI;rw[kC,kC];by_cases e:j=i
 ·subst e;refine .inr ⟨d,v,?_,?_,r⟩<;>simp
 ·have f:¬((v4 j:mX)=.inl i):=λz=>e (au z);rw[show decide ((j,d).1=i)=ww from c6 e,show decide (((v4 j:mX),v).1=.inl i)=ww from c6 f];exact t.val i
theorem xD.any(i:Int):∀{a:List (Int×D)}{b:List (mX×V)},xD K H a b->(a.any λe=>decide (e.1=i))=b.any λe=>decide (e.1=.inl i)
|_,_,.nil=>rfl
| (j,d)::a,(_,v)::b,.cons r t=>by
 rw[kJ,kJ,t.any i];congr 1;show decide (j=i)=decide ((v4 j:mX)=.inl i);rw[dX,c7,c7];exact⟨λz=>by rw[z],λz=>au z⟩
theorem xD.map(i:Int)(r:iK K H d v):∀{a:List (Int×D)}{b:List (mX×V)},xD K H a b->xD K H (a.map λe=>if e.1=i then(e.1,d)else e) (b.map λe=>if e.1=.inl i then(e.1,v)else e)
|_,_,.nil=>.nil
| (j,x)::a,(_,y)::b,.cons r0 t=>by
 rw[bB,bB];by_cases e:j=i
 ·subst e;rw[a9 gC,a9 rfl];exact .cons r (t.map j r)
 ·rw[a8 e,a8 λz:(v4 j:mX)=.inl i=>e (au z)];exact .cons r0 (t.map i r)
theorem xD.snoc{i:Int}(r:iK K H d v):∀{a b},xD K H a b->xD K H (a++[(i,d)]) (b++[(.inl i,v)])
|_,_,.nil=>.cons r .nil
|_,_,.cons r0 t=>.cons r0 (t.snoc r)
def xD.put{i:Int}(r:iK K H d v)(h:xD K H a b):xD K H (yA a i d) (vI b (.inl i) v):=by
 unfold yA vI;rw[h.any i];split
 ·exact h.map i r
 ·exact h.snoc r
theorem xD.drop(i:Int):∀{a b},xD K H a b->xD K H (xO a i) (lH b (.inl i))
|_,_,.nil=>.nil
| (j,x)::a,(_,y)::b,.cons r0 t=>by
 unfold xO lH;rw[cW,cW];by_cases e:j=i
 ·subst e;rw[a8 eH,a8 eH];exact t.drop j
 ·rw[a9 (by simpa using e),a9 (by simpa using e)];exact .cons r0 (t.drop i)
end
structure Bk where
 p:à
 q:à
 dx:à
 fm:D
 dp:Int
 ls:Int
structure KR where
 kvs:List (Int×D)
 fol:Int
 st:D
noncomputable def mH(T:Bk):D:=.dict [(.str "@",.list [.int (T.p:Nat),.int (T.q:Nat),.int (T.dx:Nat),T.fm,.int T.dp,.int T.ls])]
def gU(h:mH S=mH T):S=T:=by
 injection h with h
 injection h with h _
 injection h with _ h
 injection h with h
 injection h with g h
 injection h with i h
 injection h with j h
 injection h with m h
 injection h with k h
 injection h with l _
 injection g with g
 injection i with i
 injection j with j
 injection k with k
 injection l with l
 obtain⟨a,b,c,d,e,f⟩:=S;obtain⟨n,o,p,q,r,s⟩:=T;simp only[Bk.mk.injEq];exact⟨kF.inj g,kF.inj i,kF.inj j,m,k,l⟩
def IZ{K}(T:Bk):iK K H (mH T) (.ref T.p):=.addr _
def LV{K}{x:à}(r:iK K H (.dict [(.str "@",.list (.int (x:Nat)::z))]) v):v=.ref x:=by
 generalize a:(pM [(.str "@",.list (.int (x:Nat)::z))])=d at r
 cases r with
 |@addr p z=>
  injection a with a
  injection a with a _
  injection a with _ a
  injection a with a
  injection a with a _
  injection a with a
  rw[kF.inj a]
 |dct=>
  injection a with a
  injection a with a _
  injection a with a _
  injection a with a
  exact b8 a cL
 |_=>cases a
def N3{K}{T:Bk}(r:iK K H (mH T) v):v=.ref T.p:=LV r
noncomputable def KG(T:Bk)(a b:V)(n:KR):List (â×V):=[("form",a),("deep",.int T.dp),("least",.int T.ls),("numbered",.ref T.q),("following",.int n.fol),("standing",b)]
def KH(C:à)(T:Bk)(K:aF)(H:Hp)(a:List à)(n:KR):Prop:=T.p≠T.q/\∃b c kv,H T.p=wz (.ins C T.dx (KG T b c n))/\H T.q=wz (.dK kv)/\iK K (ê H a) T.fm b/\iK K (ê H a) n.st c/\xD K (ê H a) n.kvs kv
noncomputable def lO(C:à):uE where
 I:=Bk
 S:=KR
 ad:=λT=>[T.p,T.q]
 tau:=mH
 At:=KH C
 to:=λ{T K H H' ps t7 n} h e s=>by
  obtain⟨eo,v1,v6,kv,h1,h2,h3,h4,h5⟩:=h;exact⟨eo,v1,v6,kv,by rw[e T.p eH];exact h1,by rw[e T.q eH];exact h2,h3.same s,h4.same s,h5.same s⟩
 liv:=λ{T K H ps n} h a ha=>by
  obtain⟨eo,v1,v6,kv,h1,h2,_⟩:=h;rcases aO.mp ha with rfl | ha
  ·exact⟨_,h1,gC⟩
  ·rw[bC.mp ha];exact⟨_,h2,gC⟩
 inj:=gU
noncomputable def Cg(T:Bk)(n:KR):List (â×D):=[("form",T.fm),("deep",.int T.dp),("least",.int T.ls),("following",.int n.fol),("standing",n.st)]
def Zr{K}{T:Bk}{n:KR}(g:iK K H T.fm v1)(i:iK K H n.st v6)(h:(Cg T n).lookup f=wz y):∃v,(KG T v1 v6 n).lookup f=wz v/\iK K H y v:=by
 by_cases a:f="form"
 ·subst a;cases h;exact⟨v1,gC,g⟩
 by_cases b:f="deep"
 ·subst b;cases h;exact⟨_,gC,.int _⟩
 by_cases c:f="least"
 ·subst c;cases h;exact⟨_,gC,.int _⟩
 by_cases d:f="following"
 ·subst d;cases h;exact⟨_,gC,.int _⟩
 by_cases e:f="standing"
 ·subst e;cases h;exact⟨_,gC,i⟩
 refine b8 h ?_;unfold Cg;rw[dW,beq_eq_false_iff_ne.mpr a,dW,beq_eq_false_iff_ne.mpr b,dW,beq_eq_false_iff_ne.mpr c,dW,beq_eq_false_iff_ne.mpr d,dW,beq_eq_false_iff_ne.mpr e]
 exactλz=>nomatch z
section
variable{X:Cx}{C:à}{e i o b:æ}{c E:ET}{pos m G l:Pos}{f:â}
def mQ{K}{T a:Bk}(o:oG (lO C) K B p0 H ps jb σ T n)(s:bG H H1)(r:iK K (ê H1 ps) (mH a) v)(h:mH a=mH T) :
  v=.ref T.p/\KH C T K H1 ps n:=by
 cases gU h;exact⟨N3 r,(o.grow s).tp⟩
def Mh(C:à)(f:â)(c:ET):EZ (lO C):=λa n g Q=>c g λd=>d=a/\∃T x,a=mH T/\(Cg T n).lookup f=wz x/\Q n x
def tZ(I:AM X.K C)(M:fZ X.K C f)(J:gK X e c)(hb:autoParam (g4 e f X.env (è e X.env)=è e X.env) zzz._auto_1):uO (F:=lO C) X (.Attribute e f pos) (Mh C f c):=by
 obtain⟨v,p,r⟩:=J;refine⟨_,OA p hb,λB P H R j W T n Q Y o h k=>r B P H R j W _ _ o.ok h λd x t s U S=>?_⟩;obtain⟨rfl,Z,y,O,L,q⟩:=S;obtain⟨rfl,a⟩:=mQ o s U gC;cases gU O;obtain⟨N,v1,v6,kv,u,h2,z,A,h5⟩:=id a;obtain⟨w,hw,g⟩:=Zr z A L;exact⟨_,C,_,_,w,gC,u,I,M,hw,k n y w t (.of s) a g q⟩
def yC(a:AM X.K C)(d:fZ X.K C "numbered")(p:PE X e v)(hb:autoParam (g4 e "numbered" X.env (è e X.env)=è e X.env) zzz._auto_1):PE X (.Attribute e "numbered" pos) (Em X.K v "numbered"):=OA p hb
def Mp(C:à)(E c:ET):TZ (lO C):=λg n a Q=>E a λy=>∃j,y=.int j/\c a λd=>d=g/\Q n (qZ n.kvs j).isNone
def WI(hu:X.A.units+1<x6)(J:AM X.K C)(L:fZ X.K C "numbered")(Z:gK X i E)(Y:gK X e c)(hb:autoParam (g4 e "numbered" X.env (è e X.env)=è e X.env) zzz._auto_1)(hm:autoParam (i3 .NotIn (.Attribute e "numbered" l)=false) zzz._auto_1) :
  PZ (F:=lO C) X (.Compare i [.NotIn] [.Attribute e "numbered" l] pos) (Mp C E c):=by
 obtain⟨v,p,r⟩:=Y;obtain⟨vi,pi,ri⟩:=Z;refine⟨_,XZ (G3 hu pi (yC J L p hb)) hm,λB M H N g P T n Q QV o h k=>?_⟩;refine ri B M H N g P _ _ o.ok h λy yv R I r1 z=>?_;obtain⟨j,rfl,z⟩:=z;cases r1;refine r B M R N g P _ _ (o.grow I).ok z λd x S O r2 q2=>?_;obtain⟨rfl,q⟩:=q2;obtain⟨rfl,a⟩:=mQ (o.grow I) O r2 gC;obtain⟨_,_,_,_,u,_⟩:=id a;refine⟨_,C,_,_,_,gC,u,J,L,gC,?_⟩;obtain⟨eo,v1,v6,kv,h1,U,h3,h4,W⟩:=id a;refine⟨T.q,sI kv (.inl j),gC,AJ.k (k:=.inl j) U,_,gC,k n _ S ((iD.of I).trans (.of O)) a ?_⟩;rcases W.val j with⟨s,t⟩ | ⟨d,w,s,t,_⟩
 ·rw[s]at q;rw[t];exact q
 ·rw[s]at q;rw[t];exact q
def Mj(C:à)(c E:ET):EZ (lO C):=λg n a Q=>c a λd=>d=g/\E a λy=>∃j x,y=.int j/\qZ n.kvs j=wz x/\Q n x
def Xk(hu:X.A.units+1<x6)(N:AM X.K C)(O:fZ X.K C "numbered")(he:gK X e c)(hi:gK X i E)(hs:autoParam (Ba i) zzq._auto_1)(hb:autoParam (g4 e "numbered" X.env (è e X.env)=è e X.env) zzz._auto_1) :
  uO (F:=lO C) X (.Subscript (.Attribute e "numbered" l) i pos) (Mj C c E):=by
 obtain⟨v,p,r⟩:=he;obtain⟨vi,pi,ri⟩:=hi;refine⟨_,rG hu (yC N O p hb) pi hs,λB P H R t U T n Q QV o h k=>?_⟩;refine r B P H R t U _ _ o.ok h λd x W u r1 J=>?_;obtain⟨rfl,J⟩:=J;obtain⟨rfl,z⟩:=mQ o u r1 gC;obtain⟨_,_,_,_,I,_⟩:=id z;refine⟨_,C,_,_,_,gC,I,N,O,gC,?_⟩;refine ri B P W R t U _ _ (o.grow u).ok J λy yv Y S r2 q2=>?_;obtain⟨j,x,rfl,g,q⟩:=q2;cases r2;have a:=((o.grow u).grow S).tp;obtain⟨eo,v1,v6,kv,h1,Z,h3,h4,h5⟩:=id a;rcases h5.val j with⟨s,M⟩ | ⟨d,w,s,M,L⟩
 ·rw[g]at s;cases s
 ·rw[g]at s;cases s;refine⟨T.q,w,gC,?_,k n x w Y ((iD.of u).trans (.of S)) a L q⟩;have:=AJ.k (k:=.inl j) Z;rw[M]at this;exact this
def Ik{K}{T:Bk}(a:KH C T K H ps n)(g:T.q∈ps)(h:xD K (ê H ps) kvs kv):KH C T K (eY H T.q (.dK kv)) ps { n with kvs:=kvs }:=by
 obtain⟨d,s,t,r,j,u,k,p,v⟩:=a;refine⟨d,s,t,kv,by rw[bY d];exact j,cD,?_,?_,?_⟩
 ·rw[fU g];exact k
 ·rw[fU g];exact p
 ·rw[fU g];exact h
def GZ{p:à}(h:p∈as):iD as H (eY H p u):=λa o ne e=>by
 rw[bY (show a≠p fromλz=>ne (by rw[z];exact h))];exact e
def oG.there{F:uE}{K B H p0 ps jb σ T n n'}(o:oG F K B p0 H ps jb σ T n){p:à}{u}(a:p∈F.ad T)(t:F.At T K (eY H p u) ps n'):oG F K B p0 (eY H p u) ps jb σ T n':=o.growX (GZ a) t
def Mb(C:à)(c E tv:ET):SZ (lO C):=λh g n a=>tv a λx=>c a λd=>d=h/\E a λy=>∃j,y=.int j/\n.kvs.length<=100000/\g.nx { n with kvs:=yA n.kvs j x } a
def WW{tv}(hu:X.A.units+1<x6)(O:AM X.K C)(P:fZ X.K C "numbered")(W:gK X e c)(Y:gK X i E)(hv:gK X b tv)(hs:autoParam (kP b (wz (.Subscript (.Attribute e "numbered" l) i m)) pos.line X.env=pure false) zzz._auto_1)(hb:autoParam (g4 e "numbered" X.env (è e X.env)=è e X.env) zzz._auto_1) :
  yM (F:=lO C) X (.Assign [.Subscript (.Attribute e "numbered" l) i m] b pos) (Mb C c E tv):=by
 obtain⟨v,p,r⟩:=W;obtain⟨vi,pi,ri⟩:=Y;obtain⟨vv,pv,rv⟩:=hv;refine⟨_,JE hu (yC O P p hb) pi pv hs,λB J H t a u T n DC DV o h f=>?_⟩;refine rv B J H t a u _ _ o.ok h λx xv R g r0 q0=>?_;refine r B J R t a u _ _ (o.grow g).ok q0 λd xd S s r1 L=>?_;obtain⟨rfl,L⟩:=L;obtain⟨rfl,w⟩:=mQ (o.grow g) s r1 gC;obtain⟨_,_,_,_,z,_⟩:=id w;refine⟨_,C,_,_,_,gC,z,O,P,gC,?_⟩;refine ri B J S t a u _ _ ((o.grow g).grow s).ok L λy yv H2 M r2 q2=>?_;obtain⟨j,rfl,hz,q⟩:=q2;cases r2;have I:=((o.grow g).grow s).grow M;obtain⟨Z,v1,v6,kv,h1,U,h3,h4,N⟩:=id I.tp;have hL:bN=2^24:=rfl;refine⟨T.q,_,gC,P7.k (k:=.inl j) U (by rw[<- N.length];lia),?_⟩;have Q:=o.mem' T.q (by show T.q∈[T.p,T.q];simp);exact f.nx _ t a u _ (I.there (by show T.q∈[T.p,T.q];simp) (Ik I.tp Q (N.put (i:=j) (r0.same (cC (s.trans M)))))) ((cC (g.trans (s.trans M))).trans (by rw[fU Q];exact L2.bG.refl _)) q
def Ij{K}{T:Bk}{d:KR}(a:T.p≠T.q)(h:H T.q=wz (.dK kv))(j:iK K (ê H ps) T.fm v1)(k:iK K (ê H ps) d.st v6)(n:xD K (ê H ps) d.kvs kv)(g:T.p∈ps):KH C T K (eY H T.p (.ins C T.dx (KG T v1 v6 d))) ps d:=
 ⟨a,v1,v6,kv,cD,by rw[bY (i0 a)];exact h,by rw[fU g];exact j,by rw[fU g];exact k,by rw[fU g];exact n⟩
def Vn(C:à)(c tv:ET):SZ (lO C):=λh g n a=>c a λd=>d=h/\tv a λx=>∃j,x=.int j/\g.nx { n with fol:=n.fol+j } a
def aCb{tv}(U:AM X.K C)(Y:fZ X.K C "following")(W:gK X e c)(Z:gK X b tv):yM (F:=lO C) X (.AugAssign (.Attribute e "following" G) .Add b pos) (Vn C c tv):=by
 obtain⟨v,p,r⟩:=W;obtain⟨vv,pv,rv⟩:=Z;refine⟨_,T4 p pv Ws,λB J H k g z T n DC DV o h f=>?_⟩;refine r B J H k g z _ _ o.ok h λd xd N s r1 x=>?_;obtain⟨rfl,x⟩:=x;obtain⟨rfl,t⟩:=mQ o s r1 gC;obtain⟨w,L,M,kv,A,P,Q,R,S⟩:=id t;refine⟨_,C,_,_,_,gC,A,U,Y,gC,?_⟩;refine rv B J N k g z _ _ (o.grow s).ok x λy yv O a r2 q2=>?_;obtain⟨j,rfl,q⟩:=q2;cases r2;have I:=o.mem' T.p (by show T.p∈[T.p,T.q];simp);refine⟨_,_,gC,gC,T.dx,KG T L M n,a _ _ A,eN,?_⟩;have u:KH C T X.K (eY O T.p (.ins C T.dx (KG T L M { n with fol:=n.fol+j }))) k { n with fol:=n.fol+j }:=Ij w (a _ _ P) (Q.same (cC a)) (R.same (cC a)) (S.same (cC a)) I;exact f.nx _ k g z _ (((o.grow s).grow a).there (by show T.p∈[T.p,T.q];simp) u) ((cC (s.trans a)).trans (by rw[fU I];exact L2.bG.refl _)) q
def Vr(C:à)(c:ET)(tv:EZ (lO C)):SZ (lO C):=λg h n a=>tv g n a λn1 x=>c a λd=>d=g/\h.nx { n1 with st:=x } a
def aB7{tv}(P:AM X.K C)(R:fZ X.K C "standing")(Q:gK X e c)(U:uO X b tv)(S:autoParam (kP b (wz (.Attribute e "standing" m)) pos.line X.env=pure false) zzz._auto_1):yM (F:=lO C) X (.Assign [.Attribute e "standing" m] b pos) (Vr C c tv):=by
 obtain⟨v,p,r⟩:=Q;obtain⟨vv,pv,rv⟩:=U;refine⟨_,tW p pv S,λB z H g a w T n DC DV o h f=>?_⟩;refine rv B z H g a w T n _ _ o h λn1 x xv I A t0 Z W=>?_;have u:=o.growX A t0;refine r B z I g a w _ _ u.ok W λd xd J j r1 Y=>?_;obtain⟨rfl,q⟩:=Y;obtain⟨rfl,k⟩:=mQ u j r1 gC;obtain⟨t,v1,v6,kv,L,M,N,h4,O⟩:=id k;have y:=o.mem' T.p (by show T.p∈[T.p,T.q];simp);refine⟨_,C,_,_,gC,L,P,R,eN,?_⟩;have s:KH C T X.K (eY J T.p (.ins C T.dx (KG T v1 xv { n1 with st:=x }))) g { n1 with st:=x }:=Ij t M N (Z.same (cC j)) O y;exact f.nx _ g a w _ ((u.grow j).there (by show T.p∈[T.p,T.q];simp) s) ((A.mask o.mem').trans ((cC j).trans (by rw[fU y];exact L2.bG.refl _))) q
end
end TL
namespace L2
noncomputable instance decD:DecidableEq PyData:=λ_ _=>bg _
mutual
def hk:PyData->Bool
|.none=>wx
|.int _=>wx
|.str x=>(aK x).canLay0
|.tuple xs=>hkAll xs
|.bool _=>ww
|.list _=>ww
|.dict _=>ww
def hkAll:List PyData->Bool
|[]=>wx
|x::xs=>hk x&&hkAll xs
end
open TL
section
variable{X:Cx}{c:List (à×Obj)}{f:St}{H d:Hp}{s:ã}
def dI.laidM{h:ç}{j:Nat}(I:dI X c f H s)(k:∀b u,s.heap.get? b=wz u->h.get? b=wz u)(g:bG H d)(new:∀a o,d a=wz o->H a=wy->s.heap.objs.size<=a/\jC X.prog X.w d h a o):dI X c f d { s with heap:=h,toks:=j }:=by
 refine I.un ⟨λb ob q _ _ _=>k b ob q,λb ob q _ _ _=>⟨ob.slots,k b ob q⟩,λb ob q n _=>?_,λb ob q _=>⟨ob,k b ob q⟩,λb l q=>g _ _ q,λb o u q=>g _ _ q,λb m q=>⟨#[],by rw[g _ _ q];simp⟩⟩ λa o e=>?_
 ·cases e:d b with
  |none=>rfl
  |some o=>exact b8 (bF q) (aBe.mpr (new b o e n).1)
 ·cases q:H a with
  |none=>exact(new a o e q).2
  |some u=>
   have i:=g _ _ q;rw[e]at i;cases i;exact(I.hok a o q).stay (λb v _ z=>k b v z) (λb z=>g _ _ z) (λb l z=>g _ _ z) λb ob v z=>g _ _ z
end
theorem MC{i:Type}{b:à}{y:i}:∀{c:List à}{f:List i}{j:Nat},c.Nodup->c[j]?=wz b->f[j]?=wz y->(c.zip f).lookup b=wz y
|[],_,j,_,h,_=>by simp at h
|a::c,[],j,_,_,h=>by simp at h
|a::c,z::f,0,_,h1,h2=>by
 simp at h1 h2;subst h1 h2;simp[lK]
|a::c,z::f,j+1,nd,h1,h2=>by
 rw[nQ]at nd;have d:c[j]?=wz b:=by simpa using h1
 have g:f[j]?=wz y:=by simpa using h2
 have ne:(b==a)=false:=beq_eq_false_iff_ne.mpr λe=>nd.1 (e▸bD d);rw[V2,dW,ne];exact MC nd.2 d g
theorem EQ{f:Type}{b:à}{y:f}:∀{c:List à}{d:List f},(c.zip d).lookup b=wz y->∃j:Nat,c[j]?=wz b/\d[j]?=wz y
|[],_,h=>by simp[lK]at h
|a::c,[],h=>by simp[lK]at h
|a::c,z::d,h=>by
 rw[V2,dW]at h
 cases e:(b==a)with
 |true=>
  rw[e]at h;have g:b=a:=aw e;exact⟨0,by simp[g],by simpa using h⟩
 |false=>
  rw[e]at h;obtain⟨j,i,k⟩:=EQ h;exact⟨j+1,by simpa using i,by simpa using k⟩
end L2
namespace TL
open L2
theorem BY{K}:∀{a:List D}{vs:List V},a.length=vs.length->(∀(j:Nat)(d:D)(v:V),a[j]?=wz d->vs[j]?=wz v->iK K H d v)->Reps K H a vs
|[],[],_,_=>.nil
|[],_::_,h,_=>by simp at h
|_::_,[],h,_=>by simp at h
|d::a,v::vs,h,k=>.cons (k 0 d v gC gC) (BY (by simpa using h) λj b f c e=>k (j+1) b f (by simpa using c) (by simpa using e))
end TL
namespace L2
open TL
noncomputable def GL(v p:à):HO:=.ext λh=>h.IsValuesView v p
noncomputable def GM(v p:à):HO:=.ext λh=>h.IsItemsView v p
theorem R0{a:Type}:∀{kvs:List (a×V)}{vs:List (a×á)},KV kvs vs->fW (kvs.map (·.2)) (vs.map (·.2))
|_,_,.nil=>.nil
|_,_,.cons r t=>.cons r.2 (R0 t)
theorem ZS{e:Type}:∀{kvs:List (e×V)}{vs:List (e×á)}{j:Nat}{k:e}{x},KV kvs vs->vs[j]?=wz (k,x)->∃v,kvs[j]?=wz (k,v)/\fQ v x
|_,_,_,_,_,.nil,h=>by simp at h
| (a,v)::_,(b,y)::_,0,k,x,.cons r t,h=>by
 simp at h;obtain⟨c,d⟩:=h;obtain⟨f,g⟩:=r;subst c d f;exact⟨v,gC,g⟩
|_::_,_::_,j+1,k,x,.cons r t,h=>by
 obtain⟨v,c,d⟩:=ZS t (by simpa using h);exact⟨v,by simpa using c,d⟩
def aDx{k}(h:(jF P w).is k u=wx):fQ (kV k) u:=by
 rcases jJ h with⟨i,t,rfl,rfl⟩ | ⟨x,t,rfl,rfl⟩<;>exact⟨t,gC⟩
section
variable{X:Cx}
def OL:NJ X "dict.values" (λx c H Q=>c=[]/\∃p kvs,x=.ref p/\H p=wz (.dK kvs)/\∀v,H v=wy->Q (.ref v) (eY H v (GL v p))):=by
 intro b s l H x c v j Q I f r h;obtain⟨rfl,p,kvs,rfl,d,q⟩:=h;cases f;cases r;obtain⟨z,hd,vs,rel,a⟩:=FD I.hok d;refine ji GH a.typeIs PySem.F.entry_dict_values (PySem.F.args_dict_values_1 _) (meets_dict_values (jF X.prog X.w) p hd) ⟨⟨vs,a⟩,?_⟩;exact⟨.ref s.heap.objs.size,_,I.laid (o:=GL s.heap.objs.size p) (λ_ _ e=>aD _ e) (aN _) ⟨⟨_,aX _ gC,gC,gC⟩,⟨_,aX _ gC⟩,λg i ⟨o,e,r⟩ k=>⟨o,k _ e,r⟩⟩,gC,q _ (I.hok.fresh (aN _))⟩
def UM:NJ X "dict.items" (λx c H Q=>c=[]/\∃p kvs,x=.ref p/\H p=wz (.dK kvs)/\∀v,H v=wy->Q (.ref v) (eY H v (GM v p))):=by
 intro b s l H x c v j Q I f r h;obtain⟨rfl,p,kvs,rfl,d,q⟩:=h;cases f;cases r;obtain⟨z,hd,vs,rel,a⟩:=FD I.hok d;refine ji IA a.typeIs PySem.F.entry_dict_items (PySem.F.args_dict_items_1 _) (meets_dict_items (jF X.prog X.w) p hd) ⟨⟨vs,a⟩,?_⟩;exact⟨.ref s.heap.objs.size,_,I.laid (o:=GM s.heap.objs.size p) (λ_ _ e=>aD _ e) (aN _) ⟨⟨_,aX _ gC,gC,gC⟩,⟨_,aX _ gC⟩,λg i ⟨o,e,r⟩ k=>⟨o,k _ e,r⟩⟩,gC,q _ (I.hok.fresh (aN _))⟩
def RV:NJ X "dict.pop" (λx b H Q=>∃p kvs k v,x=.ref p/\b=[kV k]/\H p=wz (.dK kvs)/\sI kvs k=wz v/\Q v (eY H p (.dK (lH kvs k)))):=by
 intro a s n H x b v l Q I i r h;obtain⟨p,kvs,k,y,rfl,rfl,e,d,q⟩:=h;cases i;obtain⟨u,rfl,g⟩:=nU r;exact Mv I e g d (.inl gC) λm j c f=>⟨y,_,c,f,q⟩
def VD:lU X (.builtin "len") (λb H Q=>∃p kvs,b=[.ref p]/\H p=wz (.dK kvs)/\Q (.int kvs.length) H):=by
 intro a s i H b g Q I r h;obtain⟨p,kvs,rfl,d,q⟩:=h;obtain⟨u,rfl,e⟩:=nU r;cases e;exact Mu I (.inl d) λt f c=>⟨.int kvs.length,H,c,⟨t,gC⟩,q⟩
def CK(t:X.calm=wx):lU X (.type "list") (λi H Q=>∃v p kvs,i=[.ref v]/\H v=wz (GL v p)/\H p=wz (.dK kvs)/\∀l,H l=wy->Q (.ref l) (eY H l (.lst (kvs.map (·.2))))):=by
 intro g s G H i F Q I r h;obtain⟨v,p,kvs,rfl,A,y,q⟩:=h;obtain⟨u,rfl,B⟩:=nU r;cases B;obtain⟨d,_⟩:=I.hok v _ A;obtain⟨z,hd,vs,rel,m⟩:=FD I.hok y;obtain⟨C,k⟩:=m.dictAt;have f:=rel.length;refine PySem.W.kdl_call (PySem.W.kdl_values) (I.ok.hd t) ⟨d,k⟩ cS λn E b c kp o a=>?_;have x:=PySem.W.kdl_vals_eq _ (by rw[fT];exact a.1) λj v e=>a.2 j v (by rw[<- lZ];exact e);exact⟨.ref s.heap.objs.size,_,I.laid kp (aN _) (show jC X.prog X.w _ n _ (.lst (kvs.map (·.2)))from⟨by rw[aC];exact z,b.toList,c,by rw[x];exact R0 rel,by simpa using o⟩),gC,q _ (I.hok.fresh (aN _))⟩
def BN(hc:X.calm=wx):lU X (.type "list") (λT H Q=>∃v p kvs,T=[.ref v]/\H v=wz (GM v p)/\H p=wz (.dK kvs) /\
  ∀(d:List à)(l:à)f,bG H f->H l=wy->d.length=kvs.length->(∀(j:Nat)(a:à)(e:mX×V),d[j]?=wz a->kvs[j]?=wz e->H a=wy/\f a=wz (.tup [kV e.1,e.2]))->f l=wz (.lst (d.map V.ref))->Q (.ref l) f):=by
 intro S s σ H T us Q I r h;obtain⟨v,p,kvs,rfl,hv,hp,q⟩:=h;obtain⟨u,rfl,rx⟩:=nU r;cases rx;obtain⟨M,_⟩:=I.hok v _ hv;obtain⟨z,hd,vs,rel,dd⟩:=FD I.hok hp;obtain⟨ep,da⟩:=dd.dictAt;have xq:=rel.length;refine PySem.W.kdx_call (I.ok.hd hc) M da cS λh' tk J c d kk R K w t=>?_;have nd:=w.rise.imp λh=>dF h
 generalize L:s.heap.objs.size=l at *
 let G:List HO:=kvs.map λe=>HO.tup [kV e.1,e.2]
 let f:Hp:=λb=>if b=l then wz (.lst (d.map V.ref))else match(d.zip G).lookup b with | some o=>wz o | none=>H b
 have m:∀a,l<=a->H a=none:=λa ha=>I.hok.fresh (by rw[L];exact ha)
 have g:∀(j:Nat)(a:à)(e:mX×V),d[j]?=wz a->kvs[j]?=wz e->f a=wz (.tup [kV e.1,e.2]):=λj a e i C=>by
  show(if a=l then _ else _)=_;rw[a8 (jP (w.above a (bD i))),MC nd i (by show(kvs.map _)[j]?=_;rw[aQ,C];rfl)]
 have O:bG H f:=λb o e=>by
  have nb:¬l<=b:=λz=>by rw[m b z]at e;cases e
  show(if b=l then _ else _)=_;rw[a8 (show¬b=l fromλz=>nb (kH z.symm))]
  cases F:(d.zip G).lookup b with
  |none=>exact e
  |some y=>
   obtain⟨j,i,_⟩:=EQ F;exact b8 (jA (w.above b (bD i))) nb
 have A:f l=wz (.lst (d.map V.ref)):=a9 gC;refine⟨.ref l,f,I.laidM kk O λa o e n=>?_,gC,q d l f O (m l (aN _)) cS (λj a e i C=>⟨m a (jA (w.above a (bD i))),g j a e i C⟩) A⟩;have hL:bN=2^24:=rfl;by_cases P:a=l
 ·subst P;rw[A]at e;cases e;refine⟨by rw[L];exact aN _,by rw[aC];lia,J.toList,c,?_,by simpa using R⟩;rw[t];clear t w nd G f m g O A q R K
  induction d with
  |nil=>exact .nil
  |cons x d ih=>exact .cons gC ih
 ·have B:(match(d.zip G).lookup a with | some o=>wz o | none=>H a)=wz o:=by
   have:=e;rw[<- this];exact(a8 P).symm
  cases F:(d.zip G).lookup a with
  |none=>rw[F]at B;rw[n]at B;cases B
  |some y=>
   rw[F]at B;cases B;obtain⟨j,i,C⟩:=EQ F;obtain⟨N,k,x,U,Y,Z⟩:=w.pairs j a i;obtain⟨y,e1,e2⟩:=ZS rel U;have E:=C;rw[aQ,e1]at E;cases E;exact⟨by rw[L];exact jA (w.above a (bD i)),by show 2<=bN;lia,[N,x],.cons (aDx Y) (.cons e2 .nil),⟨_,Z,gC,_,gC,gC⟩⟩
end
end L2
namespace TL
open L2
section
variable{X:Cx}{C:à}{e i:æ}{A:List æ}{u E:ET}{pos s z c:Pos}
def Mn(C:à)(u:ET):EZ (lO C):=λb n a Q=>u a λd=>d=b/\Q n (.int n.kvs.length)
def Xl(f:AM X.K C)(j:fZ X.K C "numbered")(G:gK X e u)(hb:autoParam (g4 e "numbered" X.env (è e X.env)=è e X.env) zzz._auto_1)
  (pc:∀{v},PE X (.Attribute e "numbered" c) v->PE X (.Call g [.Attribute e "numbered" c] [] pos) (WU (λO H Q=>∃(p:à)(kvs:List (mX×V)),O=[.ref p]/\H p=wz (.dK kvs)/\Q (.int kvs.length) H) (qJ v CF))) :
  uO (F:=lO C) X (.Call g [.Attribute e "numbered" c] [] pos) (Mn C u):=by
 obtain⟨v,p,r⟩:=G;refine⟨_,pc (yC f j p hb),λB J H L b P T n Q R o h k=>r B J H L b P _ _ o.ok h λd x m l N M=>?_⟩;obtain⟨rfl,q⟩:=M;obtain⟨rfl,a⟩:=mQ o l N gC;obtain⟨I,W,Y,kv,t,w,S,U,y⟩:=id a;refine⟨_,C,_,_,_,gC,t,f,j,gC,T.q,kv,gC,w,?_⟩;rw[<- y.length];exact k n _ _ m (.of l) a (.int _) q
def Ma(C:à)(u E:ET):EZ (lO C):=λb n a Q=>u a λd=>d=b/\E a λy=>∃j x,y=.int j/\qZ n.kvs j=wz x/\Q { n with kvs:=xO n.kvs j } x
def Xm(M:AM X.K C)(N:fZ X.K C "numbered")(he:gK X e u)(hi:gK X i E)(hb:autoParam (g4 e "numbered" X.env (è e X.env)=è e X.env) zzz._auto_1)
  (pc:∀{v va},PE X (.Attribute e "numbered" c) v->PE X i va->PE X (.Call (.Attribute (.Attribute e "numbered" c) "pop" s) [i] [] z) (QO X.K "dict" (λx xs H Q=>∃(p:à)(kvs:List (mX×V))(k:mX)(v:V),x=.ref p/\xs=[kV k]/\H p=wz (.dK kvs)/\sI kvs k=wz v/\Q v (eY H p (.dK (lH kvs k)))) v (qJ va CF))) :
  uO (F:=lO C) X (.Call (.Attribute (.Attribute e "numbered" c) "pop" s) [i] [] z) (Ma C u E):=by
 obtain⟨v,p,r⟩:=he;obtain⟨vi,pi,ri⟩:=hi;refine⟨_,pc (yC M N p hb) pi,λB R H S b W T n Q QV o h k=>r B R H S b W _ _ o.ok h λd x Y f r1 q1=>?_⟩;obtain⟨rfl,q⟩:=q1;obtain⟨rfl,l⟩:=mQ o f r1 gC;obtain⟨_,_,_,G,m,t,_⟩:=id l;refine⟨_,C,_,_,_,gC,m,M,N,gC,.inr (.inr (.inl ⟨gC,.inl ⟨G,t⟩⟩)),?_⟩;refine ri B R Y S b W _ _ (o.grow f).ok q λy yv H2 U r2 q2=>?_;obtain⟨j,x,rfl,g,q⟩:=q2;cases r2;have P:=(o.grow f).grow U;obtain⟨eo,v1,v6,kv,h1,Z,h3,h4,L⟩:=id P.tp;have O:=o.mem' T.q (by show T.q∈[T.p,T.q];simp);rcases L.val j with⟨a,J⟩ | ⟨d,w,a,J,I⟩
 ·rw[g]at a;cases a
 ·rw[g]at a;cases a;refine⟨T.q,kv,.inl j,w,gC,gC,Z,J,?_⟩;exact k _ x w _ (((iD.of f).trans (.of U)).trans (GZ (by show T.q∈[T.p,T.q];simp))) (Ik P.tp O (L.drop j)) (I.same (by rw[fU O];exact L2.bG.refl _)) q
def Vt(C:à)(u:ET):EZ (lO C):=λb n a Q=>u a λd=>d=b/\Q n (.list (n.kvs.map (·.2)))
def Zp(I:AM X.K C)(L:fZ X.K C "numbered")(O:gK X e u)(hb:autoParam (g4 e "numbered" X.env (è e X.env)=è e X.env) zzz._auto_1)
  (pc:∀{v:TE},PE X (.Attribute e "numbered" c) v->PE X (.Call g [.Call (.Attribute (.Attribute e "numbered" c) "values" s) [] [] z] [] pos) (WU (λw H Q=>∃(v p:à)(kvs:List (mX×V)),w=[.ref v]/\H v=wz (GL v p)/\H p=wz (.dK kvs)/\∀l,H l=wy->Q (.ref l) (eY H l (.lst (kvs.map (·.2)))))
   (qJ (By X.K "dict" (λx w H Q=>w=[]/\∃(p:à)(kvs:List (mX×V)),x=.ref p/\H p=wz (.dK kvs)/\∀v,H v=wy->Q (.ref v) (eY H v (GL v p))) v) CF))) :
  uO (F:=lO C) X (.Call g [.Call (.Attribute (.Attribute e "numbered" c) "values" s) [] [] z] [] pos) (Vt C u):=by
 obtain⟨v,p,r⟩:=O;refine⟨_,pc (yC I L p hb),λB R H S y Y T n Q Z o h k=>r B R H S y Y _ _ o.ok h λd x G j W U=>?_⟩;obtain⟨rfl,q⟩:=U;obtain⟨rfl,b⟩:=mQ o j W gC;obtain⟨P,v1,v6,kv,M,f,h3,h4,N⟩:=id b;refine⟨_,C,_,_,_,gC,M,I,L,gC,.inr (.inr (.inl ⟨gC,.inl ⟨kv,f⟩⟩)),gC,T.q,kv,gC,f,λt a=>?_⟩;refine⟨t,T.q,kv,gC,cD,by rw[bY (eX f a)];exact f,λl J=>?_⟩;have m:bG G (eY (eY G t (GL t T.q)) l (.lst (kv.map (·.2)))):=(dN a).trans (dN J);exact k n _ _ _ (.of (j.trans m)) (uE.At.grow b m) (.list (nM.of (mO (iW (o.grow j).ok.live (bG.free' (dN a) J)) cD)) (N.vals.same (cC m))) q
def Ys(C:à)(u:ET):EZ (lO C):=λb n a Q=>u a λd=>d=b/\Q n (.list (n.kvs.map λe=>.tuple [.int e.1,e.2]))
theorem xD.at{K}:∀{a b}{j:Nat}{e:Int×D},xD K H a b->a[j]?=wz e->∃v,b[j]?=wz (.inl e.1,v)/\iK K H e.2 v
|_,_,_,_,.nil,h=>by simp at h
|_,_,0,_,.cons r t,h=>by simp at h;subst h;exact⟨_,gC,r⟩
|_,_,j+1,_,.cons r t,h=>by
 obtain⟨v,d,f⟩:=t.at (by simpa using h);exact⟨v,by simpa using d,f⟩
def aAh(U:AM X.K C)(Y:fZ X.K C "numbered")(he:gK X e u)(hb:autoParam (g4 e "numbered" X.env (è e X.env)=è e X.env) zzz._auto_1)
  (pc:∀{v:TE},PE X (.Attribute e "numbered" c) v->PE X (.Call g [.Call (.Attribute (.Attribute e "numbered" c) "items" s) [] [] z] [] pos) (WU (λM H Q=>∃(v p:à)(kvs:List (mX×V)),M=[.ref v]/\H v=wz (GM v p)/\H p=wz (.dK kvs) /\
  ∀(t:List à)(l:à)f,bG H f->H l=wy->t.length=kvs.length->(∀(j:Nat)(a:à)(e:mX×V),t[j]?=wz a->kvs[j]?=wz e->H a=wy/\f a=wz (.tup [kV e.1,e.2]))->f l=wz (.lst (t.map V.ref))->Q (.ref l) f)
   (qJ (By X.K "dict" (λx M H Q=>M=[]/\∃(p:à)(kvs:List (mX×V)),x=.ref p/\H p=wz (.dK kvs)/\∀v,H v=wy->Q (.ref v) (eY H v (GM v p))) v) CF))) :
  uO (F:=lO C) X (.Call g [.Call (.Attribute (.Attribute e "numbered" c) "items" s) [] [] z] [] pos) (Ys C u):=by
 obtain⟨v,p,r⟩:=he;refine⟨_,pc (yC U Y p hb),λB p0 H Z N σ T n Q QV o h k=>r B p0 H Z N σ _ _ o.ok h λd x H1 I r1 q1=>?_⟩;obtain⟨rfl,q⟩:=q1;obtain⟨rfl,m⟩:=mQ o I r1 gC;obtain⟨eo,v1,v6,kv,h1,y,h3,h4,S⟩:=id m;refine⟨_,C,_,_,_,gC,h1,U,Y,gC,.inr (.inr (.inl ⟨gC,.inl ⟨kv,y⟩⟩)),gC,T.q,kv,gC,y,λL b=>?_⟩;refine⟨L,T.q,kv,gC,cD,by rw[bY (eX y b)];exact y,λt l f sH hl wu G hL=>?_⟩;have J:=(dN b).trans sH;have R:∀a,eY H1 L (GM L T.q) a=wy->a∉Z:=λa ha=>iW ((o.grow I).ok.live) (bG.free' (dN b) ha);have W:=S.length;refine k n _ _ _ (.of (I.trans J)) (uE.At.grow m J) (.list (nM.of (mO (R l hl) hL)) (BY (by rw[aC,aC];lia) λj d v O P=>?_)) q;rw[aQ]at O P;obtain⟨en,k1,rfl⟩:=dP.mp O;obtain⟨a,a1,rfl⟩:=dP.mp P;obtain⟨w,g1,g2⟩:=S.at k1;obtain⟨f1,f2⟩:=G j a _ a1 g1;exact .tuple (rL.of (mO (R a f1) f2)) (.cons (.int _) (.cons (g2.same (cC J)) .nil))
def Ej(C:à)(g:wY (lO C))(u:ET)(t:AZ (lO C)):EZ (lO C):=λa n b Q=>u b λd=>d=a/\t a n b λn1 f=>g a n1 (a::f) Q
noncomputable def zt:List Str:=["form","deep","least","numbered","following","standing"]
def KF(h:m∉zt):(KG T v1 v6 n).lookup m=none:=pF h
def nZ(L:m∉zt)(J:gK X e u)(I:SY X (i::A) t)
  (P:∀{v ta},PE X e v->PA X (i::A) ta->PE X (.Call (.Attribute e m s) (i::A) [] pos) (DS C m (jG X.K sp) [] E0 v ta)):uO X (.Call (.Attribute e m s) (i::A) [] pos) (Ej C sp u t):=by
 obtain⟨v,R,re⟩:=J;obtain⟨va,O,ra⟩:=I;refine⟨_,P R O,λB l H g a r T n Q QV o h k=>re B l H g a r _ _ o.ok h λd x y b Y j=>?_⟩;obtain⟨rfl,j⟩:=j;obtain⟨rfl,f⟩:=mQ o b Y gC;obtain⟨_,_,_,_,G,_⟩:=id f;refine⟨_,_,_,gC,G,KF L,ra B l y g a r T n _ _ (o.grow b) j λN F xs H2 p q Z U=>?_⟩;rw[eK];exact⟨g,T,N,mH T::F,Q,((o.grow b).growX p q).ok.live,o.mem',q,.cons (IZ T) Z,U,λM d v w s' t' W S=>k M d v w (((iD.of b).trans p).trans s') t' W S⟩
def qO(r:m∉zt)(q:gK X e u)
  (y:∀{v},PE X e v->PE X (.Call (.Attribute e m s) [] [] pos) (DS C m (jG X.K sp) [] E0 v CF)):uO X (.Call (.Attribute e m s) [] [] pos) (Ej C sp u K6):=by
 obtain⟨v,F,L⟩:=q;refine⟨_,y F,λB w H j g O T n Q R o h k=>L B w H j g O _ _ o.ok h λd x P f J b=>?_⟩;obtain⟨rfl,b⟩:=b;obtain⟨rfl,a⟩:=mQ o f J gC;obtain⟨_,_,_,_,p,_⟩:=id a;refine⟨_,_,_,gC,p,KF r,?_⟩;exact⟨j,T,n,[mH T],Q,(o.grow f).ok.live,o.mem',a,.cons (IZ T) .nil,b,λt d v l M N I G=>k t d v l ((iD.of f).trans M) N I G⟩
def Vp{F:uE}(u:EZ F):SZ F:=λd b n a=>u d n a λn1 _=>b.nx n1 a
def oZ{u:EZ F}(h:uO X e u)(p:∀{v:TE},PE X e v->PS X (.Expr e pos) (GR v)):yM X (.Expr e pos) (Vp u):=by
 obtain⟨v,m,r⟩:=h;refine⟨_,p m,λB l H b a j T n w y o h f=>r B l H b a j T n _ _ o h λn1 d x k g t G q=>?_⟩;exact f.nx k b a j n1 (o.growX g t) (g.mask o.mem') q
end
section
variable{K:aF}{B l H:Hp}{g f:List à}{c:List Sl}{k:L2.St}
def Ok.less(o:Ok K B g H f c k)(hs:bG l B):Ok K l g H f c k where
 base:=hs.trans o.base
 sub:=o.sub
 live:=o.live
 len:=o.len
 val:=o.val
 own:=λi ts h=>let ⟨p,xs,h1,h2,h3,h4⟩:=o.own i ts h;⟨p,xs,h1,h2,bG.free' hs h3,h4⟩
 dis:=o.dis
 dc:=o.dc.to (λ_ _ _ h=>⟨h,gC⟩) (λ_ _ a _ _=>⟨a,gC⟩) (λ_ _ _ _ a b=>⟨bG.free' hs a,b⟩) (L2.bG.refl _)
def Ok.pokeI(o:Ok K B g H f c k){p C dx:à}{fs}(hp:p∈f)(hB:B p=wy)(he:H p=wz (.ins C dx fs))(hn:∀(j:Nat)(hs:List Int)(kvs:List (D×D)),c[j]?≠wz (.dic hs kvs))(hu:autoParam (zx u=false) zzz._auto_1):Ok K B g (eY H p u) f c k where
 base:=λb w e=>by
  rw[bY λz=>by rw[z,hB]at e;cases e];exact o.base b w e
 sub:=o.sub
 live:=λq hq=>by
  by_cases e:q=p
  ·subst e;rw[cD];exact⟨_,gC,hu⟩
  ·rw[bY e];exact o.live q hq
 len:=o.len
 val:=λi d h=>by rw[fU hp];exact o.val i d h
 own:=λi ts h=>by
  rw[fU hp];obtain⟨q,xs,h1,h2,h3,h4,h5,h6⟩:=o.own i ts h;exact⟨q,xs,h1,h2,h3,h4,by rw[bY λz=>by rw[z,he]at h5;cases h5];exact h5,h6⟩
 dis:=o.dis
 dc:=λi hs kvs h=>b8 h (hn i hs kvs)
def LK(j:Nat)(a:List Int)(kvs:List (D×D)):(kL N ds)[j]?≠wz (.dic a kvs):=λh=>by
 have hm:=bD h;rcases bR.mp hm with hm | hm
 ·obtain⟨_,_,z⟩:=aR.mp hm;cases z
 ·have z:=(List.mem_replicate.mp hm).2;cases z
end
def Oj(K:aF)(a:TE):TS:=NX (IW K (nV 0) (nV 1) "form") (NX (IW K (nV 0) (nV 2) "deep") (NX (IW K (nV 0) (nV 3) "least") (NX (IW K (nV 0) WT "numbered") (NX (IW K (nV 0) (tC (.int 0)) "following") (IW K (nV 0) a "standing")))))
noncomputable def Ao(x:à):D:=.dict [(.str "@",.list [.int (x:Nat)])]
def JS(C:à)(K:aF)(f:kX):Sp:=λvs H Q _=>∃x dx c dp ls b fm d,vs=[.ref x,c,.int dp,.int ls]/\x∈b/\H x=wz (.ins C dx [])/\(∀p∈b,AL (H p))/\iK K (ê H b) fm c/\f [fm,.int dp,.int ls] d /\
 ∀q st e a,bG (ê H [x]) a->q≠x->H q=wy->a q=wz (.dK [])->a x=wz (.ins C dx (KG ⟨x,q,dx,fm,dp,ls⟩ c e ⟨[],0,st⟩))->iK K (ê a (q::b)) st e->d st->Q .non a
def Je{K}{mg:â->Option á}{C:à}{x b:â}{st}{f:à}{N pn:List â}{k:Nat}{J:kX}(M:NK K x b st f fd)(S:bQ N pn (aS st))(O:pn.length=4)
  (m:AM K C) (n1:fZ K C "form") (T:fZ K C "deep") (n3:fZ K C "least") (U:fZ K C "numbered") (n5:fZ K C "following") (W:fZ K C "standing")
  (i:∀d A outer s H E,iE k (A.deeper (i9 b (aS st) s.heap.objs.size f d))->∀z fm dp ls Q,J [fm,.int dp,.int ls] Q ->
   ∃e t,gK (rW qA P w K mg base N b (aS st) f d A outer s H E).nox e t/\(∀{v},PE (rW qA P w K mg base N b (aS st) f d A outer s H E).nox e v->BR (rW qA P w K mg base N b (aS st) f d A outer s H E).nox (lB st) (Oj K v))/\t (kL N [z,fm,.int dp,.int ls]) Q):lW P w K mg base qA (k+1) f fd pn (JS C K J):=by
 refine M.ok S (λvs H Q E h=>?_) λd A outer s H vs Q E R h=>?_
 ·obtain⟨x,dx,c,dp,ls,o,fm,y,rfl,_⟩:=h;exact O.symm
 ·obtain⟨x,dx,c,dp,ls,o,fm,y,rfl,p,B,live,r1,q,k⟩:=h;obtain⟨e,t,⟨vv,pe,re⟩,pp,h⟩:=i d A outer s H E R (Ao x) fm dp ls y q;refine⟨_,pp pe,?_⟩;have l:ê H [x] x=none:=by unfold ê;rw[a9 (bC.mpr gC)]
  have X:Ok K (ê H [x]) o H o (kL N [Ao x,fm,.int dp,.int ls]) (L2.nW N [.ref x,c,.int dp,.int ls]):=(qM live (.cons (.addr _) (.cons r1 (.cons (.int _) (.cons (.int _) .nil))))).less cA;have nd:=LK (N:=N) (ds:=[Ao x,fm,.int dp,.int ls]);have j:(L2.nW N [.ref x,c,.int dp,.int ls])[0]?=wz (wz (.ref x)):=rfl;have Y:=(X.pokeI (u:=.ins C dx [("form",c)]) p l B nd).pokeI (u:=.ins C dx [("form",c),("deep",.int dp)]) p l cD nd;refine⟨c,gC,.ref x,j,x,C,dx,[],gC,B,m,n1,eN,?_⟩;refine⟨.int dp,gC,.ref x,j,x,C,dx,_,gC,cD,m,T,eN,?_⟩;refine⟨.int ls,gC,.ref x,j,x,C,dx,_,gC,cD,m,n3,eN,?_⟩;intro q n;have a:q≠x:=λz=>by rw[z]at n;rw[cD]at n;cases n
  have Z:=(Y.pokeI (u:=.ins C dx [("form",c),("deep",.int dp),("least",.int ls)]) p l cD nd).adopt (u:=.dK []) n;have g:x∈q::o:=aH _ p;have F:eY (eY (eY (eY H x (.ins C dx [("form",c)])) x (.ins C dx [("form",c),("deep",.int dp)])) x (.ins C dx [("form",c),("deep",.int dp),("least",.int ls)])) q (.dK []) x=wz (.ins C dx [("form",c),("deep",.int dp),("least",.int ls)]):=by rw[bY (i0 a)];exact cD
  have I:=(Z.pokeI (u:=.ins C dx [("form",c),("deep",.int dp),("least",.int ls),("numbered",.ref q)]) g l F nd).pokeI (u:=.ins C dx [("form",c),("deep",.int dp),("least",.int ls),("numbered",.ref q),("following",.int 0)]) g l cD nd;refine⟨.ref x,j,x,C,dx,_,gC,F,m,U,eN,?_⟩;refine⟨.ref x,j,x,C,dx,_,gC,cD,m,n5,eN,?_⟩;refine re _ o _ (q::o) _ _ _ _ I h λst L H6 r r6 q6=>?_;have G:=r _ _ (cD);refine⟨.ref x,j,x,C,dx,_,gC,G,m,W,eN,?_⟩;refine k q st L _ ((I.grow r).pokeI (u:=.ins C dx (KG ⟨x,q,dx,fm,dp,ls⟩ c L ⟨[],0,st⟩)) g l G nd).base a ?_ ?_ cD (r6.same (by rw[fU g];exact L2.bG.refl _)) q6
  ·rw[bY a,bY a,bY a]at n;exact n
  ·rw[bY a];exact r _ _ (by rw[bY a,bY a];exact cD)
section
variable{K:aF}{B H l:Hp}{m g f:List à}{k:List Sl}{n:L2.St}
def Ok.wide(o:Ok K B m H g k n)(s:bG H l)(x:∀a∈f,H a=wy)(F:∀a∈f,AL (l a)):Ok K B (f++m) l (f++g) k n:=by
 have w:bG (ê H g) (ê l (f++g)):=λb u e=>by
  unfold ê at e |-
  by_cases hb:b∈g
  ·rw[a9 hb]at e;cases e
  ·rw[a8 hb]at e;rw[a8 λz=>(bR.mp z).elim (λz=>by rw[x b z]at e;cases e) hb];exact s b u e
 refine⟨o.base.trans s,λp y=>(bR.mp y).elim (λz=>dZ _ z) λz=>cE _ (o.sub p z),λp y=>?_,o.len,λi d h=>?_,λi G h=>?_,o.dis,?_⟩
 ·rcases bR.mp y with z | z
  ·exact F p z
  ·obtain⟨u,q,r⟩:=o.live p z;exact⟨u,s p u q,r⟩
 ·obtain⟨v,q,r⟩:=o.val i d h;exact⟨v,q,r.same w⟩
 ·obtain⟨p,I,q,r,A,C,t,E⟩:=o.own i G h;exact⟨p,I,q,cE _ r,A,λz=>(bR.mp z).elim (λz=>by rw[x p z]at t;cases t) C,s _ _ t,E.same w⟩
 ·exact o.dc.to (λj L kvs h=>⟨h,gC⟩) (λp J a b _=>⟨cE _ a,(s p _ b).trans b.symm⟩) (λp J _ b c d=>⟨c,λz=>(bR.mp z).elim (λz=>by rw[x p z]at b;cases b) d⟩) w
end
end TL
namespace L2
def FE(f:Array á->Array á)(o:Obj):(o7 f o).dict=o.dict:=by
 unfold o7;split<;>rfl
structure xP(h:ç)(e T:à)(dx:Option à)(cls a0 fl:á):Prop where
 ne:T≠e
 ex:∃o vs,h.get? e=wz o/\o.cls=cls/\o.dict=dx/\o.data=.fields vs/\vs[0]?=wz a0/\vs[1]?=wz (.ref T)
 tr:∃o ts,h.get? T=wz o/\o.data=.fields ts/\ts[3]?=wz fl
structure hV(fr ch:List à)(h h':ç):Prop where
 keep:∀b o,h.get? b=wz o->b∉fr->b∉ch->h'.get? b=wz o
 slot:∀b o,h.get? b=wz o->b∈fr->b∉ch->∃sl,h'.get? b=wz { o with slots:=sl }
def hV.of{h a:ç}(k:∀b o,h.get? b=wz o->b∉ch->a.get? b=wz o):hV fr ch h a:=⟨λb o e _ c=>k b o e c,λb o e _ c=>⟨o.slots,k b o e c⟩⟩
def hV.any{h a:ç}(x:hV fr ch h a){b:à}(e:h.get? b=wz o)(c:b∉ch):∃d,a.get? b=wz { o with slots:=d }:=by
 by_cases f:b∈fr
 ·exact x.slot b o e f c
 ·exact⟨o.slots,x.keep b o e f c⟩
def hV.trans(x:hV fr ch h1 h2)(y:hV fr ch h2 h3):hV fr ch h1 h3:=by
 refine⟨λb o e f c=>y.keep b o (x.keep b o e f c) f c,λb o e f c=>?_⟩;obtain⟨h,d⟩:=x.slot b o e f c;obtain⟨a,g⟩:=y.slot b _ d f c;exact⟨a,g⟩
def hV.more{h}(x:hV fr ch h h')(m:∀b∈ch,b∈ch'):hV fr ch' h h':=⟨λb o e f c=>x.keep b o e f λz=>c (m b z),λb o e f c=>x.slot b o e f λz=>c (m b z)⟩
def hV.frames{base h d:ç}(x:hV fr ch h d)(f:h.FunFrames base l)(c:∀b∈rC l,b∉ch):d.FunFrames base l:=by
 induction l with
 |nil=>trivial
 |cons v r m=>
  obtain⟨hk,⟨L,o,a,i,j,hd⟩,k⟩:=f
  have g:L∈rC (v::r):=by
   show L∈(v::r).filterMap (·.frame);rw[kR,a];exact aP ..
  obtain⟨n,e⟩:=x.any j (c L g);refine⟨hk,⟨L,_,a,i,e,hd⟩,m k λb hb=>c b ?_⟩;show b∈(v::r).filterMap (·.frame);rw[kR,a];exact aH _ hb
section
variable{P:cV}{w:f7}{A:d8}{E:á->ã->Prop}{s:ã}{base:ç}{v:Env}{outer:List Env}{L e:à}{Q:Unit->ã->Prop}
def E9{o:Obj}{vs:Array á}{nx:Bool}(C:A.frames=wz (v::outer))(I:s.heap.FunFrames base (v::outer))(F:v.frame=wz L)(H:s.heap.get? e=wz o)(hd:o.data=.fields vs)(J:1<vs.size)(p:e∉rC (v::outer))
  (k:∀i T,s.heap.objs.size<=T->T≠e->hV (rC (v::outer)) [e] s.heap i->(∃j,i.get? e=wz j/\j.cls=o.cls/\j.dict=o.dict/\j.data=.fields (vs.setIfInBounds 1 (.ref T)))->(∃x y,i.get? T=wz x/\x.data=.fields y/\y[3]?=wz (o6 L))->Q () { s with heap:=i }) :
  å (ä P w) A (do let a <- frameOf v;let l <- entryPlaceOf L nx;let b <- EntryCells.newEntry oq a .none (o6 L) .none l;setField (.ref e) 1 b) Q E s:=by
 apply aI;refine wpAny_frameOf_fun C I F λd so=>?_;apply aI;refine wpAny_entryPlaceOf λl h=>?_;apply aI;refine jL ?_ (h.sizeOk5 _ _ _ _ _);have r:=(so.2.1 e p).trans H
 generalize g:({ cls:=.type "traceback",dict:=wy,data:=.fields ([oq,.ref L,.none,o6 L,.none]++(if l.isEmpty then IC 6 k6 else l)).toArray }:Obj)=ob
 have t:(d.push ob).get? e=wz o:=aD _ r;refine u8 t hd J ?_;have ne:=jP (bF r);have q:=m6 hd (·.setIfInBounds 1 (d0 d.objs.size))
 have G:((d.push ob).update e (o7 (·.setIfInBounds 1 (d0 d.objs.size)))).get? d.objs.size=wz ob:=by
  rw[gH _ _ (i0 ne)];refine aX d ?_;rw[<- g];rfl
 refine k _ d.objs.size (by rw[so.1];exact aN _) ne ⟨λb u m f c=>?_,λb u m f c=>?_⟩ ⟨_,(pK (o7 (·.setIfInBounds 1 (d0 d.objs.size))) t (w6 q)),kd _ _,FE _ _,q⟩ ⟨ob,_,G,by rw[<- g],?_⟩
 ·have n:b≠e:=λz=>c (by rw[z];exact aP ..);rw[gH _ _ (i0 n)];exact aD _ ((so.2.1 b f).trans m)
 ·obtain⟨K,B⟩:=so.2.2 b u m;refine⟨K,?_⟩;rw[gH _ _ (i0 (λz=>c (by rw[z];exact aP ..)))];exact aD _ B
 ·rcases h with rfl | ⟨_,_,_,_,_,_,_,rfl⟩<;>simp
def OE{o:Obj}(i:A.frames=wz (v::outer))(l:s.heap.FunFrames base (v::outer))(d:v.frame=wz L)(f:s.heap.get? e=wz o)(hd:o.data=.fields vs)(c:vs[1]?=wz .none)(h:vs[0]?=wz a0)(b:e∉rC (v::outer))
  (k:∀a T,s.heap.objs.size<=T->hV (rC (v::outer)) [e] s.heap a->xP a e T o.dict o.cls a0 (o6 L)->Q () { s with heap:=a }):å (ä P w) A (ja (.ref e) v) Q E s:=by
 unfold ja;simp only[d];apply aI;refine e8 f hd c ?_;rw[a8 cR];have g:=(mS.mp c).1;refine E9 i l d f hd g b λa T n1 p n m j=>k a T n1 n ⟨p,?_,j⟩;obtain⟨q,r,t,xd,u⟩:=m;exact⟨q,_,r,t,xd,u,by rw[CC cR];exact h,by simp[g]⟩
def A6{T:à}(F:A.frames=wz (v::outer))(H:s.heap.FunFrames base (v::outer))(q:v.frame=wz L)(x:xP s.heap e T dx cls a0 .none)(m:e∉rC (v::outer))(j:T∉rC (v::outer))
  (k:∀a h,s.heap.objs.size<=h->hV (rC (v::outer)) [e,T] s.heap a->xP a e h dx cls a0 (o6 L)->Q () { s with heap:=a }):å (ä P w) A (ja (.ref e) v) Q E s:=by
 obtain⟨ne,⟨o,vs,t,G,l,hd,C,n⟩,⟨S,U,r,d,p⟩⟩:=x;unfold ja;simp only[q];apply aI;refine e8 t hd n ?_;rw[a9 (show(d0 T != k6)=wx from gC)];apply aI;refine e8 r d p ?_;rw[a8 (show¬((k6==o6 L)=wx) by simp[o6])];apply aI;refine u8 r d (mS.mp p).1 ?_;have g:∀b,b≠T->(s.heap.update T (o7 (·.setIfInBounds 3 k6))).get? b=s.heap.get? b:=λb hb=>gH _ _ (i0 hb);have f:hV (rC (v::outer)) [T] s.heap (s.heap.update T (o7 (·.setIfInBounds 3 k6))):=.of λb u B c=>(g b λz=>c (by rw[z];exact aP ..)).trans B;have y:=(mS.mp n).1;refine E9 F (f.frames H λb hb z=>j (by rw[<- bC.mp z];exact hb)) q ((g e (i0 ne)).trans t) hd y m λa h n1 K J I i=>?_;refine k a h (aY (kH (DM ..).symm) n1) ((f.more λb hb=>by simp at hb |-;exact .inr hb).trans (J.more λb hb=>by simp at hb |-;exact .inl hb)) ⟨K,?_,i⟩;obtain⟨M,N,O,xd,R⟩:=I;exact⟨M,_,N,O.trans G,xd.trans l,R,by rw[CC cR];exact C,by simp[y]⟩
def oV{T:à}{fl}(x:xP s.heap e T dx cls a0 fl)(k:∀c,(∀b o,s.heap.get? b=wz o->b≠T->c.get? b=wz o)->xP c e T dx cls a0 .none->Q () { s with heap:=c }):å (ä P w) A (setFlight (.ref e) wy) Q E s:=by
 obtain⟨ne,⟨o,vs,h,n,d,hd,l,f⟩,⟨p,q,g,a,m⟩⟩:=x;have i:=(mS.mp m).1;apply aI;refine e8 h hd f ?_;rw[a9 (show(d0 T != k6)=wx from gC)];refine u8 g a i (k _ (λb u j hb=>(gH _ _ (i0 hb)).trans j) ⟨ne,⟨o,vs,(gH _ _ ne).trans h,n,d,hd,l,f⟩,_,_,pK _ g (w6 (m6 a _)),m6 a _,by simp[i]⟩)
def ME{o:Obj}(p:A.frames=wz (v::outer))(t:s.heap.FunFrames base (v::outer))(q:v.frame=wz L)(r:s.heap.get? e=wz o)(hd:o.data=.fields vs)(h:vs[1]?=wz .none)(m:vs[0]?=wz a0)(g:e∉rC (v::outer))
  (k:∀d T,s.heap.objs.size<=T->hV (rC (v::outer)) [e] s.heap d->xP d e T o.dict o.cls a0 .none->Q () { s with heap:=d }):å (ä P w) A (leaving v (.ref e)) Q E s:=by
 apply aI;refine OE p t q r hd h m g λh T n1 j x=>?_;refine oV x λn i B=>k n T n1 ⟨λb u a f c=>?_,λb u a f c=>?_⟩ B
 ·exact i b u (j.keep b u a f c) λz=>b8 (cH (bF a) n1) (by rw[z];exact fB _)
 ·obtain⟨y,l⟩:=j.slot b u a f c;exact⟨y,i b _ l λz=>b8 (cH (bF a) n1) (by rw[z];exact fB _)⟩
def OV{T:à}(o:A.frames=wz (v::outer))(q:s.heap.FunFrames base (v::outer))(p:v.frame=wz L)(x:xP s.heap e T dx cls a0 .none)(i:e∉rC (v::outer))(h:T∉rC (v::outer))
  (k:∀g d,s.heap.objs.size<=d->hV (rC (v::outer)) [e,T] s.heap g->xP g e d dx cls a0 .none->Q () { s with heap:=g }):å (ä P w) A (leaving v (.ref e)) Q E s:=by
 apply aI;refine A6 o q p x i h λy d n1 l x=>?_;refine oV x λn j t=>k n d n1 ⟨λb u a f c=>?_,λb u a f c=>?_⟩ t
 ·exact j b u (l.keep b u a f c) λz=>b8 (cH (bF a) n1) (by rw[z];exact fB _)
 ·obtain⟨r,m⟩:=l.slot b u a f c;exact⟨r,j b _ m λz=>b8 (cH (bF a) n1) (by rw[z];exact fB _)⟩
end
section
variable{P:cV}{w:f7}{H k:Hp}{h j i:ç}{a:à}{o:HO}{c d g:List à}
theorem jC.get(x:jC P w H h a o):∃u,h.get? a=wz u:=by
 cases o with
 |lst b=>obtain⟨_,_,_,_,e⟩:=x;exact⟨_,e⟩
 |tup b=>obtain⟨_,_,_,_,e,_⟩:=x;exact⟨_,e⟩
 |dK kvs=>obtain⟨_,_,_,_,o,_,_,e,_⟩:=x;exact⟨_,e⟩
 |dT kvs=>obtain⟨_,_,_,_,o,_,_,e,_⟩:=x;exact⟨_,e⟩
 |set S n=>obtain⟨o,_,_,_,e,_⟩:=x;exact⟨_,e⟩
 |ins C dx fs=>obtain⟨_,_,_,e,_⟩:=x;exact⟨_,e⟩
 |own y=>obtain⟨_,e⟩:=x;exact⟨_,e⟩
 |xd fs=>obtain⟨_,⟨_,_,_,e,_⟩,_⟩:=x;exact⟨_,e⟩
 |rng lo l=>obtain⟨_,_,_,e⟩:=x;exact⟨_,e⟩
 |frz ob u=>obtain⟨e,_⟩:=x;exact⟨_,e⟩
 |tbl m=>obtain⟨_,e,_⟩:=x;exact⟨_,e⟩
 |met f y=>exact⟨_,(show h.get? a=wz _ from x)⟩
 |ext p=>obtain⟨_,⟨_,e⟩,_⟩:=x;exact⟨_,e⟩
def pZ.out(x:pZ P w H h)(e:h.get? a=wy):H a=none:=by
 cases q:H a with
 |none=>rfl
 |some u=>obtain⟨_,z⟩:=(x a u q).get;rw[e]at z;cases z
def pZ.butX(x:pZ P w H h)(n:hV c g h i)(m:∀b∈c,H b=wy)(l:∀b∈g,H b=wy):pZ P w H i:=λa o e=>by
 refine(x a o e).stay (λb u hb q=>?_) (λ_ q=>q) λ_ _ q=>q
 have f:H b≠none:=by
  rcases hb with rfl | hb
  ·rw[e];exactλz=>nomatch z
  ·rw[hb];exactλz=>nomatch z
 exact n.keep b u q (λz=>f (m b z)) λz=>f (l b z)
def Un.but(u:Un c [] H k j h)(kb:hV d g h i)(nw:∀b o,j.get? b=wz o->b∉g/\(b∈d->b∈c)):Un c [] H k j i where
 keep:=λb o e n f x=>kb.keep b o (u.keep b o e n f x) (λz=>f ((nw b o e).2 z)) (nw b o e).1
 slot:=λb o e n f x=>by
  obtain⟨sl,e1⟩:=u.slot b o e n f x;obtain⟨sr,e2⟩:=kb.any e1 (nw b o e).1;exact⟨sr,e2⟩
 free:=u.free
 there:=λb o e x=>by
  obtain⟨o',e1⟩:=u.there b o e x;obtain⟨sr,e2⟩:=kb.any e1 (nw b o e).1;exact⟨_,e2⟩
 tups:=u.tups
 frzs:=u.frzs
 tbls:=u.tbls
end
def P8(P:cV)(w:f7):VN:=λouter H s E e d=>∃f T dx c g b,e=.ref f/\d.os=s.os/\t9 d.gens/\Un (rC outer) [] H b s.heap d.heap/\pZ P w b d.heap /\
 xP d.heap f T dx c g .none/\b f=wy/\b T=wy/\s.heap.get? f=wy/\s.heap.get? T=wy/\(∀a,dx=wz a->s.heap.get? a=wy)/\E c dx b
section
variable{P:cV}{w:f7}{K:aF}{mg:â->Option á}{base:ç}{N:List â}{d:â}{c:Scope}{f:à}{cd:á}{A:d8}{outer:List Env}{s:ã}{H:Hp}{E:XK}
noncomputable abbrev VZ(P:cV)(w:f7)(K:aF)(mg:â->Option á)(base:ç)(N:List â)(d:â)(c:Scope)(f:à)(cd:á)(A:d8)(outer:List Env)(s:ã)(H:Hp)(E:XK):Cx:=rW (P8 P w) P w K mg base N d c f cd A outer s H E
def Hh{g:Hp}{j s2:ã}{h:à}(I:dI (VZ P w K mg base N d c f cd A outer s H E) pins σ g j)(m:s.heap.get? h=wy)(p:E cls dx g)(u:g h=wy)
  (n:s2.os=j.os) (t:s2.gens=j.gens) (hk:hV (rC (i9 d c s.heap.objs.size f cd::outer)) ch j.heap s2.heap) (i:∀b∈ch,g b=wy/\s.heap.get? b=wy) {T:à} (x:xP s2.heap h T dx cls a0 .none) (r:g T=wy) (k:s.heap.get? T=wy) (l:∀a,dx=wz a->s.heap.get? a=wy) :
  P8 P w outer H s E (.ref h) s2:=by
 refine⟨h,T,dx,cls,a0,g,gC,n.trans I.os,by rw[t];exact I.bare,Un.but I.base hk λb o e=>⟨λz=>?_,λz=>?_⟩,I.hok.butX hk (λb hb=>I.stkFree b hb) λb hb=>(i b hb).1,x,u,r,m,k,l,p⟩
 ·rw[(i b z).2]at e;cases e
 ·rcases aO.mp (I.stkSub b z)with q | q
  ·rw[q]at e;exact b8 (bF e) (fB _)
  ·exact q
def zH:vY (P8 P w) (VZ P w K mg base N d c f cd A outer s H E) E:=by
 intro m M C n e L I t;obtain⟨j,T,dx,p,G,F,rfl,os,bare,un,hok,x,n1,v,n3,l,n5,r⟩:=t;have h:=I.call' os un hok bare λb z=>b8 z eH
 have g:∀b,n.heap.get? b=wy->b∉rC (i9 d c s.heap.objs.size f cd::outer):=λb hb z=>by
  obtain⟨_,o,k,_⟩:=I.stack.mem z;rw[hb]at k;cases k
 have old:∀b,n.heap.get? b=wy->s.heap.get? b=none:=λb hb=>by
  cases q:s.heap.get? b with
  |none=>rfl
  |some o=>obtain⟨y,z⟩:=I.base.there b o q (λz=>b8 z (by simp[rW]));rw[hb]at z;cases z
 refine OV I.ok.frames h.stack gC x (g j n3) (g T l) λJ i sz u B=>?_;refine Hh h (old j n3) r n1 gC gC u (λb hb=>?_) B (hok.fresh sz) ?_ λa z=>old a (n5 a z)
 ·simp only[aO,cG,f6]at hb;rcases hb with rfl | rfl
  ·exact⟨n1,old _ n3⟩
  ·exact⟨v,old _ l⟩
 ·cases q:s.heap.get? i with
  |none=>rfl
  |some o=>obtain⟨y,z⟩:=h.base.there i o q (λz=>b8 z (by simp[rW]));rw[(mT sz)]at z;cases z
end
def zp(K:aF)(C:à):Prop:=∃nm q N bs b n sub e c h i j k l m J f g a d,
 K.lookup C=wz (dt nm q C N bs (.ref J::[.type "ValueError",.type "Exception",.type "BaseException",.type "object"]) b n sub e c h i j k l m "ValueError.__new__") /\
 wC K N=wx/\fC K N "__init__"=wz wy/\K.lookup J=wz ⟨f,g,.cls a,d⟩/\wC K a.ns=wx/\fC K a.ns "__init__"=wz wy
def RQ{K:aF}{h:ç}{N:à}{m:â->Option á}(X:K.In h)(G:h.Ns N m)(e:fC K N n=wz wy):m n=none:=by
 obtain⟨o,f,d,c,hd,_,b⟩:=G;unfold fC at e;split at e
 ·rename_i q;have z:=X _ _ q;rw[c]at z;cases z;cases hd;split at e
  ·cases e
  ·rename_i a;rw[<- b];unfold nsFind findBy;rw[<- VU,a]
   rfl
 ·cases e
def RT{h a:ç}{N:à}{m:â->Option á}(G:h.Ns N m)(k:∀b o,h.get? b=wz o->a.get? b=wz o):a.Ns N m:=let ⟨o,es,ep,ho,r⟩:=G;⟨o,es,ep,k _ _ ho,r⟩
def WQ(C:à)(E:XK)(t:TA):TS:=λ_ b H=>t b H λvs a=>vs.length<=bN/\E (.ref C) wy a
section
variable{P:cV}{w:f7}{K:aF}{mg:â->Option á}{base:ç}{N:List â}{d:â}{c:Scope}{f:à}{cd:á}{A:d8}{outer:List Env}{s:ã}{H:Hp}{E:XK}
def zG{C:à}{k:Nat}{x:â}(R:zp K C)(hr:iE k (A.deeper (i9 d c s.heap.objs.size f cd)))(hg:Gl (VZ P w K mg base N d c f cd A outer s H E) x)(i:mg x=wz (.ref C))
  (Z:PA (VZ P w K mg base N d c f cd A outer s H E) (e::es) t) (hd:autoParam ((x==("__debug__":â))=false) zzy._auto_1)
  (M:autoParam (bZ (e::es) (i9 d c s.heap.objs.size f cd)=(ww,è e (i9 d c s.heap.objs.size f cd))::bZ es (i9 d c s.heap.objs.size f cd)) zzz._auto_1)
  (v:autoParam ((j8 cpos (bZ (e::es) (i9 d c s.heap.objs.size f cd))).any (·.1)=false) zzz._auto_1) :
  PS (VZ P w K mg base N d c f cd A outer s H E) (.Raise (wz (.Call (.Name x np) (e::es) [] cpos)) wy pos) (WQ C E t):=by
 intro m s1 σ U D I h;obtain⟨nm,q,W,bs,hdct,sn,sub,ab,col,dd,k0,k1,k2,k3,k5,J,c0,dJ,X,xz,lC,nC,iC,lJ,nJ,iJ⟩:=R;have B:=aBi.of_isNs (QB I.mod.kin nC);have G:=aBi.of_isNs (QB I.mod.kin nJ);refine wpAny_Raise_call_subT F.excBase_ValueError (C:=C) (nm:=nm) (q:=q) (N:=W) (bs:=bs) (bm:=.ref J::[.type "ValueError",.type "Exception",.type "BaseException",.type "object"]) (hdct:=hdct) (sn:=sn) (sub:=sub) (ab:=ab) (col:=col) (dd:=dd) (k0:=k0) (k1:=k1) (k2:=k2) (k3:=k3) (k5:=k5) (by rfl) hr.hd v (RQ I.mod.kin B iC) (tY I hg i ⟨gC,?_⟩ hd);rw[show(VZ P w K mg base N d c f cd A outer s H E).env=i9 d c s.heap.objs.size f cd from gC,M];refine ez ?_;have S:=Z cpos m s1 σ U _ I h;rw[show(VZ P w K mg base N d c f cd A outer s H E).env=i9 d c s.heap.objs.size f cd from gC,M]at S;refine eE S (λus s2 hz=>?_) λ_ _ z=>z;obtain⟨vs,H2,g,r,hl,Y⟩:=hz;refine⟨gC,by rw[<- r.length];exact hl,g.kIn _ _ lC,RT B g.bk,.own (g.kIn _ _ lJ) (RT G g.bk) (RQ I.mod.kin G iJ) .base,λL y i=>?_⟩;have j:=g.hok.kept i.keeps;have n:=g.un (t':=s2.toks) (Un.kept i.keeps) j;obtain⟨t',u,_,_⟩:=i.there;have O:=g.hok.out i.new
 have l:y∉rC (i9 d c s.heap.objs.size f cd::outer):=λz=>by
  obtain⟨_,o,Q,_⟩:=g.stack.mem z;rw[i.new]at Q;cases Q
 have old:∀b,s2.heap.get? b=wy->s.heap.get? b=none:=λb hb=>by
  cases q:s.heap.get? b with
  |none=>rfl
  |some o=>obtain⟨o',z⟩:=g.base.there b o q (λz=>b8 z (by simp[rW]));rw[hb]at z;cases z
 refine ME (base:=base) (outer:=outer) (s:={ s2 with heap:=L }) I.ok.frames n.stack gC u gC gC gC l λp T sz kb x'=>?_;refine Hh (s2:={ s2 with heap:=p }) n (old y i.new) Y O gC gC kb (λb hb=>?_) x' (j.fresh sz) ?_ (λa z=>nomatch z)
 ·simp only[aO,cG,f6]at hb;subst hb;exact⟨O,old _ i.new⟩
 ·cases q:s.heap.get? T with
  |none=>rfl
  |some o=>obtain⟨o',z⟩:=n.base.there T o q (λz=>b8 z (by simp[rW]));rw[show({ s2 with heap:=L }:ã).heap.get? T=wy from mT sz]at z;cases z
end
def RS(X:Cx)(st:é)(rt:St->Hp->(Hp->XK)->Prop):Prop:=∀a s c H W,dI X a c H s->rt c H W ->
 å (ä X.prog X.w) X.A (exec st X.env) (λ_ _=>False) (λe f=>∃b d,dI X a c b d/\P8 X.prog X.w X.stack b d (W b) e f) s
def RE(X:Cx)(e:æ)(rt:St->Hp->(Hp->XK)->Prop):Prop:=∀a s c H W,dI X a c H s->rt c H W ->
 å (ä X.prog X.w) X.A (è e X.env) (λ_ _=>False) (λe f=>∃b d,dI X a c b d/\P8 X.prog X.w X.stack b d (W b) e f) s
def HS(X:Cx):Prop:=∀e s,¬X.xe e s
section
variable{X:Cx}{pos:Pos}{e:æ}
def XG{rt:St->Hp->(Hp->XK)->Prop}(h:RE X e rt)(c:autoParam (kP e (wz (.Name y pos')) pos.line X.env=pure false) zzz._auto_1):RS X (.Assign [.Name y pos'] e pos) rt:=by
 intro a s d H W I b;exact mz (iZ (h a s d H W I b) λv f z=>z.elim) c
end
noncomputable abbrev Cx.marked(X:Cx)(a:à):Cx:={ X with A:=X.A.mark (wz (.ref a)),calm:=ww }
section
variable{X:Cx}{d:List (à×Obj)}{l:St}{H:Hp}{s:ã}{g:à}
def dI.mark(I:dI X d l H s)(g:à):dI (X.marked g) d l H s:=
 ⟨⟨I.ok.mod,I.ok.kind,I.ok.glob,I.ok.blt,I.ok.above,I.ok.inj,I.ok.has,I.ok.cab,(λz=>nomatch z),I.ok.frames,I.ok.stk,I.ok.exf,I.ok.bs,I.ok.bsz,I.ok.noex,I.ok.exfs,I.ok.funs,I.ok.frf,I.ok.tab⟩,I.os,I.bare,I.base,I.loc,I.cell,I.free,I.freeC,I.pin,I.hok,I.len⟩
def dI.unmark(I:dI X d l H s)(J:dI (X.marked g) d u4 H' s'):dI X d u4 H' s':=⟨I.ok,J.os,J.bare,J.base,J.loc,J.cell,J.free,J.freeC,J.pin,J.hok,J.len⟩
def aD8{E:á->ã->Prop}{i:Nat}{Q:Unit->ã->Prop}(I:dI X d l H s)(O:X.N.Nodup)(C:X.N[i]?=wz n)(f:X.env.scope.names.lookup n=wz .local)
  (h:∀J,dI X d (l.set i wy) H J->Q () J):å M A (do bindName X.env n .none;unbindBehindTheSuite X.env n pos) Q E s:=by
 obtain⟨m,R,P⟩:=id I.loc;have t:(X.env.scope.kind==.class||(X.env.scope.kind==.module&&X.env.locals != X.env.globals))=false:=by rw[I.ok.kind];rfl
 have u:i<l.length:=by rw[I.len];exact(aL.mp C).1
 have cne:=I.cne;refine wpAny_nameGoes_keeps f R t λh' v x a=>?_;have gJ:∀b o,X.s₀.heap.get? b=wz o->b≠X.env.locals:=λb o e=>dF (cH (bF e) I.ok.above);refine h _ ⟨I.ok,I.os,I.bare,⟨λb o e n hb f=>?_,λb o e n hb f=>?_,I.base.free,λb o e f=>?_,I.base.tups,I.base.frzs,I.base.tbls⟩,⟨_,x,λj y v' r w L=>?_⟩,λy c e=>?_,I.free,I.freeC,λp S=>?_,λb ob e=>?_,by simpa using I.len⟩
 ·exact(a.2 b (gJ b o e)).trans (I.base.keep b o e n hb f)
 ·obtain⟨sl,r⟩:=I.base.slot b o e n hb f;exact⟨sl,(a.2 b (gJ b o e)).trans r⟩
 ·obtain⟨U,r⟩:=I.base.there b o e f;exact⟨U,(a.2 b (gJ b o e)).trans r⟩
 ·have F:j≠i:=λz=>by
   rw[z,bT u]at w;cases w
  rw[bM (i0 F)]at w;obtain⟨u',r',q⟩:=P j y v' r w L;have T:y≠n:=λz=>F (EI O (z▸r) C);refine⟨u',r',?_⟩;rcases q with⟨k,e⟩ | ⟨k,c,e,o,z,B⟩
  ·exact .inl ⟨k,by show(if y=n then v else m y)=_;rw[a8 T];exact e⟩
  ·exact .inr ⟨k,c,e,o,(a.2 c (cne y c e)).trans z,B⟩
 ·obtain⟨K,o,z,B⟩:=I.cell y c e;exact⟨K,o,(a.2 c (cne y c e)).trans z,B⟩
 ·obtain⟨W,Y,G,Z,p5⟩:=I.pin p S;exact⟨(a.2 p.1 G).trans W,Y,G,Z,p5⟩
 ·refine(I.hok b ob e).stay (λc K hc q=>(a.2 c ?_).trans q) (λ_ q=>q) λ_ _ q=>q;rintro rfl;rcases hc with rfl | hc
  ·rw[I.free]at e;cases e
  ·rw[I.free]at hc;cases hc
def pZ.track{H h}{a:à}(x:pZ P w H h)(f:H a=wy)(new:jC P w (eY H a o) h a o):pZ P w (eY H a o) h:=λb u e=>by
 by_cases hb:b=a
 ·subst hb;rw[cD]at e;cases e;exact new
 ·rw[bY hb]at e;exact(x b u e).stay (λc v _ q=>q) (λc q=>by rw[bY (eX q f)];exact q) (λc i q=>by rw[bY (eX q f)];exact q) λc ob v q=>by rw[bY (eX q f)];exact q
def Un.track{H}{h h':ç}{a:à}(u:Un fr [] H H' h h')(hn:H' a=wy)(hf:h.get? a=wy):Un fr [] H (eY H' a o) h h' where
 keep:=u.keep
 slot:=u.slot
 free:=λb ob e n x=>by
  rw[bY λz=>by rw[z,hf]at e;cases e];exact u.free b ob e n x
 there:=u.there
 tups:=λb xs e=>by have z:=u.tups b xs e;rw[bY (eX z hn)];exact z
 frzs:=λb ob v e=>by have z:=u.frzs b ob v e;rw[bY (eX z hn)];exact z
 tbls:=λb q e=>by
  obtain⟨more,z⟩:=u.tbls b q e;exact⟨more,by rw[bY (eX z hn)];exact z⟩
def He(K:aF)(J:à)(i:Nat)(rt:St->Hp->(Hp->XK)->Prop)(j:à->TS):TS:=λD l H=>rt l H λe b dx f=>fF K b (.ref J)=wz wx /\
 ∃C,b=.ref C/\∀g,e g=wy->f g=wy->(∀a,dx=wz a->e a=wy)->j g { nx:=λc h=>D.nx (c.set i wy) h,rt:=λ_ _=>False } (l.set i (wz (.ref g))) (eY f g (.ext (TL.pH g C dx)))
def aC7{J:à}{i:Nat}{n jn:â}{st}{rt:St->Hp->(Hp->XK)->Prop}{ts:à->TS}(hq:HS X)(j:X.stack=X.env::X.outer)(W:X.env.frame=wz X.env.locals)(hN:X.N.Nodup)(hi:X.N[i]?=wz n)(Y:X.env.scope.names.lookup n=wz .local)(hg:Gl X jn)(hm:X.mg jn=wz (.ref J))
  (hs:RS X st rt) (hb:∀g,BR (X.marked g) (b0::suite) (ts g)) (hd:autoParam ((jn==("__debug__":â))=false) zzy._auto_1) :
  PS X (.Try [st] (.ExceptHandler (wz (.Name jn jp)) (wz n) (b0::suite) hp::qi) [] [] pos) (He X.K J i rt ts):=by
 intro d s l H D I h;refine cy (x8 (eE (hs d s l H _ I h) (λ_ _ z=>z.elim) λe P hz=>?_));obtain⟨H1,Q,t,g,T,dx,cls,a0,B,rfl,os,bare,un,hok,x,n1,n2,n3,n4,n5,hW,C,rfl,m⟩:=hz;have Z:=t.call' os un hok bare λb z=>b8 z eH;have F:X.A.frames=wz (X.env::X.outer):=by rw[<- j];exact I.ok.frames
 have L:P.heap.FunFrames X.base (X.env::X.outer):=by rw[<- j];exact Z.stack
 have p:∀b,Q.heap.get? b=wy->b∉rC (X.env::X.outer):=λb hb z=>by
  rw[<- j]at z;obtain⟨_,o,ho,_⟩:=t.stack.mem z;rw[hb]at ho;cases ho
 have f:∀b∈rC (X.env::X.outer),B b=none:=λb hb=>by rw[<- j]at hb;exact Z.stkFree b hb
 refine A6 F L W x (p g n3) (p T n4) λh3 y sz kb x3=>?_
 have U:Q.heap.get? y=none:=by
  cases q:Q.heap.get? y with
  |none=>rfl
  |some o=>obtain⟨o',z⟩:=un.there y o q eH;rw[mT sz]at z;cases z
 refine oV x3 λh4 k4 x4=>?_;have r:hV (rC (X.env::X.outer)) [g,T,y] P.heap h4:=(kb.more λb hb=>aO.mpr ((aO.mp hb).imp id λz=>aO.mpr (.inl (bC.mp z)))).trans (.of λb u S c=>k4 b u S λz=>c (by rw[z];simp))
 have nw:∀b o,Q.heap.get? b=wz o->b∉[g,T,y]/\(b∈rC (X.env::X.outer)->b∈rC X.stack):=λb o e=>by
  refine⟨λz=>?_,λz=>by rw[j];exact z⟩;simp only[aO,cG,f6]at z;rcases z with rfl | rfl | rfl
  ·rw[n3]at e;cases e
  ·rw[n4]at e;cases e
  ·rw[U]at e;cases e
 have E:∀b∈[g,T,y],B b=none:=λb z=>by
  simp only[aO,cG,f6]at z;rcases z with rfl | rfl | rfl
  ·exact n1
  ·exact n2
  ·exact(hok.fresh sz)
 have I4:dI X d l B { P with heap:=h4 }:=t.call' os (un.but r nw) (hok.butX r f E) bare λb z=>b8 z eH;have J4:=I4.mark g;obtain⟨oe,ve,ge,ce,de,tf,_,_⟩:=x4.ex;refine ba (af (tY J4 hg hm (((CT J4.kIn (ce▸(xQ.ld ge).andThen .now) hW).at ?_)) hd)) (λz=>nomatch z);rw[a9 rfl];refine codeAny_handlers_suite_as (oV x4 λh5 k5 x5=>?_);have M:=r.trans (.of λb u S c=>k5 b u S λz=>c (by rw[z];simp));obtain⟨o5,v5,g5,c5,d5,R,_,_⟩:=x5.ex;have G:pZ X.prog X.w (eY B g (.ext (TL.pH g C dx))) h5:=(hok.butX M f E).track n1 ⟨⟨o5,v5,g5,c5,d5,R⟩,⟨o5,g5⟩,λha hb ⟨o,v,y1,y2⟩ k=>⟨o,v,k o y1,y2⟩⟩;have I5:dI X d l (eY B g (.ext (TL.pH g C dx))) { P with heap:=h5 }:=t.call' os ((un.but M nw).track n1 n3) G bare λb z=>b8 z eH;refine DU I5 hN hi (.inl Y) (v:=.ref g) gC (λs6 I6=>?_) (.inr Y);refine eE (hb g d s6 _ _ _ (I6.mark g) (m g (t.hok.out n3) n1 λa z=>t.hok.out (n5 a z))) (λfl s7 O=>?_) λe s7 z=>b8 z (hq e s7)
 cases fl with
 |next=>
  obtain⟨u4,H',J7,q⟩:=O;exact aD8 (I6.unmark J7) hN hi Y λs8 I8=>⟨_,H',I8,q⟩
 |brk=>obtain⟨_,_,_,z⟩:=O;exact z.elim
 |cont=>obtain⟨_,_,_,z⟩:=O;exact z.elim
 |ret u=>obtain⟨_,_,_,_,_,z⟩:=O;exact z.elim
def aC8(c:HS X)(hb:BR X body ts):PS X (.Try body (a::hs) [] [] pos) ts:=by
 intro d s l H D I h;refine cy (eE (hb d s l H D I h) (λf b q=>?_) λe b z=>b8 z (c e b))
 cases f with
 |next=>exact t8 q
 |ret v=>exact q
 |brk=>exact q
 |cont=>exact q
end
end L2
namespace TL
open L2
section
variable{e:æ}
def Ok.away{K}{jb:List Sl}{σ:L2.St}(o:Ok K B p0 H ps jb σ)(i:Nat):Ok K B p0 H ps (jb.set i .un) (σ.set i wy) where
 base:=o.base
 sub:=o.sub
 live:=o.live
 len:=by simpa using o.len
 val:=λj d h=>by
  by_cases e:i=j
  ·subst e;have hi:i<jb.length:=by have:=(aL.mp h).1;simpa using this
   rw[bT hi]at h;cases h
  ·rw[bM e]at h |-;exact o.val j d h
 own:=λj ts h=>by
  by_cases e:i=j
  ·subst e;have hi:i<jb.length:=by have:=(aL.mp h).1;simpa using this
   rw[bT hi]at h;cases h
  ·rw[bM e]at h |-;exact o.own j ts h
 dis:=λj k ts us p h1 h2 h3 h4=>by
  have back:∀{l:Nat}{vs:List D},(jb.set i .un)[l]?=wz (.own vs)->i≠l/\jb[l]?=wz (.own vs):=λ{l vs} h=>by
   by_cases e:i=l
   ·subst e;have hi:i<jb.length:=by have:=(aL.mp h).1;simpa using this
    rw[bT hi]at h;cases h
   ·rw[bM e]at h;exact⟨e,h⟩
  obtain⟨n1,b1⟩:=back h1;obtain⟨n2,b2⟩:=back h2;rw[bM n1]at h3;rw[bM n2]at h4;exact o.dis j k ts us p b1 b2 h3 h4
 dc:=o.dc.setS λ_ _ z=>nomatch z
end
end TL
namespace L2
def GE:d4 "ValueError"=wz (.type "ValueError"):=by decide +kernel
section
variable{K:aF}{C D J:à}{cd:ClassData}
def BC(c:gT K D=wz cd)(d:gR K (.ref D)=wz (.type "type"))(a:bL K C (.ref D)=wz ww)(b:bL K D (.ref D)=wz wx):dU K (.ref C) (.ref D)=wz false:=by
 have ne:¬(d0 C==d0 D)=true:=λz=>by
  have e:=Value.ref.inj (beq_iff_eq.mp z);subst e;rw[a]at b;cases b
 unfold dU;rw[a8 ne];unfold wF;dsimp only;rw[c,d];rw[a9 eH];exact a
def mV{b:Bool}(hk:lI T=wx)(a:bL K C (.type T)=wz b):dU K (.ref C) (.type T)=wz b:=by
 unfold dU;rw[a8 (λz=>by cases beq_iff_eq.mp z)];unfold wF;dsimp only;rw[a9 hk];exact a
def J8(a:gT K J=wz cd)(c:gR K (.ref J)=wz (.type "type"))(hb:bL K J (.type "BaseException")=wz wx)(b:bL K C (.ref J)=wz wx):fF K (.ref C) (.ref J)=wz true:=by
 unfold fF;have e:aBn K (.ref J) (.type "BaseException")=wz true:=hb;rw[e,a9 eH];unfold wF;dsimp only;rw[a,c];rw[a9 eH];exact b
def wN{N:à}{a:Array w5}{n:Nat}(l:K.lookup N=wz ⟨c,d,.dict a n,sl⟩)(h:(a.toList.all λe=>match e.key with | .str _ _=>wx | _=>ww)=wx):wC K N=true:=by
 unfold wC;rw[l];rw[aBj]at h;exact h
def O0:lI "int"=true:=by decide +kernel
def OZ:lI "str"=true:=by decide +kernel
def JU:lI "list"=true:=by decide +kernel
def ES:lI "tuple"=true:=by decide +kernel
def JV:lI "bool"=true:=by decide +kernel
def F9:lI "ValueError"=true:=by decide +kernel
end
def xZ{X:Cx}:HS X.nox:=λ_ _ h=>h
end L2
namespace TL
open L2
section
variable{X:Cx}{e:æ}{a:ET}{pos:Pos}
def Eb(K:aF)(c:á)(f:V):List V->Hp->VK->Prop:=λg H Q=>∃p C dx b,g=[.ref p,f]/\H p=wz (.ext (pH p C dx))/\(∀d,dx=wz d->∃fs,H d=wz (.xd fs))/\FN K C/\dU K (.ref C) c=wz b/\Q (.bl b) H
def aA1(g:∀u,fQ cv u->u=c):lU X (.builtin "isinstance") (Eb X.K c cv):=by
 intro f s o H n m Q I r h;obtain⟨p,C,dx,b,rfl,i,hd,j,hk,q⟩:=h;obtain⟨u,w,rfl,k,d⟩:=QI r;obtain rfl:=g _ d;cases k;exact EV I i hd j hk λl=>⟨.bl b,H,I.tok l,gC,q⟩
def Dp(K:aF)(c:á)(a:ET):ET:=λf Q=>a f λd=>∃C y b,d=.dict [(.int (C:Nat),y)]/\dU K (.ref C) c=wz b/\Q (.bool b)
def Xh(r:gK X e a)(t:∀{v},PE X e v->PE X (.Call g1 [e,g2] [] pos) (WU (Eb X.K c cv) (qJ v (qJ (tC cv) CF)))):gK X (.Call g1 [e,g2] [] pos) (Dp X.K c a):=by
 obtain⟨v,u,E⟩:=r;refine⟨_,t u,λB s H w j F Q G o h k=>E B s H w j F _ _ o h λd x g i m A=>?_⟩;obtain⟨C,y,b,rfl,hk,q⟩:=A
 generalize f:(pM [(.int (C:Nat),y)])=d at m
 cases m with
 |@exc p C' xk hp=>
  injection f with f;injection f with f;injection f with f l;injection f with f
  obtain rfl:=kF.inj f;exact⟨p,C,wy,b,gC,cA _ _ hp,(λ_ z=>nomatch z),xk.1,hk,k _ _ g i (.bool _) q⟩
 |@excA p C' dx n xk hp hx=>
  injection f with f;injection f with f;injection f with f l;injection f with f
  obtain rfl:=kF.inj f;exact⟨p,C,wz dx,b,gC,cA _ _ hp,λ_ z=>by cases z;exact⟨_,cA _ _ hx⟩,xk.1,hk,k _ _ g i (.bool _) q⟩
 |@excD p C' dx n cs2 xk hp hx _=>
  injection f with f;injection f with f;injection f with f l;injection f with f
  obtain rfl:=kF.inj f;exact⟨p,C,wz dx,b,gC,cA _ _ hp,λ_ z=>by cases z;exact⟨_,cA _ _ hx⟩,xk.1,hk,k _ _ g i (.bool _) q⟩
 |_=>cases f
end
end TL
namespace L2
open TL
section
variable{X:Cx}
def Gn(K:aF):List V->Hp->VK->Prop:=λc H Q=>∃(p C:à)(dx:Option à)(tp:à)(a:List à)(b:Bool),c=[.ref p,.ref tp]/\H p=wz (.ext (pH p C dx))/\(∀d,dx=wz d->∃fs,H d=wz (.xd fs))/\FN K C/\H tp=wz (.tup (a.map V.ref))/\qU K (.ref C) (a.map d0)=wz b/\Q (.bl b) H
theorem GO:∀{a:List à}{us},fW (a.map V.ref) us->us=a.map d0
|[],_,.nil=>rfl
|c::a,_,.cons r t=>by
 have e:_=d0 c:=r;rw[bB,<- e,GO t]
def VE:lU X (.builtin "isinstance") (Gn X.K):=by
 intro j s Z H Y U Q I r h;obtain⟨p,C,dx,tp,M,b,rfl,y,hd,E,A,hk,q⟩:=h;obtain⟨u,w,rfl,J,c⟩:=QI r;cases J;cases c;obtain⟨_,F,B,o,x,m,n,a,_⟩:=I.hok tp _ A;obtain rfl:=GO B;obtain⟨k,N,O,T⟩:=o;subst m a;refine PySem.W.kia_tup (MJ E) I.kIn ?_ x hk (λz=>nomatch z) λL=>⟨.bl b,H,I.tok L,gC,q⟩;obtain⟨⟨o,vs,e,f,g,l⟩,_⟩:=I.hok p _ y;have i:wD o=true:=by unfold wD;rw[l]
 cases dx with
 |none=>exact⟨o,wy,e,f,i,by rw[g];trivial⟩
 |some d=>
  obtain⟨fs,v⟩:=hd d gC;obtain⟨S,⟨G,R,P,t,_⟩,_⟩:=I.hok d _ v;exact⟨o,wz G,e,f,i,by rw[g];exact t⟩
end
end L2
namespace TL
open L2
section
variable{X:Cx}{e:æ}{f:List æ}{a:ET}{pos:Pos}
def WP:List à->TA
|[]=>CF
|c::cs=>qJ (tC (.ref c)) (WP cs)
theorem QZ:∀b d H Q,Q (b.map V.ref) H->WP b d H Q
|[],_,_,_,q=>q
|c::b,d,H,Q,q=>QZ b d H (λh g=>Q (V.ref c::h) g) q
def Et(K:aF)(c:List à)(a:ET):ET:=λg Q=>a g λd=>∃C y b,d=.dict [(.int (C:Nat),y)]/\c.length<=1000/\qU K (.ref C) (c.map d0)=wz b/\Q (.bool b)
def Zn{t:Nat}(w:gK X e a)(F:∀{v},PE X e v->PE X (.Call g1 [e,.Tuple f t p2] [] pos) (WU (Gn X.K) (qJ v (qJ (En (WP cs)) CF)))):gK X (.Call g1 [e,.Tuple f t p2] [] pos) (Et X.K cs a):=by
 obtain⟨v,G,L⟩:=w;refine⟨_,F G,λB E H I m u Q M o h k=>L B E H I m u _ _ o h λd x i l s J=>?_⟩;obtain⟨C,y,b,rfl,A,hk,q⟩:=J;refine QZ cs u i _ ⟨rJ (by rw[aC];exact A),λtp j=>?_⟩
 generalize c:(pM [(.int (C:Nat),y)])=d at s
 have g:bG i (eY i tp (.tup (cs.map V.ref))):=dN j
 cases s with
 |@exc p C' xk hp=>
  injection c with c;injection c with c;injection c with c r;injection c with c
  obtain rfl:=kF.inj c;exact⟨p,C,wy,tp,cs,b,gC,g _ _ (cA _ _ hp),(λ_ z=>nomatch z),xk.1,cD,hk,k _ _ _ (l.trans g) (.bool _) q⟩
 |@excA p C' dx n xk hp hx=>
  injection c with c;injection c with c;injection c with c r;injection c with c
  obtain rfl:=kF.inj c;exact⟨p,C,wz dx,tp,cs,b,gC,g _ _ (cA _ _ hp),λ_ z=>by cases z;exact⟨_,g _ _ (cA _ _ hx)⟩,xk.1,cD,hk,k _ _ _ (l.trans g) (.bool _) q⟩
 |@excD p C' dx n cs2 xk hp hx _=>
  injection c with c;injection c with c;injection c with c r;injection c with c
  obtain rfl:=kF.inj c;exact⟨p,C,wz dx,tp,cs,b,gC,g _ _ (cA _ _ hp),λ_ z=>by cases z;exact⟨_,g _ _ (cA _ _ hx)⟩,xk.1,cD,hk,k _ _ _ (l.trans g) (.bool _) q⟩
 |_=>cases c
end
end TL
namespace L2
section
variable{X:Cx}{k:Nat}{f C:à}{i:iO}{g:List â}{j:Sp}{m:â}{b pos:Pos}{o e:æ}{d:List æ}{t:TA}{n:TE}
def Q0(p:HS X)(Z:PE X o n)(c:AM X.K C)(R:xC X.K C m f)(F:lW X.prog X.w X.K X.mg X.base (P8 X.prog X.w) k f i g j)(hr:iE k X.A)(hb:qT X.K i g [])(Y:PA X (e::d) t)
  (N:autoParam (bZ (e::d) X.env=(ww,è e X.env)::bZ d X.env) zzz._auto_1) (M:autoParam ((j8 pos (bZ d X.env)).any (·.1)=false) zzz._auto_1)
  (ht:è (.Call (.Attribute o m b) (e::d) [] pos) X.env=(do
   let ov <- è o X.env
   bu b.atName
   let (f,first) <- z6 [ov] (cr ov m pl)
   callWith pos f first (j8 pos (bZ (e::d) X.env)) (kj pos (du [] X.env))):=by rfl) :
  RE X (.Call (.Attribute o m b) (e::d) [] pos) (λG H W=>n G H λx J=>∃a dx fs,x=.ref a/\J a=wz (.ins C dx fs)/\fs.lookup m=wy/\t G J λvs y=>j (x::vs) y (λ_ _=>False) (W y)):=by
 intro v s G H W I h;refine uT (eE (Z v s G H _ I h) (λu s1 O=>?_) λe s z=>b8 z (p e s)) ht;obtain⟨x,J,Q,rx,a,dx,fs,ex,U,l,q⟩:=O;subst ex;obtain rfl:=rx;refine yG Q U c R l ?_;refine qW I.ok.mod.kin R.kp (eE (Y pos v s1 G J _ Q q) (λE P O=>?_) λe s z=>b8 z (p e s)) N M;obtain⟨vs,y,L,r,S⟩:=O;refine⟨L.kIn,?_⟩;have T:fW (.ref a::vs) (.ref a::E):=.cons gC r;have hl:(d0 a::E).length=g.length:=by rw[<- T.length];exact F.len _ _ _ _ S
 have B:=hb P (.ref a::E) L.kIn (by rw[eK];exact hl);rw[eK]at B;refine fx (y9 (F.run X.A X.stack P y ⟨.ref a::E,[]⟩ (.ref a::E) (.ref a::vs) _ (W y) hr L.env0 B T S) λr s' p=>?_)
 cases r with
 |error e=>exact⟨y,P,L,p⟩
 |ok fl=>
  cases fl with
  |ret u=>obtain⟨_,_,_,_,_,_,_,z⟩:=p;exact z.elim
  |next=>exact g9 p
  |brk=>exact g9 p
  |cont=>exact g9 p
end
end L2
namespace TL
open L2
def yx(K:aF)(d:D)(a:á)(dx:Option à):Prop:=∃C,d=.dict [(.int (C:Nat),.none)]/\a=.ref C/\dx=wy/\hM K C
section
variable{F:uE}
def lF(K:aF)(i:wY F):Sp:=λvs H _ E=>∃c T n g f,(∀p∈c,AL (H p))/\(∀a∈F.ad T,a∈c)/\F.At T K H c n/\Reps K (ê H c) g vs/\i (F.tau T) n g f /\
 ∀h d b dx e,iD (F.ad T) H e->F.At T K e c h->yx K d b dx->f h d->E b dx e
def MO{mg:â->Option á}{K st}{f:à}{N pn:List â}{k:Nat}{L:wY F}(O:NK K x qual st f fd)(S:bQ N pn (aS st))(len:∀τ n b Q,L τ n b Q->b.length=pn.length)
  (j:∀c A outer s H E,iE k (A.deeper (i9 qual (aS st) s.heap.objs.size f c))->∀g T n b z,L (F.tau T) n b z->(∀M d m dx C,iD (F.ad T) H C->F.At T K C g M->yx K d m dx->z M d->E m dx C) ->
   ∃t,vZ (VZ P w K mg base N qual (aS st) f c A outer s H E) (lB st) t/\t (F.tau T) { nx:=λ_ _=>False,rt:=λ_ _=>False,xB:=λB p0=>B=jM H (F.ad T)/\p0=g } n (kL N b)):lW P w K mg base (P8 P w) (k+1) f fd pn (lF K L):=by
 obtain⟨oc,od,kV,U,pm,an,c,ct,lz,rfl,lk,I⟩:=O.ex;refine Ci lk I S (λvs H Q E h=>?_) λA outer s H vs Q E Z h=>?_
 ·obtain⟨g,T,n,b,R,_,_,_,r,q,_⟩:=h;rw[<- r.length];exact len _ _ b R q
 ·obtain⟨g,T,n,b,z,live,Y,tp,r,q,W⟩:=h;obtain⟨t,⟨ts,p,rd⟩,h⟩:=j c A outer s H E Z g T n b z q W;have o:=qM (N:=N) live r
  have J:∀(i:Nat)(y:List D),(kL N b)[i]?≠wz (.own y):=λi y e=>by
   obtain⟨q,_,_,_,G,_,v,_⟩:=o.own i y e;rw[G]at v;cases v
  have sW:bG (jM H (F.ad T)) H:=λa u e=>by
   unfold jM at e;split at e
   ·cases e
   ·exact e
  have o2:Ok K (jM H (F.ad T)) g H g (kL N b) (L2.nW N vs):=⟨sW,o.sub,o.live,o.len,o.val,λi y e=>b8 e (J i y),o.dis,λi hs kvs e=>by
   obtain⟨⟨q,es,_,_,G,_,v,_⟩,_⟩:=o.dc i hs kvs e;rw[G]at v;cases v⟩
  exact⟨ts,p,rd _ g H g _ _ T n _ _ (⟨o2,Y,λa X=>a9 X,tp⟩) h ⟨λ_ _ _ _ _ _ _ l=>l.elim,λ_ _ _ _ _ _ _ l=>l.elim,λ_ _ _ _ _ _ _ l=>l.elim,λ_ _ _ _ _ _ _ l=>l.elim,gC,gC⟩⟩
def xX(s:bG (jM H0 as) H):iD as H0 H:=λa u ne e=>s a u (by unfold jM;rw[a8 ne];exact e)
def Yt(e:F.S->D->Prop)(f:Hp)(a:List à)(b:F.I)(C:à)(t:AT):SZ F:=λi d n h=>t h λg=>g.length<=1000/\i=F.tau b/\e n (.dict [(.int (C:Nat),.none)])/\∀B c,d.xB B c->B=jM f (F.ad b)/\c=a
section
variable{P:cV}{w:f7}{K:aF}{mg:â->Option á}{base:ç}{N:List â}{b:â}{a:Scope}{f:à}{cd:á}{A:d8}{outer:List Env}{s:ã}{H:Hp}{E:XK}{i:F.S->D->Prop}{g:F.I}{c:List à}
def yW{C:à}(y:∀m d k dx j,iD (F.ad g) H j->F.At g K j c m->yx K d k dx->i m d->E k dx j)(S:hM K C)(z:wA (VZ P w K mg base N b a f cd A outer s H E) (e::es) t)
  (L:∀{ta},PA (VZ P w K mg base N b a f cd A outer s H E) (e::es) ta->PS (VZ P w K mg base N b a f cd A outer s H E) (.Raise (wz (.Call (.Name x np) (e::es) [] cpos)) wy pos) (WQ C E ta)) :
  yM (VZ P w K mg base N b a f cd A outer s H E) (.Raise (wz (.Call (.Name x np) (e::es) [] cpos)) wy pos) (Yt i H c g C t):=by
 obtain⟨Z,J,Q⟩:=z;refine⟨_,L J,λB r j M l U T n W X o h f=>Q B r j M l U _ _ o.ok h λY vs u R O q=>?_⟩;obtain⟨G,I,hd,v⟩:=q;cases F.inj I;obtain⟨rfl,rfl⟩:=v B r f.xb;have p:=o.grow R;exact⟨rJ (by rw[<- O.length];exact G),y n _ _ _ u (xX p.ok.base) (F.to p.tp (λ_ _=>rfl) (gY o.ok.sub)) ⟨C,gC,gC,gC,S⟩ hd⟩
end
section
variable{X:Cx}{e:æ}{pos:Pos}{st:é}
def ND(X:Cx)(W:Hp->List à->Prop)(e:æ)(t:D->F.S->List Sl->Prop):Prop:=∃c,PE X e c/\∀B b H g a d T n f,oG F X.K B b H g a d T n->t (F.tau T) n a->W B b->c d H f
def sL{W:Hp->List à->Prop}{t:D->F.S->List Sl->Prop}(h:ND X W e t)(p:∀{v},PE X e v->PS X (.Expr e pos) (GR v)):yM X (.Expr e pos) (λj d n b=>t j n b/\∀B a,d.xB B a->W B a):=by
 obtain⟨v,g,r⟩:=h;exact⟨_,p g,λB a H i c b T n d k o h f=>r B a H i c b T n _ o h.1 (h.2 B a f.xb)⟩
def yM.or{t u:SZ F}(l:yM X st t)(m:yM X st u):yM X st (λk c n a=>t k c n a\/u k c n a):=by
 obtain⟨w,p,r⟩:=l;obtain⟨x,q,v⟩:=m;refine⟨λD a H=>w D a H\/x D a H,λb s a H D I h=>?_,λB i H j d a T n c g o h f=>?_⟩
 ·rcases h with h | h
  ·exact p b s a H D I h
  ·exact q b s a H D I h
 ·rcases h with h | h
  ·exact .inl (r B i H j d a T n c g o h f)
  ·exact .inr (v B i H j d a T n c g o h f)
def aB6{b:m7}{c:List m7}{t:SZ F}(h:vZ X body t)(p:∀{a:TS},BR X body a->PS X (.Try body (b::c) [] [] pos) a):yM X (.Try body (b::c) [] [] pos) t:=by
 obtain⟨a,d,r⟩:=h;exact⟨a,p d,r⟩
def Cn(X:Cx)(st:é)(t:EZ F):Prop:=∃rt,RS X st rt/\∀B l H j c k T n h W,oG F X.K B l H j c k T n->t (F.tau T) n c h ->
 (∀i d b dx f g,iD (F.ad T) H f->iD (F.ad T) f g->(∀a∈F.ad T,AL (f a))->F.At T X.K g j i->yx X.K d b dx->h i d->W f b dx g)->rt k H W
def Xr{K}{a C:à}(c:hM K C)(b:a∉ps):iK K (ê (eY H a (.ext (pH a C wy))) ps) (.dict [(.int (C:Nat),.none)]) (.ref a):=.exc c (mO b cD)
def oG.exc{B H H1 H2 p0 ps}{b:List Sl}{j:L2.St}{T n n'}{a C:à}{i:Nat}(o:oG F X.K B p0 H ps b j T n)(f:iD (F.ad T) H H1)(g:iD (F.ad T) H1 H2)(t:F.At T X.K H2 ps n')(k:hM X.K C)(c:H2 a=wy) :
  oG F X.K B p0 (eY H2 a (.ext (pH a C wy))) ps (b.set i (.val (.dict [(.int (C:Nat),.none)]))) (j.set i (wz (.ref a))) T n'/\bG (ê H ps) (ê (eY H2 a (.ext (pH a C wy))) ps):=by
 have d:=o.growX (f.trans g) t;have h:=dN (o:=HO.ext (pH a C wy)) c;exact⟨(d.grow h).set (Xr k (iW d.ok.live c)),((f.trans g).mask o.mem').trans (cC h)⟩
theorem oG.away{K}{a:List Sl}{b:L2.St}(o:oG F K B p0 H ps a b T n)(i:Nat):oG F K B p0 H ps (a.set i .un) (b.set i wy) T n:=⟨o.ok.away i,o.mem,o.nb,o.tp⟩
def Vs(K:aF)(J:à)(i:Nat)(t:EZ F)(h:SZ F):SZ F:=λf b n c=>t f n c λn1 d=>(∃C,d=.dict [(.int (C:Nat),.none)]/\fF K (.ref C) (.ref J)=wz wx) /\
 h f { nx:=λg a=>b.nx g (a.set i .un),rt:=λ_ _=>False,xB:=b.xB } n1 (c.set i (.val d))
def WC{C a:à}(h:pM [(.int (C:Nat),.none)]=pM [(.int (a:Nat),.none)]):C=a:=by
 injection h with h
 injection h with h _
 injection h with h _
 injection h with h
 exact kF.inj h
def aB5{J:à}{i:Nat}{r:m7}{c:List m7}{t:EZ F}{v:SZ F}(I:Cn X st t)(hb:∀a,vZ (X.marked a) (p::suite) v)
  (pt:∀{rt:L2.St->Hp->(Hp->XK)->Prop}{w:à->TS},RS X st rt->(∀a,BR (X.marked a) (p::suite) (w a))->PS X (.Try [st] (r::c) [] [] pos) (He X.K J i rt w)):yM X (.Try [st] (r::c) [] [] pos) (Vs X.K J i t v):=by
 obtain⟨rt,rs,N⟩:=I;refine⟨_,pt rs (λa=>(hb a).choose_spec.1),λB s H u l Y T n m DV o h f=>N B s H u l Y T n _ _ o h λn1 d z dx H1 H2 P Q l1 S W q=>?_⟩;obtain⟨⟨C,hd,G⟩,q⟩:=q;obtain⟨Z,E,rfl,rfl,U⟩:=W;subst E;obtain rfl:=WC hd;refine⟨G,_,gC,λa e1 A _=>?_⟩;obtain⟨M,R⟩:=o.exc P Q S U A;refine(hb a).choose_spec.2 B s _ u _ _ T n1 { nx:=λj g=>m.nx j (g.set i .un),rt:=λ_ _=>False,xB:=m.xB } _ M q ⟨λy k x g j L O b=>?_,λ_ _ _ _ _ _ _ b=>b.elim,λ_ _ _ _ _ _ _ b=>b.elim,λ_ _ _ _ _ _ _ b=>b.elim,f.xb⟩;exact f.nx y k _ _ j (L.away i) (R.trans O) b
end
end
section
variable{X:Cx}{C:à}{e i:æ}{b:List æ}{c:ET}{pos a:Pos}
def qP{t:AZ (lO C)}{w:KR->D->Prop}{E:XK}{g:Bk}(R:∀s d f dx j,iD [g.p,g.q] H0 j->KH C g X.K j ps0 s->yx X.K d f dx->w s d->E f dx j)(W:m∉zt)(U:gK X e c)(S:SY X (i::b) t)
  (pc:∀{v ta},PE X e v->PA X (i::b) ta->PE X (.Call (.Attribute e m a) (i::b) [] pos) (DS C m (lF X.K sp) [] E v ta)) :
  ND (F:=lO C) X (λB u=>B=jM H0 [g.p,g.q]/\u=ps0) (.Call (.Attribute e m a) (i::b) [] pos) (λr n k=>c k λd=>d=r/\r=mH g/\t r n k λn1 N=>sp r n1 (r::N) w):=by
 obtain⟨v,pe,re⟩:=U;obtain⟨va,pa,ra⟩:=S;refine⟨_,pc pe pa,λB u H z l k T n QV o h Q=>re B u H z l k _ _ o.ok h λd x L G r1 A=>?_⟩;obtain⟨rfl,Y,A⟩:=A;obtain⟨rfl,y⟩:=mQ o G r1 gC;obtain rfl:=gU Y;obtain⟨_,_,_,_,P,_⟩:=id y;refine⟨_,_,_,gC,P,KF W,ra B u L z l k T n _ _ (o.grow G) A λZ M xs H2 s2 J r2 q2=>?_⟩;obtain⟨rfl,rfl⟩:=Q;rw[eK];have I:=(o.grow G).growX s2 J;exact⟨z,T,Z,mH T::M,w,I.ok.live,o.mem',J,.cons (IZ T) r2,q2,λs d f dx j s' t' x' O=>R s d f dx j ((xX I.ok.base).trans s') ((lO C).to t' (λ_ _=>rfl) (gY o.ok.sub)) x' O⟩
end
structure aE6 where
 p:à
 q:à
 ns:List Int
 b:Bool
structure aHj where
 nx:Nat->List Sl->Prop
 rt:Nat->D->Prop
 bk:Nat->List Sl->Prop:=λ_ _=>False
 ct:Nat->List Sl->Prop:=λ_ _=>False
abbrev STC:=D->aHj->Nat->List Sl->Prop
section
variable{F:uE}{t:yO}{u:SZ F}{a:D}{f:NE F}{n:F.S}{g:List Sl}{i:Nat}{j:EZ F}
def oY(h:nY t (λ_=>u a f n) { nx:=λ_=>True,rt:=λ_=>False,bk:=f.bk n,ct:=f.ct n } g):xR (zP t) u a f n g:=h
def yP(v:D)(h:∀q,q n v->j a n g q)(k:u a f n (g.set i (.val v))):xR (Af i j) u a f n g:=h (λn1 d=>u a f n1 (g.set i (.val d))) k
def aBu(R:F.S->D->Prop)(h:∀q,(∀m v,R m v->q m v)->j a n g q)(k:∀m v,R m v->u a f m (g.set i (.val v))):xR (Af i j) u a f n g:=h _ k
def AO{c:TZ F}{t e:SZ F}(b:Bool)(h:∀q,q n b->c a n g q)(k:b=wx->t a { f with nx:=u a f } n g)(d:b=ww->e a { f with nx:=u a f } n g):xR (yk c t e) u a f n g:=by
 refine h _ ?_
 cases b with
 |true=>rw[a9 rfl];exact k gC
 |false=>rw[a8 cR];exact d gC
def Yw{c:TZ F}{t e:SZ F}(R:F.S->Bool->Prop)(h:∀q,(∀m b,R m b->q m b)->c a n g q)(k:∀m,R m wx->t a { f with nx:=u a f } m g)(d:∀m,R m ww->e a { f with nx:=u a f } m g):xR (yk c t e) u a f n g:=by
 refine h _ λm b hb=>?_
 cases b with
 |true=>rw[a9 rfl];exact k m hb
 |false=>rw[a8 cR];exact d m hb
def ID{c:TZ F}{t e:SZ F}(b:Bool)(h:∀q,q n b->c a n g q)(k:b=wx->t a f n g)(d:b=ww->e a f n g):yk c t e a f n g:=by
 refine h _ ?_
 cases b with
 |true=>rw[a9 rfl];exact k gC
 |false=>rw[a8 cR];exact d gC
end
end TL
namespace L2
def iE.u1{k:Nat}{A:PySem.Around}(r:iE k A):A.units+1<PySem.cLine:=by have:=r.units;lia
end L2
namespace TL
open L2
section
variable{F:uE}{X:Cx}{e:æ}
def NP{f:EZ F}(h:uO X e f)(pt:∀{t:TE},PE X e t->PT X e (tB t)):PZ X e (Ek f):=by
 obtain⟨v,p,r⟩:=h;refine⟨_,pt p,λB i H j a s T n Q u o h k=>r B i H j a s T n _ _ o h λn1 d x g m q l b=>?_⟩
 cases l with
 |bool c=>exact⟨c,gC,k n1 c g m q b⟩
 |_=>exact b.elim
end
section
variable{X:Cx}{e:æ}{b:ET}{x:â}{pos a:Pos}
def ss(i:Nat)(c:X.N.Nodup)(h:gK X e b)(f:autoParam (X.N[i]?=wz x) zzz._auto_1)(j:autoParam (VL X.env.scope x) zzu._auto_1)(g:autoParam (kP e (wz (.Name x a)) pos.line X.env=pure false) zzz._auto_1)
  (d:autoParam (X.fn x=wx\/X.env.scope.names.lookup x=wz .local) zzv._auto_1):FO X (.Assign [.Name x a] e pos) (LP i b):=W2 h λh=>nD c f j h g d
def pn(i:Nat)(c:X.N.Nodup)(f:autoParam (X.N[i]?=wz x) zzz._auto_1)(g:autoParam (VL X.env.scope x) zzu._auto_1)(d:autoParam (X.fn x=wx\/X.env.scope.names.lookup x=wz .local) zzv._auto_1):PG X (.Name x pos) (lS i):=Q8 c f g d
def kB{N P:List â}{c:Scope}(d:autoParam (c.kind=.function) zzz._auto_1)(f:autoParam (c.isCoroutine=false) zzz._auto_1)(g:autoParam (c.isGenerator=false) zzz._auto_1)(h:autoParam (N.Nodup) zzt._auto_1)(i:autoParam (N.take P.length=P) zzz._auto_1)(j:autoParam (∀x∈P,c.names.lookup x=wz .local\/c.names.lookup x=wz .cell) zzt._auto_1)(k:autoParam (∀y∈c.names,y.2≠.free) zzt._auto_1):bQ N P c:=⟨d,f,g,h,i,j,k⟩
end
end TL
namespace L2
noncomputable abbrev fO(x q:â)(st:é)(kV dc a:á)(an:Option à)(cd ct:á):iO:=oB x q (AC st) (lB st) (aS st) .none kV dc a an cd ct
def Kj{c:Type}{P:List c->Prop}(h:∀a,P [a]):∀b,b.length=1->P b
|[a],_=>h a
def Kk{d:Type}{P:List d->Prop}(h:∀a b,P [a,b]):∀c,c.length=2->P c
|[a,b],_=>h a b
def Kl{e:Type}{P:List e->Prop}(h:∀a b c,P [a,b,c]):∀d,d.length=3->P d
|[a,b,c],_=>h a b c
def Km{f:Type}{P:List f->Prop}(h:∀a b c d,P [a,b,c,d]):∀e,e.length=4->P e
|[a,b,c,d],_=>h a b c d
abbrev tI(x q:â)(st:é)(b:List â):Prop:=∀kV dc c an cd ct a,a.length=b.length->bindArgs (fO x q st kV dc c an cd ct) ⟨a,[]⟩=pure (b.zip a)
def qS(mg:â->Option á)(x:â):Addr:=ei λa:à=>mg x=wz (.ref a)
instance fdNe:Nonempty iO:=⟨fO "" "" (.Pass ⟨0,0,0,0⟩) .none .none .none wy .none .none⟩
def yH(K:aF)(a:à):iO:=ei λf:iO=>∃b c d,K.lookup a=wz ⟨b,c,.func f,d⟩
def Ep{mg:â->Option á}{a:à}(h:mg x=wz (.ref a)):qS mg x=a:=by
 have:=(bi (p:=λa:à=>mg x=wz (.ref a)) ⟨a,h⟩).symm.trans h;injection this with this
 injection this
def Cf{K:aF}{a:à}(h:K.lookup a=wz ⟨b,c,.func f,d⟩):yH K a=f:=by
 obtain⟨_,_,_,e⟩:=bi (p:=λf:iO=>∃b c d,K.lookup a=wz ⟨b,c,.func f,d⟩) ⟨f,_,_,_,h⟩;have:=e.symm.trans h;injection this with this
 injection this with _ _ this
 injection this
structure Dg(K:aF)(x q:â)(st:é)(a:à)(ps:List â):Prop where
 k:gS K (.ref a)=wx
 F:NK K x q st a (yH K a)
 d:qT K (yH K a) ps []
structure Df(K:aF)(mg:â->Option á)(x:â)(st:é)(ps:List â):Prop extends Dg K x x st (qS mg x) ps where
 m:mg x=wz (.ref (qS mg x))
abbrev Fm(P:cV)(w:f7)(K:aF)(mg:â->Option á)(base:ç)(b:VN)(k:Nat)(a:à)(c:List â)(d:Sp):Prop:=lW P w K mg base b k a (yH K a) c d
abbrev Fo(P:cV)(w:f7)(K:aF)(mg:â->Option á)(base:ç)(a:VN)(k:Nat)(x:â)(b:List â)(c:Sp):Prop:=Fm P w K mg base a k (qS mg x) b c
section
variable{K:aF}{h:ç}{mg:â->Option á}{x q:â}{st:é}{i:List â}{f:à}{j:á}{n an:Option à}{o:Array (Option á)}{kV dc g cd ct:á}
def dg(b:tI x q st i)(l:K.lookup f=wz ⟨j,n,.func (fO x q st kV dc g an cd ct),o⟩)(c:qV K cd q=wx)(k:gS K (.ref f)=wx):Dg K x q st f i:=⟨k,by rw[Cf l];exact Z7 l c k,by rw[Cf l];exact(Z7 l c k).binds b⟩
def df(X:K.In h)(G:h.Ns eF mg)(b:tI x x st i)(a:fC K eF x=wz (wz (.ref f)))(l:K.lookup f=wz ⟨j,n,.func (fO x x st kV dc g an cd ct),o⟩)(c:qV K cd x=wx)(k:gS K (.ref f)=wx):Df K mg x st i:=by
 have m:=jK X G a;have e:=Ep m;exact⟨by rw[e];exact dg b l c k,by rw[e];exact m⟩
def Xa(X:K.In h)(G:h.Ns eF mg){b:iO}(a:fC K eF x=wz (wz (.ref f)))(l:K.lookup f=wz ⟨j,n,.func b,o⟩)(y:FQ K b.code):FQ K (yH K (qS mg x)).code:=by rw[Ep (jK X G a),Cf l];exact y
def CM(h:autoParam (∀kV dc g an cd ct k,bindArgs (fO x q st kV dc g an cd ct) ⟨[k],[]⟩=pure ([p0].zip [k])) zzp._auto_1):tI x q st [p0]:=λa b c d e f=>Kj (h a b c d e f)
def uN(h:autoParam (∀kV dc g an cd ct k l,bindArgs (fO x q st kV dc g an cd ct) ⟨[k,l],[]⟩=pure ([p0,p1].zip [k,l])) zzp._auto_1):tI x q st [p0,p1]:=λa b c d e f=>Kk (h a b c d e f)
def NI(h:autoParam (∀kV dc g an cd ct k l a2,bindArgs (fO x q st kV dc g an cd ct) ⟨[k,l,a2],[]⟩=pure ([p0,p1,p2].zip [k,l,a2])) zzp._auto_1):tI x q st [p0,p1,p2]:=λa b c d e f=>Kl (h a b c d e f)
def tA(h:autoParam (∀kV dc g an cd ct k l a2 m,bindArgs (fO x q st kV dc g an cd ct) ⟨[k,l,a2,m],[]⟩=pure ([p0,p1,p2,p3].zip [k,l,a2,m])) zzp._auto_1):tI x q st [p0,p1,p2,p3]:=λa b c d e f=>Km (h a b c d e f)
def na{C:à}{f}(h:dG K (.ref C) f=wz wy):fZ K C f:=h
end
end L2
namespace TL
open L2
abbrev Fj(P:cV)(w:f7)(base:ç){K:aF}{mg:â->Option á}{x:â}{st:é}{a:List â}(_:Df K mg x st a)(k:Nat)(b:Sp):Prop:=Fo P w K mg base qA k x a b
abbrev Ft(P:cV)(w:f7)(base:ç){K:aF}{mg:â->Option á}{x:â}{st:é}{a:List â}(D:Df K mg x st a)(k:Nat)(b:kX):Prop:=Fj P w base D k (lN K b)
section
variable{X:Cx}{e:æ}{c:List æ}{o:ET}{x:â}{pos j p:Pos}
def cd{k n:Nat}{pn:List â}{g:kX}{t:AT}{st:é}{D:Df X.K X.mg x st pn}(F:Ft X.prog X.w X.base D k g)(f:iE n X.A)(i:wA X (e::c) t)(hk:autoParam (k<=n) zzy._auto_1)
  (q:autoParam (Gl X x) zzz._auto_1) (a:autoParam ((x==("__debug__":â))=false) zzy._auto_1) (l:autoParam (bZ (e::c) X.env=(ww,è e X.env)::bZ c X.env) zzz._auto_1) (b:autoParam ((j8 pos (bZ c X.env)).any (·.1)=false) zzz._auto_1):gK X (.Call (.Name x p) (e::c) [] pos) (kO g t):=Zl F D.m D.k D.d (f.mono hk) i λh=>kI F (f.mono hk) q D.m D.k D.d .nil iB h a l b
def cF{k n:Nat}{pn:List â}{g:NB}{t:AT}{st:é}{D:Df X.K X.mg x st pn}(F:Fj X.prog X.w X.base D k (iP X.K g))(f:iE n X.A)(i:wA X (e::c) t)(hk:autoParam (k<=n) zzy._auto_1)
  (q:autoParam (Gl X x) zzz._auto_1) (a:autoParam ((x==("__debug__":â))=false) zzy._auto_1) (l:autoParam (bZ (e::c) X.env=(ww,è e X.env)::bZ c X.env) zzz._auto_1) (b:autoParam ((j8 pos (bZ c X.env)).any (·.1)=false) zzz._auto_1):SX X (.Call (.Name x p) (e::c) [] pos) (Gd g t):=Zt F D.m D.k D.d (f.mono hk) i λh=>kI F (f.mono hk) q D.m D.k D.d .nil iB h a l b
def cQ{k n:Nat}{pn:List â}{g:zg}{t:AT}{st:é}{D:Df X.K X.mg x st pn}(F:Fj X.prog X.w X.base D k (zN X.K g))(f:iE n X.A)(i:wA X (e::c) t)(hk:autoParam (k<=n) zzy._auto_1)
  (q:autoParam (Gl X x) zzz._auto_1) (a:autoParam ((x==("__debug__":â))=false) zzy._auto_1) (l:autoParam (bZ (e::c) X.env=(ww,è e X.env)::bZ c X.env) zzz._auto_1) (b:autoParam ((j8 pos (bZ c X.env)).any (·.1)=false) zzz._auto_1):Cp X (.Call (.Name x p) (e::c) [] pos) (Hm g t):=X4 F D.m D.k D.d (f.mono hk) i λh=>kI F (f.mono hk) q D.m D.k D.d .nil iB h a l b
def sf{iter}(h:P0 X tg iter ti)(i:P2 X tg g)(hb:xA X body tb)(k:PassesOwn (ä X.prog X.w) X.A X.env X.xe:=by exact o0)(f:autoParam (X.calm=true) zzz._auto_1)(l:autoParam (∀x,j3 iter X.env x=pure x) zzx._auto_1):FO X (.For tg iter body [] pos) (Aa ti g tb):=Xz h i hb λa b d=>X3 k f a b d l
def el{iter o}(i:P0 X tg iter ti)(d:∀b,P2 (blk X scope N' b) tg g/\FP (blk X scope N' b) ifs tt/\gK (blk X scope N' b) elt o)(h:autoParam (pT scope X.env.scope X.N N' fr=true) zzo._auto_1)(f:autoParam (X.calm=true) zzz._auto_1)(k:autoParam (∀x,j3 iter X.env x=pure x) zzx._auto_1):gK X (.ListComp elt [⟨tg,iter,ifs,0⟩] scope pos) (U5 fr ti g tt o):=Mz i d λa b=>YB h f a b k
def fl{iter o}(i:P0 X tg iter ti)(d:∀b,P2 (blk X scope N' b) tg g/\FP (blk X scope N' b) ifs tt/\gK (blk X scope N' b) elt o)(h:autoParam (pT scope X.env.scope X.N N' fr=true) zzo._auto_1)(f:autoParam (X.calm=true) zzz._auto_1)(k:autoParam (∀x,j3 iter X.env x=pure x) zzx._auto_1):SX X (.ListComp elt [⟨tg,iter,ifs,0⟩] scope pos) (zo fr ti g tt o):=Nd i d λa b=>YB h f a b k
def cY{r:List V->Hp->VK->Prop}{f:List D->(D->Prop)->Prop}(k:tH X r f)(d:wA X (e::c) t)(g:lU X (.type T) r)(m:X.mg x=wy)(q:d4 x=wz (.type T))(l:autoParam (Gl X x) zzz._auto_1)(n:autoParam (x≠"__name__") zzy._auto_1)(a:autoParam ((x==("__debug__":â))=false) zzy._auto_1)(i:autoParam (bZ (e::c) X.env=(ww,è e X.env)::bZ c X.env) zzz._auto_1)(b:autoParam ((j8 pos (bZ c X.env)).any (·.1)=false) zzz._auto_1):gK X (.Call (.Name x p) (e::c) [] pos) (kO f t):=Ev k d λh=>oQ g l m q h n a i b
def cB{r:List V->Hp->VK->Prop}{f:List D->(D->Prop)->Prop}(k:tH X r f)(d:wA X (e::c) t)(g:lU X (.builtin T) r)(m:X.mg x=wy)(q:d4 x=wz (.builtin T))(l:autoParam (Gl X x) zzz._auto_1)(n:autoParam (x≠"__name__") zzy._auto_1)(a:autoParam ((x==("__debug__":â))=false) zzy._auto_1)(i:autoParam (bZ (e::c) X.env=(ww,è e X.env)::bZ c X.env) zzz._auto_1)(b:autoParam ((j8 pos (bZ c X.env)).any (·.1)=false) zzz._auto_1):gK X (.Call (.Name x p) (e::c) [] pos) (kO f t):=Ev k d λh=>vK g l m q h n a i b
def so(i:Nat)(a:X.N.Nodup)(h:wA X c t)(d:autoParam (X.N[i]?=wz x) zzz._auto_1)(g:autoParam (VL X.env.scope x) zzu._auto_1)(f:autoParam (kP (.List c p2) (wz (.Name x j)) pos.line X.env=pure false) zzz._auto_1)(b:autoParam (X.fn x=wx\/X.env.scope.names.lookup x=wz .local) zzv._auto_1):FO X (.Assign [.Name x j] (.List c p2) pos) (Bp i t):=XP h λh=>nD a d g h f b
def sF(i:Nat)(a:X.N.Nodup)(h:SX X e t)(d:autoParam (X.N[i]?=wz x) zzz._auto_1)(g:autoParam (VL X.env.scope x) zzu._auto_1)(f:autoParam (kP e (wz (.Name x j)) pos.line X.env=pure false) zzz._auto_1)(b:autoParam (X.fn x=wx\/X.env.scope.names.lookup x=wz .local) zzv._auto_1):FO X (.Assign [.Name x j] e pos) (XD i t):=aCo h λh=>nD a d g h f b
noncomputable def I3(l:List â):Bool:=decide l.Nodup
def pk(i:Nat)(a:autoParam (I3 X.N=true) zzo._auto_1)(d:autoParam (X.N[i]?=wz x) zzz._auto_1)(f:autoParam (VL X.env.scope x) zzu._auto_1)(b:autoParam (X.fn x=wx\/X.env.scope.names.lookup x=wz .local) zzv._auto_1):PG X (.Name x pos) (lS i):=Q8 (b9 a) d f b
def tv(h:gK X e o)(a:autoParam (∀whole,isTrue e X.env whole=(do let v <- whole;bu e.pos;z6 [v] (truthy v))) zzx._auto_1):KQ X e (M3 o):=Yn h λh=>JD h a
end
end TL
namespace L2
section
variable{K:aF}{C J:à}{cd:ClassData}
def SA(a:gT K J=wz cd)(c:gR K (.ref J)=wz (.type "type"))(hb:bL K J (.type "BaseException")=wz wx)(b:bL K C (.ref J)=wz ww):fF K (.ref C) (.ref J)=wz false:=by
 unfold fF;have e:aBn K (.ref J) (.type "BaseException")=wz true:=hb;rw[e,a9 eH];unfold wF;dsimp only;rw[a,c];rw[a9 eH];exact b
end
section
variable{X:Cx}
def Da(f:â->â->Bool):V->List V->Hp->VK->Prop:=λx a H Q=>∃z y,x=.str z/\a=[.str y]/\Q (.bl (f z y)) H
def A7:NJ X "str.startswith" (Da Txt.startswith):=by
 intro a s g H x f v e Q I c r h;obtain⟨z,y,rfl,rfl,q⟩:=h;obtain⟨t,rfl⟩:=c;obtain⟨u,rfl,b⟩:=nU r;obtain⟨d,rfl⟩:=b;exact SC.startswith ⟨.bl _,H,I,gC,q⟩
def Gq:List V->Hp->VK->Prop:=λa H Q=>∃i,a=[.int i]/\i.natAbs.log2<1920/\Q (.str (d9 (toString i))) H
def mP:lU X (.type "str") Gq:=by
 intro a s e H d c Q I r h;obtain⟨i,rfl,b,q⟩:=h;obtain⟨u,rfl,t,rfl⟩:=nU r;exact PySem.P.str_of_int b ⟨.str _,H,I.tok _,⟨_,gC⟩,q⟩
def Hv:List V->Hp->VK->Prop:=λa H Q=>∃z n,a=[.str z]/\intText? z=wz n/\z.length<=640/\Q (.int n) H
def tF:lU X (.type "int") Hv:=by
 intro a s f H e d Q I r h;obtain⟨z,n,rfl,c,b,q⟩:=h;obtain⟨u,rfl,t,rfl⟩:=nU r;exact PySem.W.KIN.call_text c b ⟨.int n,H,I.tok _,⟨_,gC⟩,q⟩
end
end L2
namespace TL
open L2
section
variable{X:Cx}{e:æ}{a:List æ}{b:ET}{pos:Pos}
def Ja(f:â->â->Bool)(z:â)(c:List D)(Q:D->Prop):Prop:=match c with | [.str y]=>Q (.bool (f z y)) | _=>False
def Cc{f:â->â->Bool}{m:â}(w:gK X n b)(u:wA X (e::a) t)
  (C:∀{v ta},PE X n v->PA X (e::a) ta->PE X (.Call (.Attribute n m ap) (e::a) [] pos) (QO X.K "str" (Da f) v ta)):gK X (.Call (.Attribute n m ap) (e::a) [] pos) (HL (Ja f) b t):=by
 obtain⟨v,E,L⟩:=w;obtain⟨R,A,J⟩:=u;refine⟨_,C E A,λB j H l c r Q O o h k=>L B j H l c r _ _ o h λd x s q F i=>?_⟩;obtain⟨z,rfl,i⟩:=i;cases F;refine⟨gC,J B j s l c r _ _ (o.grow q) i λP S N M G g=>?_⟩
 cases G with
 |nil=>exact g.elim
 |cons p I=>
  cases I with
  |cons _ _=>cases p<;>exact g.elim
  |nil=>
   cases p with
   |str y=>exact⟨z,y,gC,gC,k _ _ _ (q.trans M) (.bool _) g⟩
   |_=>exact g.elim
def Ge(d:D)(Q:D->Prop):Prop:=match d with
|.int i=>i.natAbs.log2<1920/\Q (.str (d9 (toString i)))
|_=>False
def vW:tH X Gq (f1 Ge):=c1 λH f d x Q c live r h k=>by
 cases r with
 |int i=>exact⟨i,gC,h.1,k _ _ H (L2.bG.refl H) (.str _) h.2⟩
 |_=>exact h.elim
def Og(d:D)(Q:D->Prop):Prop:=match d with
|.str z=>∃n,intText? z=wz n/\z.length<=640/\Q (.int n)
|_=>False
def FK:tH X Hv (f1 Og):=c1 λH i d x Q g live r h k=>by
 cases r with
 |str z=>
  obtain⟨n,c,f,q⟩:=h;exact⟨z,n,gC,c,f,k _ _ H (L2.bG.refl H) (.int _) q⟩
 |_=>exact h.elim
end
section
variable{X:Cx}{F:uE}{o e:æ}{c:List æ}{f:ET}{pos b:Pos}
def Hj(C:à)(m:â)(j:wY F)(f:ET)(t:AZ F):EZ F:=λg n a Q=>f a λd=>∃ns i,d=O3 C ns i/\m∉ns/\t g n a λn1 h=>j g n1 (d::h) Q
def zY{C:à}{m:â}{s:wY F}{t:AZ F}(L:gK X o f)(J:SY X (e::c) t)
  (R:∀{v:TE}{w:TA},PE X o v->PA X (e::c) w->PE X (.Call (.Attribute o m b) (e::c) [] pos) (DS C m (jG X.K s) [] E0 v w)):uO X (.Call (.Attribute o m b) (e::c) [] pos) (Hj C m s f t):=by
 obtain⟨v,S,re⟩:=L;obtain⟨va,P,ra⟩:=J;refine⟨_,R S P,λB q H i g y T n Q QV o h k=>re B q H i g y _ _ o.ok h λd x A l r j=>?_⟩;obtain⟨ns,G,rfl,M,j⟩:=j;obtain⟨a,dx,fs,rfl,I,rfl,h2⟩:=C5 r;refine⟨a,dx,fs,gC,cA _ _ I,pF M,ra B q A i g y T n _ _ (o.grow l) j λO E xs H2 p u Z W=>?_⟩;rw[eK];exact⟨i,T,O,O3 C (fs.map (·.1)) G::E,Q,((o.grow l).growX p u).ok.live,o.mem',u,.cons (r.same (p.mask o.mem')) Z,W,λN d v z s' t' Y U=>k N d v z (((iD.of l).trans p).trans s') t' Y U⟩
end
def Ol(a:à)(K:aF)(b:kX):TS:=NX (IW K (nV 0) (nV 1) "form") (IW K (nV 0) (WR a (JS a K b) [] E0 (qJ (nV 1) (qJ (nV 2) (qJ (nV 3) CF)))) "book")
def JR(d f:à)(K:aF)(g:kX):Sp:=λvs H Q _=>∃x dx c dp ls b fm e,vs=[.ref x,c,.int dp,.int ls]/\x∈b/\H x=wz (.ins d dx [])/\(∀p∈b,AL (H p))/\iK K (ê H b) fm c/\g [fm,.int dp,.int ls] e /\
 ∀T st a,T.fm=fm->T.dp=dp->T.ls=ls->bG (ê H [x]) a->H T.p=wy->H T.q=wy->a x=wz (.ins d dx [("form",c),("book",.ref T.p)])->KH f T K a (T.p::T.q::b) ⟨[],0,st⟩->e st->Q .non a
def Jd{K}{mg:â->Option á}{d F:à}{x j:â}{st}{f:à}{N pn:List â}{k:Nat}(Fn:NK K x j st f fd)(S:bQ N pn (aS st))(hl:pn.length=4)
  (hc:AM K d) (n1:fZ K d "form") (n2:fZ K d "book")
  (C:∀l A outer s H E,iE k (A.deeper (i9 j (aS st) s.heap.objs.size f l))->BR (rW qA P w K mg base N j (aS st) f l A outer s H E).nox (lB st) (Ol F K sp)):lW P w K mg base qA (k+1) f fd pn (JR d F K sp):=by
 refine Fn.ok S (λvs H Q E h=>?_) λl A outer s H vs Q E hr h=>?_
 ·obtain⟨x,dx,b,dp,ls,i,fm,Z,rfl,_⟩:=h;exact hl.symm
 ·obtain⟨x,dx,b,dp,ls,i,fm,Z,rfl,X,hi,live,r1,q,k⟩:=h;refine⟨_,C l A outer s H E hr,?_⟩;have g0:(L2.nW N [.ref x,b,.int dp,.int ls])[0]?=wz (wz (.ref x)):=rfl;have g1:(L2.nW N [.ref x,b,.int dp,.int ls])[1]?=wz (wz b):=rfl;refine⟨b,g1,.ref x,g0,x,d,dx,[],gC,hi,hc,n1,eN,?_⟩;refine⟨b,g1,.int dp,gC,.int ls,gC,λy c R m eo=>?_⟩;have o:y≠x:=λz=>by rw[z,cD]at R;cases R
  have G:c≠x:=λz=>by rw[z,cD]at m;cases m
  have n:H y=none:=by rw[bY o]at R;exact R
  have g:H c=none:=by rw[bY G]at m;exact m
  have O:∀a,a≠y->a≠c->a≠x->eY (eY (eY H x (.ins d dx [("form",b)])) c (.own y)) y (.ins F c []) a=H a:=λa v a2 r=>by rw[bY v,bY a2,bY r]
  have B:eY (eY (eY H x (.ins d dx [("form",b)])) c (.own y)) y (.ins F c []) x=wz (.ins d dx [("form",b)]):=by rw[bY (i0 o),bY (i0 G),cD]
  have lv:∀p∈y::i,AL (eY (eY (eY H x (.ins d dx [("form",b)])) c (.own y)) y (.ins F c []) p):=λp hp=>by
   by_cases z:p=y
   ·subst z;exact⟨_,cD,gC⟩
   ·by_cases z2:p=x
    ·subst z2;exact⟨_,B,gC⟩
    ·obtain⟨u,T,e2⟩:=live p ((aO.mp hp).resolve_left z);exact⟨u,(O p z (λz=>by rw[z,g]at T;cases T) z2).trans T,e2⟩
  have sm:bG (ê H i) (ê (eY (eY (eY H x (.ins d dx [("form",b)])) c (.own y)) y (.ins F c [])) (y::i)):=λa u e=>by
   unfold ê at e |-
   by_cases ha:a∈i
   ·rw[a9 ha]at e;cases e
   ·rw[a8 ha]at e;have v:a≠y:=λz=>by rw[z,n]at e;cases e
    have a2:a≠c:=λz=>by rw[z,g]at e;cases e
    have r:a≠x:=λz=>ha (z▸X);rw[a8 λz=>(aO.mp z).elim v ha,O a v a2 r];exact e
  refine⟨y,c,b,dp,ls,y::i,fm,Z,gC,aP ..,cD,lv,r1.same sm,q,λt st v6 M sH L U W Y r6 q6=>⟨gC,?_⟩⟩;have J:t≠x:=λz=>by rw[z]at U;have:=B.symm.trans U;cases this
  refine⟨.ref x,g0,x,d,dx,_,gC,(sH x _ (by unfold ê;rw[a8 λz=>o (bC.mp z).symm];exact B)),hc,n2,eN,?_⟩
  have I:H t=none:=by
   by_cases z:t=c
   ·rw[z];exact g
   ·exact(O t L z J).symm.trans U
  have sF:bG (ê H [x]) (eY M x (.ins d dx [("form",b),("book",.ref y)])):=λa u e=>by
   unfold ê at e;by_cases ha:a∈[x]
   ·rw[a9 ha]at e;cases e
   ·rw[a8 ha]at e;have r:=λz=>ha (bC.mpr z);have v:a≠y:=λz=>by rw[z,n]at e;cases e
    rw[bY r];exact sH a u (by unfold ê;rw[a8 λz=>v (bC.mp z)];exact(O a v (λz=>by rw[z,g]at e;cases e) r).trans e)
  have sG:bG (ê H i) (ê (eY M x (.ins d dx [("form",b),("book",.ref y)])) (y::t::i)):=λa u e=>by
   unfold ê at e |-
   by_cases ha:a∈i
   ·rw[a9 ha]at e;cases e
   ·rw[a8 ha]at e;have r:a≠x:=λz=>ha (z▸X);rw[a8 λz=>(aO.mp z).elim (λz=>by rw[z,n]at e;cases e) λz=>(aO.mp z).elim (λz=>by rw[z,I]at e;cases e) ha];exact sF a u (by unfold ê;rw[a8 λz=>r (bC.mp z)];exact e)
  have sK:bG (ê M (t::y::i)) (ê (eY M x (.ins d dx [("form",b),("book",.ref y)])) (y::t::i)):=by
   rw[fU (aH _ (aH _ X))]
   exact gY λa ha=>by
    rcases aO.mp ha with rfl | ha
    ·exact aH _ (aP ..)
    ·rcases aO.mp ha with rfl | ha
     ·exact aP ..
     ·exact aH _ (aH _ ha)
  exact k ⟨y,t,c,fm,dp,ls⟩ st _ gC gC gC sF n I cD ⟨i0 L,b,v6,[],by rw[bY o];exact Y,by rw[bY J];exact W,r1.same sG,r6.same sK,.nil⟩ q6
section
variable{X:Cx}{g j:à}{e:æ}{k:List æ}{x y:â}{l p pos c:Pos}{t:AT}{jE:List é}{m:kX}
noncomputable def FZ(g:à)(T:Bk):D:=O3 g ["form","book"] [T.fm,mH T]
def aB9{i:Nat}{u:SZ (lO j)}(ha:wA X (e::k) t)(pc:∀{ta},PA X (e::k) ta->PS X (.Assign [.Name y l] (.Call (.Name x p) (e::k) [] pos) c) (xU (WR g (JR g j X.K m) [] E0 ta) (lS i)))(hr:vZ X jE u) :
  xA X (.Assign [.Name y l] (.Call (.Name x p) (e::k) [] pos) c::jE) (λDT O=>t O λW=>∃fm dp ls,W=[fm,.int dp,.int ls]/\m W λst=>∀T,T.fm=fm->T.dp=dp->T.ls=ls->u (mH T) { nx:=λ_ _=>False,rt:=λ_=>DT.rt } ⟨[],0,st⟩ (O.set i (.val (FZ g T)))):=by
 obtain⟨va,pa,ra⟩:=ha;obtain⟨vr,pr,rr⟩:=hr;refine⟨_,mZ (pc pa) pr,λB p0 H C P O DT DV o h f=>?_⟩;refine ra B p0 H C P O _ _ o h λW vs E s1 I q1=>?_;obtain⟨fm,dp,ls,rfl,q1⟩:=q1;intro x dx hx r eo
 cases I with
 |cons rf I=>
 cases I with
 |cons rd I=>
 cases I with
 |cons rl I=>
 cases I;cases rd;cases rl;rename_i v1;have S:=o.grow s1;have oj:eY E dx (.own x) x=none:=by rw[bY (i0 eo)];exact hx
 have F:∀p∈x::C,AL (eY (eY E dx (.own x)) x (.ins g dx []) p):=λp hp=>by
  by_cases z:p=x
  ·subst z;exact⟨_,cD,gC⟩
  ·rw[bY z];obtain⟨w,R,h2⟩:=S.live p ((aO.mp hp).resolve_left z);exact⟨w,dN r _ _ R,h2⟩
 refine⟨x,dx,v1,dp,ls,x::C,fm,_,gC,aP ..,cD,F,by rw[(pE oj)];exact rf.same (cC (dN r)),q1,λT st Q e1 e2 e3 sH s A vw U q6=>⟨gC,?_⟩⟩;have M:T.p≠x:=λz=>by rw[z,cD]at s;cases s
 have N:T.q≠x:=λz=>by rw[z,cD]at A;cases A
 have vh:E T.p=none:=by rw[bY M]at s;exact bG.free' (dN r) s
 have er:E T.q=none:=by rw[bY N]at A;exact bG.free' (dN r) A
 have s2:bG E Q:=λa w e=>sH a w (by
  have L:a≠x:=λz=>by rw[z,hx]at e;cases e
  unfold ê;rw[a8 λz=>L (bC.mp z),bY L];exact dN r _ _ e)
 have Y:∀a∈[T.p,T.q],E a=none:=λa ha=>by
  rcases aO.mp ha with rfl | ha
  ·exact vh
  ·rw[bC.mp ha];exact er
 have Z:bG (ê E C) (ê Q ([T.p,T.q]++C)):=λb w e=>by
  unfold ê at e |-
  by_cases hb:b∈C
  ·rw[a9 hb]at e;cases e
  ·rw[a8 hb]at e;rw[a8 λz=>(bR.mp z).elim (λz=>by rw[Y b z]at e;cases e) hb];exact s2 b w e
 have J:=(lO j).to U (λ_ _=>rfl) (gY λa ha=>by
  rcases aO.mp ha with rfl | ha
  ·exact aP ..
  ·rcases aO.mp ha with rfl | ha
   ·exact aH _ (aP ..)
   ·exact aH _ (aH _ (aH _ ha)))
 have vx:x∉[T.p,T.q]++C:=λz=>by
  rcases bR.mp z with z | z
  ·rcases aO.mp z with z | z
   ·exact M z.symm
   ·exact N (bC.mp z).symm
  ·obtain⟨w,R,_⟩:=S.live x z;rw[hx]at R;cases R
 have oz:oG (lO j) X.K B ([T.p,T.q]++p0) Q ([T.p,T.q]++C) (P.set i (.val (FZ g T))) (O.set i (wz (.ref x))) T ⟨[],0,st⟩:=
  ⟨(S.wide s2 Y ((lO j).liv (T:=T) (n:=⟨[],0,st⟩) J)).set (.ins (fs:=[("form",v1),("book",.ref T.p)]) (by unfold ê;rw[a8 vx];exact vw) (.cons (by rw[e1];exact rf.same Z) (.cons (IZ T) .nil))),λa ha=>dZ _ ha,(λa ha=>bG.free' S.base (Y a ha)),J⟩
 exact rr B ([T.p,T.q]++p0) Q ([T.p,T.q]++C) _ _ T _ _ DV oz (q6 T e1 e2 e3) ⟨λ_ _ _ _ _ _ _ G=>G.elim,λ_ _ _ _ _ _ _ G=>G.elim,λ_ _ _ _ _ _ _ G=>G.elim,λn' d v H2 s' t' r' G=>f.rt d v H2 s' (r'.same (gY λa ha=>cE _ ha)) G,e6⟩
end
section
variable{F:uE}{X:Cx}{c iter k:æ}{e:List æ}{a:Scope}{fr:List (Option Nat)}{N':List â}{g:GT}{m:vX}{l:ET}{i:Nat}{x:â}{s j pos:Pos}
def Mm(fr:List (Option Nat))(o:EZ F)(g:GT)(m:vX)(l:ET):EZ F:=λp n f Q=>o p n f λn1 d=>∃b,JZ d=wz b/\Dh fr g m l b f λh=>Q n1 (.list h)
def Yb{K:EZ F}(u:uO X iter K)(P:∀b,P2 (blk X a N' b) k g/\FP (blk X a N' b) e m/\gK (blk X a N' b) c l)
  (W:∀{L:TI}{t:BP->TG}{z:BP->TT}{y:BP->TE},PI X k iter L->(∀b,PG (blk X a N' b) k (t b)/\P1 (blk X a N' b) e (z b)/\PE (blk X a N' b) c (y b)) ->
   PS X (.Assign [.Name x s] (.ListComp c [⟨k,iter,e,0⟩] a pos) j) (xU (WS fr L t z y) (lS i))) :
  yM X (.Assign [.Name x s] (.ListComp c [⟨k,iter,e,0⟩] a pos) j) (Af i (Mm fr K g m l)):=by
 obtain⟨vi,U,ri⟩:=u;obtain⟨t,z,y,p,r⟩:=OW fr P;refine⟨_,W (X7 U) p,λB S H E A M T n DC N o h f=>ri B S H E A M T n _ _ o h λn1 d v C I t1 r1 Z=>?_⟩;obtain⟨ts,u,q⟩:=Z;have w:=o.growX I t1;refine QX r1 u cA λJ rj=>r (QV:=λx C=>lS i x M C N.nx) w.up rj q λds p xs O G Q R rs Y=>?_;exact f.nx O E _ _ n1 ((w.grow G).set (LU w.ok.live Q R rs)) ((I.mask o.mem').trans (cC G)) Y
end
section
variable{X:Cx}{a:æ}{pos:Pos}{c:ET}
def Mx(c:ET):ET:=λd Q=>c d λx=>match x with | .bool b=>Q (.bool (!b)) | _=>False
def Zo(i:gK X a c):gK X (.UnaryOp .Not a pos) (Mx c):=by
 obtain⟨t,l,p⟩:=i;refine⟨_,Xp l,λB j H m e r Q s o h k=>p B j H m e r _ _ o h λd x g q n f=>?_⟩
 cases n with
 |bool b=>exact⟨b,gC,k _ _ g q (.bool _) f⟩
 |_=>exact f.elim
end
end TL
namespace L2
section
variable{X:Cx}{a b:æ}{c:TE}{d:Operator}{pos:Pos}
def Gu{rt:St->Hp->(Hp->XK)->Prop}(l:HS X)(k:PE X a c)(hb:RE X b rt):RE X (.BinOp a d b pos) (λg H W=>c g H λ_ i=>rt g i W):=by
 intro f s g H W I h;refine wpAny_BinOp (eE (k f s g H _ I h) (λu o m=>?_) λe s z=>b8 z (l e s));obtain⟨x,i,j,p,n⟩:=m;exact eE (hb f o g i W j n) (λ_ _ z=>z.elim) λ_ _ z=>z
end
section
variable{X:Cx}{f:List (à×Obj)}{g:St}{H:Hp}{s:ã}{d:à}
def WO(K:aF)(h J:à)(rt:St->Hp->(Hp->XK)->Prop)(i:à->TS):TS:=λD g H=>rt g H λc b dx e=>fF K b (.ref h)=wz ww/\fF K b (.ref J)=wz wx /\
 ∃C,b=.ref C/\∀d,c d=wy->e d=wy->(∀a,dx=wz a->c a=wy)->i d { nx:=D.nx,rt:=λ_ _=>False } g (eY e d (.ext (TL.pH d C dx)))
def X1{J0 J:à}{n0 n:â}{we vg:Pos}{r:List é}{jn:â}{jp hp pos:Pos}{st b0:é}{l:List é}{qi:List m7}{rt:St->Hp->(Hp->XK)->Prop}{ts:à->TS}(hq:HS X)(j:X.stack=X.env::X.outer)(qd:X.env.frame=wz X.env.locals)(uk:Gl X n)(ux:X.mg n=wz (.ref J0))(hg:Gl X jn)(hm:X.mg jn=wz (.ref J))
  (hs:RS X st rt) (hb:∀d,BR (X.marked d) (b0::l) (ts d)) (oq:autoParam ((n==("__debug__":â))=false) zzy._auto_1) (hd:autoParam ((jn==("__debug__":â))=false) zzy._auto_1) :
  PS X (.Try [st] (.ExceptHandler (wz (.Name n we)) (wz n0) r vg::.ExceptHandler (wz (.Name jn jp)) wy (b0::l) hp::qi) [] [] pos) (WO X.K J0 J rt ts):=by
 intro f s g H D I h;refine cy (x8 (eE (hs f s g H _ I h) (λ_ _ z=>z.elim) λe Q hz=>?_));obtain⟨H1,R,y,d,T,dx,cls,a0,E,rfl,os,bare,un,hok,x,n1,n2,n3,n4,n5,Z,hW,C,rfl,m⟩:=hz;have I2:=y.call' os un hok bare λb z=>b8 z eH;have G:X.A.frames=wz (X.env::X.outer):=by rw[<- j];exact I.ok.frames
 have M:Q.heap.FunFrames X.base (X.env::X.outer):=by rw[<- j];exact I2.stack
 have p:∀b,R.heap.get? b=wy->b∉rC (X.env::X.outer):=λb hb z=>by
  rw[<- j]at z;obtain⟨_,o,ho,_⟩:=y.stack.mem z;rw[hb]at ho;cases ho
 have i:∀b∈rC (X.env::X.outer),E b=none:=λb hb=>by rw[<- j]at hb;exact I2.stkFree b hb
 refine A6 G M qd x (p d n3) (p T n4) λh3 B sz kb x3=>?_
 have Y:R.heap.get? B=none:=by
  cases q:R.heap.get? B with
  |none=>rfl
  |some o=>obtain⟨o',z⟩:=un.there B o q eH;rw[mT sz]at z;cases z
 refine oV x3 λW k4 x4=>?_;have t:hV (rC (X.env::X.outer)) [d,T,B] Q.heap W:=(kb.more λb hb=>aO.mpr ((aO.mp hb).imp id λz=>aO.mpr (.inl (bC.mp z)))).trans (.of λb u U c=>k4 b u U λz=>c (by rw[z];simp))
 have nw:∀b o,R.heap.get? b=wz o->b∉[d,T,B]/\(b∈rC (X.env::X.outer)->b∈rC X.stack):=λb o e=>by
  refine⟨λz=>?_,λz=>by rw[j];exact z⟩;simp only[aO,cG,f6]at z;rcases z with rfl | rfl | rfl
  ·rw[n3]at e;cases e
  ·rw[n4]at e;cases e
  ·rw[Y]at e;cases e
 have F:∀b∈[d,T,B],E b=none:=λb z=>by
  simp only[aO,cG,f6]at z;rcases z with rfl | rfl | rfl
  ·exact n1
  ·exact n2
  ·exact(hok.fresh sz)
 have I4:dI X f g E { Q with heap:=W }:=y.call' os (un.but t nw) (hok.butX t i F) bare λb z=>b8 z eH;have O:=I4.mark d;obtain⟨oe,ve,ge,ce,de,tf,_,_⟩:=x4.ex;have LT:xQ (ä X.prog X.w) W (typeOf (.ref d)) (.ref C):=ce▸(xQ.ld ge).andThen .now;refine ba (af (tY O uk ux (((CT O.kIn LT Z).at ?_)) oq)) (λz=>nomatch z);rw[a8 cR];refine ba (af (tY O hg hm (((CT O.kIn LT hW).at ?_)) hd)) (λz=>nomatch z);rw[a9 rfl];refine codeAny_handlers_suite (oV x4 λh5 k5 x5=>?_);have N:=t.trans (.of λb u U c=>k5 b u U λz=>c (by rw[z];simp));obtain⟨o5,v5,g5,c5,d5,S,_,_⟩:=x5.ex;have L:pZ X.prog X.w (eY E d (.ext (TL.pH d C dx))) h5:=(hok.butX N i F).track n1 ⟨⟨o5,v5,g5,c5,d5,S⟩,⟨o5,g5⟩,λha hb ⟨o,v,y1,y2⟩ k=>⟨o,v,k o y1,y2⟩⟩;have I5:dI X f g (eY E d (.ext (TL.pH d C dx))) { Q with heap:=h5 }:=y.call' os ((un.but N nw).track n1 n3) L bare λb z=>b8 z eH;refine eE (hb d f _ _ _ _ (I5.mark d) (m d (y.hok.out n3) n1 λa z=>y.hok.out (n5 a z))) (λfl s7 P=>?_) λe s7 z=>b8 z (hq e s7)
 cases fl with
 |next=>
  obtain⟨u4,H',J7,q⟩:=P;exact⟨_,H',I5.unmark J7,q⟩
 |brk=>obtain⟨_,_,_,z⟩:=P;exact z.elim
 |cont=>obtain⟨_,_,_,z⟩:=P;exact z.elim
 |ret u=>obtain⟨_,_,_,_,_,z⟩:=P;exact z.elim
end
end L2
namespace TL
open L2
section
variable{F:uE}{X:Cx}{e i o g:æ}{j:List æ}{l:ET}{pos c:Pos}{st:é}{C:à}{m:â}
def HI{Q:wY F}{t:AZ F}{w:F.S->D->Prop}{E:XK}{J:Hp}{r:F.I}{k:List à}(hE:∀s d b dx f,iD (F.ad r) J f->F.At r X.K f k s->yx X.K d b dx->w s d->E b dx f)(he:gK X o l)(ha:SY X (i::j) t)
  (pc:∀{v:TE}{U:TA},PE X o v->PA X (i::j) U->PE X (.Call (.Attribute o m c) (i::j) [] pos) (DS C m (lF X.K Q) [] E v U)) :
  ND X (λB u=>B=jM J (F.ad r)/\u=k) (.Call (.Attribute o m c) (i::j) [] pos) (λG n p=>l p λd=>G=F.tau r/\∃ns M,d=O3 C ns M/\m∉ns/\t G n p λn1 L=>Q G n1 (d::L) w):=by
 obtain⟨v,pe,re⟩:=he;obtain⟨va,pa,ra⟩:=ha;refine⟨_,pc pe pa,λB u H y q p T n QV o h hB=>re B u H y q p _ _ o.ok h λd x W A O z=>?_⟩;obtain⟨ht,ns,M,rfl,hm,z⟩:=z;obtain rfl:=F.inj ht;obtain⟨a,dx,fs,rfl,Z,rfl,h2⟩:=C5 O;refine⟨a,dx,fs,gC,cA _ _ Z,pF hm,ra B u W y q p T n _ _ (o.grow A) z λn2 L xs H2 P R r2 q2=>?_⟩;obtain⟨rfl,rfl⟩:=hB;rw[eK];have N:=(o.grow A).growX P R;exact⟨y,T,n2,_,w,N.ok.live,o.mem',R,.cons (O.same (P.mask (o.grow A).mem')) r2,q2,λs d b dx f s' t' x' Y=>hE s d b dx f ((xX N.ok.base).trans s') (F.to t' (λ_ _=>rfl) (gY o.ok.sub)) x' Y⟩
def G2{G:wY F}{t:AZ F}(Q:gK X o l)(P:SY X (i::j) t)
  (Z:∀{v:TE}{I:TA},PE X o v->PA X (i::j) I->RS X st (λb H W=>v b H λx z=>∃a dx fs,x=.ref a/\z a=wz (.ins C dx fs)/\fs.lookup m=wy/\I b z λvs p=>lF X.K G (x::vs) p (λ_ _=>False) (W p))) :
  Cn X st (Hj C m G l t):=by
 obtain⟨v,pe,re⟩:=Q;obtain⟨va,Y,ra⟩:=P;refine⟨_,Z pe Y,λB A H s f b T n J W o h k=>re B A H s f b _ _ o.ok h λd x p q E u=>?_⟩;obtain⟨ns,ds,rfl,R,u⟩:=u;obtain⟨a,dx,fs,rfl,O,rfl,h2⟩:=C5 E;refine⟨a,dx,fs,gC,cA _ _ O,pF R,ra B A p s f b T n _ _ (o.grow q) u λU as xs M w y r2 q2=>?_⟩;exact⟨s,T,U,_,J,((o.grow q).growX w y).ok.live,o.mem',y,.cons (E.same (w.mask (o.grow q).mem')) r2,q2,λS d r dx L s' t' x' N=>k S d r dx M L ((iD.of q).trans w) s' (F.liv y) t' x' N⟩
variable{W:Hp->List à->Prop}{t:D->F.S->List Sl->Prop}
def Xj{b:æ}{q:TE}(h:ND X W e t)(hb:PE X b q)(d:autoParam (DJ b) zzq._auto_1):ND X W (.Subscript e b pos) t:=by
 obtain⟨v,p,r⟩:=h;exact⟨_,uI aV p hb d,λB f H k a s T n u o h w=>r B f H k a s T n _ o h w⟩
def Xi{r:List V->Hp->VK->Prop}(h:ND X W e t)(k:∀{b:TA},PA X [e] b->PE X (.Call g [e] [] pos) (WU r b))(d:autoParam (bZ [e] X.env=(ww,è e X.env)::bZ [] X.env) zzz._auto_1):ND X W (.Call g [e] [] pos) t:=by
 obtain⟨v,p,r⟩:=h;exact⟨_,k (gF p mU d),λB f H q a s T n u o h w=>r B f H q a s T n _ o h w⟩
def IH(h:ND X W e t):yM X (.Return (wz e) pos) (λs k n b=>t s n b/\∀B a,k.xB B a->W B a):=by
 obtain⟨v,p,r⟩:=h;exact⟨_,A2 p,λB a H q d b T n k u o h f=>r B a H q d b T n _ o h.1 (h.2 B a f.xb)⟩
def Yu(K:aF)(h J:à)(t:EZ F)(k:SZ F):SZ F:=λf a n b=>t f n b λn1 d=>(∃C,d=.dict [(.int (C:Nat),.none)]/\fF K (.ref C) (.ref h)=wz ww/\fF K (.ref C) (.ref J)=wz wx) /\
 k f { nx:=a.nx,rt:=λ_ _=>False,xB:=a.xB } n1 b
def WV{J0 J:à}{p:m7}{jn:â}{M L:Pos}{r:List m7}{t:EZ F}{x:é}{a:List é}{P:SZ F}(hs:Cn X st t)(hb:∀b,vZ (X.marked b) (x::a) P)
  (pt:∀{rt:L2.St->Hp->(Hp->XK)->Prop}{Q:à->TS},RS X st rt->(∀b,BR (X.marked b) (x::a) (Q b))->PS X (.Try [st] (p::.ExceptHandler (wz (.Name jn M)) wy (x::a) L::r) [] [] pos) (WO X.K J0 J rt Q)):yM X (.Try [st] (p::.ExceptHandler (wz (.Name jn M)) wy (x::a) L::r) [] [] pos) (Yu X.K J0 J t P):=by
 obtain⟨rt,rs,rr⟩:=hs;refine⟨_,pt rs (λb=>(hb b).choose_spec.1),λB z H v w R T n E DV o h f=>rr B z H v w R T n _ _ o h λn1 d Y dx H1 G N O l1 t2 xr q=>?_⟩;obtain⟨⟨C,hd,y,hm⟩,q⟩:=q;obtain⟨C0,Z,rfl,rfl,xk⟩:=xr;subst Z;have hc:=WC hd;subst hc;refine⟨y,hm,_,gC,λb e1 I _=>?_⟩;have s:∀u:HO,oG F X.K B z (eY G b u) v w R T n1/\bG (ê H v) (ê (eY G b u) v):=λu=>⟨(o.growX (N.trans O) t2).grow (dN I),((N.trans O).mask o.mem').trans (cC (dN I))⟩;exact(hb b).choose_spec.2 B z _ v _ _ T n1 { nx:=E.nx,rt:=λ_ _=>False,xB:=E.xB } _ (s _).1 q ⟨λU A S u4 n' o' s' k=>f.nx U A _ _ n' o' ((s _).2.trans s') k,λ_ _ _ _ _ _ _ k=>k.elim,λ_ _ _ _ _ _ _ k=>k.elim,λ_ _ _ _ _ _ _ k=>k.elim,f.xb⟩
end
structure Sub(F P:uE) where
 π:P.I->F.I
 st:P.S->F.S
 put:P.S->F.S->P.S
 rel:D->D->Prop
 rl:∀{T:P.I}{τ:D},rel (P.tau T) τ->τ=F.tau (π T)
 ad:∀{T:P.I}{a:à},a∈F.ad (π T)->a∈P.ad T
 at_:∀{T:P.I}{K:aF}{H:Hp}{ps:List à}{n:P.S},P.At T K H ps n->F.At (π T) K H ps (st n)
 back:∀{T:P.I}{K:aF}{H H':Hp}{ps t7:List à}{n:P.S}{n':F.S},P.At T K H ps n->(∀a∈P.ad T,a∉F.ad (π T)->H' a=H a)->bG (ê H ps) (ê H' t7)->F.At (π T) K H' t7 n'->P.At T K H' t7 (put n n')
noncomputable def yq(F G:uE):uE where
 I:=F.I×G.I
 S:=F.S×G.S
 ad:=λT=>F.ad T.1++G.ad T.2
 tau:=λT=>.tuple [F.tau T.1,G.tau T.2]
 At:=λT K H ps n=>(∀a∈F.ad T.1,a∉G.ad T.2)/\F.At T.1 K H ps n.1/\G.At T.2 K H ps n.2
 to:=λh e s=>⟨h.1,F.to h.2.1 (λa ha=>e a (dZ _ ha)) s,G.to h.2.2 (λa ha=>e a (cE _ ha)) s⟩
 liv:=λh a ha=>(bR.mp ha).elim (F.liv h.2.1 a) (G.liv h.2.2 a)
 inj:=λ{T T'} h=>by
  injection h with h
  injection h with h1 h
  injection h with h2 _
  exact Prod.ext (F.inj h1) (G.inj h2)
section
variable{F G:uE}
def QL(h:dB [a,b]=.tuple [c,d]):a=c/\b=d:=by
 injection h with h
 injection h with e h
 injection h with f _
 exact⟨e,f⟩
noncomputable def zz:Sub F (yq F G) where
 π:=Prod.fst
 st:=Prod.fst
 put:=λn m=>(m,n.2)
 rel:=λτ qu=>∃x,τ=.tuple [qu,x]
 rl:=λ⟨_,h⟩=>(QL h).1.symm
 ad:=λh=>dZ _ h
 at_:=λh=>h.2.1
 back:=λh e s t=>⟨h.1,t,G.to h.2.2 (λa ha=>e a (cE _ ha) λz=>h.1 a z ha) s⟩
noncomputable def El:Sub G (yq F G) where
 π:=Prod.snd
 st:=Prod.snd
 put:=λn m=>(n.1,m)
 rel:=λτ qu=>∃x,τ=.tuple [x,qu]
 rl:=λ⟨_,h⟩=>(QL h).2.symm
 ad:=λh=>cE _ h
 at_:=λh=>h.2.2
 back:=λh e s t=>⟨h.1,F.to h.2.1 (λa ha=>e a (dZ _ ha) (h.1 a ha)) s,t⟩
end
section
variable{F P:uE}(S:Sub F P){K:aF}{B H k:Hp}{d f:List à}{c:List Sl}{g:L2.St}{T:P.I}{n:P.S}
noncomputable def Sub.rs(T:P.I):List Addr:=(P.ad T).filter λa=>decide (a∉F.ad (S.π T))
def Sub.mem_rs{a:à}:a∈S.rs T↔a∈P.ad T/\a∉F.ad (S.π T):=by
 unfold Sub.rs;rw[dM,c7]
def Ok.lay(ok:Ok K B d H f c g)(mem:∀a∈as,a∈d):Ok K (B4 B as H) d H f c g:=
 ⟨λa u e=>by
  by_cases z:a∈as
  ·rw[JX z]at e;exact e
  ·rw[pG z]at e;exact ok.base a u e,ok.sub,ok.live,ok.len,ok.val,λi t h=>by
  obtain⟨q,v,m,o,p,l,r,s⟩:=ok.own i t h;exact⟨q,v,m,o,by rw[pG λz=>l (mem q z)];exact p,l,r,s⟩,ok.dis,
  ok.dc.to (λj x kvs h=>⟨h,gC⟩) (λq w a b _=>⟨a,gC⟩) (λq w _ _ a b=>⟨by rw[pG λz=>b (mem q z)];exact a,b⟩) (L2.bG.refl _)⟩
def oG.sub(o:oG P K B d H f c g T n):oG F K (B4 B (S.rs T) H) d H f c g (S.π T) (S.st n):=
 ⟨o.ok.lay λa b=>o.mem a (S.mem_rs.mp b).1,λa b=>o.mem a (S.ad b),λa b=>by
  rw[pG λz=>(S.mem_rs.mp z).2 b];exact o.nb a (S.ad b),S.at_ o.tp⟩
def Sub.still(o:oG P K B d H f c g T n)(s:iD (F.ad (S.π T)) H k):∀a∈P.ad T,a∉F.ad (S.π T)->k a=H a:=λa e h=>by
 obtain⟨u,b,_⟩:=P.liv o.tp a e;rw[b];exact s a u h b
end
section
variable{F P:uE}{X:Cx}{e:æ}{st:é}
def Ir(S:Sub F P)(t:EZ F):EZ P:=λc n b Q=>∃a,S.rel c a/\t a (S.st n) b λn1 d=>Q (S.put n n1) d
def R9(S:Sub F P)(h:uO X e t):uO (F:=P) X e (Ir S t):=by
 obtain⟨v,p,r⟩:=h;refine⟨v,p,λB l H m c y T n Q C o h k=>?_⟩;obtain⟨A,j,h⟩:=h;obtain rfl:=S.rl j;exact r _ l H m c y _ _ _ _ (o.sub S) h λn1 d x f b w s q=>k _ d x f (λa u i e=>b a u (λz=>i (S.ad z)) e) (S.back o.tp (S.still o b) (b.mask λa g=>o.mem' a (S.ad g)) w) s q
def Ml(S:Sub F P)(t:TZ F):TZ P:=λd n c Q=>∃a,S.rel d a/\t a (S.st n) c λn1 b=>Q (S.put n n1) b
def Hf(S:Sub F P)(h:PZ X e t):PZ (F:=P) X e (Ml S t):=by
 obtain⟨v,p,r⟩:=h;refine⟨v,p,λB l H m d w T n Q y o h k=>?_⟩;obtain⟨x,j,h⟩:=h;obtain rfl:=S.rl j;exact r _ l H m d w _ _ _ _ (o.sub S) h λn1 b f c s q=>k _ b f (λa u i e=>c a u (λz=>i (S.ad z)) e) (S.back o.tp (S.still o c) (c.mask λa g=>o.mem' a (S.ad g)) s) q
end
structure St0 where
 p:à
 q:à
structure KP where
 kvs:List (Int×D)
 nxt:Int
noncomputable def IN(T:St0):D:=.dict [(.str "@",.list [.int (T.p:Nat),.int (T.q:Nat)])]
def QT(h:IN S=IN T):S=T:=by
 injection h with h
 injection h with h _
 injection h with _ h
 injection h with h
 injection h with a h
 injection h with b _
 injection a with a
 injection b with b
 cases S;cases T;cases kF.inj a;cases kF.inj b
 rfl
noncomputable def CB(T:St0)(g:Int):List (mX×V):=[(.inr "there",.ref T.q),(.inr "next",.int g)]
def stAt(T:St0)(K:aF)(H:Hp)(a:List à)(n:KP):Prop:=T.p≠T.q/\∃kv,H T.p=wz (.dK (CB T n.nxt))/\H T.q=wz (.dK kv)/\xD K (ê H a) n.kvs kv
noncomputable def FY:uE where
 I:=St0
 S:=KP
 ad:=λT=>[T.p,T.q]
 tau:=IN
 At:=stAt
 to:=λ{T K H H' ps t7 n} h e s=>by
  obtain⟨eo,kv,h1,h2,h4⟩:=h;exact⟨eo,kv,by rw[e T.p eH];exact h1,by rw[e T.q eH];exact h2,h4.same s⟩
 liv:=λ{T K H ps n} h a ha=>by
  obtain⟨eo,kv,h1,h2,_⟩:=h;rcases aO.mp ha with rfl | ha
  ·exact⟨_,h1,gC⟩
  ·rw[bC.mp ha];exact⟨_,h2,gC⟩
 inj:=QT
section
variable{K:aF}{B H:Hp}{e b:List à}{c:List Sl}{d:L2.St}{T:St0}{n:KP}{j:Nat}
def oG.slotT(o:oG FY K B e H b c d T n)(g:c[j]?=wz (.val (IN T))):d[j]?=wz (wz (.ref T.p)):=by
 obtain⟨v,a,f⟩:=o.ok.val j _ g;rw[show v=.ref T.p from LV f]at a;exact a
def WZ(a:stAt T K H b n)(i:T.q∈b)(h:xD K (ê H b) kvs kv):stAt T K (eY H T.q (.dK kv)) b { n with kvs:=kvs }:=by
 obtain⟨f,k,g,l,m⟩:=a;exact⟨f,kv,by rw[bY f];exact g,cD,by rw[fU i];exact h⟩
def Cy{T:St0}:T.p∈FY.ad T:=aP ..
def zi{T:St0}:T.q∈FY.ad T:=aH _ (aP ..)
end
section
variable{X:Cx}{e a m:æ}{c l:EZ FY}{tp:ET}{pos b s t:Pos}{i:Nat}
def Iq(i:Nat):EZ FY:=λf n d Q=>d[i]?=wz (.val f)/\Q n (.int n.nxt)
def R8(j:PE X e (LG (nV i) (tC (.str "next")))):uO (F:=FY) X e (Iq i):=⟨_,j,λB x H y r z T n Q u o h k=>by
 obtain⟨f,q⟩:=h;obtain⟨g,kv,d,v,w⟩:=id o.tp;exact⟨.ref T.p,o.slotT f,T.p,.int n.nxt,gC,AJ.k (k:=.inr "next") d,k n _ _ H .refl o.tp (.int _) q⟩⟩
def Lz(i:Nat)(c:EZ FY):SZ FY:=λg h n f=>c g n f λn1 d=>∃j,d=.int j/\f[i]?=wz (.val g)/\h.nx { n1 with nxt:=j } f
def Yc(J:uO X e c)(M:∀{v},PE X e v->PS X (.Assign [.Subscript m a b] e pos) (XE (nV i) (tC (.str "next")) v)):yM (F:=FY) X (.Assign [.Subscript m a b] e pos) (Lz i c):=by
 obtain⟨v,p,r⟩:=J;refine⟨_,M p,λB L H z u C T n Q R o h f=>r B L H z u C T n _ _ o h λn1 d x S A P O N=>?_⟩;obtain⟨j,rfl,K,q⟩:=N;cases O;have w:=o.growX A P;obtain⟨g,kv,E,G,I⟩:=id w.tp;have y:=o.mem' _ Cy;refine⟨.ref T.p,w.slotT K,T.p,_,gC,P7.k (k:=.inr "next") E eN,?_⟩;exact f.nx _ z u C _ (w.there Cy (⟨g,kv,cD,by rw[bY (i0 g)];exact G,by rw[fU y];exact I⟩)) ((A.mask o.mem').trans (by rw[fU y];exact L2.bG.refl _)) q
def Mf(i:Nat)(l:EZ FY)(tp:ET):SZ FY:=λf g n d=>tp d λx=>d[i]?=wz (.val f)/\l f n d λn1 y=>∃j,y=.int j/\n1.kvs.length<=100000/\g.nx { n1 with kvs:=yA n1.kvs j x } d
def Yx(Q:uO X a l)(P:gK X e tp)(W:∀{v E},PE X e v->PE X a E->PS X (.Assign [.Subscript m a b] e pos) (XE (LG (nV i) (tC (.str "there"))) E v)):yM (F:=FY) X (.Assign [.Subscript m a b] e pos) (Mf i l tp):=by
 obtain⟨v,p,r⟩:=P;obtain⟨E,Y,ri⟩:=Q;refine⟨_,W p Y,λB K H z g G T n DC DV o h f=>r B K H z g G _ _ o.ok h λd x M L r1 A=>?_⟩;obtain⟨R,A⟩:=A;have u:=o.grow L;obtain⟨S,kv,O,h2,h4⟩:=id u.tp;refine⟨.ref T.p,u.slotT R,T.p,.ref T.q,gC,AJ.k (k:=.inr "there") O,ri B K M z g G T n _ _ u A λn2 y yv H2 C t2 r2 Z=>?_⟩;obtain⟨j,rfl,hz,q⟩:=Z;cases r2;have w:=u.growX C t2;obtain⟨_,U,_,N,I⟩:=id w.tp;have J:=o.mem' _ zi;have hL:bN=2^24:=rfl;refine⟨T.q,_,gC,P7.k (k:=.inl j) N (by rw[<- I.length];lia),?_⟩;exact f.nx _ z g G _ (w.there zi (WZ w.tp J (I.put (i:=j) (r1.same (C.mask u.mem'))))) (((cC L).trans (C.mask u.mem')).trans (by rw[fU J];exact L2.bG.refl _)) q
def Md(i:Nat)(tp:ET):TZ FY:=λf n d Q=>tp d λy=>∃j,y=.int j/\d[i]?=wz (.val f)/\Q n (qZ n.kvs j).isNone
def Yp(K:gK X a tp)(O:∀{u},PE X a u->PT X e (λv H Q=>QN u (LG (nV i) (tC (.str "there"))) v H λx C=>∃k,x=.bl k/\Q k C)):PZ (F:=FY) X e (Md i tp):=by
 obtain⟨u,P,W⟩:=K;refine⟨_,O P,λB N H R z v T n Q Y o h k=>W B N H R z v _ _ o.ok h λy Z E A U S=>?_⟩;obtain⟨j,rfl,L,q⟩:=S;cases U;have r:=o.grow A;obtain⟨M,kv,G,I,J⟩:=id r.tp;refine⟨.ref T.p,r.slotT L,T.p,.ref T.q,gC,AJ.k (k:=.inr "there") G,T.q,sI kv (.inl j),gC,AJ.k (k:=.inl j) I,_,gC,k n _ E (.of A) r.tp ?_⟩;rcases J.val j with⟨f,g⟩ | ⟨d,w,f,g,_⟩
 ·rw[f]at q;rw[g];exact q
 ·rw[f]at q;rw[g];exact q
def Me(i:Nat)(tp:ET):SZ FY:=λg f n d=>d[i]?=wz (.val g)/\tp d λy=>∃j x,y=.int j/\qZ n.kvs j=wz x/\f.nx { n with kvs:=xO n.kvs j } d
def Yd(O:gK X a tp)(S:autoParam (bZ [a] X.env=(ww,è a X.env)::bZ [] X.env) zzz._auto_1)(pc:∀{ta},PA X [a] ta->PS X (.Expr (.Call (.Attribute m "pop" s) [a] [] t) pos) (GR (QO X.K "dict" (λx xs H Q=>∃p kvs k v,x=.ref p/\xs=[kV k]/\H p=wz (.dK kvs)/\sI kvs k=wz v/\Q v (eY H p (.dK (lH kvs k)))) (LG (nV i) (tC (.str "there"))) ta))) :
  yM (F:=FY) X (.Expr (.Call (.Attribute m "pop" s) [a] [] t) pos) (Me i tp):=by
 obtain⟨vi,W,ri⟩:=O;refine⟨_,pc (gF W mU S),λB U H J u L T n DC DV o h f=>?_⟩;obtain⟨P,h⟩:=h;obtain⟨R,kv,M,E,N⟩:=id o.tp;refine⟨.ref T.p,o.slotT P,T.p,.ref T.q,gC,AJ.k (k:=.inr "there") M,.inr (.inr (.inl ⟨gC,.inl ⟨kv,E⟩⟩)),ri B U H J u L _ _ o.ok h λy yv H2 z Z Y=>?_⟩;obtain⟨j,x,rfl,g,q⟩:=Y;cases Z;have I:=o.grow z;have G:=o.mem' _ zi;have r:=N.same (cC z);rcases r.val j with⟨A,C⟩ | ⟨d,w,A,C,xw⟩
 ·rw[g]at A;cases A
 ·refine⟨T.q,kv,.inl j,w,gC,gC,z _ _ E,C,?_⟩;exact f.nx _ J u L _ (I.there zi (WZ I.tp G (r.drop j))) ((cC z).trans (by rw[fU G];exact L2.bG.refl _)) q
end
section
variable{F:uE}{X:Cx}{c:é}{jE:List é}{i:Nat}
def aB8{u:SZ (yq F FY)}(pc:PS X c (xU (LF [(tC (.str "there"),LF [(tC (.int 0),tC (.bl wx))]),(tC (.str "next"),tC (.int 1))]) (lS i)))(W:vZ X jE u) :
  vZ (F:=F) X (c::jE) (λτ L n I=>∀T,u (.tuple [τ,IN T]) { nx:=λ_ _=>False,rt:=λZ=>L.rt Z.1 } (n,⟨[(0,.bool wx)],1⟩) (I.set i (.val (IN T)))):=by
 obtain⟨vr,pr,rr⟩:=W;refine⟨_,mZ pc pr,λB p0 H x J I M n L R o h f p m=>?_⟩;intro q t;have g:p≠q:=λz=>by rw[<- z,cD]at t;cases t
 have j:H q=none:=by rw[bY (i0 g)]at t;exact t
 refine⟨cD,[(.inl 0,.bl wx)],gC,aB gC,?_⟩;refine⟨by rw[bY g,bY g,cD],[(.inr "there",.ref q),(.inr "next",.int 1)],gC,aB gC,?_⟩
 generalize C:eY (eY (eY (eY H p (.dK [])) q (.dK [])) q (.dK (yE [] [((.inl 0:mX),V.bl wx)]))) p (.dK (yE [] [((.inr "there":mX),V.ref q),(.inr "next",.int 1)]))=G
 have N:G p=wz (.dK (CB ⟨p,q⟩ 1)):=by rw[<- C,cD];rfl
 have O:G q=wz (.dK [((.inl 0:mX),V.bl wx)]):=by rw[<- C,bY (i0 g),cD];rfl
 have go:∀a,a≠p->a≠q->G a=H a:=λa r s=>by rw[<- C,bY r,bY s,bY s,bY r]
 have k:∀{P:à->Prop},P p->P q->∀a∈[p,q],P a:=λr s a ha=>by
  rcases aO.mp ha with rfl | ha
  ·exact r
  ·rw[bC.mp ha];exact s
 have Q:bG H G:=λa w e=>(go a (λz=>by rw[z,m]at e;cases e) λz=>by rw[z,j]at e;cases e).trans e
 have E:bG (ê H x) (ê G ([p,q]++x)):=λb w e=>by
  unfold ê at e |-
  by_cases hb:b∈x
  ·rw[a9 hb]at e;cases e
  ·rw[a8 hb]at e;rw[a8 λz=>(bR.mp z).elim (λz=>k (P:=λa=>a≠b) (λy=>by rw[<- y,m]at e;cases e) (λy=>by rw[<- y,j]at e;cases e) b z gC) hb];exact Q b w e
 have U:∀a∈[p,q],B a=none:=k (bG.free' o.ok.base m) (bG.free' o.ok.base j);have A:=λa ha z=>(F.liv o.tp a ha).ne (k (P:=λa=>H a=wy) m j a z)
 have oz:oG (yq F FY) X.K B ([p,q]++p0) G ([p,q]++x) (J.set i (.val (IN ⟨p,q⟩))) (I.set i (wz (.ref p))) (M,⟨p,q⟩) (n,⟨[(0,.bool wx)],1⟩):=
  ⟨(o.ok.wide Q (k m j) (k ⟨_,N,gC⟩ ⟨_,O,gC⟩)).set (.addr _),λa ha=>(bR.mp ha).elim (λz=>cE _ (o.mem a z)) (λz=>dZ _ z),λa ha=>(bR.mp ha).elim (o.nb a) (U a),A,F.to o.tp (λa ha=>go a (λz=>A a ha (by rw[z];simp)) λz=>A a ha (by rw[z];simp)) E,g,_,N,O,.cons (.bool wx) .nil⟩
 exact rr B _ _ _ _ _ (M,⟨p,q⟩) _ _ R oz (h ⟨p,q⟩) ⟨λ_ _ _ _ _ _ _ l=>l.elim,λ_ _ _ _ _ _ _ l=>l.elim,λ_ _ _ _ _ _ _ l=>l.elim,λY d v S s' t' r' l=>f.rt Y.1 d v S s' (F.to t'.2.1 (λ_ _=>rfl) (gY λa ha=>cE _ ha)) (r'.same (gY λa ha=>cE _ ha)) l,e6⟩
end
end TL
namespace L2
def NM(a b:à)(m j:Array á) :
  Meets (y3.«zip.__new__» ⟨[.type "zip",.ref a,.ref b],[]⟩) (λ_ R s=>s.heap.IsList a m/\s.heap.IsTuple b j /\
   R (.ok (.ret (.ref (ye "list_iterator" "tuple_iterator" s.heap a b).objs.size))) { s with heap:=hH "list_iterator" "tuple_iterator" s.heap a b }):=
 .of_wp λprog w A R s h=>by
  obtain⟨k,g,d,l,os⟩:=s;obtain⟨e,f,h⟩:=h;have i:=sub_zip;have c:CA (Shared.heap ⟨k.push { cls:=.type "list_iterator",data:=.fields #[.ref a,.int 0 0] },g,d,l,os⟩) b j:=CA.push f _
  wp_walk using i4 e,u7 c
  exact⟨_,gC,h⟩
section
variable{P:cV}{w:f7}{A:d8}{E:á->ã->Prop}{s:ã}
def M2{a b:à}{Q:á->ã->Prop}(f:s.heap.IsList a xs)(g:s.heap.IsTuple b ys)
  (h:∀d,fb d (s.heap.objs.size+4) (s.heap.objs.size+2) (s.heap.objs.size+3) .none->IsPair d (s.heap.objs.size+2) (.ref s.heap.objs.size) (.ref (s.heap.objs.size+1)) ->
   IsPair d (s.heap.objs.size+3) .none .none->d.IsListIter s.heap.objs.size a 0->d.IsTupleIter (s.heap.objs.size+1) b 0 ->
   (∀c o,s.heap.get? c=wz o->d.get? c=wz o)->Q (.ref (s.heap.objs.size+4)) { s with heap:=d }) :
  å (ä P w) A (call (.type "zip") [.ref a,.ref b]) Q E s:=by
 refine jh F.called_zip cR (F.typeCall_zip_2 _ _) (F.newCall_zip_2 _ _) (λobj=>jc obj _ _) F.entry_zip_new (NM a b xs ys) ⟨f,g,?_⟩;have n1:(yn "list_iterator" s.heap a).objs.size=s.heap.objs.size+1:=eD ..;have i:(ym "list_iterator" "tuple_iterator" s.heap a b).objs.size=s.heap.objs.size+2:=by rw[eD,n1]
 have n3:(yl "list_iterator" "tuple_iterator" s.heap a b).objs.size=s.heap.objs.size+3:=by rw[eD,i]
 have m:(ye "list_iterator" "tuple_iterator" s.heap a b).objs.size=s.heap.objs.size+4:=by rw[eD,n3]
 have e:(hH "list_iterator" "tuple_iterator" s.heap a b).get? (ye "list_iterator" "tuple_iterator" s.heap a b).objs.size=wz _:=aX _ gC;have l:(hH "list_iterator" "tuple_iterator" s.heap a b).get? (yl "list_iterator" "tuple_iterator" s.heap a b).objs.size=wz _:=aD _ (aX _ gC);have k:(hH "list_iterator" "tuple_iterator" s.heap a b).get? (ym "list_iterator" "tuple_iterator" s.heap a b).objs.size=wz _:=aD _ (aD _ (aX _ gC));have j:(hH "list_iterator" "tuple_iterator" s.heap a b).get? (yn "list_iterator" s.heap a).objs.size=wz _:=aD _ (aD _ (aD _ (aX _ gC)));rw[i,n3,m]at e;rw[n1,i]at k;rw[n3]at l;rw[n1]at j;rw[m];exact⟨⟨_,e,gC⟩,h _ e k l ⟨_,(aD _ (aD _ (aD _ (aD _ (aX _ gC))))),gC,gC⟩ ⟨_,j,gC,gC⟩ λc o x=>aD _ (aD _ (aD _ (aD _ (aD _ x))))⟩
end
def Gh(K:aF)(e:TA):TI:=λg H R=>e g H λvs b=>∃c d a f,vs=[.ref c,.ref d]/\nM K b c a/\rL K b d f/\R (Cr (λH a=>nM K H c a) λH a=>rL K H d a) b
section
variable{X:Cx}
def aDf{T:Nat}(F:Gl X "zip")(G:X.mg "zip"=wy)(E:PA X [a,b] ta)(J:autoParam (bZ [a,b] X.env=[(ww,è a X.env),(ww,è b X.env)]) zzz._auto_1)(f:autoParam (bZ [b] X.env=[(ww,è b X.env)]) zzz._auto_1) :
  PI X (.Tuple u9 T tpos) (.Call (.Name "zip" p) [a,b] [] pos) (Gh X.K ta):=by
 intro g s W H R I h;refine Call_ (vP I F G M4 (i6 (iZ (E pos g s W H _ I h) λZ d U=>?_) (by rw[J,f]) (by rw[f];rfl)));obtain⟨vs,C,e,P,N⟩:=U;obtain⟨o,t,xs,ys,rfl,m,n,q⟩:=N
 cases P with
 |cons r u=>
  cases u with
  |cons O u=>
   cases u;cases r;cases O;obtain⟨v,Q,A,L⟩:=e.list m;obtain⟨w,S,B,M⟩:=e.tuple n;refine M2 (show d.heap.IsList o v.toArray from A.isList) (show d.heap.IsTuple t w.toArray from B) λY y i j k l hk=>cz y ?_;refine⟨_,[d.heap.objs.size+4,d.heap.objs.size+2,d.heap.objs.size+3,d.heap.objs.size,d.heap.objs.size+1],_,_,C,gC,e.kept hk,LA (PK _ o) (BL _ t) (W3 o) (IP t) (zipApart_new ((Nj A.isList)) B.lt),⟨y,i,⟨_,_,j⟩,k,l⟩,λc x=>?_,q⟩;simp only[aO,cG,f6]at x;have z:d.heap.objs.size<=c:=by rcases x with rfl | rfl | rfl | rfl | rfl<;>first | exact aN _ | exact FV _ _
   exact e.fpOk z (e.hok.fresh z)
end
end L2
namespace TL
open L2
def Wr(t:AT):IT:=λc Q=>t c λb=>∃a bs,b=[.list a,.tuple bs]/\Q (uP a bs)
section
variable{X:Cx}{a b:æ}
def aD1{m:Nat}(w:wA X [a,b] t)(I:∀{ta},PA X [a,b] ta->PI X (.Tuple u9 m tpos) (.Call (.Name "zip" p) [a,b] [] p') (Gh X.K ta)):P0 X (.Tuple u9 m tpos) (.Call (.Name "zip" p) [a,b] [] p') (Wr t):=by
 obtain⟨va,E,O⟩:=w;refine⟨_,I E,λB C H F f U Q R o h k=>O B C H F f U _ _ o h λZ xs n P d J=>?_⟩;obtain⟨Y,bs,rfl,q⟩:=J
 cases d with
 |cons d L=>
  cases L with
  |cons M N=>
   cases N
   cases d with
   |@list p1 us _ er rs1=>
    cases M with
    |@tuple p2 vs _ hq2 rs2=>
     have n1:=rs1.length;have n2:=rs2.length;refine⟨p1,p2,us,vs,gC,L2.bG.seq cA er,bG.seqT cA hq2,k _ _ n P ⟨λi H e c=>?_,λi H e c=>?_,λi H G y W live e c A=>?_⟩ q⟩
     ·rw[qI]at c;exact⟨us,vs,L2.bG.seq e er,bG.seqT e hq2,cS⟩
     ·rw[qI]at c;exact⟨us,vs,us[i],vs[i],L2.bG.seq e er,bG.seqT e hq2,aJ cS,aJ cS⟩
     ·obtain⟨p,x,y',l,rfl,rfl,u,v⟩:=A;obtain⟨g,r,S⟩:=rs1.get' (u us (L2.bG.seq (e.trans cA) er));obtain⟨j,s,T⟩:=rs2.get' (v vs (bG.seqT (e.trans cA) hq2));refine⟨dN l,.tuple [g,j],?_,rF live l (.cons (S.same e) (.cons (T.same e) .nil))⟩;unfold uP;rw[aQ,(gM (z:=(g,j))).mpr ⟨r,s⟩];rfl
end
end TL
namespace K73
open L2 TL
noncomputable def top(i:Nat):Stmt:=PySem.Challenge.pw_leafjudge_k73_texts_that_are_none.main.body.getD i (.Pass ⟨0,0,0,0⟩)
structure Cz(K:aF)(mg:â->Option á)(j7 v9 v8 t6 o1 i8 m3 l9:à):Prop where
 x_JudgeError:mg "JudgeError"=wz (.ref j7)
 x_TooMany:mg "TooMany"=wz (.ref v9)
 x_NoPlace:mg "NoPlace"=wz (.ref v8)
 x_NoRow:mg "NoRow"=wz (.ref t6)
 x_NoSuch:mg "NoSuch"=wz (.ref o1)
 x_NoLine:mg "NoLine"=wz (.ref i8)
 x_NoText:mg "NoText"=wz (.ref m3)
 x_NoRule:mg "NoRule"=wz (.ref l9)
 X_NoRow:hM K t6
 R_NoRow:zp K t6
 j_NoRow:fF K (.ref t6) (.ref j7)=wz wx
 u_NoRow_NoLine:fF K (.ref t6) (.ref i8)=wz ww
 X_NoSuch:hM K o1
 R_NoSuch:zp K o1
 j_NoSuch:fF K (.ref o1) (.ref j7)=wz wx
 u_NoSuch_NoLine:fF K (.ref o1) (.ref i8)=wz ww
 X_NoLine:hM K i8
 R_NoLine:zp K i8
 e_NoLine:fF K (.ref i8) (.ref i8)=wz wx
 v_NoLine:dU K (.ref i8) (.type "ValueError")=wz wx
 q_NoLine_TooMany:dU K (.ref i8) (.ref v9)=wz ww
 q_NoLine_NoPlace:dU K (.ref i8) (.ref v8)=wz ww
 q_NoLine_NoRow:dU K (.ref i8) (.ref t6)=wz ww
 q_NoLine_NoSuch:dU K (.ref i8) (.ref o1)=wz ww
 q_NoLine_NoText:dU K (.ref i8) (.ref m3)=wz ww
 q_NoLine_NoRule:dU K (.ref i8) (.ref l9)=wz ww
structure Txt(K:aF)(mg:â->Option á)(j7 v9 v8 t6 o1 i8 m3 l9:à)(nq ml mm nr mo nt mq mr mu nu jd gc gf je:à)(l3 u5:à)(t_SIDES t_SINGLE_WORDS:à)(v7 u6 ao r8 aq:Tok):Prop extends Cz K mg j7 v9 v8 t6 o1 i8 m3 l9 where
 x_Book:mg "Book"=wz (.ref l3)
 C_Book:AM K l3
 K_Book:Mk K l3 nt
 n_Book_form:fZ K l3 "form"
 n_Book_deep:fZ K l3 "deep"
 n_Book_least:fZ K l3 "least"
 n_Book_numbered:fZ K l3 "numbered"
 n_Book_following:fZ K l3 "following"
 n_Book_standing:fZ K l3 "standing"
 M_6:xC K l3 "put" mq
 M_7:xC K l3 "out" mr
 M_8:xC K l3 "turn" mu
 M_9:xC K l3 "rows" nu
 M_10:xC K l3 "tree" jd
 M_11:xC K l3 "refuse_no_row" gc
 M_12:xC K l3 "refuse_no_number" gf
 M_13:xC K l3 "grow_anew" je
 x_Desk:mg "Desk"=wz (.ref u5)
 C_Desk:AM K u5
 K_Desk:Mk K u5 nq
 n_Desk_form:fZ K u5 "form"
 n_Desk_book:fZ K u5 "book"
 M_1:xC K u5 "say" ml
 M_2:xC K u5 "done" mm
 M_3:xC K u5 "told_of_book" nr
 M_4:xC K u5 "told_of_case" mo
 D_0:Dg K "__init__" "Desk.__init__" (hZ (top 77) 0) nq ["self","form","deep","least"]
 D_1:Dg K "say" "Desk.say" (hZ (top 77) 1) ml ["self","text"]
 D_2:Dg K "done" "Desk.done" (hZ (top 77) 2) mm ["self","words"]
 D_3:Dg K "told_of_book" "Desk.told_of_book" (hZ (top 77) 3) nr ["self","word"]
 D_4:Dg K "told_of_case" "Desk.told_of_case" (hZ (top 77) 4) mo ["self","word","case"]
 D_5:Dg K "__init__" "Book.__init__" (hZ (top 51) 0) nt ["self","form","deep","least"]
 D_6:Dg K "put" "Book.put" (hZ (top 51) 1) mq ["self","row"]
 D_7:Dg K "out" "Book.out" (hZ (top 51) 2) mr ["self","number"]
 D_8:Dg K "turn" "Book.turn" (hZ (top 51) 3) mu ["self","number","row"]
 D_9:Dg K "rows" "Book.rows" (hZ (top 51) 4) nu ["self"]
 D_10:Dg K "tree" "Book.tree" (hZ (top 51) 5) jd ["self"]
 D_11:Dg K "refuse_no_row" "Book.refuse_no_row" (hZ (top 51) 6) gc ["self","thing"]
 D_12:Dg K "refuse_no_number" "Book.refuse_no_number" (hZ (top 51) 7) gf ["self","number"]
 D_13:Dg K "grow_anew" "Book.grow_anew" (hZ (top 51) 8) je ["self"]
 D_14:Df K mg "is_tuple_of" (top 10) ["thing","fewest","most"]
 D_15:Df K mg "is_case" (top 12) ["form","thing"]
 D_16:Df K mg "is_row" (top 13) ["form","thing"]
 D_17:Df K mg "entries_of" (top 14) ["field"]
 D_18:Df K mg "counted" (top 16) ["form","rows"]
 D_19:Df K mg "first_answer" (top 17) ["form","rows"]
 D_20:Df K mg "doubt_of" (top 18) ["form","rows"]
 D_21:Df K mg "fraction" (top 19) ["top","bottom"]
 D_22:Df K mg "common_divisor" (top 20) ["one","other"]
 D_23:Df K mg "added" (top 21) ["one","other"]
 D_24:Df K mg "is_less" (top 22) ["one","other"]
 D_25:Df K mg "common_bottom" (top 23) ["fractions"]
 D_26:Df K mg "questions_of" (top 26) ["form"]
 D_27:Df K mg "questions_on" (top 27) ["field"]
 D_28:Df K mg "choices_of" (top 28) ["form"]
 D_29:Df K mg "side_of" (top 29) ["form","question","stray","case"]
 D_30:Df K mg "field_asked" (top 30) ["form","question"]
 D_31:Df K mg "entries_to_yes" (top 31) ["question","stray","field"]
 D_32:Df K mg "values_held" (top 32) ["question","field"]
 D_33:Df K mg "parted" (top 33) ["form","question","stray","rows"]
 D_34:Df K mg "numbers_on" (top 34) ["side","sides"]
 D_35:Df K mg "is_proper" (top 35) ["sides","fewest"]
 D_36:Df K mg "ranked" (top 37) ["form","rows","least"]
 D_37:Df K mg "rows_at" (top 38) ["rows","numbers"]
 D_38:Df K mg "best" (top 39) ["form","rows","least"]
 D_39:Df K mg "grown" (top 40) ["form","rows","deep","least"]
 D_40:Df K mg "is_leaf" (top 42) ["tree"]
 D_41:Df K mg "on_side" (top 43) ["knot","side"]
 D_42:Df K mg "knots_in" (top 44) ["tree"]
 D_43:Df K mg "way_of" (top 45) ["form","tree","case"]
 D_44:Df K mg "sides_of_way" (top 46) ["form","tree","case"]
 D_45:Df K mg "answer_of" (top 47) ["form","tree","case"]
 D_46:Df K mg "part_at" (top 48) ["tree","place"]
 D_47:Df K mg "changed" (top 52) ["one","other"]
 D_48:Df K mg "cost_of" (top 54) ["form","tree","rows","prices"]
 D_49:Df K mg "first_leaf" (top 56) ["form","rows"]
 D_50:Df K mg "rows_on_sides" (top 57) ["form","knot","rows"]
 D_51:Df K mg "prices_at" (top 58) ["price"]
 D_52:Df K mg "least_pruning" (top 59) ["form","tree","rows","price"]
 D_53:Df K mg "least_with_cost" (top 60) ["form","tree","rows","prices"]
 D_54:Df K mg "steps" (top 61) ["form","tree","rows"]
 D_55:Df K mg "next_price" (top 62) ["form","tree","rows"]
 D_56:Df K mg "slips_and_prices" (top 63) ["form","tree","rows"]
 D_57:Df K mg "rules_of" (top 66) ["form","tree"]
 D_58:Df K mg "whole_lets" (top 67) ["form"]
 D_59:Df K mg "rules_within" (top 68) ["form","tree","lets"]
 D_60:Df K mg "with_let" (top 69) ["lets","number","let"]
 D_61:Df K mg "shown_tree" (top 71) ["tree"]
 D_62:Df K mg "is_line" (top 78) ["words"]
 D_63:Df K mg "is_number" (top 79) ["word"]
 D_64:Df K mg "row_written" (top 80) ["words"]
 D_65:Df K mg "case_written" (top 81) ["words"]
 D_66:Df K mg "shown_entry" (top 82) ["entry"]
 D_67:Df K mg "shown_rows" (top 83) ["rows"]
 D_68:Df K mg "shown_turn" (top 84) ["question","side"]
 D_69:Df K mg "shown_rule" (top 85) ["form","rule"]
 D_70:Df K mg "shown_let" (top 86) ["field","let"]
 D_71:Df K mg "shown_step" (top 87) ["price","tree"]
 D_72:Df K mg "_law_tape" (top 89) ["_law_script"]
 D_73:Df K mg "_law_draw" (top 90) ["_law_tape_here","_law_many"]
 D_74:Df K mg "_law_names" (top 91) ["_law_tape_here","_law_many"]
 D_75:Df K mg "_law_form" (top 92) ["_law_tape_here","_law_fields","_law_values"]
 D_76:Df K mg "_law_drawn_row" (top 93) ["_law_tape_here","_law_form_here"]
 D_77:Df K mg "_law_as_word" (top 94) ["_law_value"]
 D_78:Df K mg "_law_row_text" (top 95) ["_law_row"]
 D_79:Df K mg "_law_is_number" (top 96) ["_law_word"]
 D_80:Df K mg "_law_is_text" (top 97) ["_law_text"]
 D_81:Df K mg "_law_is_case" (top 98) ["_law_form_here","_law_words"]
 D_82:Df K mg "_law_is_row" (top 99) ["_law_form_here","_law_words"]
 D_83:Df K mg "_law_right" (top 100) ["_law_form_here","_law_state","_law_text","_law_told"]
 D_84:Df K mg "_law_good" (top 101) ["_law_tape_here","_law_form_here"]
 D_85:Df K mg "_law_spoilt" (top 102) ["_law_tape_here","_law_text"]
 D_86:Df K mg "_law_said" (top 103) ["_law_desk","_law_text"]
 D_law:Df K mg "law" (top 104) ["_law_script"]
 c_SIDES:mg "SIDES"=wz (.ref t_SIDES)
 t_SIDES:ze K t_SIDES ["yes","no"]
 c_MOST_ROWS:mg "MOST_ROWS"=wz (.int 60 v7)
 c_MOST_RULES:mg "MOST_RULES"=wz (.int 60 u6)
 c_FIGURES:mg "FIGURES"=wz (.str "0123456789" ao)
 c_MOST_FIGURES:mg "MOST_FIGURES"=wz (.int 9 r8)
 c_SINGLE_WORDS:mg "SINGLE_WORDS"=wz (.ref t_SINGLE_WORDS)
 t_SINGLE_WORDS:ze K t_SINGLE_WORDS ["tree","rows","rules","steps"]
 c_LACKING:mg "LACKING"=wz (.str "-" aq)
 L_36:FQ K (yH K (qS mg "ranked")).code
 b_ValueError:mg "ValueError"=wy
 b_all:mg "all"=wy
 b_enumerate:mg "enumerate"=wy
 b_int:mg "int"=wy
 b_isinstance:mg "isinstance"=wy
 b_len:mg "len"=wy
 b_list:mg "list"=wy
 b_max:mg "max"=wy
 b_min:mg "min"=wy
 b_range:mg "range"=wy
 b_sorted:mg "sorted"=wy
 b_str:mg "str"=wy
 b_sum:mg "sum"=wy
 b_tuple:mg "tuple"=wy
 b_zip:mg "zip"=wy
abbrev Fs:=List (â×List â)
noncomputable def iQ:Str:="abcdefghijklmnopqrstuvwxyz"
noncomputable def An(c:Nat):Bool:=Txt.contains iQ ⟨#[c]⟩
noncomputable def uW(z:â):Bool:=decide (1<=z.length)&&decide (z.length<=8)&&z.cps.toList.all An
noncomputable def nm:D->Bool
|.str z=>uW z
|_=>ww
noncomputable def xK(d:D)(lo a:Int):Bool:=match d with | .tuple ts=>decide (lo<=ts.length)&&decide ((ts.length:Int)<=a) | _=>ww
noncomputable def Cw:D->â
|.str z=>z
|_=>""
noncomputable def Iz(d:D)(lo a:Int):Bool:=match d with | .tuple ts=>decide (lo<=ts.length)&&decide ((ts.length:Int)<=a)&&ts.all nm&&decide ((ts.map Cw).Nodup) | _=>ww
noncomputable def fld:D->Bool
|.tuple [n,vs]=>nm n&&Iz vs 2 5
|_=>ww
noncomputable def fst:D->D
|.tuple (n::_)=>n
|_=>.none
def Tx:kX:=λb Q=>∃d lo a,b=[d,.int lo,.int a]/\d.hasDict=ww/\Q (.bool (xK d lo a))
def HU(n:Nat)(a:List â):Prop:=a.length=n/\(∀y∈a,uW y=wx)/\a.Nodup
noncomputable def lG(f:â×List â):D:=.tuple [.str f.1,.tuple (f.2.map aK)]
noncomputable def fV(fs:Fs)(an:List â):D:=.tuple [.tuple (fs.map lG),.tuple (an.map aK)]
structure eS(fs:Fs)(an:List â):Prop where
 n1:1<=fs.length
 n5:fs.length<=5
 nd:HU fs.length (fs.map (·.1))
 vs:∀f∈fs,2<=f.2.length/\f.2.length<=5/\HU f.2.length f.2
 a2:2<=an.length
 a4:an.length<=4
 an:HU an.length an
 n3:fs.length<=3
def Uq:NB:=λa Q=>∃ns:List Int,a=[.list (ns.map cI)]/\ns.length<=63/\∀c,(c=0\/c=1)->Q [.list (ns.map cI),.int 0,.int 0,.int c]
def Ur:kX:=λa Q=>∃ns m,a=[jY ns,.int m]/\ns.length<=63/\0<m/\m<=10000/\∀r,0<=r->r<m->Q (.int r)
def Us:kX:=λb Q=>∃(ns:List Int)(m:Nat),b=[jY ns,.int m]/\ns.length<=63/\1<=m/\m<=5/\∀a,HU m a->Q (.list (a.map aK))
def Ut:kX:=λa Q=>∃(ns:List Int)(f v:Nat),a=[jY ns,.int f,.int v]/\ns.length<=63/\1<=f/\f<=3/\2<=v/\v<=5/\∀fs an,eS fs an->fs.length<=f->(∀x∈fs,x.2.length<=v)->Q (fV fs an)
noncomputable def Gi:D->Bool
|.tuple [_,_]=>wx
|_=>ww
def Yo(d:D):(∃a b,d=.tuple [a,b])\/(xK d 2 2=ww/\Gi d=ww):=by
 cases d with
 |tuple c=>
  match c with
  |[]=>exact .inr ⟨gC,gC⟩
  |[_]=>exact .inr ⟨gC,gC⟩
  |[a,b]=>exact .inl ⟨a,b,gC⟩
  |_::_::_::r=>
   refine .inr ⟨?_,gC⟩;simp only[xK,bA];have:¬(((r.length+1+1+1:Nat):Int)<=2):=by lia
   simp[this];lia
 |_=>exact .inr ⟨gC,gC⟩
def KI{c:Type}{xs:List c}{i:Int}(d:0<=i)(e:i<xs.length):∃a,a∈xs/\L2.atI xs i=wz a/\xs[i.toNat]?=wz a:=by
 have b:i.toNat<xs.length:=by lia
 refine⟨xs[i.toNat],iU b,?_,aJ b⟩;have:=L2.eR (aJ b)
 rwa [show((i.toNat:Nat):Int)=i by lia]at this
def oU(n:Nat):(fL n).length=n:=by unfold fL;simp
def EY{n k:Nat}(h:(fL n)[k]?=wz x):k<n/\x=.int k:=by
 unfold fL at h;rw[aQ]at h;by_cases hk:k<n
 ·rw[kQ hk]at h;cases h;exact⟨hk,gC⟩
 ·rw[eP (by simpa using hk)]at h;cases h
def nG{b:Type}(a:List b)(j:Nat):fY a wy (wz (j:Int))=a.take j:=by
 unfold fY;rw[HT.sIx_none,HT.sIx_nat,rP,wG];by_cases h:j<=a.length
 ·rw[wU h]
 ·rw[FS cS,fJ,gG cS]
def pQ{b:Type}(a:List b)(i:Nat):fY a (wz (i:Int)) wy=a.drop i:=by
 unfold fY;rw[HT.sIx_none,HT.sIx_nat];by_cases h:i<=a.length
 ·rw[wU h,gG (by rw[eI];lia)]
 ·rw[FS cS,uX (aN _),uX cS];simp
def Wi{f:Type}(b:List f)(i j:Nat):fY b (wz (i:Int)) (wz (j:Int))=(b.drop i).take (j-i):=by
 unfold fY;rw[HT.sIx_nat,HT.sIx_nat];apply kE;intro k;rw[nS,nS,rO,rO];by_cases d:i<=b.length
 ·rw[wU d];by_cases e:j<=b.length
  ·rw[wU e]
  ·rw[FS cS];by_cases c:k<b.length-i
   ·rw[a9 c,a9 cS]
   ·rw[a8 c];by_cases a:k<j-i
    ·rw[a9 a,eP cS]
    ·rw[a8 a]
 ·rw[a8 cS];by_cases a:k<j-i
  ·rw[a9 a,eP cS]
  ·rw[a8 a]
def hU{c d:Type}(f:c->d)(b:List c)(lo a:Option Int):fY (b.map f) lo a=(fY b lo a).map f:=by
 unfold fY;rw[aC,aKx,aKy]
def Y5{z:â}(a:1<=z.cps.toList.length)(b:z.cps.toList.length<=8)(d:∀c∈z.cps.toList,c∈iQ.cps.toList):uW z=true:=by
 have e:z.length=z.cps.toList.length:=by simp[h9]
 unfold uW;rw[e,b7 a,b7 b];simp only[iY,fK];intro c f;unfold An;rw[O4];exact b7 (d c f)
def C9{z:â}(h:uW z=wx):1<=z.length/\z.length<=8/\∀c∈z.cps.toList,c∈iQ.cps.toList:=by
 unfold uW at h;simp only[cU,c7,fK]at h;refine⟨h.1.1,h.1.2,λc a=>?_⟩;have:=h.2 c a;unfold An at this;rw[O4]at this;exact b9 this
theorem nodup_range{f:Type}{n:Nat}(F:Nat->f)(inj:∀i j,i<n->j<n->F i=F j->i=j):((gO n).map F).Nodup:=by
 rw[List.Nodup,List.pairwise_map];have:(gO n).Nodup:=List.nodup_range;refine aKz.imp_of_mem (λ{a b} d hb c e=>?_) this;exact c (inj a b (by simpa using d) (by simpa using hb) e)
def OU:iQ.cps.toList.Nodup:=by decide +kernel
def B2:iQ.cps.toList.length=26:=by decide +kernel
def aDr{a:List Nat}(nd:a.Nodup){i j:Nat}{c:Nat}(d:a[i]?=wz c)(e:a[j]?=wz c):i=j:=by
 obtain⟨f,a2⟩:=aL.mp d;obtain⟨g,b⟩:=aL.mp e;exact(aBs nd).mp (a2.trans b.symm)
theorem LN:∀{ys},(∀y∈ys,∃c,c∈iQ.cps.toList/\y=.str ⟨#[c]⟩)->∃a:List Nat,ys=a.map (λc=>aK ⟨#[c]⟩)/\∀c∈a,c∈iQ.cps.toList
|[],_=>⟨[],gC,λc h=>by simp at h⟩
|y::ys,h=>by
 obtain⟨c,e,rfl⟩:=h y (aP ..);obtain⟨a,rfl,b⟩:=LN λy f=>h y (aH _ f);refine⟨c::a,gC,λd hd=>?_⟩;rcases aO.mp hd with rfl | hd
 ·exact e
 ·exact b d hd
def EU(a:List Nat):(Txt.join ⟨#[]⟩ (a.map λc=>⟨#[c]⟩)).cps.toList=a:=by
 rw[O1,bE]
 induction a with
 |nil=>rfl
 |cons c a b=>rw[bB,aBg,b];rfl
def aA7{a:List â}{k:Nat}(h:k<a.length):L2.atI (a.map aK) (k:Int)=wz (.str a[k]):=L2.eR (by rw[aQ,aJ h];rfl)
def IV{c:ET}{i:Nat}(ns:List Int)(b:σ[i]?=wz (.val (jY ns)))(a:Int)(h:∀q,q (.int a)->c σ q)(d:0<=a)(k:u DT σ):nY (zC i 1 c) u DT σ:=h _ ⟨⟨ns,b⟩,⟨a,gC,d⟩,k⟩
def yZ{c:ET}{i:Nat}(ns:List Int)(b:σ[i]?=wz (.val (jY ns)))(a:Int)(h:∀q,q (.int a)->c σ q)(k:u DT σ):nY (zC i 2 c) u DT σ:=h _ ⟨⟨ns,b⟩,⟨a,gC⟩,k⟩
def JJ{d:ET}{c:FR}{i:Nat}(ns:List Int)(b:σ[i]?=wz (.val (jY ns)))(a:Int)(h:∀q,q (.int a)->d σ q)(k:c.nx σ):zC i 2 d c σ:=h _ ⟨⟨ns,b⟩,⟨a,gC⟩,k⟩
def D4{c:vX}{m:ET}{u:yO}{a:List Sl}{i:Nat}(C:Prop)(R:D->Prop)(h:∀q,(∀b,(b=wx->C)->q b)->c a q)(n:C->∀q,(∀d,R d->q d)->m a q)(f:D)(g:a[i]?=wz (.val f))(o:R f)(k:∀d,R d->u DT (a.set i (.val d))):nY (yd c (LP i m) jR) u DT a:=by
 refine h _ λb hb=>?_
 cases b with
 |true=>
  rw[a9 rfl];exact n (hb gC) _ k
 |false=>
  rw[a8 cR]
  have e:a.set i (.val f)=a:=by
   apply kE;intro j;by_cases l:i=j
   ·subst l;rw[bT (aL.mp g).1,g]
   ·rw[bM l]
  have:=k f o;rw[e]at this;exact this
def EJ{n:Nat}(F:Nat->â)(h:∀i,i<n->uW (F i)=wx)(inj:∀i j,i<n->j<n->F i=F j->i=j):HU n ((gO n).map F):=
 ⟨eH,λy b=>by
  obtain⟨i,a,rfl⟩:=aR.mp b;exact h i (by simpa using a),nodup_range F inj⟩
def G6{n:Nat}{a:List â}(h:HU n a)(t:Nat){m:Nat}(d:m<=n):HU m ((a.drop t++a.take t).take m):=by
 have b:(a.drop t++a.take t).Perm a:=by
  have:(a.take t++a.drop t).Perm a:=by rw[List.take_append_drop]
  exact List.perm_append_comm.trans this
 refine⟨?_,λy c=>h.2.1 y (b.mem_iff.mp (eG c)),(b.nodup_iff.mpr h.2.2).sublist (B9 _ _)⟩;rw[bU,b.length_eq,h.1];lia
def UJ{n:Nat}{a:List â}(h:HU n a)(t:Nat):HU n (a.drop t++a.take t):=by
 have e:=G6 h t (aN n)
 rwa [gG]at e
 rw[aW,eI,bU,h.1];lia
def UK{n:Nat}{a:List â}(h:HU n a){m:Nat}(c:m<=n):HU m (a.take m):=⟨by rw[bU,h.1];lia,λy b=>h.2.1 y (eG b),h.2.2.sublist (B9 _ _)⟩
noncomputable def DA:List Str:=["say","ask","is","upto","yes","no","all","in","and","put","out","tree"]
def Nm:HU 12 DA:=⟨gC,cL,cL⟩
def M6{ns:List Int}(h:0<ns.length)(i:Int):∃x,L2.atI (ns.map cI) (i%((ns.map cI).length:Nat))=wz (.int x):=by
 rw[aC];obtain⟨a,d,c,_⟩:=KI (xs:=ns.map cI) (i:=i%(ns.length:Nat)) (nT _ cS) (by rw[aC];exact lP _ cS);obtain⟨b,hb,rfl⟩:=aR.mp d;exact⟨b,c⟩
@[irreducible] def sN(i:Nat):Nat:=iQ.cps.toList.getD i 0
def DI{i:Nat}(h:i<26):iQ.cps.toList[i]?=wz (sN i):=by
 have a:i<iQ.cps.toList.length:=by rw[B2];exact h
 unfold sN;rw[dQ,aJ a];rfl
def Zc{i:Nat}(h:i<26):sN i∈iQ.cps.toList:=bD (DI h)
noncomputable def IE(z:â)(t k c:Nat):Str:=Txt.slice z wy (wz (t:Int))++⟨#[c]⟩++Txt.slice z (wz ((t:Int)+1)) (wz (k:Int))
def tP(z:â)(t k c:Nat):(IE z t k c).cps.toList=z.cps.toList.take t++(c::(z.cps.toList.drop (t+1)).take (k-(t+1))):=by
 unfold IE;rw[mR,mR,nI,nI];have a:(t:Int)+1=((t+1:Nat):Int):=by lia
 rw[a,Wi,nG];simp
def Y4{z:â}(l:z.cps.toList.length=8)(a:∀c∈z.cps.toList,c∈iQ.cps.toList){k m:Nat}(hk:1<=k)(g:k+m<=9):HU m ((gO m).map λj:Nat=>Txt.slice z wy (wz ((k:Int)+(j:Int)))):=by
 have e:∀j:Nat,(Txt.slice z wy (wz ((k:Int)+(j:Int)))).cps.toList=z.cps.toList.take (k+j):=λj=>by
  rw[nI];exact nG _ (k+j)
 refine EJ _ (λi f=>?_) λi j f n h=>?_
 ·refine Y5 ?_ ?_ λc d=>?_
  ·rw[e,bU];lia
  ·rw[e,bU];lia
  ·rw[e]at d;exact a c (eG d)
 ·have b:=e i;rw[h,e j]at b;have:=d6 jQ b;rw[bU,bU]at this;lia
def UI{z:â}(l:z.cps.toList.length=8)(a:∀c∈z.cps.toList,c∈iQ.cps.toList){k t s m:Nat}(hk:k<=8)(p:t<k)(o:m<=26):HU m ((gO m).map λj:Nat=>IE z t k (sN ((s+j)%26))):=by
 refine EJ _ (λi g=>?_) λi j g n h=>?_
 ·have e:=tP z t k (sN ((s+i)%26));refine Y5 ?_ ?_ λc hc=>?_
  ·rw[e,aW,bA];lia
  ·rw[e,aW,bA,bU,bU,eI];lia
  ·rw[e]at hc;rcases bR.mp hc with hc | hc
   ·exact a c (eG hc)
   ·rcases aO.mp hc with rfl | hc
    ·exact Zc (BT _ cR)
    ·exact a c (pU (eG hc))
 ·have b:=tP z t k (sN ((s+i)%26));rw[h,tP]at b;have f:=(e9 (List.append_cancel_left b)).1;have d:=DI (i:=(s+j)%26) (BT _ cR);rw[f]at d;have:=aDr OU (DI (i:=(s+i)%26) (BT _ cR)) d;lia
def NO(z:â)(a:z.cps.toList.length=8)(t k c:Nat):(Txt.slice z wy (wz (t:Int))).length+1<=100000/\(Txt.slice z wy (wz (t:Int))++(⟨#[c]⟩:â)).length+(Txt.slice z (wz ((t:Int)+1)) (wz (k:Int))).length<=100000:=by
 have b:=Txt.slice_le z wy (wz (t:Int));have a2:=Txt.slice_le z (wz ((t:Int)+1)) (wz (k:Int));have d:z.length=z.cps.toList.length:=by simp[h9]
 have a4:(Txt.slice z wy (wz (t:Int))++(⟨#[c]⟩:â)).length=(Txt.slice z wy (wz (t:Int))).length+1:=by
  show((Txt.slice z wy (wz (t:Int))).cps++#[_]).size=_;rw[BU];rfl
 rw[a4];lia
noncomputable def JM(f:â×List â)(d:D):Bool:=match d with | .none=>wx | .str z=>decide (z∈f.2) | _=>ww
noncomputable def xL(an:List â)(d:D):Bool:=match d with | .str z=>decide (z∈an) | _=>ww
structure Cd(d:D):Prop where
 lay:d.canLay0=wx
 dep:d.depth<=60
structure Th(n m:Nat)(d:D):Prop where
 bulk:d.bulk<=n
 fit:d.leavesShort 110=wx
 shw:d.showable=wx
 nodict:d.hasDict=ww
 depth:d.depth<=m
 lay:d.canLay0=wx
theorem AS{n m:Nat}:∀{b:List D},(∀t∈b,Th n m t)->F1 b<=b.length*(n+1)/\NF 110 b=wx/\S4 b=wx/\lX b=ww/\fG b<=m/\eB b=wx
|[],_=>⟨cP _,gC,gC,gC,cP _,gC⟩
|t::b,h=>by
 have a:=h t (aP ..);obtain⟨j,c,d,e,f,g⟩:=AS λx i=>h x (aH _ i);refine⟨?_,?_,?_,?_,?_,?_⟩
 ·show t.bulk+1+F1 b<=(b.length+1)*(n+1);have:=a.bulk;rw[aTn,aTl];lia
 ·show(t.leavesShort 110&&NF 110 b)=wx;rw[a.fit,c];rfl
 ·show(t.showable&&S4 b)=wx;rw[a.shw,d];rfl
 ·show(t.hasDict||lX b)=ww;rw[a.nodict,e];rfl
 ·exact Nat.max_le.mpr ⟨a.depth,f⟩
 ·show(t.canLay0&&eB b)=wx;rw[a.lay,g];rfl
def xT(n m k:Nat){N M:Nat}{a:List D}(h:∀t∈a,Th n m t)(f:a.length<=k)(l:k*(n+1)<=N)(j:m+1<=M):Th N M (.tuple a):=by
 obtain⟨g,b,c,d,i,e⟩:=AS h;have:a.length*(n+1)<=k*(n+1):=VQ _ f;exact⟨by show F1 a<=N;lia,b,c,d,by show fG a+1<=M;lia,e⟩
def C4{n m:Nat}:Th n m .none:=⟨cP _,gC,gC,gC,cP _,gC⟩
def BX{z:â}(b:∀c∈z.cps.toList,c<1000):aHk z=true:=by
 unfold aHk;rw[<- aBj,fK];intro c a;have:=b c a;exact b7 cS
def Zb{n m:Nat}{z:â}(h:z.length<=n)(a:∀c∈z.cps.toList,c<1000):Th n m (.str z):=by
 refine⟨h,?_,gC,gC,cP _,BX a⟩;show(z.cps.toList.all λc=>decide (c<16^8))=wx;rw[fK];intro c b;have:=a c b;exact b7 cS
def UQ{c:Nat}(h:c∈iQ.cps.toList):c<128:=by
 have:∀c∈iQ.cps.toList,c<128:=by decide +kernel
 exact this c h
def zM{y:â}(h:uW y=wx):y.length<=8/\∀c∈y.cps.toList,c<128:=⟨(C9 h).2.1,λc a=>UQ ((C9 h).2.2 c a)⟩
def jX(h:uW y=wx){n m:Nat}(b:8<=n):Th n m (.str y):=Zb (aY (zM h).1 b) λc a=>by have:=(zM h).2 c a;lia
def C3{a:List â}(h:∀y∈a,uW y=wx){n m:Nat}(b:8<=n):∀t∈a.map aK,Th n m t:=λt c=>by
 obtain⟨y,d,rfl⟩:=aR.mp c;exact jX (h y d) b
def AH{n m:Nat}:∀t∈([]:List D),Th n m t:=λt h=>by simp at h
def all_cons{n m:Nat}(h:Th n m a)(b:∀t∈ts,Th n m t):∀t∈a::ts,Th n m t:=λt ht=>by
 rcases aO.mp ht with rfl | ht
 ·exact h
 ·exact b t ht
def Zw{n m:Nat}{a bs:List D}(h:∀t∈a,Th n m t)(b:∀t∈bs,Th n m t):∀t∈a++bs,Th n m t:=λt c=>(bR.mp c).elim (h t) (b t)
def AE{c:Type}(a:List c)(lo b:Option Int):(fY a lo b).length<=a.length:=by
 unfold fY;rw[bU,eI];lia
def Th.cd{n m:Nat}(h:Th n m d)(a:m<=60):Cd d:=⟨h.lay,aY h.depth a⟩
theorem RZ:∀{ts}{t:D},eB ts=wx->t∈ts->t.canLay0=wx
|a::r,t,h,hm=>by
 have b:(a.canLay0&&eB r)=true:=h;rw[cU]at b;rcases aO.mp hm with rfl | hm
 ·exact b.1
 ·exact RZ b.2 hm
theorem HM:∀{ts}{t:D},t∈ts->t.depth<=fG ts
|a::r,t,hm=>by
 rcases aO.mp hm with rfl | hm
 ·exact GI _ _
 ·exact aY (HM hm) (FU _ _)
def Cd.item(h:Cd (.tuple ts))(a:t∈ts):Cd t:=⟨RZ h.lay a,by
 have b:fG ts+1<=60:=h.dep;have:=HM a;lia⟩
section
variable{fs:Fs}{an:List â}
def eS.name(F:eS fs an){f:â×List â}(h:f∈fs):uW f.1=true:=F.nd.2.1 _ (aR.mpr ⟨f,h,gC⟩)
def eS.vals(F:eS fs an){f:â×List â}(h:f∈fs):∀y∈f.2,uW y=true:=(F.vs f h).2.2.2.1
end
def zX{Q:D->Prop}(a:CH x (.tuple ts))(b:Q (.bool (DE x (.tuple ts)))):Dq x (.tuple ts) Q:=by
 cases x<;>exact⟨a,b⟩
def AG(d:D)(a:List â):((a.map aK).any λz=>dA z d)=xL a d:=by
 induction a with
 |nil=>cases d<;>rfl
 |cons y a b=>
  rw[bB,kJ,b]
  cases d with
  |str z=>
   show((y==z)||decide (z∈a))=decide (z∈y::a);rw[dX];simp only[qH,av,c7,aO];exact⟨λh=>h.imp kh id,λh=>h.imp kh id⟩
  |_=>rfl
def O5(f:â×List â)(d:D):DE d (.tuple (f.2.map aK++[.none]))=JM f d:=by
 show((f.2.map aK++[CU]).any λz=>dA z d)=JM f d;rw[aFc,AG];cases d<;>simp[xL,JM,dA]
def JL{a:List â}(h:∀y∈a,uW y=wx)(hd:Cd d):CH d (.tuple (a.map aK)):=by
 obtain⟨_,_,_,_,c,b⟩:=AS (C3 h (aN 8) (m:=0));exact⟨b,hd.lay,by have:=hd.dep;lia⟩
def EB{a:List â}(h:∀y∈a,uW y=wx){d:D}(hd:Cd d):CH d (.tuple (a.map aK++[.none])):=by
 obtain⟨_,_,_,_,c,b⟩:=AS (Zw (C3 h (aN 8) (m:=0)) (all_cons C4 AH));exact⟨b,hd.lay,by have:=hd.dep;lia⟩
theorem J2:∀{a:List â}{z}{m:Nat},m<a.idxOf z->a[m]?≠wz z
|[],z,m,h=>by simp at h
|y::a,z,m,h=>by
 rw[List.idxOf_cons]at h;by_cases e:y=z
 ·subst e;simp at h
 ·have b:(y==z)=false:=by simpa using e
  rw[b]at h;simp only[cond_false]at h
  cases m with
  |zero=>simpa using e
  |succ m=>
   rw[NG];exact J2 cS
noncomputable def iM(fs:Fs)(d:D):Bool:=match d with | .tuple ts=>decide (ts.length=fs.length)&&(fs.zip ts).all (λp=>JM p.1 p.2) | _=>ww
section
variable{fs:Fs}{an:List â}
def tD{a:List D}(h:iM fs (.tuple a)=wx):a.length=fs.length/\∀(k:Nat) f c,fs[k]?=wz f->a[k]?=wz c->JM f c=true:=by
 unfold iM at h;simp only[cU,c7,fK]at h;refine⟨h.1,λk f c b d=>?_⟩;exact h.2 (f,c) (bD ((gM).mpr ⟨b,d⟩))
def PQ(F:eS fs an)(h:iM fs (.tuple cs)=wx){n m:Nat}(e:8<=n):∀c∈cs,Th n m c:=λc b=>by
 obtain⟨d,f⟩:=tD h;obtain⟨k,hk⟩:=dH b;have a:k<fs.length:=by rw[<- d];exact(aL.mp hk).1
 have:=f k fs[k] c (aJ a) hk
 cases c with
 |none=>exact C4
 |str z=>exact jX (F.vals (iU a) z (b9 this)) e
 |_=>cases this
end
noncomputable def fH(r:List D×â):D:=.tuple [.tuple r.1,.str r.2]
def kY(fs:Fs)(an:List â)(r:List D×â):Prop:=iM fs (.tuple r.1)=wx/\r.2∈an
def fS(fs:Fs)(an:List â)(rs:List (List D×â)):Prop:=∀r∈rs,kY fs an r
def Za{fs}(F:eS fs an)(h:kY fs an r):Th 92 2 (fH r):=by
 exact xT 45 1 2 (all_cons (xT 8 0 5 (PQ F h.1 (aN 8)) (by rw[(tD h.1).1];exact F.n5) cR cR) (all_cons (jX (F.an.2.1 _ h.2) cR) AH)) eN cR cR
noncomputable def za(f:â×List â)(k v:D):Bool:=match k,v with
|.str kk,.str z=>decide (z∈f.2)&&(decide (kk="is")||(decide (kk="upto")&&decide (f.2.idxOf z+1<f.2.length)))
|_,_=>ww
noncomputable def As(n:D)(f:â×List â):Bool:=match n with | .str z=>decide (f.1=z) | _=>ww
noncomputable def VY(fs:Fs)(d:D):Bool:=match d with
|.tuple [k,n,v]=>fs.any λf=>As n f&&za f k v
|_=>ww
noncomputable def yt(k:â)(f:â×List â)(z:â):D:=.tuple [.str k,.str f.1,.str z]
noncomputable def LW(f:â×List â):List Str:=if f.2.length=2 then f.2.take 1 else f.2
noncomputable def LX(f:â×List â):List Str:=(f.2.drop 1).take (f.2.length-3)
noncomputable def XR(f:â×List â):List D:=(LW f).map (yt "is" f)++(LX f).map (yt "upto" f)
noncomputable def jN(fs:Fs):List D:=(fs.map XR).flatten
def Ss:NB:=λa Q=>∃fs an,a=[fV fs an]/\eS fs an/\Q (jN fs)
def Z0{a:List â}{j:Nat}(h:a[j]?=wz z):a.idxOf z<=j:=by
 by_cases q:a.idxOf z<=j
 ·exact q
 ·exact b8 h (J2 cS)
def ZH{f:â×List â}(h:z∈LX f):z∈f.2/\f.2.idxOf z+1<f.2.length:=by
 unfold LX at h;refine⟨(pU (eG h)),?_⟩;obtain⟨i,a⟩:=dH h;have b:=(aL.mp a).1;rw[bU,eI]at b;rw[nS,a9 cS,rO]at a;have:=Z0 a;lia
def ZY{fs k}(a:f∈fs)(h:za f (.str k) (.str z)=wx):VY fs (yt k f z)=true:=by
 show(fs.any λg=>As (.str f.1) g&&za g (.str k) (.str z))=wx;rw[pN];refine⟨f,a,?_⟩;show(decide (f.1=f.1)&&za f (.str k) (.str z))=wx;rw[h,b7 rfl];rfl
def FG{fs}(h:d∈jN fs):∃f∈fs,(∃z∈f.2,d=yt "is" f z)\/(∃z,z∈f.2/\f.2.idxOf z+1<f.2.length/\d=yt "upto" f z):=by
 obtain⟨l,c,hd⟩:=List.mem_flatten.mp h;obtain⟨f,b,rfl⟩:=aR.mp c;refine⟨f,b,?_⟩;rcases bR.mp hd with q | q
 ·obtain⟨z,a,rfl⟩:=aR.mp q;refine .inl ⟨z,?_,gC⟩;unfold LW at a;split at a
  ·exact eG a
  ·exact a
 ·obtain⟨z,a,rfl⟩:=aR.mp q;exact .inr ⟨z,(ZH a).1,(ZH a).2,gC⟩
def PP{fs}(h:d∈jN fs):VY fs d=true:=by
 obtain⟨f,b,⟨z,a,rfl⟩ | ⟨z,a,c,rfl⟩⟩:=FG h
 ·refine ZY b ?_;show(decide (z∈f.2)&&(decide (("is":â)="is")||_))=wx;rw[b7 a];rfl
 ·refine ZY b ?_;show(decide (z∈f.2)&&(decide (("upto":â)="is")||(decide (("upto":â)="upto")&&decide (f.2.idxOf z+1<f.2.length))))=wx;rw[b7 a,b7 c,b7 (rfl:("upto":â)="upto")];simp
def Ex:uW "is"=true:=by decide +kernel
def RU:uW "upto"=true:=by decide +kernel
def Yz{fs}(F:eS fs an){k}(hk:uW k=wx){f:â×List â}(a:f∈fs)(b:z∈f.2):Th 27 1 (yt k f z):=
 xT 8 0 3 (all_cons (jX hk (aN _)) (all_cons (jX (F.name a) (aN _)) (all_cons (jX (F.vals a z b) (aN _)) AH))) eN cR cR
theorem qQ{fs}(F:eS fs an):∀a,(∀g∈a,g∈fs)->(jN a).length<=10*a.length
|[],_=>aN _
|g::a,h=>by
 have d:=qQ F a λx b=>h x (aH _ b);obtain⟨_,e,_⟩:=F.vs g (h g (aP ..));show((XR g::a.map XR).flatten).length<=_;rw[aBg,aW]
 have c:(XR g).length<=10:=by
  unfold XR LW LX;rw[aW,aC,aC,bU,eI];split
  ·rw[bU];lia
  ·lia
 have:(jN a).length=((a.map XR).flatten).length:=rfl;rw[bA];lia
def G5{c:List â}(e:∀y∈c,uW y=wx)(f:z∈c):UE (c.map aK) (.str z) (c.idxOf z):=by
 have b:=tO.mpr f;obtain⟨_,_,_,_,i,g⟩:=AS (C3 e (aN 8) (m:=0));refine⟨g,(jX (e z f) (aN 8) (m:=0)).lay,cS,⟨.str z,?_,?_⟩,λm t h a=>?_⟩
 ·rw[aQ,aJ b,AN b];rfl
 ·show(z==z)=wx;simp
 ·rw[aQ]at a
  cases d:c[m]? with
  |none=>rw[d]at a;cases a
  |some y=>
   rw[d]at a;cases a;show(y==z)=ww
   have:y≠z:=λq=>by
    subst q;exact J2 h d
   simpa using this
inductive Tr | say (a:â) | ask (k n v s:â) (y m:Tr)
noncomputable def iN:Tr->D
|.say a=>.tuple [.str "say",.str a]
|.ask k n v s y m=>.tuple [.str "ask",.tuple [.str k,.str n,.str v],.str s,iN y,iN m]
noncomputable def Tr.dep:Tr->Nat
|.say _=>0
|.ask _ _ _ _ y m=>max y.dep m.dep+1
noncomputable def Tr.kn:Tr->Nat
|.say _=>0
|.ask _ _ _ _ y m=>y.kn+m.kn+1
noncomputable def Tr.nodes:Tr->Nat
|.say _=>1
|.ask _ _ _ _ y m=>y.nodes+m.nodes+1
def jZ(fs:Fs)(an:List â):Tr->Prop
|.say a=>a∈an
|.ask k n v s y m=>VY fs (.tuple [.str k,.str n,.str v])=wx/\(s="yes"\/s="no")/\jZ fs an y/\jZ fs an m
def zU{fs}{k n v:â}(h:VY fs (.tuple [.str k,.str n,.str v])=wx):∃f∈fs,f.1=n/\v∈f.2/\(k="is"\/(k="upto"/\f.2.idxOf v+1<f.2.length)):=by
 obtain⟨f,c,b⟩:=pN.mp (h:(fs.any λf=>As (.str n) f&&za f (.str k) (.str v))=wx);rw[cU]at b;have a:(decide (v∈f.2)&&(decide (k="is")||(decide (k="upto")&&decide (f.2.idxOf v+1<f.2.length))))=true:=b.2;simp only[cU,qH,c7]at a;exact⟨f,c,b9 b.1,a.1,a.2⟩
def EK:uW "yes"=true:=by decide +kernel
def L9:uW "no"=true:=by decide +kernel
def Dt:uW "say"=true:=by decide +kernel
def OH:uW "ask"=true:=by decide +kernel
def Ei{fs}(F:eS fs an){k}(h:VY fs (.tuple [.str k,.str n,.str v])=wx):Th 27 1 (.tuple [.str k,.str n,.str v]):=by
 obtain⟨f,a,rfl,b,hk⟩:=zU h;refine Yz F ?_ a b;rcases hk with rfl | ⟨rfl,_⟩
 ·exact Ex
 ·exact RU
theorem WM{fs}(F:eS fs an):∀t,jZ fs an t->Th (68*t.kn+18) (t.dep+1) (iN t)
|.say a,h=>xT 8 0 2 (all_cons (jX Dt (aN _)) (all_cons (jX (F.an.2.1 a h) (aN _)) AH)) eN (by show 2*(8+1)<=68*0+18;decide) (aN _)
|.ask k n v s y m,h=>by
 obtain⟨p,r,u,o⟩:=h;have d:=WM F y u;have c:=WM F m o;have q:=Ei F p
 have w:uW s=true:=by
  rcases r with rfl | rfl
  ·exact EK
  ·exact L9
 have e:=jX w (m:=0) (aN _);have b:=jX OH (m:=0) (aN _);have j:PyData.bulk (iN (.ask k n v s y m))=(aK "ask").bulk+1+((dB [.str k,.str n,.str v]).bulk+1+((aK s).bulk+1+((iN y).bulk+1+((iN m).bulk+1+0)))):=rfl;have l:PyData.depth (iN (.ask k n v s y m))=max (aK "ask").depth (max (dB [.str k,.str n,.str v]).depth (max (aK s).depth (max (iN y).depth (max (iN m).depth 0))))+1:=rfl;refine⟨?_,?_,?_,?_,?_,?_⟩
 ·rw[j];have f:=d.bulk;have a2:=c.bulk;have g:=q.bulk;have a4:=e.bulk;have i:=b.bulk;show _<=68*(y.kn+m.kn+1)+18;lia
 ·show((aK "ask").leavesShort 110&&((dB [.str k,.str n,.str v]).leavesShort 110&&((aK s).leavesShort 110&&((iN y).leavesShort 110&&((iN m).leavesShort 110&&wx)))))=wx;rw[b.fit,q.fit,e.fit,d.fit,c.fit];rfl
 ·show((aK "ask").showable&&((dB [.str k,.str n,.str v]).showable&&((aK s).showable&&((iN y).showable&&((iN m).showable&&wx)))))=wx;rw[b.shw,q.shw,e.shw,d.shw,c.shw];rfl
 ·show((aK "ask").hasDict||((dB [.str k,.str n,.str v]).hasDict||((aK s).hasDict||((iN y).hasDict||((iN m).hasDict||false)))))=ww;rw[b.nodict,q.nodict,e.nodict,d.nodict,c.nodict];rfl
 ·rw[l];have f:=d.depth;have a2:=c.depth;have g:=q.depth;have a4:=e.depth;have i:=b.depth;show _<=max y.dep m.dep+1+1;lia
 ·show((aK "ask").canLay0&&((dB [.str k,.str n,.str v]).canLay0&&((aK s).canLay0&&((iN y).canLay0&&((iN m).canLay0&&wx)))))=wx;rw[b.lay,q.lay,e.lay,d.lay,c.lay];rfl
theorem Tr.nodes_kn:∀t:Tr,t.nodes=2*t.kn+1
|.say _=>rfl
|.ask _ _ _ _ y m=>by
 show y.nodes+m.nodes+1=2*(y.kn+m.kn+1)+1;have:=nodes_kn y;have:=nodes_kn m;lia
theorem Tr.kn_dep:∀t:Tr,t.kn<2^t.dep
|.say _=>by show 0<2^0;decide
|.ask _ _ _ _ y m=>by
 have:=kn_dep y;have:=kn_dep m;show y.kn+m.kn+1<2^(max y.dep m.dep+1);have a:2^y.dep<=2^(max y.dep m.dep):=fN cR (GI ..);have b:2^m.dep<=2^(max y.dep m.dep):=fN cR (FU ..);rw[aS6];lia
def Tr.nodes_pos(t:Tr):1<=t.nodes:=by rw[t.nodes_kn];lia
def A1{c:vX}(P:Nat->List Sl->Prop)(e:Nat)(f:P e σ)
  (h:∀n a,P n a->∃b,(∀q,q b->c a q)/\(if b=wx then tb { DT with nx:=λd=>∃m,m<n/\P m d,ct:=λd=>∃m,m<n/\P m d,bk:=u DT } a else u DT a)):nY (XC c tb) u DT σ:=
 ⟨P,⟨e,f⟩,λn a g=>let ⟨_,h1,h2⟩:=h n a g;h1 _ h2⟩
def DB{e:Type}(b:List e):b=[]\/∃c w,b=c++[w]:=by
 induction b with
 |nil=>exact .inl gC
 |cons a b d=>
  rcases d with rfl | ⟨c,w,rfl⟩
  ·exact .inr ⟨[],a,gC⟩
  ·exact .inr ⟨a::c,w,gC⟩
def Zg(a:List â)(h:2<=a.length):fY a (wz 1) (wz (-2))=(a.drop 1).take (a.length-3):=by
 unfold fY
 have b:HT.sIx a.length 0 (wz 1)=1:=by
  show(if(1:Int)<0 then((1:Int)+(a.length:Int)).toNat else min (1:Int).toNat a.length)=_;rw[a8 cR];lia
 have c:HT.sIx a.length a.length (wz (-2))=a.length-2:=by
  show(if(-2:Int)<0 then((-2:Int)+(a.length:Int)).toNat else min (-2:Int).toNat a.length)=_;rw[a9 cR];lia
 rw[b,c];congr 1
def Zh(a:List â)(h:2<=a.length):fY a wy (wz 1)=a.take 1:=nG a 1
def Su:NB:=λa Q=>∃f,a=[lG f]/\2<=f.2.length/\f.2.length<=5/\Q (XR f)
abbrev Rw:=List D×â
noncomputable def B7(rs:List Rw)(a:â):Nat:=rs.countP λr=>decide (r.2=a)
noncomputable def rX(an:List â)(rs:List Rw):List Int:=an.map λa=>(B7 rs a:Int)
noncomputable def kA(ss rs:List Rw):Nat:=(ss.map λr=>rs.countP λo=>decide (o.2≠r.2)).sum
noncomputable def ZL(a b:Nat):D:=.tuple [.int ((a / a.gcd b:Nat):Int),.int ((b / a.gcd b:Nat):Int)]
def HW(an:List â)(rs:List Rw)(a:â):Prop:=∃k,an[k]?=wz a/\(∀(j:Nat) b,an[j]?=wz b->B7 rs b<=B7 rs a)/\∀(j:Nat) b,j<k->an[j]?=wz b->B7 rs b<B7 rs a
def Gy:kX:=λc Q=>∃a b:Nat,c=[.int a,.int b]/\0<b/\a<2^190/\b<2^190/\Q (ZL a b)
def Sj:NB:=λa Q=>∃fs an rs,a=[fV fs an,.list (rs.map fH)]/\eS fs an/\fS fs an rs/\rs.length<=60/\Q ((rX an rs).map cI)
def Sk:kX:=λb Q=>∃fs an rs,b=[fV fs an,.list (rs.map fH)]/\eS fs an/\fS fs an rs/\rs.length<=60/\∀a,HW an rs a->Q (.str a)
def Sm:kX:=λa Q=>∃fs an rs,a=[fV fs an,.list (rs.map fH)]/\eS fs an/\fS fs an rs/\rs.length<=60/\Q (ZL (kA rs rs) (max 1 rs.length))
theorem N6:∀ss rs,kA ss rs<=ss.length*rs.length
|[],rs=>by show 0<=_;lia
|s::ss,rs=>by
 have:=N6 ss rs;have a:rs.countP (λo=>decide (o.2≠s.2))<=rs.length:=QE;show rs.countP (λo=>decide (o.2≠s.2))+kA ss rs<=(ss.length+1)*rs.length;rw[aTn,aTl];lia
def Wh(rs:List Rw)(a:â):B7 rs a<=rs.length:=QE
theorem MP{a:Type}[DecidableEq a]:∀(l:List a)(x:a),x∈l->∃k,l[k]?=wz x/\∀j:Nat,j<k->l[j]?≠wz x
|y::l,x,h=>by
 by_cases e:y=x
 ·exact⟨0,by rw[e];rfl,λj d=>by lia⟩
 ·obtain⟨k,b,c⟩:=MP l x ((aO.mp h).resolve_left λz=>e z.symm);refine⟨k+1,b,λj d=>?_⟩
  cases j with
  |zero=>exactλz=>e (c8 z)
  |succ j=>exact c j cS
noncomputable def aT9(a:â)(x:D):Bool:=match x with | .tuple [_,.str b]=>!decide (b=a) | _=>ww
noncomputable def IS(f:â×List â)(k v st:â)(c:D):Str:=match c with
|.none=>st
|.str z=>if k="is" then(if z=v then "yes" else "no")else if f.2.idxOf z<=f.2.idxOf v then "yes" else "no"
|_=>""
noncomputable def gD(fs:Fs)(k n v st:â)(a:List D):Str:=match fs[(fs.map (·.1)).idxOf n]?,a[(fs.map (·.1)).idxOf n]? with
|some f,wz c=>IS f k v st c
|_,_=>""
def Sw:kX:=λb Q=>∃fs an k n v st a,b=[fV fs an,.tuple [.str k,.str n,.str v],.str st,.tuple a]/\eS fs an/\VY fs (.tuple [.str k,.str n,.str v])=wx/\(st="yes"\/st="no")/\iM fs (.tuple a)=wx/\Q (.str (gD fs k n v st a))
noncomputable def vL(fs:Fs)(k n v st:â)(rs:List (List D×â))(w:â)(x:D):Bool:=match x with
|.int i=>match L2.atI rs i with | some r=>decide (gD fs k n v st r.1=w) | none=>ww
|_=>ww
noncomputable def jU(fs:Fs)(k n v st:â)(rs:List (List D×â))(w:â):List D:=(fL rs.length).filter (vL fs k n v st rs w)
def Ta:zg:=λa Q=>∃fs an k n v st rs,a=[fV fs an,.tuple [.str k,.str n,.str v],.str st,.list (rs.map fH)]/\eS fs an/\VY fs (.tuple [.str k,.str n,.str v])=wx/\(st="yes"\/st="no")/\fS fs an rs/\rs.length<=60/\Q (jU fs k n v st rs "yes") (jU fs k n v st rs "no")
def JO{fs:Fs}(F:eS fs an){j:Nat}{f:â×List â}(h:fs[j]?=wz f):(fs.map (·.1)).idxOf f.1=j:=by
 have a:(fs.map (·.1)).idxOf f.1<(fs.map (·.1)).length:=tO.mpr (aR.mpr ⟨f,bD h,gC⟩);have b:(fs.map (·.1))[(fs.map (·.1)).idxOf f.1]?=wz f.1:=by rw[aJ a,AN a]
 have c:(fs.map (·.1))[j]?=wz f.1:=by rw[aQ,h];rfl
 exact(List.getElem?_inj a F.nd.2.2).mp (b.trans c.symm)
def LO{fs}(F:eS fs an){k st}{j:Nat}{f:â×List â}(a:fs[j]?=wz f)(b:cs[j]?=wz c)(d:f.1=n):gD fs k n v st cs=IS f k v st c:=by
 subst d;unfold gD;rw[JO F a,a,b]
noncomputable def CD(fs:Fs)(k n v st:â)(x:D):D:=match x with | .tuple [.tuple cs,_]=>.str (gD fs k n v st cs) | _=>.none
def L6{d:ET}{c:FR}{b:List Sl}{i:Nat}{a us:List D}(e:b[i]?=wz (.own a))(f:a.length+us.length<=100000)(h:∀q,q (.list us)->d b q)(k:c.nx (b.set i (.own (a++us)))):Gv i d c b:=⟨a,e,h _ ⟨us,gC,f,k⟩⟩
def UC{fs k st rs}{j:Nat}{r:List D×â}(h:rs[j]?=wz r):vL fs k n v st rs w (.int (j:Int))=decide (gD fs k n v st r.1=w):=by
 show(match L2.atI rs (j:Int)with | some r=>decide (gD fs k n v st r.1=w) | none=>ww)=_;rw[L2.eR h]
noncomputable def E2(k v:â)(f:â×List â):List Str:=if k="is" then[v]else f.2.take (f.2.idxOf v+1)
def Sz:kX:=λa Q=>∃k n v f,a=[.tuple [.str k,.str n,.str v],lG f]/\(∀y∈f.2,uW y=wx)/\v∈f.2/\f.2.length<=5/\Q (.tuple ((E2 k v f).map aK))
def UY{f:â×List â}{k v st z:â}(d:z∈f.2):(if xL (E2 k v f) (.str z)=wx then("yes":â)else "no")=IS f k v st (.str z):=by
 show(if decide (z∈E2 k v f)=wx then("yes":â)else "no")=if k="is" then(if z=v then("yes":â)else "no")else if f.2.idxOf z<=f.2.idxOf v then("yes":â)else "no";unfold E2;by_cases hk:k="is"
 ·rw[a9 hk,a9 hk];by_cases e:z=v
  ·rw[a9 e,a9 (b7 (bC.mpr e))]
  ·rw[a8 e,a8 (λq=>e (bC.mp (b9 q)))]
 ·rw[a8 hk,a8 hk];have b:=tO.mpr d;by_cases e:f.2.idxOf z<=f.2.idxOf v
  ·rw[a9 e,a9];refine b7 (bD (i:=f.2.idxOf z) ?_);rw[nS,a9 cS,aJ b,AN b]
  ·rw[a8 e,a8];intro q;obtain⟨i,a⟩:=dH (b9 q);have c:=(aL.mp a).1;rw[bU]at c;rw[nS,a9 cS]at a;have:=Z0 a;lia
def MN{f:â×List â}{k}(a:v∈f.2)(h:y∈E2 k v f):y∈f.2:=by
 unfold E2 at h;split at h
 ·rw[bC.mp h];exact a
 ·exact eG h
noncomputable def sJ(k v st:â)(f:â×List â):List D:=(E2 k v f).map aK++(if st="yes" then[CU]else[])
def Sy:kX:=λa Q=>∃k n v st f,a=[.tuple [.str k,.str n,.str v],.str st,lG f]/\(∀y∈f.2,uW y=wx)/\v∈f.2/\f.2.length<=5/\Q (.tuple (sJ k v st f))
def Sx:kX:=λa Q=>∃(fs:Fs)(an:List â)(k n v:â)(f:â×List â)(j:Nat),a=[fV fs an,.tuple [.str k,.str n,.str v]]/\eS fs an/\fs[j]?=wz f/\f.1=n/\Q (.int (j:Int))
def Z2{k}{f:â×List â}(h:f.2.length<=5):(E2 k v f).length<=5:=by
 unfold E2;split
 ·show 1<=5;decide
 ·rw[bU];lia
def ZZ{k v st:â}(a:st="yes"\/st="no")(b:JM f c=wx):(if DE c (.tuple (sJ k v st f))=wx then("yes":â)else "no")=IS f k v st c:=by
 have e:DE c (.tuple (sJ k v st f))=(xL (E2 k v f) c||((if st="yes" then[CU]else[]).any λz=>dA z c)):=by
  show((sJ k v st f).any λz=>dA z c)=_;unfold sJ;rw[aFc,AG]
 cases c with
 |none=>
  rw[e];rcases a with rfl | rfl<;>rfl
 |str z=>
  have d:((if st="yes" then[CU]else[]).any λx=>dA x (.str z))=false:=by
   rcases a with rfl | rfl<;>rfl
  rw[e,d,aK1];exact UY (b9 b)
 |_=>cases b
def L7{k st}{f:â×List â}(b:∀y∈f.2,uW y=wx)(c:v∈f.2)(hd:Cd d):CH d (.tuple (sJ k v st f)):=by
 unfold sJ;split
 ·exact EB (λy a=>b y (MN c a)) hd
 ·rw[eK];exact JL (λy a=>b y (MN c a)) hd
noncomputable def zl(w:â)(x:D):Bool:=match x with | .tuple [_,.str s]=>decide (s=w) | _=>ww
noncomputable def zw(ss:List â)(w:â)(x:D):Bool:=match x with | .int i=>(match L2.atI ss i with | some s=>decide (s=w) | none=>ww) | _=>ww
noncomputable def Ax(ss:List â)(x:D):D:=match x with | .int i=>(match L2.atI ss i with | some s=>.str s | none=>.none) | _=>.none
noncomputable def Bi(x:D):D:=match x with | .tuple [a,_]=>a | _=>x
def HK(ss:List â):E8 (ss.map aK)=(fL ss.length).map λx=>.tuple [x,Ax ss x]:=by
 apply kE;intro i
 cases h:ss[i]? with
 |none=>
  have a:=sE.mp h;rw[eP (by rw[sZ,aC];exact a),eP (by rw[aC,oU];exact a)]
 |some s=>
  rw[BK (by rw[aQ,h];rfl),aQ];unfold fL;rw[aQ,kQ ((aL.mp h).1)];show _=wz (dB [.int (i:Int),match L2.atI ss (i:Int)with | some s=>.str s | none=>.none]);rw[L2.eR h]
def MT(ss:List â)(w:â):((E8 (ss.map aK)).filter (zl w)).map Bi=(fL ss.length).filter (zw ss w):=by
 rw[HK,qG,bE];have a:(Bi∘λx=>dB [x,Ax ss x])=id:=by funext x;rfl
 have b:(zl w∘λx=>dB [x,Ax ss x])=zw ss w:=by
  funext x
  cases x with
  |int i=>
   show zl w (.tuple [.int i,(match L2.atI ss i with | some s=>aK s | none=>.none)])=(match L2.atI ss i with | some s=>decide (s=w) | none=>ww);cases L2.atI ss i<;>rfl
  |_=>rfl
 rw[a,b,tL]
def Tc:NB:=λa Q=>∃w ss,a=[.str w,.list (ss.map aK)]/\ss.length<=60/\Q ((fL ss.length).filter (zw ss w))
def QW{fs k st}{rs:List (List D×â)}(w:â):(fL (rs.map λr=>gD fs k n v st r.1).length).filter (zw (rs.map λr=>gD fs k n v st r.1) w)=jU fs k n v st rs w:=by
 rw[aC];apply oI;intro x d;obtain⟨j,c⟩:=dH d;obtain⟨a,rfl⟩:=EY c;have b:=aJ a;rw[UC b];show(match L2.atI (rs.map λr=>gD fs k n v st r.1) (j:Int)with | some s=>decide (s=w) | none=>ww)=_;rw[L2.eR (by rw[aQ,b];rfl)]
noncomputable def Dn(rs:List Rw)(x:D):D:=match x with | .str a=>.int ((B7 rs a:Nat):Int) | _=>.none
def NW(rs:List Rw)(a:â):((rs.map λr=>aK r.2).countP λt=>dA t (.str a))=B7 rs a:=by
 rw[F5];congr 1
def ZO:∀{a:List â},(∀y∈a,uW y=wx)->eB (a.map aK)=wx/\fG (a.map aK)<=0:=λh=>by
 obtain⟨_,_,_,_,b,c⟩:=AS (C3 h (aN 8));exact⟨c,b⟩
theorem MH:∀ns:List Int,eB (ns.map cI)=wx/\fG (ns.map cI)=0
|[]=>⟨gC,gC⟩
|n::ns=>by
 have:=MH ns;refine⟨?_,?_⟩
 ·show(wx&&eB (ns.map cI))=wx;rw[this.1];rfl
 ·show max 0 (fG (ns.map cI))=0;rw[this.2];rfl
def UD{ns:List Int}{m:Int}{j:Nat}(h:ns[j]?=wz m)(b:∀i,i<j->ns[i]?≠wz m):UE (ns.map cI) (.int m) j:=by
 obtain⟨c,d⟩:=MH ns;refine⟨c,gC,by rw[d];lia,⟨.int m,by rw[aQ,h];rfl,?_⟩,λi t f a=>?_⟩
 ·show(m==m)=wx;simp
 ·rw[aQ]at a
  cases e:ns[i]? with
  |none=>rw[e]at a;cases a
  |some n=>
   rw[e]at a;cases a;show(n==m)=ww;have:n≠m:=λz=>b i f (by rw[e,z]);simpa using this
def Sn:kX:=λc Q=>∃a b:Nat,c=[.int a,.int b]/\Q (.int ((a.gcd b:Nat):Int))
def aCc{an:List â}(j:an.Nodup)(g:â->Int)(h:b∈an):(an.map λa=>if b=a then g a else 0).sum=g b:=by
 induction an with
 |nil=>simp at h
 |cons a an k=>
  rw[bB,dY];obtain⟨f,d⟩:=nQ.mp j;by_cases e:b=a
  ·subst e
   have z:(an.map λa=>if b=a then g a else 0).sum=0:=by
    have:∀l:List â,b∉l->(l.map λa=>if b=a then g a else 0).sum=0:=λl=>by
     induction l with
     |nil=>intro _;rfl
     |cons c l i=>
      intro hb;rw[bB,dY,i λq=>hb (aH _ q),a8 λ(q:b=c)=>hb (by rw[q];exact aP ..)];rfl
    exact this an f
   rw[z,a9 rfl];lia
  ·rw[a8 e,k d ((aO.mp h).resolve_left e)];lia
def aCd(an:List â)(f g:â->Int):(an.map λa=>f a+g a).sum=(an.map f).sum+(an.map g).sum:=by
 induction an with
 |nil=>rfl
 |cons a an b=>rw[bB,bB,bB,dY,dY,dY,b];lia
theorem LH{an:List â}(d:an.Nodup)(g:â->Int):∀ss,(∀r∈ss,r.2∈an)->(an.map λa=>(B7 ss a:Int)*g a).sum=(ss.map λr=>g r.2).sum
|[],_=>by
 have:∀l:List â,(l.map λa=>((B7 [] a:Nat):Int)*g a).sum=0:=λl=>by
  induction l with
  |nil=>rfl
  |cons c l b=>
   rw[bB,dY,b];show((0:Nat):Int)*g c+0=0;simp
 exact this an
|r::ss,h=>by
 have e:(λa=>((B7 (r::ss) a:Nat):Int)*g a)=λa=>(if r.2=a then g a else 0)+(B7 ss a:Int)*g a:=by
  funext a;unfold B7;rw[DK];by_cases q:r.2=a
  ·rw[a9 q,a9 (b7 q),lY,Int.add_mul];show _+1*g a=_;rw[aTo,Int.add_comm]
  ·rw[a8 q,a8 (by simpa using q),Nat.add_zero,Int.zero_add]
 rw[e,aCd,aCc d g (h r (aP ..)),(LH d g ss λx f=>h x (aH _ f)),bB,dY]
def T7(rs:List Rw)(a:â):((rs.countP λo=>decide (o.2≠a):Nat):Int)=(rs.length:Int)-(B7 rs a:Int):=by
 unfold B7
 have:rs.length=(rs.countP λo=>decide (o.2=a))+(rs.countP λo=>decide (o.2≠a)):=by
  rw[List.length_eq_countP_add_countP (λo:Rw=>decide (o.2=a))];congr 2;funext o;by_cases q:o.2=a<;>simp[q]
 lia
theorem ZE:∀l:List Nat,((l.sum:Nat):Int)=(l.map λ(n:Nat)=>(n:Int)).sum
|[]=>rfl
|n::l=>by rw[dY,bB,dY,lY,ZE l]
def aC9{an:List â}(b:an.Nodup){rs:List Rw}(h:∀r∈rs,r.2∈an):((rX an rs).map λc=>c*((rs.length:Int)-c)).sum=((kA rs rs:Nat):Int):=by
 unfold rX kA;rw[bE,ZE,bE];refine(LH b (λa=>(rs.length:Int)-(B7 rs a:Int)) rs h).trans ?_;congr 1;apply fX;intro r _;exact(T7 rs r.2).symm
noncomputable def Hn(n:Int)(x:D):D:=match x with | .int c=>.int (c*(n-c)) | _=>.none
noncomputable def TM(x:D):D:=match x with | .tuple [_,b]=>b | _=>x
noncomputable def R3:Tr->Bool
|.say _=>wx
|.ask _ _ _ _ _ _=>ww
def Tj:kX:=λa Q=>∃t,a=[iN t]/\Q (.bool (R3 t))
noncomputable def kK:Tr->List â
|.say a=>["say",a]
|.ask k n v s y m=>(["ask",n,k,v,s]:List â)++(kK y++kK m)
noncomputable def cO:Str:=" "
noncomputable def lM(t:Tr):Str:=Txt.join cO (kK t)
theorem xS:∀t,(kK t).length=7*t.kn+2
|.say _=>rfl
|.ask k n v s y m=>by
 show((["ask",n,k,v,s]:List â)++(kK y++kK m)).length=7*(y.kn+m.kn+1)+2;rw[aW,aW,xS y,xS m];show 5+_=_;lia
theorem oK{fs}(F:eS fs an):∀t,jZ fs an t->∀w∈kK t,uW w=wx
|.say a,h,w,hw=>by
 rcases aO.mp hw with rfl | hw
 ·exact Dt
 ·rw[bC.mp hw];exact F.an.2.1 a h
|.ask k n v s y m,h,w,hw=>by
 obtain⟨e,g,j,d⟩:=h;obtain⟨f,c,b,i,hk⟩:=zU e;rcases bR.mp hw with hw | hw
 ·simp only[aO,cG,f6]at hw;rcases hw with rfl | rfl | rfl | rfl | rfl
  ·exact OH
  ·rw[<- b];exact F.name c
  ·rcases hk with rfl | ⟨rfl,_⟩
   ·exact Ex
   ·exact RU
  ·exact F.vals c _ i
  ·rcases g with rfl | rfl
   ·exact EK
   ·exact L9
 ·rcases bR.mp hw with hw | hw
  ·exact oK F y j w hw
  ·exact oK F m d w hw
def BV:∀t,∃w a,kK t=w::a
|.say _=>⟨_,_,gC⟩
|.ask _ _ _ _ _ _=>⟨_,_,gC⟩
theorem JY(c:Nat):∀x b y a,jn c ((x::b)++(y::a))=jn c (x::b)++c::jn c (y::a)
|x,[],y,a=>rfl
|x,z::b,y,a=>by
 show x++c::jn c ((z::b)++(y::a))=(x++c::jn c (z::b))++c::jn c (y::a);rw[JY c z b y a,oJ];rfl
def mE(a:List â):(Txt.join cO a).cps.toList=jn 32 (a.map (·.cps.toList)):=by
 show(m4 cO a).cps.toList=_;rw[j5];exact zR 32 a
def TQ(k n v s:â)(y m:Tr):Txt.join cO ["ask",n,k,v,s,lM y,lM m]=lM (.ask k n v s y m):=by
 apply sX;unfold lM;rw[mE,mE];obtain⟨h,a,f⟩:=BV y;obtain⟨g,b,e⟩:=BV m
 have c:(["ask",n,k,v,s,Txt.join cO (kK y),Txt.join cO (kK m)]:List â).map (·.cps.toList)=((["ask",n,k,v,s]:List â).map (·.cps.toList))++[jn 32 ((kK y).map (·.cps.toList)),jn 32 ((kK m).map (·.cps.toList))]:=by
  rw[<- mE,<- mE];rfl
 have d:(kK (.ask k n v s y m)).map (·.cps.toList)=((["ask",n,k,v,s]:List â).map (·.cps.toList))++((kK y).map (·.cps.toList)++(kK m).map (·.cps.toList)):=by
  show((["ask",n,k,v,s]:List â)++(kK y++kK m)).map (·.cps.toList)=_;rw[bV,bV]
 rw[c,d,f,e,bB,bB (l:=a),bB (l:=b)];rw[JY 32 _ _ _ [jn 32 _],DL (as:=a.map _),JY 32 _ _ _ (a.map _++_),<- DL,JY 32]
 rfl
def OG{a:List â}(h:∀w∈a,uW w=wx):(a.map (·.length)).sum<=8*a.length:=by
 induction a with
 |nil=>exact aN _
 |cons w a c=>
  have d:=(zM (h w (aP ..))).1;have e:=c λx b=>h x (aH _ b);rw[bB,dY,bA];lia
def MK(a:List â):(Txt.join cO a).length<=(a.map (·.length)).sum+a.length:=by
 show(m4 cO a).length<=_;rw[j5];have:=cq cO a;have e:cO.length=1:=by decide +kernel
 rw[e,yN]at this;exact this
def AX{fs}(F:eS fs an){t:Tr}(h:jZ fs an t):(lM t).length<=9*(7*t.kn+2):=by
 have a:=MK (kK t);have b:=OG (oK F t h);rw[xS]at a b;unfold lM;lia
def vA(n:Nat):kX:=λa Q=>∃fs an t,a=[iN t]/\eS fs an/\jZ fs an t/\t.kn<=500/\t.dep<n/\Q (.str (lM t))
def Ui:kX:=vA 31
def Y7{Q:D->Prop}(h:vA 0 ds Q):False:=by
 obtain⟨_,_,_,_,_,_,_,h,_⟩:=h;lia
noncomputable def uQ(fs:Fs):Tr->List D->List D
|.say _,_=>[]
|.ask k n v s y m,cs=>.tuple [.tuple [.str k,.str n,.str v],.str (gD fs k n v s cs)]::(if gD fs k n v s cs="yes" then uQ fs y cs else uQ fs m cs)
noncomputable def tT(fs:Fs):Tr->List D->List â
|.say _,_=>[]
|.ask k n v s y m,cs=>gD fs k n v s cs::(if gD fs k n v s cs="yes" then tT fs y cs else tT fs m cs)
noncomputable def qR(fs:Fs):Tr->List D->â
|.say a,_=>a
|.ask k n v s y m,cs=>if gD fs k n v s cs="yes" then qR fs y cs else qR fs m cs
noncomputable def uJ:Tr->List â->Option Tr
|t,[]=>wz t
|.say _,_::_=>wy
|.ask _ _ _ _ y m,s::r=>if s="yes" then uJ y r else if s="no" then uJ m r else wy
def OF:¬("no":â)="yes":=by decide +kernel
section
variable{fs:Fs}{an:List â}
def IR(F:eS fs an){k n v st:â}(q:VY fs (.tuple [.str k,.str n,.str v])=wx)(i:st="yes"\/st="no")(l:iM fs (.tuple cs)=wx):gD fs k n v st cs="yes"\/gD fs k n v st cs="no":=by
 obtain⟨f,o,g,r,hk⟩:=zU q;obtain⟨j,h⟩:=dH o;obtain⟨m,e⟩:=tD l;have p:=(aL.mp h).1;have a:cs[j]?=wz cs[j]:=aJ cS
 generalize cs[j]=c at a
 rw[LO F h a g];have hok:=e j f c h a
 cases c with
 |none=>exact i
 |str z=>
  show(if k="is" then(if z=v then("yes":â)else "no")else if f.2.idxOf z<=f.2.idxOf v then("yes":â)else "no")="yes"\/_;by_cases d:k="is"
  ·by_cases b:z=v
   ·exact .inl (by rw[a9 d,a9 b])
   ·exact .inr (by show(if k="is" then(if z=v then("yes":â)else "no")else if f.2.idxOf z<=f.2.idxOf v then("yes":â)else "no")="no";rw[a9 d,a8 b])
  ·by_cases b:f.2.idxOf z<=f.2.idxOf v
   ·exact .inl (by rw[a8 d,a9 b])
   ·exact .inr (by show(if k="is" then(if z=v then("yes":â)else "no")else if f.2.idxOf z<=f.2.idxOf v then("yes":â)else "no")="no";rw[a8 d,a8 b])
 |_=>cases hok
theorem AQ:∀t a,(uQ fs t a).map TM=(tT fs t a).map aK
|.say _,_=>rfl
|.ask k n v s y m,a=>by
 show(aK (gD fs k n v s a))::(if gD fs k n v s a="yes" then uQ fs y a else uQ fs m a).map TM=.str (gD fs k n v s a)::(if gD fs k n v s a="yes" then tT fs y a else tT fs m a).map aK;congr 1;split
 ·exact AQ y a
 ·exact AQ m a
theorem AR:∀t c,∀x∈uQ fs t c,∃a b,x=.tuple [a,b]
|.say _,_,x,h=>by cases h
|.ask k n v s y m,c,x,h=>by
 rcases aO.mp h with rfl | h
 ·exact⟨_,_,gC⟩
 ·split at h
  ·exact AR y c x h
  ·exact AR m c x h
theorem CZ:∀(t:Tr)(a:List D),(uQ fs t a).length<=t.dep
|.say _,_=>aN _
|.ask k n v s y m,a=>by
 show(if gD fs k n v s a="yes" then uQ fs y a else uQ fs m a).length+1<=max y.dep m.dep+1;have b:=CZ y a;have c:=CZ m a;split<;>lia
theorem yD(F:eS fs an)(b:iM fs (.tuple cs)=wx):∀t,jZ fs an t->uJ t (tT fs t cs)=wz (.say (qR fs t cs))
|.say a,_=>rfl
|.ask k n v s y m,ht=>by
 obtain⟨d,f,g,c⟩:=ht;show(if gD fs k n v s cs="yes" then uJ y _ else if gD fs k n v s cs="no" then uJ m _ else wy)=wz (.say (if gD fs k n v s cs="yes" then qR fs y cs else qR fs m cs));rcases IR F d f b with e | e
 ·rw[a9 e,a9 e,a9 e];exact yD F b y g
 ·have ne:=λz=>OF (e.symm.trans z);rw[a8 ne,a9 e,a8 ne,a8 ne];exact yD F b m c
theorem JH:∀{t p pl},uJ t pl=wz p->∀s∈pl,s="yes"\/s="no"
|t,p,[],h,x,hx=>by cases hx
|.say a,p,s::r,h,x,hx=>by cases h
|.ask k n v st y m,p,s::r,h,x,hx=>by
 have b:(if s="yes" then uJ y r else if s="no" then uJ m r else wy)=wz p:=h;by_cases c:s="yes"
 ·rw[a9 c]at b;rcases aO.mp hx with rfl | hx
  ·exact .inl c
  ·exact JH b x hx
 ·rw[a8 c]at b;by_cases d:s="no"
  ·rw[a9 d]at b;rcases aO.mp hx with rfl | hx
   ·exact .inr d
   ·exact JH b x hx
  ·rw[a8 d]at b;cases b
end
noncomputable def there(fs:Fs)(t:Tr)(rs:List (List D×â))(a:List â)(x:D):Bool:=match x with
|.int i=>(match L2.atI rs i with | some r=>decide ((tT fs t r.1).take a.length=a) | none=>ww)
|_=>ww
def Tk:kX:=λb Q=>∃k n v s y m a,b=[iN (.ask k n v s y m),.str a]/\Q (iN (if a="yes" then y else m))
def Tn:NB:=λb Q=>∃fs an t a,b=[fV fs an,iN t,.tuple a]/\eS fs an/\jZ fs an t/\iM fs (.tuple a)=wx/\t.dep<=40/\Q (uQ fs t a)
def Vb:kX:=λb Q=>∃fs an t a,b=[fV fs an,iN t,.tuple a]/\eS fs an/\jZ fs an t/\iM fs (.tuple a)=wx/\t.dep<=40/\Q (.tuple ((tT fs t a).map aK))
def Vc:kX:=λb Q=>∃fs an t a,b=[fV fs an,iN t,.tuple a]/\eS fs an/\jZ fs an t/\iM fs (.tuple a)=wx/\t.dep<=40/\Q (.str (qR fs t a))
def Vd:kX:=λb Q=>∃t p a,b=[iN t,.tuple (a.map aK)]/\uJ t a=wz p/\t.dep<=40/\Q (iN p)
noncomputable def wX(f:â×List â):List D:=f.2.map aK++[.none]
def Si:kX:=λa Q=>∃f,a=[lG f]/\f.2.length<=5/\Q (.tuple (f.2.map aK++[.none]))
noncomputable def kM(fs:Fs)(k n v st:â)(r:List D×â):Bool:=decide (gD fs k n v st r.1="yes")
def fS.filt{fs}{rs:List (List D×â)}(h:fS fs an rs)(p:List D×â->Bool):fS fs an (rs.filter p):=λr a=>h r (dM.mp a).1
def FA(fs:Fs)(an:List â)(fa:List (List D×â)->â):Prop:=∀rs,fS fs an rs->HW an rs (fa rs)
def HW.uniq{rs}(h:HW an rs a)(g:HW an rs b):a=b:=by
 obtain⟨i,d,k,l⟩:=h;obtain⟨j,c,e,f⟩:=g;have m:=k j b c;have n:=e i a d;rcases Nat.lt_trichotomy i j with z | z | z
 ·have:=f i a z d;lia
 ·subst z;rw[d]at c;exact c8 c
 ·have:=l j b z c;lia
noncomputable def D6(rs:List (List D×â))(x:D):D:=match x with | .int i=>(match L2.atI rs i with | some r=>fH r | none=>.none) | _=>.none
def SR{rs:List (List D×â)}{i:Nat}(h:i<rs.length):L2.atI (rs++[r]) (i:Int)=L2.atI rs (i:Int):=by
 rw[L2.eR (aJ h),L2.eR (by rw[eV h];exact aJ h)]
theorem zy(fs:Fs)(k n v st w:â):∀m rs,rs.length=m->(jU fs k n v st rs w).map (D6 rs)=(rs.filter λr=>decide (gD fs k n v st r.1=w)).map fH
|0,rs,h=>by rw[oC.mp h];rfl
|m+1,rs,h=>by
 obtain⟨a,r,rfl⟩:∃a r,rs=a++[r]:=⟨rs.dropLast,rs.getLast (λe=>by rw[e]at h;cases h),(List.dropLast_concat_getLast _).symm⟩;have q:a.length=m:=by rw[aW]at h;simpa using h
 have i:=zy fs k n v st w m a q;unfold jU at i |-
 have l:fL (a++[r]).length=fL a.length++[.int (a.length:Int)]:=by
  unfold fL;rw[aW,pJ,F2,bV];rfl
 have b:L2.atI (a++[r]) (a.length:Int)=wz r:=L2.eR (by rw[eM (aN _),aS5];rfl)
 have o:(fL a.length).filter (vL fs k n v st (a++[r]) w)=(fL a.length).filter (vL fs k n v st a w):=oI λx f=>by
  obtain⟨j,d,rfl⟩:=aR.mp f;show(match L2.atI (a++[r]) (j:Int)with | some r=>decide (gD fs k n v st r.1=w) | none=>ww)=match L2.atI a (j:Int)with | some r=>decide (gD fs k n v st r.1=w) | none=>ww
  rw[SR (by simpa using d)]
 have p:((fL a.length).filter (vL fs k n v st a w)).map (D6 (a++[r]))=((fL a.length).filter (vL fs k n v st a w)).map (D6 a):=fX λx f=>by
  obtain⟨j,d,rfl⟩:=aR.mp (dM.mp f).1;show(match L2.atI (a++[r]) (j:Int)with | some r=>fH r | none=>.none)=match L2.atI a (j:Int)with | some r=>fH r | none=>.none
  rw[SR (by simpa using d)]
 have g:vL fs k n v st (a++[r]) w (.int (a.length:Int))=decide (gD fs k n v st r.1=w):=by
  show(match L2.atI (a++[r]) (a.length:Int)with | some r=>decide (gD fs k n v st r.1=w) | none=>ww)=_;rw[b]
 have s:D6 (a++[r]) (.int (a.length:Int))=fH r:=by
  show(match L2.atI (a++[r]) (a.length:Int)with | some r=>fH r | none=>.none)=_;rw[b]
 rw[l,jT,bV,o,p,i,jT,bV];congr 1;by_cases c:gD fs k n v st r.1=w
 ·rw[cW,a9 (by rw[g];exact b7 c),cW,a9 (b7 c)];show[D6 (a++[r]) (.int (a.length:Int))]=[fH r];rw[s]
 ·rw[cW,a8 (by rw[g,c6 c];decide),cW,a8 (by rw[c6 c];decide)]
  rfl
def Tf:kX:=λa Q=>∃fs k n v st w rs,a=[.list (rs.map fH),.list (jU fs k n v st rs w)]/\rs.length<=60/\Q (.list ((rs.filter λr=>decide (gD fs k n v st r.1=w)).map fH))
def Vg:kX:=λa Q=>∃fs an fa rs,a=[fV fs an,.list (rs.map fH)]/\eS fs an/\FA fs an fa/\fS fs an rs/\rs.length<=60/\Q (iN (.say (fa rs)))
def Vh:kX:=λa Q=>∃fs an k n v s y m rs,a=[fV fs an,iN (.ask k n v s y m),.list (rs.map fH)]/\eS fs an/\VY fs (.tuple [.str k,.str n,.str v])=wx/\(s="yes"\/s="no")/\fS fs an rs/\rs.length<=60/\Q (.list [.list ((rs.filter (kM fs k n v s)).map fH),.list ((rs.filter λr=>!kM fs k n v s r).map fH)])
def C8{fs}(F:eS fs an){k n v st:â}(c:VY fs (.tuple [.str k,.str n,.str v])=wx)(b:st="yes"\/st="no"){rs:List (List D×â)}(a:fS fs an rs):(rs.filter λr=>decide (gD fs k n v st r.1="no"))=rs.filter λr=>!kM fs k n v st r:=oI λr d=>by
 unfold kM;rcases IR F c b (a r d).1 with e | e
 ·rw[e];decide +kernel
 ·rw[e];decide +kernel
def Kq(a b c d e:D):fY [a,b,c,d,e] wy (wz 3)=[a,b,c]:=nG [a,b,c,d,e] 3
def MQ{an:List â}(h:0<an.length)(rs:List (List D×â)):∃a,HW an rs a:=by
 have g:∀(l:List â),0<l.length->∃k a,l[k]?=wz a/\(∀(j:Nat) b,l[j]?=wz b->B7 rs b<=B7 rs a)/\∀(j:Nat) b,j<k->l[j]?=wz b->B7 rs b<B7 rs a:=λl=>by
  induction l with
  |nil=>intro h;exact b8 h cR
  |cons x l m=>
   intro _
   cases l with
   |nil=>exact⟨0,x,gC,λj b hb=>by
     cases j with
     |zero=>cases hb;exact aN _
     |succ j=>simp at hb,λj b d _=>b8 d (aHl _)⟩
   |cons y l=>
    obtain⟨k,a,e,c,f⟩:=m eH;by_cases i:B7 rs a<=B7 rs x
    ·refine⟨0,x,gC,λj b hb=>?_,λj b d _=>b8 d (aHl _)⟩
     cases j with
     |zero=>cases hb;exact aN _
     |succ j=>exact aY (c j b (by simpa using hb)) i
    ·refine⟨k+1,a,by simpa using e,λj b hb=>?_,λj b d hb=>?_⟩
     ·cases j with
      |zero=>cases hb;lia
      |succ j=>exact c j b (by simpa using hb)
     ·cases j with
      |zero=>cases hb;lia
      |succ j=>exact f j b cS (by simpa using hb)
 obtain⟨k,a,e,c,f⟩:=g an h;exact⟨a,k,e,c,f⟩
def Nc{fs}(F:eS fs an):∃fa,FA fs an fa:=
 ⟨λrs=>(MQ (by have:=F.a2;lia) rs).choose,λrs _=>(MQ (by have:=F.a2;lia) rs).choose_spec⟩
abbrev Qn:=â×â×â
abbrev Ch:=Qn×â
noncomputable def qD(q:Qn):D:=.tuple [.str q.1,.str q.2.1,.str q.2.2]
noncomputable def tq(d:D):Qn:=match d with | .tuple [.str k,.str n,.str v]=>(k,n,v) | _=>("","","")
noncomputable def qs(fs:Fs):List Qn:=(jN fs).map tq
def JC(fs:Fs):(qs fs).map qD=jN fs:=by
 unfold qs;rw[bE]
 have:∀d∈jN fs,(qD∘tq) d=id d:=λd hd=>by
  obtain⟨f,b,⟨z,a,rfl⟩ | ⟨z,a,c,rfl⟩⟩:=FG hd<;>rfl
 rw[fX this,tL]
def XQ{fs}{q:Qn}(h:q∈qs fs):VY fs (.tuple [.str q.1,.str q.2.1,.str q.2.2])=true:=by
 have:qD q∈(qs fs).map qD:=aR.mpr ⟨q,h,gC⟩;rw[JC]at this;exact PP this
noncomputable def Ae(q:Qn):List Ch:=[(q,"yes"),(q,"no")]
noncomputable def VB(fs:Fs):List Ch:=(qs fs).flatMap Ae
def Hy{fs}{c:Ch}(h:c∈VB fs):c.1∈qs fs/\(c.2="yes"\/c.2="no"):=by
 obtain⟨q,b,a⟩:=List.mem_flatMap.mp h;simp only[Ae,aO,cG,f6]at a;rcases a with rfl | rfl
 ·exact⟨b,.inl gC⟩
 ·exact⟨b,.inr gC⟩
def SL(fs:Fs):(VB fs).length=2*(jN fs).length:=by
 unfold VB qs
 generalize (jN fs)=l
 induction l with
 |nil=>rfl
 |cons x l a=>
  rw[bB,aBh,aW,a];show 2+_=2*(l.length+1);lia
noncomputable def De(fs:Fs)(c:Ch)(r:Rw):Bool:=kM fs c.1.1 c.1.2.1 c.1.2.2 c.2 r
noncomputable abbrev yR(fs:Fs)(c:Ch)(R:List Rw):List Rw:=R.filter (De fs c)
noncomputable abbrev nR(fs:Fs)(c:Ch)(R:List Rw):List Rw:=R.filter λr=>!De fs c r
noncomputable def yw(c:Ch):D:=.tuple [qD c.1,.str c.2]
def Sv:kX:=λa Q=>∃fs an,a=[fV fs an]/\eS fs an/\Q (.list ((VB fs).map yw))
noncomputable def gJ(a b:Nat):Nat×Nat:=(a / a.gcd b,b / a.gcd b)
noncomputable def NH(x:Nat×Nat):D:=.tuple [.int (x.1:Nat),.int (x.2:Nat)]
noncomputable def rB(R:List Rw):Nat×Nat:=gJ (kA R R) (max 1 R.length)
noncomputable def Bv(x y:Nat×Nat):Nat×Nat:=gJ (x.1*y.2+y.1*x.2) (x.2*y.2)
noncomputable def dC(fs:Fs)(R:List Rw)(c:Ch):Nat×Nat:=Bv (rB (yR fs c R)) (rB (nR fs c R))
noncomputable def okC(fs:Fs)(R:List Rw)(m:Int)(c:Ch):Bool:=decide (m<=((yR fs c R).length:Int))&&decide (m<=((nR fs c R).length:Int))
noncomputable def yK(fs:Fs)(R:List Rw)(m:Int):List Ch:=(VB fs).filter (okC fs R m)
noncomputable def PF(fs:Fs)(R:List Rw)(c:Ch):D:=.tuple [qD c.1,.str c.2,NH (dC fs R c)]
noncomputable def yL(l:List (Nat×Nat)):Nat:=l.foldl (λc x=>c.lcm x.2) 1
noncomputable def Dx(B:Nat)(x:Nat×Nat):Int:=(x.1:Int)*((B:Int) / (x.2:Int))
noncomputable def hI(fs:Fs)(R:List Rw)(m:Int):List (Nat×Nat):=(yK fs R m).map (dC fs R)
noncomputable def US(fs:Fs)(R:List Rw)(m:Int):List Int:=(hI fs R m).map (Dx (yL (hI fs R m)))
noncomputable def FC(fs:Fs)(R:List Rw)(m:Int):List D:=(yK fs R m).map (PF fs R)
def Cm(fs:Fs)(R:List Rw)(m:Int)(J:List Nat):Prop:=SS.PY (yK fs R m).length (λi=>(US fs R m).getD i 0) J
noncomputable def Bx(fs:Fs)(R:List Rw)(m:Int)(J:List Nat):List D:=J.map λi=>(FC fs R m).getD i .none
def RY{a b:Nat}(h:0<b):0<(gJ a b).2:=aTm (aLh h (CW a b)) (nO a h)
def ZK(a b:Nat):(gJ a b).1<=a/\(gJ a b).2<=b:=⟨qX _ _,qX _ _⟩
structure Sml(x:Nat×Nat)(a b:Nat):Prop where
 top:x.1<=a
 pos:0<x.2
 bot:x.2<=b
def AD{R:List Rw}(h:R.length<=60):Sml (rB R) 3600 60:=by
 have a:=ZK (kA R R) (max 1 R.length);have b:=N6 R R;have c:=oW h h;exact⟨by show(gJ _ _).1<=_;lia,RY cS,by show(gJ _ _).2<=_;lia⟩
def QQ{x y:Nat×Nat}(a:Sml x 3600 60)(b:Sml y 3600 60):x.1*y.2+y.1*x.2<=432000/\x.2*y.2<=3600/\0<x.2*y.2:=by
 have c:=oW a.top b.bot;have d:=oW b.top a.bot;have e:=oW a.bot b.bot;exact⟨cS,cS,Nat.mul_pos a.pos b.pos⟩
def WY(e:Sml x 3600 60)(f:Sml y 3600 60):Sml (Bv x y) 432000 3600:=by
 obtain⟨b,c,d⟩:=QQ e f;have a:=ZK (x.1*y.2+y.1*x.2) (x.2*y.2);exact⟨aY a.1 b,RY d,aY a.2 c⟩
def PM{fs}{R:List Rw}(h:R.length<=60)(c:Ch):Sml (dC fs R c) 432000 3600:=
 WY (AD (aY (bW _ _) h)) (AD (aY (bW _ _) h))
def ZU(fs:Fs)(R:List Rw)(m:Int):(US fs R m).length=(yK fs R m).length:=by unfold US hI;rw[aC,aC]
def vV(fs:Fs)(R:List Rw)(m:Int):(FC fs R m).length=(yK fs R m).length:=by unfold FC;rw[aC]
def aDy{fs}{m:Int}{i:Nat}(h:i<(yK fs R m).length):(US fs R m).getD i 0=Dx (yL (hI fs R m)) (dC fs R (yK fs R m)[i]):=by
 unfold US;rw[dQ,aQ];unfold hI;rw[aQ,aJ h];rfl
def SD{fs}{m:Int}{i:Nat}(h:i<(yK fs R m).length):(FC fs R m).getD i .none=PF fs R (yK fs R m)[i]:=by
 unfold FC;rw[dQ,aQ,aJ h];rfl
def Td:kX:=λb Q=>∃a bs m,b=[.tuple [.list a,.list bs],.int m]/\Q (.bool (decide (m<=(a.length:Int))&&decide (m<=(bs.length:Int))))
def So:kX:=λa Q=>∃x y,a=[NH x,NH y]/\Sml x 3600 60/\Sml y 3600 60/\Q (NH (Bv x y))
def Sr:kX:=λa Q=>∃l,a=[.list (l.map NH)]/\(∀x∈l,0<x.2/\x.2<=1000000)/\Q (.int (yL l:Nat))
def Te:NB:=λa Q=>∃fs an rs m,a=[fV fs an,.list (rs.map fH),.int m]/\eS fs an/\fS fs an rs/\rs.length<=60/\∀J,Cm fs rs m J->Q (Bx fs rs m J)
def TU:∀(l:List Sl)(a b c x y z:Sl),((((((l.set 0 a).set 1 b).set 2 c).set 0 x).set 1 y).set 2 z)=((l.set 0 x).set 1 y).set 2 z
|[],_,_,_,_,_,_=>rfl
|[_],_,_,_,_,_,_=>rfl
|[_,_],_,_,_,_,_,_=>rfl
|_::_::_::_,_,_,_,_,_,_=>rfl
def aDu{l:ET}{Q:D->Prop}{ts:List D}(g:wB ti σ ts)(f:D->D)(r:ts.length<=100000)(n:∀x∈ts,∃a b c,x=.tuple [a,b,c])(p:∀a b c q,.tuple [a,b,c]∈ts->q (f (.tuple [a,b,c]))->l ((((kN fr σ).set 0 (.val a)).set 1 (.val b)).set 2 (.val c)) q)(o:Q (.list (ts.map f))):U5 fr ti (Di 0 1 2) AF l σ Q:=by
 refine g _ ⟨r,λk d e=>(∀x y z,((d.set 0 (.val x)).set 1 (.val y)).set 2 (.val z)=(((kN fr σ).set 0 (.val x)).set 1 (.val y)).set 2 (.val z))/\e=(ts.take k).map f,⟨λ_ _ _=>rfl,gC⟩,λk x d e j h=>?_,λd e h=>?_⟩
 ·obtain⟨m,rfl⟩:=h;have i:=bD j;obtain⟨a,b,c,rfl⟩:=n x i;refine⟨a,b,c,gC,?_⟩;rw[m a b c];refine p a b c _ i ⟨λx y z=>TU _ _ _ _ _ _ _,?_⟩;rw[eW,j,bV];rfl
 ·obtain⟨_,rfl⟩:=h;rw[fJ];exact o
noncomputable def Ni(x y:Nat×Nat):Bool:=decide (x.1*y.2<y.1*x.2)
noncomputable def Ea(fs:Fs)(R:List Rw):Option Ch->D
|some c=>PF fs R c
|none=>.none
def Sq:kX:=λa Q=>∃x y,a=[NH x,NH y]/\x.1<=1000000/\y.1<=1000000/\Q (.bool (Ni x y))
def Tg:kX:=λa Q=>∃fs an rs m,a=[fV fs an,.list (rs.map fH),.int m]/\eS fs an/\fS fs an rs/\rs.length<=60/\∀o,(∀c,o=wz c->c∈yK fs rs m)->Q (Ea fs rs o)
def Gr(fs:Fs)(an:List â)(m:Int)(d:Nat)(rs:List Rw)(t:Tr):Prop:=jZ fs an t/\t.dep<=d
def Oh{fs}{m:Int}(d:Nat){t:Tr}(h:Gr fs an m d R t):jZ fs an t/\t.dep<=d:=h
def vG(a:Nat):kX:=λb Q=>∃(fs:Fs)(an:List â)(rs:List Rw)(d:Nat)(m:Int),b=[fV fs an,.list (rs.map fH),.int d,.int m]/\eS fs an/\fS fs an rs/\rs.length<=60/\d<a/\∀t,Gr fs an m d rs t->Q (iN t)
def Ti:kX:=vG 7
def ZD{Q:D->Prop}(h:vG 0 ds Q):False:=by
 obtain⟨fs,an,rs,d,m,e,F,a,b,c,h⟩:=h;lia
noncomputable def zS(fs:Fs)(an:List â)(d:D):Bool:=match d with | .tuple [c,a]=>iM fs c&&xL an a | _=>ww
def Tz:kX:=λa Q=>∃fs an d,a=[fV fs an,d]/\eS fs an/\Cd d/\Q (.bool (iM fs d))
def TC:kX:=λa Q=>∃fs an d,a=[fV fs an,d]/\eS fs an/\Cd d/\Q (.bool (zS fs an d))
noncomputable def Ap:D->Bool
|.tuple [.tuple [_,.tuple vs],v]=>DE v (.tuple (vs++[.none]))
|_=>ww
def aDn(fs:Fs)(a:List D):((uP (fs.map lG) a).map Ap).all id=(fs.zip a).all λp=>JM p.1 p.2:=by
 unfold uP;rw[bE,aLj,List.zip_map_left,aLj];apply d6 (λg=>List.all (fs.zip a) g);funext p;exact O5 p.1 p.2
noncomputable def yB(a:List â):D:=.tuple (a.map aK)
noncomputable def zb(x:List â):List Str:="yes"::x
noncomputable def zc(x:List â):List Str:="no"::x
noncomputable def K1:Tr->Tr->List (List â)
|.say a,.say b=>if a=b then[]else[[]]
|.say _,.ask _ _ _ _ _ _=>[[]]
|.ask _ _ _ _ _ _,.say _=>[[]]
|.ask k n v s y m,.ask k' n' v' s' y' m'=>if k=k'/\n=n'/\v=v'/\s=s' then(K1 y y').map zb++(K1 m m').map zc else[[]]
noncomputable def R5:Tr->Tr->Bool
|.ask k n v s _ _,.ask k' n' v' s' _ _=>decide (k=k'/\n=n'/\v=v'/\s=s')
|_,_=>ww
def Wg(h:R5 t u=ww):(t=u->K1 t u=[])/\(t≠u->K1 t u=[[]]):=by
 cases t with
 |say a=>
  cases u with
  |say b=>
   refine⟨λe=>?_,λe=>?_⟩
   ·cases e;exact a9 gC
   ·exact a8 λz=>e (by rw[z])
  |ask k n v s y m=>exact⟨(λe=>nomatch e),λ_=>rfl⟩
 |ask k n v s y m=>
  cases u with
  |say b=>exact⟨(λe=>nomatch e),λ_=>rfl⟩
  |ask d g j i l f=>
   have c:=g8 h;refine⟨λe=>?_,λ_=>a8 c⟩;cases e;exact b8 ⟨gC,gC,gC,gC⟩ c
def Zf{k}:K1 (.ask k n v s y m) (.ask k n v s y' m')=(K1 y y').map zb++(K1 m m').map zc:=a9 ⟨gC,gC,gC,gC⟩
theorem DG:∀t u,(K1 t u).length<=t.nodes
|.say a,.say b=>by
 show(if a=b then[]else[[]]:List (List â)).length<=1;split<;>simp
|.say _,.ask _ _ _ _ _ _=>aN 1
|.ask k n v s y m,.say _=>(Tr.ask k n v s y m).nodes_pos
|.ask k n v s y m,.ask k' n' v' s' y' m'=>by
 show(if k=k'/\n=n'/\v=v'/\s=s' then(K1 y y').map zb++(K1 m m').map zc else[[]]).length<=y.nodes+m.nodes+1;have c:=DG y y';have d:=DG m m';split
 ·rw[aW,aC,aC];lia
 ·simp
theorem DH:∀t u,∀p∈K1 t u,p.length<=t.dep
|.say a,.say b=>λp c=>by
 have hp':p∈(if a=b then[]else[[]]:List (List â)):=c;split at hp'
 ·simp at hp'
 ·rw[bC.mp hp'];exact aN 0
|.say _,.ask _ _ _ _ _ _=>λp c=>by rw[bC.mp c];exact aN 0
|.ask k n v s y m,.say _=>λp c=>by rw[bC.mp c];exact cP _
|.ask k n v s y m,.ask k' n' v' s' y' m'=>λp c=>by
 have hp':p∈(if k=k'/\n=n'/\v=v'/\s=s' then(K1 y y').map zb++(K1 m m').map zc else[[]]):=c;show p.length<=max y.dep m.dep+1;split at hp'
 ·rcases bR.mp hp' with hp' | hp'
  ·obtain⟨q,d,rfl⟩:=aR.mp hp';have:=DH y y' q d;show q.length+1<=_;lia
  ·obtain⟨q,d,rfl⟩:=aR.mp hp';have:=DH m m' q d;show q.length+1<=_;lia
 ·rw[bC.mp hp'];exact cP _
def UH(t:Tr):t.nodes<=2*2^t.dep:=by
 rw[t.nodes_kn];have:=t.kn_dep;lia
def L8{t:Tr}(h:t.dep<=12):t.nodes<=8192:=by
 have a:=UH t;have b:2^t.dep<=2^12:=fN cR h;lia
def Eu(k n v a b c:â):dA (.tuple [.str k,.str n,.str v]) (.tuple [.str a,.str b,.str c])=decide (k=a/\n=b/\v=c):=by
 show((k==a)&&((n==b)&&((v==c)&&wx)))=_;rw[dX];simp
theorem KB:∀t u,dA (iN t) (iN u)=wx↔t=u
|.say a,.say b=>by
 show((("say":â)=="say")&&((a==b)&&wx))=wx↔_;simp
|.say a,.ask k n v s y m=>by
 refine⟨λh=>?_,λh=>nomatch h⟩;have g:((("say":â)=="ask")&&((dA (.str a) (.tuple [.str k,.str n,.str v]))&&ww))=true:=h;rw[show(("say":â)=="ask")=ww by decide +kernel]at g;cases g
|.ask k n v s y m,.say a=>by
 refine⟨λh=>?_,λh=>nomatch h⟩;have g:((("ask":â)=="say")&&((dA (.tuple [.str k,.str n,.str v]) (.str a))&&ww))=true:=h;rw[show(("ask":â)=="say")=ww by decide +kernel]at g;cases g
|.ask k n v s y m,.ask k' n' v' s' y' m'=>by
 show((("ask":â)=="ask")&&(dA (.tuple [.str k,.str n,.str v]) (.tuple [.str k',.str n',.str v'])&&((s==s')&&(dA (iN y) (iN y')&&(dA (iN m) (iN m')&&wx)))))=wx↔_;rw[Eu];simp only[cU,c7,av,KB y y',KB m m',and_true,Tr.ask.injEq];exact⟨λ⟨_,⟨a,b,c⟩,d,e,f⟩=>⟨a,b,c,d,e,f⟩,λ⟨a,b,c,d,e,f⟩=>⟨trivial,⟨a,b,c⟩,d,e,f⟩⟩
def aAp{k n v s a b d c:â}:dA (.tuple [.str "ask",.tuple [.str k,.str n,.str v],.str s]) (.tuple [.str "ask",.tuple [.str a,.str b,.str d],.str c])=decide (k=a/\n=b/\v=d/\s=c):=by
 show((("ask":â)=="ask")&&(dA (.tuple [.str k,.str n,.str v]) (.tuple [.str a,.str b,.str d])&&((s==c)&&wx)))=_;rw[Eu,dX];simp[and_assoc]
section
variable{fs:Fs}{an:List â}
def Er(F:eS fs an){t:Tr}(h:jZ fs an t)(hd:t.dep<=40):Cd (iN t):=(WM F t h).cd cS
def RN(a:Cd x)(b:Cd y):Bh x y:=⟨a.lay,b.lay,by have:=a.dep;lia⟩
def Nl{s:â}(h:s="yes"\/s="no"):uW s=true:=by
 rcases h with rfl | rfl
 ·exact EK
 ·exact L9
def SN(F:eS fs an){k n v s:â}(h:jZ fs an (.ask k n v s y m)):Cd (.tuple [.str "ask",.tuple [.str k,.str n,.str v],.str s]):=
 (xT 27 1 3 (all_cons (jX OH cR) (all_cons (Ei F h.1) (all_cons (jX (Nl h.2.1) cR) AH))) (aN _) (aN _) (aN _)).cd cR
end
def vE(a:Nat):kX:=λb Q=>∃fs an t u,b=[iN t,iN u]/\eS fs an/\jZ fs an t/\jZ fs an u/\t.dep<a/\t.dep<=12/\u.dep<=12/\Q (.list ((K1 t u).map yB))
def Ve:kX:=vE 13
def ZB{Q:D->Prop}(h:vE 0 ds Q):False:=by
 obtain⟨_,_,_,_,_,_,_,_,h,_⟩:=h;lia
def aCy{c:vX}{g u:yO}(R:Bool->Prop)(P:List Sl->Prop)(h:∀q,(∀b,R b->q b)->c σ q)(i:R wx->∀d,(∀a,P a->d.nx a)->g d σ)(hb:R ww->P σ)(f:∀a,P a->u DT a):nY (yd c g jR) u DT σ:=h _ λb e=>by
 cases b with
 |true=>exact i e { DT with nx:=u DT } f
 |false=>exact f _ (hb e)
noncomputable def jx(fs:Fs)(n:â):Nat:=(fs.map (·.1)).idxOf n
section
variable{fs:Fs}{an:List â}
def Wv(F:eS fs an){k n v:â}(h:VY fs (.tuple [.str k,.str n,.str v])=wx):∃f,fs[jx fs n]?=wz f/\f∈fs/\f.1=n/\v∈f.2/\(k="is"\/k="upto"):=by
 obtain⟨f,b,a,d,hk⟩:=zU h;obtain⟨j,c⟩:=dH b;have:jx fs n=j:=by rw[<- a];exact JO F c
 exact⟨f,by rw[this];exact c,b,a,d,hk.imp id λz=>z.1⟩
end
noncomputable def qY(a:List (Nat×Rw)):List (Int×D):=a.map λe=>((e.1:Int),fH e.2)
noncomputable def EH(a:List (Nat×Rw)):List D:=a.map λe=>.tuple [.int (e.1:Nat),fH e.2]
def Lf(C:à):wY (lO C):=λc n b Q=>∃T a,c=mH T/\b=[mH T]/\n.kvs=qY a/\Q n (.list (EH a))
def Tt(C:à):wY (lO C):=λb n a Q=>∃T,b=mH T/\a=[mH T]/\Q n n.st
def Tv(C:à):wY (lO C):=λb n a Q=>∃T j d,b=mH T/\a=[mH T,.int j]/\qZ n.kvs j=wz d/\Q n .none
def Tu(C:à):wY (lO C):=λb n a Q=>∃fs an T d,b=mH T/\a=[mH T,d]/\eS fs an/\T.fm=fV fs an/\Cd d/\zS fs an d=wx/\Q n .none
def Tw(C:à):wY (lO C):=λf n c Q=>∃fs an d m T a b,f=mH T/\c=[mH T]/\eS fs an/\T.fm=fV fs an/\T.dp=(d:Nat)/\T.ls=m/\n.kvs=qY a/\fS fs an (a.map (·.2))/\a.length<=60/\d<=6/\n.st=iN b/\jZ fs an b/\b.dep<=6 /\
 ∀t,Gr fs an m d (a.map (·.2)) t->∀e,Q { n with st:=iN t } (.list e)
noncomputable def lH(k:Nat)(a:List (Nat×Rw)):List (Nat×Rw):=a.filter λe=>decide (e.1≠k)
noncomputable def pC(k:Nat)(r:Rw)(a:List (Nat×Rw)):List (Nat×Rw):=a.map λe=>if e.1=k then(e.1,r)else e
noncomputable def uS(k:Nat)(a:List (Nat×Rw)):Option Rw:=(a.find? λe=>decide (e.1=k)).map (·.2)
def MM{fs}(h:kY fs an r):zS fs an (fH r)=true:=by
 show(iM fs (.tuple r.1)&&xL an (.str r.2))=wx;rw[h.1,show xL an (.str r.2)=wx from b7 h.2];rfl
theorem OX{k:Nat}:∀ks,((qY ks).any λe=>decide (e.1=(k:Int)))=ks.any λe=>decide (e.1=k)
|[]=>rfl
|e::ks=>by
 show(decide ((e.1:Int)=(k:Int))||(qY ks).any _)=(decide (e.1=k)||ks.any _);rw[OX ks];congr 1;rw[dX,c7,c7];lia
def XX{k:Nat}(h:∀e∈ks,e.1≠k):yA (qY ks) (k:Nat) (fH r)=qY (ks++[(k,r)]):=by
 unfold yA
 rw[OX,a8 (by
  rw[pN];rintro⟨e,he,z⟩;exact h e he (b9 z))]
 unfold qY;rw[bV];rfl
def J6{k:Nat}:uS k ks=wz r->qZ (qY ks) (k:Nat)=wz (fH r):=by
 unfold uS qZ qY;rw[aHm];intro h;obtain⟨e,b,rfl⟩:=dP.mp h
 have a:((λe:Int×D=>decide (e.1=(k:Int)))∘λe:Nat×Rw=>((e.1:Int),fH e.2))=λe:Nat×Rw=>decide (e.1=k):=by
  funext e;show decide ((e.1:Int)=(k:Int))=decide (e.1=k);rw[dX,c7,c7];lia
 rw[a,b];rfl
def Z5{k:Nat}(h:uS k ks=wz r):(k,r)∈ks:=by
 obtain⟨e,a,rfl⟩:=dP.mp h;rw[<- (b9 (List.find?_some (p:=λe:Nat×Rw=>decide (e.1=k)) a))];exact(List.mem_of_find?_eq_some a)
def XW{k:Nat}(h:uS k ks=wz r):yA (qY ks) (k:Nat) (fH r2)=qY (pC k r2 ks):=by
 unfold yA;rw[OX,a9 (pN.mpr ⟨_,Z5 h,b7 gC⟩)];unfold qY pC;rw[bE,bE];apply fX;intro e _;show(if(e.1:Int)=(k:Int)then((e.1:Int),fH r2)else((e.1:Int),fH e.2))=(λe:Nat×Rw=>((e.1:Int),fH e.2)) (if e.1=k then(e.1,r2)else e);by_cases z:e.1=k
 ·rw[a9 z,a9 cS]
 ·rw[a8 z,a8 cS]
def aAs(k:Nat)(a:List (Nat×Rw)):xO (qY a) (k:Nat)=qY (lH k a):=by
 unfold xO qY lH;rw[qG];congr 1;apply oI;intro e _;show decide ((e.1:Int)≠(k:Int))=decide (e.1≠k);rw[dX,c7,c7];lia
def TX{fs}{a:List (Nat×Rw)}{k:Nat}(h:fS fs an (a.map (·.2)))(b:kY fs an r):fS fs an ((a++[(k,r)]).map (·.2)):=λx hx=>by
 rw[bV]at hx;rcases bR.mp hx with hx | hx
 ·exact h x hx
 ·rw[show x=r from bC.mp hx];exact b
def TY{fs}{a:List (Nat×Rw)}{k:Nat}(h:fS fs an (a.map (·.2))):fS fs an ((lH k a).map (·.2)):=λx c=>by
 obtain⟨e,b,rfl⟩:=aR.mp c;exact h _ (aR.mpr ⟨e,(dM.mp b).1,gC⟩)
def Xs{fs}{b:List (Nat×Rw)}{k:Nat}(h:fS fs an (b.map (·.2)))(f:kY fs an r):fS fs an ((pC k r b).map (·.2)):=λx g=>by
 obtain⟨e,d,rfl⟩:=aR.mp g;obtain⟨a,c,rfl⟩:=aR.mp d;by_cases z:a.1=k
 ·rw[a9 z];exact f
 ·rw[a8 z];exact h _ (aR.mpr ⟨a,c,gC⟩)
def Lc(C:à):wY (lO C):=λg n c Q=>∃fs an d m T a k r b,g=mH T/\c=[mH T,fH r]/\eS fs an/\T.fm=fV fs an/\T.dp=(d:Nat)/\T.ls=m/\n.kvs=qY a/\fS fs an (a.map (·.2))/\a.length<60/\d<=6/\n.st=iN b/\jZ fs an b/\b.dep<=6/\n.fol=(k:Nat)/\k<=1000/\(∀e∈a,e.1≠k)/\kY fs an r/\Cd (fH r) /\
 ∀t,Gr fs an m d ((a++[(k,r)]).map (·.2)) t->∀f,Q ⟨qY (a++[(k,r)]),((k+1:Nat):Int),iN t⟩ (.tuple [.int (k:Nat),.list f])
def Ld(C:à):wY (lO C):=λf n c Q=>∃fs an d m T a k r b,f=mH T/\c=[mH T,.int (k:Nat)]/\eS fs an/\T.fm=fV fs an/\T.dp=(d:Nat)/\T.ls=m/\n.kvs=qY a/\fS fs an (a.map (·.2))/\a.length<=60/\d<=6/\n.st=iN b/\jZ fs an b/\b.dep<=6/\uS k a=wz r /\
 ∀t,Gr fs an m d ((lH k a).map (·.2)) t->∀e,Q ⟨qY (lH k a),n.fol,iN t⟩ (.tuple [fH r,.list e])
def Le(C:à):wY (lO C):=λg n e Q=>∃fs an d m T a k r b c,g=mH T/\e=[mH T,.int (k:Nat),fH b]/\eS fs an/\T.fm=fV fs an/\T.dp=(d:Nat)/\T.ls=m/\n.kvs=qY a/\fS fs an (a.map (·.2))/\a.length<=60/\d<=6/\n.st=iN c/\jZ fs an c/\c.dep<=6/\uS k a=wz r/\kY fs an b/\Cd (fH b) /\
 ∀t,Gr fs an m d ((pC k b a).map (·.2)) t->∀f,Q ⟨qY (pC k b a),n.fol,iN t⟩ (.tuple [fH r,.list f])
noncomputable def xM(C:à):D:=.dict [(.int (C:Nat),.none)]
def Eh:kX:=λa Q=>∃fs an d m,a=[fV fs an,.int (d:Nat),.int m]/\eS fs an/\d<=6/\∀t,Gr fs an m d [] t->Q (iN t)
def Uu:kX:=λa Q=>∃ns fs an,a=[jY ns,fV fs an]/\ns.length<=63/\eS fs an/\∀r,kY fs an r->Q (fH r)
def Mt{fs:Fs}{a:List D}(b:a.length=fs.length)(d:∀(k:Nat) f c,fs[k]?=wz f->a[k]?=wz c->JM f c=wx):iM fs (.tuple a)=true:=by
 show(decide (a.length=fs.length)&&(fs.zip a).all λp=>JM p.1 p.2)=wx;rw[b7 b,iY,fK];intro p h;obtain⟨k,hk⟩:=dH h;obtain⟨e,g⟩:=gM.mp hk;exact d k p.1 p.2 e g
def EG(a:List (Nat×Rw)):(EH a).length=a.length:=by unfold EH;rw[aC]
def Hw{fs}(F:eS fs an)(h:kY fs an r):Cd (fH r):=(Za F h).cd cR
def zn{F:uE}{τ}{a:NE F}{n σ}(h:a.nx n σ):WB τ a n σ:=h
def aA0{fs}(h:iM fs (.tuple cs)=wx):∀c∈cs,c=.none\/∃f∈fs,∃z∈f.2,c=.str z:=λc b=>by
 obtain⟨d,e⟩:=tD h;obtain⟨k,hk⟩:=dH b;have a:k<fs.length:=by rw[<- d];exact(aL.mp hk).1
 have:=e k fs[k] c (aJ a) hk
 cases c with
 |none=>exact .inl gC
 |str z=>exact .inr ⟨_,iU a,z,b9 this,gC⟩
 |_=>cases this
def vF(n:Nat):kX:=λa Q=>∃t,a=[iN t]/\t.kn<=600/\t.dep<n/\Q (.int t.kn)
def Tl:kX:=vF 41
def ZC{Q:D->Prop}(h:vF 0 ds Q):False:=by
 obtain⟨_,_,_,h,_⟩:=h;lia
noncomputable def gE(fs:Fs)(t:Tr)(rs:List (List D×â)):Nat:=(rs.filter λr=>!decide (qR fs t r.1=r.2)).length
theorem DZ{fs}(k n v s:â)(y m:Tr):∀rs,gE fs (.ask k n v s y m) rs=gE fs y (rs.filter (kM fs k n v s))+gE fs m (rs.filter λr=>!kM fs k n v s r)
|[]=>rfl
|r::rs=>by
 have c:=DZ (fs:=fs) k n v s y m rs;have e:qR fs (.ask k n v s y m) r.1=if gD fs k n v s r.1="yes" then qR fs y r.1 else qR fs m r.1:=rfl;unfold gE at c |-
 by_cases d:gD fs k n v s r.1="yes"
 ·have b:kM fs k n v s r=true:=b7 d;rw[cW (p:=kM fs k n v s),a9 b,cW (p:=λr=>!kM fs k n v s r),a8 (by rw[b];decide)];rw[a9 d]at e;by_cases a:qR fs y r.1=r.2
  ·rw[cW,a8 (by rw[e];simp[a]),cW,a8 (by simp[a])];exact c
  ·rw[cW,a9 (by rw[e];simp[a]),cW,a9 (by simp[a]),bA,bA,c];lia
 ·have b:kM fs k n v s r=false:=c6 d;rw[cW (p:=kM fs k n v s),a8 (by rw[b];decide),cW (p:=λr=>!kM fs k n v s r),a9 (by rw[b];rfl)];rw[a8 d]at e;by_cases a:qR fs m r.1=r.2
  ·rw[cW,a8 (by rw[e];simp[a]),cW,a8 (by simp[a])];exact c
  ·rw[cW,a9 (by rw[e];simp[a]),cW,a9 (by simp[a]),bA,bA,c];lia
def Vf:kX:=λc Q=>∃fs an t rs a b,c=[fV fs an,iN t,.list (rs.map fH),.tuple [.int a,.int b]]/\eS fs an/\jZ fs an t/\t.dep<=40/\t.kn<=600/\fS fs an rs/\rs.length<=60/\0<=a/\a<=1000000000/\0<=b/\b<=1000000000/\Q (.int (a*(gE fs t rs:Nat)+b*(t.kn:Nat)))
noncomputable abbrev O9:=NH
noncomputable def lw(fs:Fs)(fa:List (List D×â)->â)(a b:Int):Tr->List (List D×â)->Int×Tr
|.say x,rs=>(a*(gE fs (.say x) rs:Nat),.say x)
|.ask k n v s y m,rs=>
 if a*(gE fs (.say (fa rs)) rs:Nat)<=b+(lw fs fa a b y (rs.filter (kM fs k n v s))).1+(lw fs fa a b m (rs.filter λr=>!kM fs k n v s r)).1 then(a*(gE fs (.say (fa rs)) rs:Nat),.say (fa rs))
 else(b+(lw fs fa a b y (rs.filter (kM fs k n v s))).1+(lw fs fa a b m (rs.filter λr=>!kM fs k n v s r)).1,.ask k n v s (lw fs fa a b y (rs.filter (kM fs k n v s))).2 (lw fs fa a b m (rs.filter λr=>!kM fs k n v s r)).2)
theorem RW{fs}{fa:List (List D×â)->â}(c:FA fs an fa)(a b:Int):∀t rs,jZ fs an t->fS fs an rs->jZ fs an (lw fs fa a b t rs).2/\(lw fs fa a b t rs).2.dep<=t.dep
|.say z,rs,h,_=>⟨h,aN _⟩
|.ask k n v s y m,rs,h,hrs=>by
 obtain⟨f,g,j,e⟩:=h;obtain⟨l,p⟩:=RW c a b y (rs.filter (kM fs k n v s)) j (hrs.filt _);obtain⟨o,q⟩:=RW c a b m (rs.filter λr=>!kM fs k n v s r) e (hrs.filt _);unfold lw;split
 ·obtain⟨i,d,_⟩:=c rs hrs;exact⟨bD d,cP _⟩
 ·exact⟨⟨f,g,l,o⟩,by show max _ _+1<=max y.dep m.dep+1;lia⟩
section
variable{fs:Fs}{fa:List (List D×â)->â}
def OR(a b:Int)(k n v s:â)(y m:Tr)(rs:List (List D×â)):lw fs fa a b (.ask k n v s y m) rs=if a*(gE fs (.say (fa rs)) rs:Nat)<=b+(lw fs fa a b y (rs.filter (kM fs k n v s))).1+(lw fs fa a b m (rs.filter λr=>!kM fs k n v s r)).1 then(a*(gE fs (.say (fa rs)) rs:Nat),.say (fa rs))else(b+(lw fs fa a b y (rs.filter (kM fs k n v s))).1+(lw fs fa a b m (rs.filter λr=>!kM fs k n v s r)).1,.ask k n v s (lw fs fa a b y (rs.filter (kM fs k n v s))).2 (lw fs fa a b m (rs.filter λr=>!kM fs k n v s r)).2):=rfl
def MX(a b:Int)(k n v s:â)(y m:Tr)(rs:List (List D×â)):a*(gE fs (.ask k n v s y m) rs:Nat)+b*((Tr.ask k n v s y m).kn:Nat)=b+(a*(gE fs y (rs.filter (kM fs k n v s)):Nat)+b*(y.kn:Nat))+(a*(gE fs m (rs.filter λr=>!kM fs k n v s r):Nat)+b*(m.kn:Nat)):=by
 rw[DZ];show a*((_+_:Nat):Int)+b*((y.kn+m.kn+1:Nat):Int)=_;rw[lY,lY,lY,VS,VS,VS];show _+(_+b*1)=_;rw[aTp];lia
def Hz(a b:Int)(z:â)(rs:List (List D×â)):a*(gE fs (.say z) rs:Nat)+b*((Tr.say z).kn:Nat)=a*(gE fs (.say z) rs:Nat):=by
 show _+b*0=_;rw[QF,QG]
theorem JQ(a b:Int):∀(t:Tr)(rs:List (List D×â)),(lw fs fa a b t rs).1=a*(gE fs (lw fs fa a b t rs).2 rs:Nat)+b*((lw fs fa a b t rs).2.kn:Nat)
|.say z,rs=>(Hz a b z rs).symm
|.ask k n v s y m,rs=>by
 have d:=JQ a b y (rs.filter (kM fs k n v s));have c:=JQ a b m (rs.filter λr=>!kM fs k n v s r);rw[OR];split
 ·exact(Hz a b _ rs).symm
 ·show b+_+_=_;rw[MX,<- d,<- c]
def St(fs:Fs)(fa:List (List D×â)->â)(a b:Int):Tr->List (List D×â)->Prop
|.say _,_=>True
|.ask k n v s y m,rs=>b*((Tr.ask k n v s y m).kn:Nat)+a*(gE fs (.ask k n v s y m) rs:Nat)<a*(gE fs (.say (fa rs)) rs:Nat)/\St fs fa a b y (rs.filter (kM fs k n v s))/\St fs fa a b m (rs.filter λr=>!kM fs k n v s r)
theorem LM(a b:Int):∀(t:Tr)(rs:List (List D×â)),St fs fa a b (lw fs fa a b t rs).2 rs
|.say z,rs=>trivial
|.ask k n v s y m,rs=>by
 have d:=LM a b y (rs.filter (kM fs k n v s));have c:=LM a b m (rs.filter λr=>!kM fs k n v s r);have f:=JQ (fs:=fs) (fa:=fa) a b y (rs.filter (kM fs k n v s));have e:=JQ (fs:=fs) (fa:=fa) a b m (rs.filter λr=>!kM fs k n v s r);rw[OR];split
 ·trivial
 ·next lg=>
  refine⟨?_,d,c⟩;have:=MX (fs:=fs) a b k n v s (lw fs fa a b y (rs.filter (kM fs k n v s))).2 (lw fs fa a b m (rs.filter λr=>!kM fs k n v s r)).2 rs;lia
theorem RX(a b:Int):∀(t:Tr)(rs:List (List D×â)),(lw fs fa a b t rs).2.kn<=t.kn/\((lw fs fa a b t rs).2.kn=t.kn->(lw fs fa a b t rs).2=t)
|.say z,rs=>⟨aN _,λ_=>rfl⟩
|.ask k n v s y m,rs=>by
 obtain⟨h,f⟩:=RX a b y (rs.filter (kM fs k n v s));obtain⟨g,d⟩:=RX a b m (rs.filter λr=>!kM fs k n v s r);have e:(Tr.ask k n v s y m).kn=y.kn+m.kn+1:=rfl;rw[OR,e];split
 ·exact⟨cP _,λz=>by
   have i:0=y.kn+m.kn+1:=z;lia⟩
 ·have c:(Tr.ask k n v s (lw fs fa a b y (rs.filter (kM fs k n v s))).2 (lw fs fa a b m (rs.filter λr=>!kM fs k n v s r)).2).kn=(lw fs fa a b y (rs.filter (kM fs k n v s))).2.kn+(lw fs fa a b m (rs.filter λr=>!kM fs k n v s r)).2.kn+1:=rfl;refine⟨by dsimp only;rw[c];lia,λz=>?_⟩;dsimp only at z |-
  rw[c]at z;rw[f cS,d cS]
noncomputable def CG(fs:Fs)(fa:List (List D×â)->â):Tr->List (List D×â)->List (Int×Nat)
|.say _,_=>[]
|.ask k n v s y m,rs=>((gE fs (.say (fa rs)) rs:Int)-(gE fs (.ask k n v s y m) rs:Nat),(Tr.ask k n v s y m).kn)::(CG fs fa y (rs.filter (kM fs k n v s))++CG fs fa m (rs.filter λr=>!kM fs k n v s r))
theorem IL(a b:Int):∀(t:Tr)(rs:List (List D×â)),St fs fa a b t rs↔∀p∈CG fs fa t rs,b*(p.2:Nat)<a*p.1
|.say z,rs=>⟨λ_ p hp=>by simp[CG]at hp,λ_=>trivial⟩
|.ask k n v s y m,rs=>by
 have f:=IL a b y (rs.filter (kM fs k n v s));have d:=IL a b m (rs.filter λr=>!kM fs k n v s r);have e:a*((gE fs (.say (fa rs)) rs:Int)-(gE fs (.ask k n v s y m) rs:Nat))=a*(gE fs (.say (fa rs)) rs:Nat)-a*(gE fs (.ask k n v s y m) rs:Nat):=Int.mul_sub _ _ _;constructor
 ·rintro⟨c,h1,h2⟩ p hp;rcases aO.mp hp with rfl | hp
  ·dsimp only;rw[e];lia
  ·rcases bR.mp hp with hp | hp
   ·exact f.mp h1 p hp
   ·exact d.mp h2 p hp
 ·intro h;have c:=h _ (aP ..);dsimp only at c;rw[e]at c;exact⟨cS,f.mpr λp hp=>h p (aH _ (dZ _ hp)),d.mpr λp hp=>h p (aH _ (cE _ hp))⟩
theorem yX:∀t rs,∀p∈CG fs fa t rs,p.1<=rs.length/\0<p.2/\p.2<=t.kn
|.say z,rs,p,hp=>by simp[CG]at hp
|.ask k n v s y m,rs,p,hp=>by
 have e:(Tr.ask k n v s y m).kn=y.kn+m.kn+1:=rfl;rcases aO.mp hp with rfl | hp
 ·have b:gE fs (.say (fa rs)) rs<=rs.length:=bW _ _;refine⟨?_,by rw[e];lia,aN _⟩;lia
 ·rcases bR.mp hp with hp | hp
  ·obtain⟨b,a,c⟩:=yX y _ p hp;have:=bW (kM fs k n v s) rs;exact⟨cS,a,cS⟩
  ·obtain⟨b,a,c⟩:=yX m _ p hp;have:=bW (λr=>!kM fs k n v s r) rs;exact⟨cS,a,cS⟩
end
section
noncomputable def mB(p:Int×Nat):Nat×Nat:=(p.1.toNat / p.1.toNat.gcd p.2,p.2 / p.1.toNat.gcd p.2)
noncomputable def Au:Tr->Bool
|.say _=>wx
|.ask _ _ _ _ _ _=>ww
end
section
abbrev yy:=(Nat×Nat)×Tr
noncomputable def yc(x:yy):D:=.tuple [.tuple [.int (x.1.1:Nat),.int (x.1.2:Nat)],iN x.2]
end
def Vi:kX:=λc Q=>∃a b,c=[.tuple [a,b]]/\Q (.tuple [b,a])
def vD(d:Nat):kX:=λc Q=>∃fs an fa t rs a b,c=[fV fs an,iN t,.list (rs.map fH),.tuple [.int a,.int b]]/\eS fs an/\FA fs an fa/\jZ fs an t/\t.dep<d/\fS fs an rs/\rs.length<=60/\0<=a/\a<=1000000000/\0<=b/\b<=1000000000/\Q (.tuple [.int (lw fs fa a b t rs).1,iN (lw fs fa a b t rs).2])
def Ua:kX:=vD 13
def ZA{Q:D->Prop}(h:vD 0 ds Q):False:=by
 obtain⟨_,_,_,_,_,_,_,_,_,_,_,h,_⟩:=h;lia
def Vj:kX:=λc Q=>∃fs an fa t rs a b,c=[fV fs an,iN t,.list (rs.map fH),.tuple [.int b,.int a]]/\eS fs an/\FA fs an fa/\jZ fs an t/\t.dep<13/\fS fs an rs/\rs.length<=60/\0<=a/\a<=1000000000/\0<=b/\b<=1000000000/\Q (iN (lw fs fa a b t rs).2)
section
variable{fs:Fs}{fa:List (List D×â)->â}
theorem II:∀t rs,(CG fs fa t rs).length=t.kn
|.say _,_=>rfl
|.ask k n v s y m,rs=>by
 show(_::_:List _).length=y.kn+m.kn+1;rw[bA,aW,II y,II m]
end
def vC(d:Nat):kX:=λa Q=>∃fs an fa t rs,a=[fV fs an,iN t,.list (rs.map fH)]/\eS fs an/\FA fs an fa/\jZ fs an t/\t.dep<d/\t.dep<=40/\t.kn<=100/\fS fs an rs/\rs.length<=60/\(∀e∈CG fs fa t rs,0<=e.1)/\Q (.tuple [.int (gE fs t rs:Nat),.list ((CG fs fa t rs).map λe=>O9 (mB e))])
def Ud:kX:=vC 13
def Y9{Q:D->Prop}(h:vC 0 ds Q):False:=by
 obtain⟨_,_,_,_,_,_,_,_,_,h,_⟩:=h;lia
noncomputable instance decD:DecidableEq PyData:=λ_ _=>bg _
noncomputable def rS:List (List D)->Nat->(D->Bool)->List (List D)
|[],_,_=>[]
|e::L,0,g=>e.filter g::L
|e::L,j+1,g=>e::rS L j g
theorem E6:∀{L:List (List D)}{j:Nat}{g:D->Bool}{e:List D},L[j]?=wz e->rS L j g=L.take j++(e.filter g::L.drop (j+1))
|[],j,g,e,h=>by simp at h
|e0::L,0,g,e,h=>by
 simp only[List.getElem?_cons_zero,Option.some.injEq]at h;subst h;rfl
|e0::L,j+1,g,e,h=>by
 simp only[NG]at h;show e0::rS L j g=e0::(L.take j++(e.filter g::L.drop (j+1)));rw[E6 h]
theorem E5:∀L j g,(rS L j g).length=L.length
|[],_,_=>rfl
|_::_,0,_=>rfl
|e::L,j+1,g=>by show(rS L j g).length+1=L.length+1;rw[E5 L j g]
theorem HH:∀L j g i,(rS L j g)[i]?=if i=j then L[i]?.map (S7 g)else L[i]?
|[],j,g,i=>by show([]:List (List D))[i]?=_;split<;>simp
|e::L,0,g,0=>rfl
|e::L,0,g,i+1=>rfl
|e::L,j+1,g,0=>rfl
|e::L,j+1,g,i+1=>by
 show(rS L j g)[i]?=if i+1=j+1 then L[i]?.map (S7 g)else L[i]?;rw[HH L j g i];by_cases h:i=j
 ·rw[a9 h,a9 cS]
 ·rw[a8 h,a8 cS]
def nH(fs:Fs)(L:List (List D)):Prop:=L.length=fs.length/\∀(j:Nat) f e,fs[j]?=wz f->L[j]?=wz e->∃p,e=(wX f).filter p
def nH.filt{fs}(h:nH fs L)(j:Nat)(g:D->Bool):nH fs (rS L j g):=by
 refine⟨by rw[E5];exact h.1,λi f e c a=>?_⟩;rw[HH]at a;by_cases b:i=j
 ·rw[a9 b]at a;obtain⟨d,k,rfl⟩:=dP.mp a;obtain⟨p,rfl⟩:=h.2 i f d c k;exact⟨λx=>g x&&p x,by rw[List.filter_filter]⟩
 ·rw[a8 b]at a;exact h.2 i f e c a
def nH.whole(fs:Fs):nH fs (fs.map wX):=⟨aC _,λj f e b a=>by
 rw[aQ,b]at a;cases a;exact⟨λ_=>wx,(List.filter_eq_self.mpr λ_ _=>rfl).symm⟩⟩
noncomputable def zO(L:List (List D)):D:=.tuple (L.map dB)
noncomputable def G1(r:List (List D)×â):D:=.tuple [zO r.1,.str r.2]
def Uf:kX:=λa Q=>∃fs an,a=[fV fs an]/\eS fs an/\Q (zO (fs.map wX))
def Uh:kX:=λa Q=>∃(L:List (List D))(j:Nat)(g:D->Bool)(e:List D),a=[zO L,.int (j:Int),.tuple (e.filter g)]/\L[j]?=wz e/\L.length<=5/\Q (zO (rS L j g))
def VM(x:D):Prop:=x=.none\/∃z,uW z=wx/\x=.str z
def VM.th(h:VM x){n m:Nat}(a:8<=n):Th n m x:=by
 rcases h with rfl | ⟨z,b,rfl⟩
 ·exact C4
 ·exact jX b a
section
variable{fs:Fs}{an:List â}
def FB(F:eS fs an)(a:f∈fs):∀x∈wX f,VM x:=λx hx=>by
 rcases bR.mp hx with hx | hx
 ·obtain⟨z,b,rfl⟩:=aR.mp hx;exact .inr ⟨z,F.vals a z b,gC⟩
 ·rw[bC.mp hx];exact .inl gC
def nH.sub(h:nH fs L){j:Nat}(b:fs[j]?=wz f)(a:L[j]?=wz e):∀x∈e,x∈wX f:=λx c=>by
 obtain⟨p,rfl⟩:=h.2 j f e b a;exact(dM.mp c).1
end
def yo:List D->List (List D)
|.tuple e::ds=>e::yo ds
|_=>[]
theorem IF:∀L,yo (L.map dB)=L
|[]=>rfl
|e::L=>by show e::yo (L.map dB)=e::L;rw[IF L]
noncomputable def nE(i:Int):Str:=d9 (toString i)
noncomputable def F0:D->â
|.str z=>z
|_=>"-"
noncomputable def uR(w:â):D:=if w="-" then .none else .str w
noncomputable def Om(s:D):D:=match s with | .str z=>.bool (Txt.contains "0123456789" z) | _=>.none
noncomputable def GA(w:â):List Bool:=w.cps.toList.map λc=>Txt.contains "0123456789" ⟨#[c]⟩
noncomputable def uL(w:â):Bool:=decide (1<=w.length)&&decide (w.length<=9)&&(GA w).all id&&(decide (w="0")||!Txt.startswith w "0")
def Gz:kX:=λa Q=>∃w,a=[.str w]/\w.length<=100000/\Q (.bool (uL w))
noncomputable def iV(a:List â):Bool:=if a.headD ""∈(["tree","rows","rules","steps"]:List â)then decide (a.length=1)else if a.headD ""="out" then decide (a.length=2)&&uL (a.tail.headD "")else if a.headD ""="turn" then decide (2<=a.length)&&uL (a.tail.headD "")else decide (a.headD ""∈(["put","judge","why"]:List â))
def Uj:kX:=λa Q=>∃w r,a=[.list ((w::r).map aK)]/\(∀x∈r,x.length<=100000)/\Q (.bool (iV (w::r)))
def Ul:kX:=λb Q=>∃a:List â,b=[.list (a.map aK)]/\a.length<=1000/\Q (.tuple (a.map uR))
def Ha:kX:=λa Q=>∃x,a=[x]/\VM x/\Q (.str (F0 x))
def Uv:kX:=Ha
noncomputable def IX(r:Rw):Str:=Txt.join cO (r.1.map F0++[r.2])
def Uw:kX:=λa Q=>∃fs an r,a=[fH r]/\eS fs an/\kY fs an r/\Q (.str (IX r))
noncomputable def ZM(f:â×List â)(e:List D):Str:=f.1++" in "++Txt.join "/" (e.map F0)
def Up:kX:=λa Q=>∃f e,a=[lG f,.tuple e]/\uW f.1=wx/\(∀x∈e,VM x)/\e.length<=6/\Q (.str (ZM f e))
def oR(fs:Fs)(L:List (List D)):List Str:=((fs.zip L).filter λp=>decide (p.2≠wX p.1)).map λp=>ZM p.1 p.2
def xG(fs:Fs)(r:List (List D)×â):Str:=(if oR fs r.1=[]then("all":â)else Txt.join " and " (oR fs r.1))++" : "++r.2
def Hb:kX:=λa Q=>∃fs an r,a=[fV fs an,G1 r]/\eS fs an/\nH fs r.1/\r.2∈an/\Q (.str (xG fs r))
noncomputable def DW(z:yy):Str:=nE (z.1.1:Nat)++"/"++nE (z.1.2:Nat)++" "++nE (z.2.kn:Nat)
def Hc:kX:=λa Q=>∃z,a=[O9 z.1,iN z.2]/\z.1.1<=60/\z.1.2<=12/\z.2.kn<=12/\z.2.dep<=12/\Q (.str (DW z))
def QR(x y:â):(x++y).cps.toList=x.cps.toList++y.cps.toList:=by
 show(x.cps++y.cps).toList=_;simp
def iI(x y:â):(x++y).length=x.length+y.length:=by
 show(x.cps++y.cps).size=_;rw[BU];rfl
def UV(x w:â)(a:List â):x++" "++Txt.join cO (w::a)=Txt.join cO (x::w::a):=sX (by
 rw[QR,QR,mE,mE,oJ];rfl)
def vU{fs}(F:eS fs an)(h:iM fs (.tuple cs)=wx):∀x∈cs,VM x:=λx b=>by
 rcases aA0 h x b with rfl | ⟨f,a,z,c,rfl⟩
 ·exact .inl gC
 ·exact .inr ⟨z,F.vals a z c,gC⟩
def vN{z:â}(h:uW z=wx):z≠"-"/\32∉z.cps.toList/\z.length<=8:=by
 refine⟨λe=>?_,λa=>b8 ((C9 h).2.2 32 a) cL,(zM h).1⟩;subst e;exact b8 h cL
def KM(h:VM x):uR (F0 x)=x/\32∉(F0 x).cps.toList/\(F0 x).length<=8:=by
 rcases h with rfl | ⟨z,d,rfl⟩
 ·exact⟨a9 gC,cL,cL⟩
 ·obtain⟨a,b,c⟩:=vN d;exact⟨a8 a,b,c⟩
theorem Hg:∀{a:List D},(∀x∈a,VM x)->(a.map F0).map uR=a
|[],_=>rfl
|x::a,h=>by rw[bB,bB,Hg λy b=>h y (aH _ b),(KM (h x (aP ..))).1]
def sP{fs}(F:eS fs an){r:Rw}(h:kY fs an r):∃w a,r.1.map F0++[r.2]=w::a/\(∀x∈w::a,32∉x.cps.toList/\x.length<=8)/\a.length=r.1.length:=by
 cases e:r.1.map F0++[r.2]with
 |nil=>simp at e
 |cons w a=>
  refine⟨w,a,gC,λx hx=>?_,?_⟩
  ·rw[<- e]at hx;rcases bR.mp hx with hx | hx
   ·obtain⟨y,b,rfl⟩:=aR.mp hx;exact(KM (vU F h.1 y b)).2
   ·rw[bC.mp hx];exact(vN (F.an.2.1 _ h.2)).2
  ·have:=d6 jQ e;rw[aW,aC,bA]at this;exact(Nat.succ.inj this).symm
def aCr{fs}(F:eS fs an){r:Rw}(h:kY fs an r):Txt.split ("put "++IX r) cO=("put":â)::(r.1.map F0++[r.2]):=by
 obtain⟨w,a,e,hw,_⟩:=sP F h;unfold IX;rw[e,show("put ":â)="put"++" " by decide +kernel,UV]
 exact xW 32 cR _ _ λx hx=>by
  rcases aO.mp hx with rfl | hx
  ·decide +kernel
  ·exact(hw x hx).1
theorem oN{n:Nat}:∀{ws:List â},(∀w∈ws,w.length<=n)->(ws.map (·.length)).sum<=n*ws.length
|[],_=>cP _
|w::ws,h=>by
 have b:=h w (aP ..);have c:=oN λx a=>h x (aH _ a);rw[bB,dY,bA,Nat.mul_succ];lia
def xJ(s:â)(a:List â):(Txt.join s a).length<=(a.map (·.length)).sum+a.length*s.length:=by
 show(m4 s a).length<=_;rw[j5];exact cq s a
def sQ{fs}(F:eS fs an){r:Rw}(h:kY fs an r):(IX r).length<=60/\r.1.length<=5:=by
 obtain⟨w,g,e,hw,f⟩:=sP F h;have a:=xJ cO (r.1.map F0++[r.2]);have b:=oN λx c=>(hw x c).2;have hb:cO.length=1:=by decide +kernel
 have d:=(tD h.1).1;have n5:=F.n5;unfold IX;rw[e,hb,yN]at a;rw[e];rw[bA]at a b;lia
def MD{f:â×List â}{e:List D}(h:uW f.1=wx)(i:∀x∈e,VM x)(k:e.length<=6):(ZM f e).length<=70:=by
 have a:=(vN h).2.2;have b:=xJ "/" (e.map F0)
 have c:=oN λw hw=>by
  obtain⟨x,j,rfl⟩:=aR.mp hw;exact(KM (i x j)).2.2
 have d:("/":â).length=1:=by decide +kernel
 have g:(" in ":â).length=4:=by decide +kernel
 unfold ZM;rw[iI,iI,g];rw[d,aC]at b;rw[aC]at c;lia
def FF{a:Type}(v:List a)(x:a):fY (v++[x]) wy (wz (-1))=v:=by
 unfold fY;rw[HT.sIx_none]
 have e:HT.sIx (v++[x]).length (v++[x]).length (wz (-1))=v.length:=by
  rw[aW];unfold HT.sIx;simp
  try lia
 rw[e,rP,wG,List.take_append_of_le_length (aN _),fJ]
def ZQ{a:Type}(v:List a)(x:a):fY (v++[x]) (wz (-1)) wy=[x]:=by
 unfold fY
 have e:HT.sIx (v++[x]).length 0 (wz (-1))=v.length:=by
  rw[aW];unfold HT.sIx;simp
  try lia
 rw[e,HT.sIx_none,List.drop_left,gG eH]
def U4(h:VM y):dA x y=decide (x=y):=by
 rcases h with rfl | ⟨z,a,rfl⟩
 ·cases x<;>first | exact(b7 gC).symm | exact(c6 (λz=>nomatch z)).symm
 ·cases x with
  |str w=>
   show(w==z)=_;rw[dX];simp
  |_=>exact(c6 (λz=>nomatch z)).symm
theorem AB:∀{xs ys},(∀y∈ys,VM y)->IB xs ys=decide (xs=ys)
|[],[],_=>(b7 gC).symm
|[],_::_,_=>(c6 eH).symm
|_::_,[],_=>(c6 eH).symm
|x::xs,y::ys,h=>by
 show(dA x y&&IB xs ys)=_;rw[U4 (h y (aP ..)),AB λz a=>h z (aH _ a),dX];simp
def Yv(fs:Fs)(L:List (List D)):uP (fs.map lG) (L.map dB)=(fs.zip L).map λp=>.tuple [lG p.1,.tuple p.2]:=by
 unfold uP;rw[List.zip_map,bE];rfl
def BB{fs:Fs}(F:eS fs an)(d:nH fs L){e:List D}(h:(f,e)∈fs.zip L):f∈fs/\(∀x∈e,VM x)/\e.length<=6:=by
 obtain⟨j,g⟩:=dH h;obtain⟨a,c⟩:=gM.mp g;have b:=bD a;refine⟨b,λx i=>FB F b x (d.sub a c x i),?_⟩;obtain⟨p,rfl⟩:=d.2 j f e a c;have:=(F.vs f b).2.1;refine aY (bW _ _) ?_;unfold wX;rw[aW,aC];show _+1<=6;lia
def G7{fs}(F:eS fs an)(d:nH fs L):(∀w∈oR fs L,w.length<=70)/\(oR fs L).length<=5:=by
 refine⟨λw hw=>?_,?_⟩
 ·obtain⟨⟨f,e⟩,h,rfl⟩:=aR.mp hw;obtain⟨a,b,c⟩:=BB F d (dM.mp h).1;exact MD (F.name a) b c
 ·have:=F.n5;unfold oR;rw[aC];refine aY (bW _ _) ?_;rw[aFb];lia
def SV{a:List â}(h:∀w∈a,w.length<=70)(c:a.length<=5):(a.map (·.length)).sum+a.length*(" and ":â).length<=400:=by
 have b:=oN h;have e:(" and ":â).length=5:=by decide +kernel
 rw[e];lia
def G0{fs}(F:eS fs an){r:List (List D)×â}(d:nH fs r.1)(e:r.2∈an):(xG fs r).length<=500:=by
 obtain⟨b,c⟩:=G7 F d;have g:=aY (xJ " and " (oR fs r.1)) (SV b c);have h:=(vN (F.an.2.1 _ e)).2.2;have a:(" : ":â).length=3:=by decide +kernel
 have f:("all":â).length=3:=by decide +kernel
 unfold xG;rw[iI,iI,a];split<;>lia
def mN:∀k,k<61->(nE (k:Nat)).length<=4/\(k:Int).natAbs.log2<1920:=by decide +kernel
def TJ{z:yy}(e:z.1.1<=60)(f:z.1.2<=12)(g:z.2.kn<=12):(DW z).length<=20:=by
 have c:=(mN z.1.1 cS).1;have d:=(mN z.1.2 cS).1;have c1:=(mN z.2.kn cS).1;have a:("/":â).length=1:=by decide +kernel
 have b:(" ":â).length=1:=by decide +kernel
 unfold DW;rw[iI,iI,iI,iI,a,b];lia
noncomputable def yg:Nat->D->Nat
|n+1,.tuple [_,_,_,y,m]=>yg n y+yg n m+1
|_,_=>0
theorem OY:∀t n,t.dep<=n->yg n (iN t)=t.kn
|.say a,n,_=>by cases n<;>rfl
|.ask k n v s y m,0,h=>by have b:max y.dep m.dep+1<=0:=h;lia
|.ask k n v s y m,N+1,h=>by
 have b:max y.dep m.dep+1<=N+1:=h;show yg N (iN y)+yg N (iN m)+1=y.kn+m.kn+1;rw[OY y N cS,OY m N cS]
noncomputable def Bu(x:D):D:=match x with
|.tuple [.tuple [.int a,.int b],t]=>.str (nE a++"/"++nE b++" "++nE (yg 12 t:Nat))
|_=>x
def QS{z:yy}(h:z.2.dep<=12):Bu (yc z)=.str (DW z):=by
 show aK (_++nE (yg 12 (iN z.2):Nat))=_;rw[OY _ _ h];rfl
def M7{a:List D}(h:a[a.length-1]?=wz x):atI a (-1)=wz x:=by
 have b:=(aL.mp h).1;unfold atI
 have e:VX a.length (-1)=wz (a.length-1):=by
  unfold VX;rw[a8 cR,a9 cS];congr 1;lia
 rw[e];exact h
def kT{F:uE}{c:TZ F}{t u τ DC n σ}(h:∀q,q n ww->c τ n σ q)(k:u τ DC n σ):xR (yk c t WB) u τ DC n σ:=AO ww h (λz=>by cases z) λ_=>k
def pS{F:uE}{c:TZ F}{t e u τ DC n σ}(h:∀q,q n wx->c τ n σ q)(k:t τ { DC with nx:=u τ DC } n σ):xR (yk c t e) u τ DC n σ:=AO wx h (λ_=>k) λz=>by cases z
def tU{c:vX}(h:∀q,(∀b,b=ww->q b)->c σ q)(k:u DT σ):nY (yd c t jR) u DT σ:=hX _ h (λz=>by cases z) λ_=>k
def vH{c:vX}(h:∀q,(∀b,b=wx->q b)->c σ q)(k:t { DT with nx:=u DT } σ):nY (yd c t e) u DT σ:=hX _ h (λ_=>k) λz=>by cases z
def Ye{c:vX}(h:∀q,(∀b,b=wx->q b)->c σ q)(k:t DT σ):yd c t e DT σ:=JK _ h (λ_=>k) λz=>by cases z
section
variable{fs:Fs}{fa:List (List D×â)->â}
def WX{a b:Int}(i:0<a)(hb:0<=b){rs}(f:St fs fa a b t rs):∀e∈CG fs fa t rs,0<e.1:=λe c=>by
 have g:=(IL a b t rs).mp f e c;have h:0<=b*(e.2:Nat):=aK0 hb cS;by_cases d:0<e.1
 ·exact d
 ·have:=Int.mul_le_mul_of_nonneg_left (show e.1<=0 by lia) (show 0<=a by lia);rw[QF]at this;lia
def aC6{p:Int×Nat}(b:0<p.1)(a:0<p.2):∃g,p.1=((mB p).1*g:Nat)/\p.2=(mB p).2*g/\0<(mB p).2/\(mB p).1<=p.1.toNat/\(mB p).2<=p.2:=
 ⟨p.1.toNat.gcd p.2,by
  have:p.1=(p.1.toNat:Int):=(eT cS).symm;show p.1=((p.1.toNat / p.1.toNat.gcd p.2*p.1.toNat.gcd p.2:Nat):Int);rw[aBf (Nat.gcd_dvd_left ..)];exact this,(aBf (CW ..)).symm,aTm (aFa _ a) (nO _ a),qX _ _,qX _ _⟩
def Y6{a b:Int}(l:0<a)(hb:0<=b){t:Tr}{rs:List (List D×â)}(m:St fs fa a b t rs)(d:e∈CG fs fa t rs):0<(mB e).2/\(mB e).2<=t.kn/\(mB e).1<=rs.length/\(lw fs fa ((mB e).2:Nat) ((mB e).1:Nat) t rs).2.kn<t.kn:=by
 obtain⟨p,i,q⟩:=yX t rs e d;obtain⟨g,j,k,o,s,u⟩:=aC6 (WX l hb m e d) i;refine⟨o,cS,cS,?_⟩;obtain⟨r,n⟩:=RX ((mB e).2:Nat) ((mB e).1:Nat) t rs;rcases Nat.lt_or_ge (lw fs fa ((mB e).2:Nat) ((mB e).1:Nat) t rs).2.kn t.kn with h | h
 ·exact h
 ·have c:=LM (fs:=fs) (fa:=fa) ((mB e).2:Nat) ((mB e).1:Nat) t rs;rw[n cS]at c;have f:=(IL _ _ t rs).mp c e d;rw[j,k,kG,kG,<- aLk,<- aLk,Int.mul_comm ((mB e).1:Int) ((mB e).2:Int)]at f;exact b8 f (Int.lt_irrefl _)
end
def Uc:kX:=λa Q=>∃fs an fa t rs,a=[fV fs an,iN t,.list (rs.map fH)]/\eS fs an/\FA fs an fa/\jZ fs an t/\t.dep<=12/\t.kn<=12/\Au t=ww/\fS fs an rs/\rs.length<=60/\(∀e∈CG fs fa t rs,0<e.1)/\∀e∈CG fs fa t rs,Q (O9 (mB e))
def Ub:NB:=λa Q=>∃fs an fa T rs,a=[fV fs an,iN T,.list (rs.map fH)]/\eS fs an/\FA fs an fa/\jZ fs an T/\T.dep<=12/\T.kn<=12/\fS fs an rs/\rs.length<=60/\∀l:List yy,l.length<=13->(∀z∈l,z.1.1<=60/\z.1.2<=12/\z.2.kn<=12/\z.2.dep<=12)->Q (l.map yc)
def Im(fs:Fs)(an:List â)(d:Nat)(l:List (List (List D)×â)):Prop:=l.length<=2^d/\∀r∈l,nH fs r.1/\r.2∈an
def vB(a:Nat):NB:=λb Q=>∃fs an t L,b=[fV fs an,iN t,zO L]/\eS fs an/\jZ fs an t/\nH fs L/\t.dep<a/\t.dep<=5/\∀l,Im fs an t.dep l->Q (l.map G1)
def Ug:NB:=vB 6
def Y8{Q:List D->Prop}(h:vB 0 ds Q):False:=by
 obtain⟨_,_,_,_,_,_,_,_,h,_⟩:=h;lia
def Ue:NB:=λa Q=>∃fs an t,a=[fV fs an,iN t]/\eS fs an/\jZ fs an t/\t.dep<=5/\∀l,Im fs an t.dep l->Q (l.map G1)
theorem Ia:∀L,∃p r,(∀l∈p::r,32∉l/\l.length<=L.length/\∀c∈l,c∈L)/\r.length<=L.length/\L=jn 32 (p::r)
|[]=>⟨[],[],λl hl=>by rw[bC.mp hl];simp,aN _,gC⟩
|a::L=>by
 obtain⟨p,r,e,h,f⟩:=Ia L;by_cases g:a=32
 ·subst g;refine⟨[],p::r,λl hl=>?_,by rw[bA,bA];lia,by rw[f];rfl⟩;rcases aO.mp hl with rfl | hl
  ·simp
  ·obtain⟨b,a2,d⟩:=e l hl;exact⟨b,by rw[bA];lia,λc hc=>aH _ (d c hc)⟩
 ·refine⟨a::p,r,λl hl=>?_,by rw[bA];lia,?_⟩
  ·rcases aO.mp hl with rfl | hl
   ·obtain⟨b,a2,d⟩:=e p (aP ..);refine⟨λz=>?_,by rw[bA,bA];lia,λc hc=>?_⟩
    ·rcases aO.mp z with z | z
     ·exact g z.symm
     ·exact b z
    ·rcases aO.mp hc with rfl | hc
     ·exact aP ..
     ·exact aH _ (d c hc)
   ·obtain⟨b,a2,d⟩:=e l (aH _ hl);exact⟨b,by rw[bA];lia,λc hc=>aH _ (d c hc)⟩
  ·rw[f];cases r<;>rfl
structure pL(n:Nat)(x:â):Prop where
 len:x.length<=n
 asc:∀c∈x.cps.toList,c<128
def pL.cd{n:Nat}(h:pL n x):Cd (.str x):=⟨BX λc a=>CV (h.asc c a) cR,aB gC⟩
def GY{n:Nat}(h:pL n x):∃w a,Txt.split x cO=w::a/\a.length<=n/\(∀y∈w::a,pL n y)/\x=Txt.join cO (w::a):=by
 obtain⟨p,r,b,k,g⟩:=Ia x.cps.toList;have m:x.cps.toList.length=x.length:=by simp[h9]
 have d:x=Txt.join cO ((⟨p.toArray⟩:â)::r.map λl=>(⟨l.toArray⟩:â)):=sX (by
  rw[g];show _=(m4 _ _).cps.toList;rw[j5];show _=(y7 ⟨#[32]⟩ _).cps.toList;rw[zR 32,bB,bE,show((λy:â=>y.cps.toList)∘λl:List Nat=>(⟨l.toArray⟩:â))=id from gC,tL])
 have hw:∀y∈(⟨p.toArray⟩:â)::r.map (λl=>(⟨l.toArray⟩:â)),32∉y.cps.toList/\y.cps.toList.length<=x.cps.toList.length/\∀c∈y.cps.toList,c∈x.cps.toList:=λy hy=>by
  rcases aO.mp hy with rfl | hy
  ·exact b p (aP ..)
  ·obtain⟨l,j,rfl⟩:=aR.mp hy;exact b l (aH _ j)
 refine⟨_,_,by rw[d];exact xW 32 cR _ _ λy hy=>(hw y hy).1,by rw[aC];have:=h.len;lia,λy hy=>?_,d⟩;obtain⟨_,a2,f⟩:=hw y hy;have e:y.cps.toList.length=y.length:=by simp[h9]
 exact⟨by have:=h.len;lia,λc i=>h.asc c (f c i)⟩
def qK{n:Nat}(h:pL n x):∃w d,Txt.split x cO=w::d/\d.length<=n/\∀y∈w::d,pL n y:=by
 obtain⟨w,d,a,b,c,_⟩:=GY h;exact⟨w,d,a,b,c⟩
def pL.up{m n:Nat}(h:pL m x)(l:m<=n):pL n x:=⟨aY h.len l,h.asc⟩
def pL.app{m n:Nat}(h:pL m x)(k:pL n y):pL (m+n) (x++y):=⟨by rw[iI];exact lE h.len k.len,λc a=>by
 rw[mR]at a;exact(bR.mp a).elim (h.asc c) (k.asc c)⟩
def pL.cut{n:Nat}(h:pL n x)(a b:Option Int):pL n (Txt.slice x a b):=⟨aY (Txt.slice_le x a b) h.len,λc d=>h.asc c (by
 rw[nI]at d;exact pU (eG d))⟩
def BQ{n:Nat}{x:â}{l:List â}(h:x∈l)(k:(l.all λx=>decide (x.length<=n)&&x.cps.toList.all λc=>decide (c<128))=wx):pL n x:=by
 have:=fK.mp k x h;rw[cU,c7]at this;exact⟨this.1,λc a=>b9 (fK.mp this.2 c a)⟩
def KL{n:Nat}{x:â}(k:(([x]:List â).all λx=>decide (x.length<=n)&&x.cps.toList.all λc=>decide (c<128))=wx):pL n x:=BQ (bC.mpr gC) k
def vQ{s:â}{c:Nat}:∀{a},c∈(Txt.join s a).cps.toList->c∈s.cps.toList\/∃w∈a,c∈w.cps.toList:=λ{a} h=>by
 have e:Txt.join s a=y7 s a:=j5 ..;rw[e]at h;clear e
 induction a with
 |nil=>cases h
 |cons p r d=>
  cases r with
  |nil=>exact .inr ⟨p,aP ..,h⟩
  |cons q r=>
   have h:c∈(p++s++y7 s (q::r)).cps.toList:=h;rw[mR,mR]at h;rcases bR.mp h with h | h
   ·rcases bR.mp h with h | h
    ·exact .inr ⟨p,aP ..,h⟩
    ·exact .inl h
   ·exact(d h).imp_right λ⟨w,hw,b⟩=>⟨w,aH _ hw,b⟩
theorem ZV:∀p r,(jn 32 (p::r)).length+1=((p::r).map (·.length)).sum+(p::r).length
|p,[]=>rfl
|p,q::r=>by
 show(p++32::jn 32 (q::r)).length+1=_;have:=ZV q r;rw[aW,bA,bB,dY,bA];lia
def M9{b:List â}{n m:Nat}(h:∀w∈b,pL n w)(d:(b.map (·.length)).sum+b.length<=m):pL m (Txt.join cO b):=by
 have e:cO.length=1:=by decide +kernel
 have:=xJ cO b;rw[e,yN]at this;refine⟨cS,λc a=>?_⟩;rcases vQ a with a | ⟨w,hw,a⟩
 ·exact(by decide +kernel:∀c∈cO.cps.toList,c<128) c a
 ·exact(h w hw).asc c a
def GX{n:Nat}(h:pL n x):((Txt.split x cO).map (·.length)).sum+(Txt.split x cO).length<=n+1:=by
 obtain⟨w,b,a,_,_,e⟩:=GY h;have c:=d6 (λz:â=>z.cps.toList.length) e;rw[mE,bB]at c;have d:=ZV w.cps.toList (b.map (·.cps.toList));rw[<- c,<- bB (f:=λz:â=>z.cps.toList),bE,aC]at d;have g:∀y:â,y.cps.toList.length=y.length:=λy=>by simp[h9]
 have i:((w::b).map (jQ∘λz:â=>z.cps.toList))=(w::b).map (·.length):=fX λy _=>g y;rw[i,g]at d;have:=h.len;rw[a];lia
theorem QP:∀(l:List Nat)(a:Nat),(l.take a).sum+(l.drop (a+1)).sum<=l.sum
|[],a=>by simp
|b::l,0=>by simp
|b::l,a+1=>by
 have:=QP l a;rw[List.take_succ_cons,List.drop_succ_cons,dY,dY];lia
def M8{n:Nat}(h:pL n x)(d:pL 10 o){a:Nat}(g:a<(Txt.split x cO).length):((((Txt.split x cO).take a++[o]++(Txt.split x cO).drop (a+1)).map (·.length)).sum+((Txt.split x cO).take a++[o]++(Txt.split x cO).drop (a+1)).length<=n+20)/\pL (n+20) (Txt.join cO ((Txt.split x cO).take a++[o]++(Txt.split x cO).drop (a+1))):=by
 have s:=GX h;have f:=d.len
 have k:(((Txt.split x cO).take a++[o]++(Txt.split x cO).drop (a+1)).map (·.length)).sum+((Txt.split x cO).take a++[o]++(Txt.split x cO).drop (a+1)).length<=n+20:=by
  have c:=QP ((Txt.split x cO).map (·.length)) a;rw[<- aKx,<- aKy]at c;rw[bV,bV,wI,wI,aW,aW,bU,eI];show _+(o.length+0)+_+(_+1+_)<=_;lia
 refine⟨k,M9 (n:=n+10) (λw hw=>?_) k⟩;obtain⟨i,j,e,_,b⟩:=qK h;rw[e]at hw;rcases bR.mp hw with hw | hw
 ·rcases bR.mp hw with hw | hw
  ·exact(b w (eG hw)).up cS
  ·rw[bC.mp hw];exact d.up cS
 ·exact(b w (pU hw)).up cS
noncomputable def T3(a:List â):D:=.tuple (.tuple ((fY a wy (wz (-1))).map uR)::(fY a (wz (-1)) wy).map aK)
def Uk:kX:=λb Q=>∃a,b=[.list (a.map aK)]/\a.length<=1000/\Q (T3 a)
noncomputable def tE(fs:Fs)(a:List â):Bool:=iM fs (.tuple (a.map uR))
noncomputable def F8(fs:Fs)(an:List â)(a:List â):Bool:=zS fs an (T3 a)
def D5(v:List â)(a:â):T3 (v++[a])=.tuple [.tuple (v.map uR),.str a]:=by
 unfold T3;rw[FF,ZQ];rfl
def D7(fs:Fs)(an v:List â)(a:â):F8 fs an (v++[a])=(tE fs v&&decide (a∈an)):=by
 unfold F8;rw[D5];rfl
def LQ{fs}(h:F8 fs an ws=wx):∃r,T3 ws=fH r/\kY fs an r:=by
 rcases DB ws with rfl | ⟨v,a,rfl⟩
 ·cases h
 ·rw[D7,cU]at h;exact⟨(v.map uR,a),D5 v a,h.1,b9 h.2⟩
theorem SW:∀{l},(∀x∈l,mK x=wx)->eB l=wx
|[],_=>rfl
|a::l,h=>by
 show(mK a&&eB l)=wx;rw[h a (aP ..),SW λx b=>h x (aH _ b)];rfl
def QJ{n:Nat}(h:pL n w):mK (uR w)=true:=by
 unfold uR;split
 ·rfl
 ·exact h.cd.lay
def QK(w:â):(uR w).depth<=1:=by
 unfold uR;split<;>exact aB gC
def Hx(b:∀x∈ts,mK x=wx)(c:∀x∈ts,x.depth<=10):mK (.tuple ts)=wx/\(dB ts).depth<=11:=by
 refine⟨SW b,?_⟩;show fG ts+1<=11
 have:∀l:List D,(∀x∈l,x.depth<=10)->fG l<=10:=λl=>by
  induction l with
  |nil=>exactλ_=>cP _
  |cons a l e=>
   intro h;show max a.depth (fG l)<=10;have:=h a (aP ..);have:=e λx d=>h x (aH _ d);lia
 have:=this ts c;lia
def FI{ws:List â}{n:Nat}(h:∀w∈ws,pL n w):Cd (.tuple (ws.map uR)):=by
 obtain⟨a,b⟩:=Hx (ts:=ws.map uR) (λx c=>by
  obtain⟨w,hw,rfl⟩:=aR.mp c;exact QJ (h w hw)) λx c=>by
  obtain⟨w,hw,rfl⟩:=aR.mp c;exact aY (QK w) cR
 exact⟨a,cS⟩
def SM{n:Nat}(h:∀w∈ws,pL n w):Cd (T3 ws):=by
 rcases DB ws with rfl | ⟨v,a,rfl⟩
 ·exact⟨gC,aB gC⟩
 ·rw[D5];refine⟨?_,?_⟩
  ·show(_&&(_&&wx))=wx;rw[(FI (ws:=v) (n:=n) λw hw=>h w (dZ _ hw)).lay,((h a eH).cd).lay];rfl
  ·have e:(dB (v.map uR)).depth<=11:=(Hx (ts:=v.map uR) (λx b=>by
    obtain⟨w,hw,rfl⟩:=aR.mp b;exact QJ (h w (dZ _ hw))) λx b=>by
    obtain⟨w,hw,rfl⟩:=aR.mp b;exact aY (QK w) cR).2
   show max (dB (v.map uR)).depth (max 0 0)+1<=60;lia
def Xf{f:â×List â}(h:("-":â)∉f.2)(w:â):JM f (uR w)=(decide (w="-")||decide (w∈f.2)):=by
 unfold uR;by_cases e:w="-"
 ·rw[a9 e,b7 e];rfl
 ·rw[a8 e,c6 e];rfl
def yr(x:D):Bool:=match x with | .tuple [.str w,.tuple [_,.tuple vs]]=>decide (w="-")||decide (aK w∈vs) | _=>ww
def Y0(w:â)(f:â×List â):yr (.tuple [.str w,lG f])=(decide (w="-")||decide (w∈f.2)):=by
 show(decide (w="-")||decide (aK w∈f.2.map aK))=_;congr 1;rw[e4];constructor
 ·intro h;obtain⟨z,a,e⟩:=aR.mp h;cases e;exact a
 ·exactλh=>aR.mpr ⟨w,h,gC⟩
theorem RM{an:List â}:∀{fs:Fs}(_:∀f∈fs,("-":â)∉f.2)(a:List â),((uP (a.map aK) (fs.map lG)).map yr).all id=(fs.zip (a.map uR)).all λp=>JM p.1 p.2
|[],_,a=>by cases a<;>rfl
|f::fs,_,[]=>rfl
|f::fs,h,w::a=>by
 show(yr (.tuple [.str w,lG f])&&((uP (a.map aK) (fs.map lG)).map yr).all id)=(JM f (uR w)&&(fs.zip (a.map uR)).all λp=>JM p.1 p.2);rw[RM (an:=an) (λg b=>h g (aH _ b)) a,Y0,Xf (h f (aP ..))]
def Xd{fs}(F:eS fs an):∀f∈fs,("-":â)∉f.2:=λf a b=>(vN (F.vals a _ b)).1 gC
def Zx(v:List â)(a:â):atI ((v++[a]).map aK) (-1)=wz (.str a):=M7 (by
 rw[aC,aW,aQ];show((v++[a])[v.length+1-1]?).map aK=_;rw[Nat.add_sub_cancel,eM (aN _),aS5];rfl)
def R7(z:â)(c:Nat):Txt.contains z ⟨#[c]⟩=decide (0<=Txt.find z ⟨#[c]⟩):=by
 unfold Txt.contains Txt.find
 cases i5 z ⟨#[c]⟩ 0 z.length 1 with
 |nil=>rfl
 |cons i r=>
  have:decide ((0:Int)<=(i:Int))=true:=b7 cS;show wx=decide ((0:Int)<=(i:Int));rw[this]
def OS(h:iV (("out":â)::ws)=wx):∃x,ws=[x]/\uL x=true:=by
 have c:("out":â)∉(["tree","rows","rules","steps"]:List â):=by decide +kernel
 unfold iV at h;rw[fR,a8 c,a9 gC,oH,cU,c7]at h;obtain⟨a,b⟩:=h;rcases ws with _ | ⟨x,_ | ⟨y,r⟩⟩
 ·cases a
 ·exact⟨x,gC,b⟩
 ·simp at a
def yF(h:iV (("turn":â)::ws)=wx):∃x r,ws=x::r/\uL x=true:=by
 have c:("turn":â)∉(["tree","rows","rules","steps"]:List â):=by decide +kernel
 have d:("turn":â)≠"out":=by decide +kernel
 unfold iV at h;rw[fR,a8 c,a8 d,a9 gC,oH,cU,c7]at h;obtain⟨a,b⟩:=h;rcases ws with _ | ⟨x,r⟩
 ·simp at a
 ·exact⟨x,r,gC,b⟩
def LJ{w:â}{c:Nat}(h:w.cps.toList=c::l):Txt.startswith w "0"=decide (c=48):=by
 have a:w.cps.toList.length=w.length:=by simp[h9]
 rw[h,bA]at a;unfold Txt.startswith;have e:("0":â)=⟨#[48]⟩:=by decide +kernel
 rw[e,AU,h];have:decide (0+(⟨#[48]⟩:â).length<=w.length)=true:=b7 (by show 0+1<=w.length;lia);rw[this,iY,dX,c7];simp
def L5{w:â}{c:Nat}(h:w.cps.toList=c::l):(w="0")↔(c=48/\l=[]):=by
 have e:("0":â).cps.toList=[48]:=by decide +kernel
 constructor
 ·intro z;rw[z,e]at h;injection h with a b
  exact⟨a.symm,b.symm⟩
 ·rintro⟨rfl,rfl⟩;exact sX (by rw[h,e])
def W8(c:Nat):decide ((⟨#[c]⟩:â)="0")=decide (c=48):=by
 rw[e4,L5 rfl];simp
noncomputable def AY(e:Nat×Rw):Str:=Txt.join cO (nE (e.1:Nat)::(e.2.1.map F0++[e.2.2]))
noncomputable def rE(a:List (Nat×Rw)):Str:=if a=[]then "none" else Txt.join ", " (a.map AY)
def D1{fs}(F:eS fs an){b:List (Nat×Rw)}(c:fS fs an (b.map (·.2)))(h:∀e∈b,e.1<=60):∀z∈b.map AY,z.length<=80:=λz k=>by
 have d:cO.length=1:=by decide +kernel
 obtain⟨e,a,rfl⟩:=aR.mp k;have l:=(mN e.1 (by have:=h e a;lia)).1;obtain⟨w,n,f,hw,g⟩:=sP F (c e.2 (aR.mpr ⟨e,a,gC⟩));have m:=(sQ F (c e.2 (aR.mpr ⟨e,a,gC⟩))).2;have i:=oN λx j=>(hw x j).2;refine aY (xJ cO _) ?_;rw[d,f,bB,dY,bA];rw[bA]at i |-
 lia
def T1{fs}(F:eS fs an){a:List (Nat×Rw)}(d:fS fs an (a.map (·.2)))(f:∀e∈a,e.1<=60)(h:a.length<=60):(rE a).length<=90000:=by
 have c:(", ":â).length=2/\("none":â).length<=90000:=by decide +kernel
 unfold rE;split
 ·exact c.2
 ·have g:=oN (D1 F d f);have b:=xJ ", " (a.map AY);rw[c.1]at b;rw[aC]at g b;exact aY b cS
structure CP(fs:Fs)(an:List â)(T:Bk)(ks:List (Nat×Rw))(t:Tr)(f:Nat)(n:KR):Prop where
 F:eS fs an
 fm:T.fm=fV fs an
 dp:T.dp=2
 ls:T.ls=1
 kv:n.kvs=qY ks
 ok:fS fs an (ks.map (·.2))
 st:n.st=iN t
 tr:jZ fs an t
 dep:t.dep<=2
 fol:n.fol=(f:Nat)
 lt:∀e∈ks,e.1<f
 few:ks.length<=f
 f50:f<=50
def wh(a:List â):Nat:=((intText? (a.getD 1 "")).getD 0).toNat
def kD(fs:Fs)(an:List â)(b:List (Nat×Rw))(a:List â):Bool:=
 if a.headD ""="put" then F8 fs an a.tail else if a.headD ""="judge"\/a.headD ""="why" then tE fs a.tail
 else if a.headD ""="out" then(uS (wh a) b).isSome else if a.headD ""="turn" then(uS (wh a) b).isSome&&F8 fs an a.tail.tail else wx
def K8{k:Nat}(h:intText? x=wz (k:Int)):wh (w::x::r)=k:=by
 show((intText? x).getD 0).toNat=k;rw[h];rfl
def zL{x:â}(h:uL x=wx):∃k:Nat,intText? x=wz (k:Int)/\x.length<=9:=by
 unfold uL at h;rw[cU,cU,cU,c7,c7]at h;obtain⟨⟨⟨d,f⟩,g⟩,_⟩:=h;have a:x.cps.toList.length=x.length:=by simp[h9]
 refine⟨_,intText_digits (λc i=>?_) (λz=>by rw[z]at a;rw[<- a]at d;cases d) cS,f⟩;have:=fK.mp g _ (aR.mpr ⟨c,i,gC⟩);rw[O4]at this;have b:=b9 this;have e:("0123456789":â).cps.toList=[48,49,50,51,52,53,54,55,56,57]:=by decide +kernel
 rw[e]at b;simp only[aO,cG,f6]at b;rcases b with rfl | rfl | rfl | rfl | rfl | rfl | rfl | rfl | rfl | rfl<;>decide
def HE{k:Nat}(h:uS k ks=wy):qZ (qY ks) (k:Nat)=none:=by
 unfold uS at h;unfold qZ qY;rw[K3,V4]at h;rw[K3,V4];intro x b;obtain⟨e,a,rfl⟩:=aR.mp b;have:=h e a;simp only[c7]at this |-
 lia
def J5(fs:Fs)(an:List â)(a:List (Nat×Rw))(r:List â):kD fs an a (("put":â)::r)=F8 fs an r:=by
 unfold kD;rw[fR,a9 gC,oH]
def O8(fs:Fs)(an:List â)(b:List (Nat×Rw)){x:â}{k:Nat}(h:intText? x=wz (k:Int)):kD fs an b (("out":â)::x::r)=(uS k b).isSome:=by
 have a:("out":â)≠"put"/\¬(("out":â)="judge"\/("out":â)="why"):=by decide +kernel
 unfold kD;rw[fR,a8 a.1,a8 a.2,a9 gC,K8 h]
def O7(fs:Fs)(an:List â)(b:List (Nat×Rw)){x:â}{k:Nat}(h:intText? x=wz (k:Int)):kD fs an b (("turn":â)::x::r)=((uS k b).isSome&&F8 fs an r):=by
 have a:("turn":â)≠"put"/\¬(("turn":â)="judge"\/("turn":â)="why")/\("turn":â)≠"out":=by decide +kernel
 unfold kD;rw[fR,a8 a.1,a8 a.2.1,a8 a.2.2,a9 gC,K8 h];rfl
def BF(fs:Fs)(an:List â)(b:List (Nat×Rw)){w:â}(h:w="judge"\/w="why")(r:List â):kD fs an b (w::r)=tE fs r:=by
 have a:w≠"put":=by rcases h with rfl | rfl<;>decide +kernel
 unfold kD;rw[fR,a8 a,a9 h,oH]
def E3(fs:Fs)(an:List â)(b:List (Nat×Rw)){w:â}(h:w∈(["tree","rows","rules","steps"]:List â))(r:List â):kD fs an b (w::r)=true:=by
 have a:w≠"put"/\¬(w="judge"\/w="why")/\w≠"out"/\w≠"turn":=by
  simp only[aO,cG,f6]at h;rcases h with rfl | rfl | rfl | rfl<;>decide +kernel
 unfold kD;rw[fR,a8 a.1,a8 a.2.1,a8 a.2.2.1,a8 a.2.2.2]
def A9{w:â}(h:iV (w::r)=wx):(w∈(["tree","rows","rules","steps"]:List â)/\r=[])\/(w="judge"\/w="why")\/(w="put"\/w="out"\/w="turn"):=by
 unfold iV at h;rw[fR]at h;by_cases a:w∈(["tree","rows","rules","steps"]:List â)
 ·rw[a9 a,c7]at h
  cases r with
  |nil=>exact .inl ⟨a,gC⟩
  |cons _ _=>simp at h
 ·rw[a8 a]at h;by_cases b:w="out"
  ·exact .inr (.inr (.inr (.inl b)))
  ·rw[a8 b]at h;by_cases c:w="turn"
   ·exact .inr (.inr (.inr (.inr c)))
   ·rw[a8 c,c7]at h;simp only[aO,cG,f6]at h;rcases h with h | h | h
    ·exact .inr (.inr (.inl h))
    ·exact .inr (.inl (.inl h))
    ·exact .inr (.inl (.inr h))
def B8(fs:Fs)(an:List â)(c:List (Nat×Rw))(t:Tr)(f:Nat)(n:KR)(a:List â)(d:KR)(z:â):Prop:=
 (a.headD ""="put"->∃r b,kY fs an r/\Gr fs an 1 2 ((c++[(f,r)]).map (·.2)) b/\d=⟨qY (c++[(f,r)]),((f+1:Nat):Int),iN b⟩/\z=nE (f:Nat)) /\
 (a.headD ""="out"->∃b,Gr fs an 1 2 ((lH (wh a) c).map (·.2)) b/\d=⟨qY (lH (wh a) c),n.fol,iN b⟩/\z="ok") /\
 (a.headD ""="turn"->∃r b,kY fs an r/\Gr fs an 1 2 ((pC (wh a) r c).map (·.2)) b/\d=⟨qY (pC (wh a) r c),n.fol,iN b⟩/\z="ok") /\
 (a.headD ""≠"put"->a.headD ""≠"out"->a.headD ""≠"turn"->d=n) /\
 (a=(["tree"]:List â)->z=lM t)/\(a=(["rows"]:List â)->z=rE c)/\z.length<=90000
section
variable{fs:Fs}{an:List â}{a:List (Nat×Rw)}{t b:Tr}{f:Nat}{n:KR}
def aB2(c:kY fs an r)(e:Gr fs an 1 2 ((a++[(f,r)]).map (·.2)) b)(g:f<=50):B8 fs an a t f n (("put":â)::v) ⟨qY (a++[(f,r)]),((f+1:Nat):Int),iN b⟩ (nE (f:Nat)):=by
 have d:("put":â)≠"out"/\("put":â)≠"turn"/\("put":â)≠"tree"/\("put":â)≠"rows":=by decide +kernel
 have h:=(mN f cS).1;refine⟨λ_=>⟨r,b,c,e,gC,gC⟩,λz=>b8 z d.1,λz=>b8 z d.2.1,λz=>b8 gC z,λz=>b8 (e9 z).1 d.2.2.1,λz=>b8 (e9 z).1 d.2.2.2,cS⟩
def aB1(c:Gr fs an 1 2 ((lH (wh (("out":â)::v)) a).map (·.2)) b):B8 fs an a t f n (("out":â)::v) ⟨qY (lH (wh (("out":â)::v)) a),n.fol,iN b⟩ "ok":=by
 have d:("out":â)≠"put"/\("out":â)≠"turn"/\("out":â)≠"tree"/\("out":â)≠"rows"/\("ok":â).length<=90000:=by decide +kernel
 refine⟨λz=>b8 z d.1,λ_=>⟨b,c,gC,gC⟩,λz=>b8 z d.2.1,λ_ z=>b8 gC z,λz=>b8 (e9 z).1 d.2.2.1,λz=>b8 (e9 z).1 d.2.2.2.1,d.2.2.2.2⟩
def aB0(c:kY fs an r)(e:Gr fs an 1 2 ((pC (wh (("turn":â)::v)) r a).map (·.2)) b):B8 fs an a t f n (("turn":â)::v) ⟨qY (pC (wh (("turn":â)::v)) r a),n.fol,iN b⟩ "ok":=by
 have d:("turn":â)≠"put"/\("turn":â)≠"out"/\("turn":â)≠"tree"/\("turn":â)≠"rows"/\("ok":â).length<=90000:=by decide +kernel
 refine⟨λz=>b8 z d.1,λz=>b8 z d.2.1,λ_=>⟨r,b,c,e,gC,gC⟩,λ_ _ z=>b8 gC z,λz=>b8 (e9 z).1 d.2.2.1,λz=>b8 (e9 z).1 d.2.2.2.1,d.2.2.2.2⟩
def DR{w z:â}(h:w∈(["tree","rows","rules","steps"]:List â)\/w="judge"\/w="why")(c:w="tree"->z=lM t)(e:w="rows"->z=rE a)(g:z.length<=90000):B8 fs an a t f n (w::v) n z:=by
 have d:w≠"put"/\w≠"out"/\w≠"turn":=by
  simp only[aO,cG,f6]at h;rcases h with(rfl | rfl | rfl | rfl) | rfl | rfl<;>decide +kernel
 exact⟨λz=>b8 z d.1,λz=>b8 z d.2.1,λz=>b8 z d.2.2,λ_ _ _=>rfl,λz=>c (e9 z).1,λz=>e (e9 z).1,g⟩
end
def Um:kX:=λb Q=>∃fs an a,b=[.list (EH a)]/\eS fs an/\fS fs an (a.map (·.2))/\(∀e∈a,e.1<=60)/\a.length<=60/\Q (.str (rE a))
def La(c b:à):wY (lO b):=λe n d Q=>∃fs an T a t f w,e=mH T/\d=[FZ c T,.str w]/\CP fs an T a t f n/\w∈(["tree","rows","rules","steps"]:List â) /\
 ∀z,(w="tree"->z=lM t)->(w="rows"->z=rE a)->z.length<=90000->Q n (.str z)
theorem DO{fs}(F:eS fs an)(a:iM fs (.tuple cs)=wx):∀{t},jZ fs an t->∀x∈uQ fs t cs,∃k n v s,x=.tuple [.tuple [.str k,.str n,.str v],.str s]/\k.length<=8/\n.length<=8/\v.length<=8/\s.length<=8
|.say _,_,x,hx=>by cases hx
|.ask k n v s y m,ht,x,hx=>by
 have hw:=oK F (.ask k n v s y m) ht;have mem:=λz b=>(vN (hw z (bR.mpr (.inl (aH _ b))))).2.2;rcases aO.mp hx with rfl | hx
 ·refine⟨k,n,v,_,gC,mem k eH,mem n eH,mem v eH,?_⟩;rcases IR F ht.1 ht.2.1 a with e | e<;>rw[e]<;>decide +kernel
 ·by_cases e:gD fs k n v s cs="yes"
  ·rw[a9 e]at hx;exact DO F a ht.2.2.1 x hx
  ·rw[a8 e]at hx;exact DO F a ht.2.2.2 x hx
theorem KO{fs}(F:eS fs an)(b:List D):∀{t},jZ fs an t->(qR fs t b).length<=8
|.say a,ht=>(vN (F.an.2.1 _ ht)).2.2
|.ask k n v s y m,ht=>by
 show(if gD fs k n v s b="yes" then qR fs y b else qR fs m b).length<=8;split
 ·exact KO F b ht.2.2.1
 ·exact KO F b ht.2.2.2
def LB(x:D):Str:=match x with | .tuple [.tuple [.str k,.str n,.str v],.str s]=>Txt.join cO [n,k,v,s] | _=>""
noncomputable def Vk(k n v s:â):Str:=Txt.join cO [n,k,v,s]
def Uo:kX:=λa Q=>∃k n v s,a=[.tuple [.str k,.str n,.str v],.str s]/\k.length<=8/\n.length<=8/\v.length<=8/\s.length<=8/\Q (.str (Vk k n v s))
def Lb(c b:à):wY (lO b):=λg n d Q=>∃fs an T e t f w a,g=mH T/\d=[FZ c T,.str w,.tuple (a.map uR)]/\CP fs an T e t f n/\(∀y∈a,pL 1000 y)/\tE fs a=wx /\
 ∀z,z.length<=90000->Q n (.str z)
def Kz(e d:à):wY (lO d):=λh n g Q=>∃fs an T b t f w a,h=mH T/\g=[FZ e T,.list ((w::a).map aK)]/\CP fs an T b t f n/\(w="put"\/w="out"\/w="turn")/\a.length<=1000/\(∀y∈a,pL 1000 y)/\iV (w::a)=wx/\kD fs an b (w::a)=wx /\
 ∀c z,B8 fs an b t f n (w::a) c z->Q c (.str z)
def Ky(d c:à):wY (lO c):=λg n e Q=>∃fs an T a t f x,g=mH T/\e=[FZ d T,.str x]/\CP fs an T a t f n/\pL 1000 x/\iV (Txt.split x cO)=wx/\kD fs an a (Txt.split x cO)=wx /\
 ∀b z,B8 fs an a t f n (Txt.split x cO) b z->Q b (.str z)
def AW(c b e i h:à):wY (lO b):=λg n f d=>∃fs an T w a,g=mH T/\f=[FZ c T,.str w,.tuple (a.map uR)]/\eS fs an/\T.fm=fV fs an/\(∀y∈a,pL 1000 y)/\tE fs a=ww/\d n (xM e)
def W6(e d f g j:à):wY (lO d):=λi n h b=>∃fs an T c w a,i=mH T/\h=[FZ e T,.list ((w::a).map aK)]/\eS fs an/\T.fm=fV fs an/\n.kvs=qY c/\(w="put"\/w="out"\/w="turn")/\a.length<=1000/\(∀y∈a,pL 1000 y)/\iV (w::a)=wx/\kD fs an c (w::a)=ww/\b n (xM f)/\b n (xM g)
def aCs(d c f g e:à):wY (lO c):=λi n h a=>∃fs an T b x,i=mH T/\h=[FZ d T,.str x]/\eS fs an/\T.fm=fV fs an/\n.kvs=qY b/\pL 1000 x /\
 ((iV (Txt.split x cO)=ww/\a n (xM e))\/(iV (Txt.split x cO)=wx/\kD fs an b (Txt.split x cO)=ww/\a n (xM f)/\a n (xM g)))
def rD(f C b h g:à):wY (lO C):=λe n c a=>∃fs an T d,e=mH T/\c=[mH T,d]/\eS fs an/\T.fm=fV fs an/\Cd d/\zS fs an d=ww/\a n (xM b)
def pD(e C g b f:à):wY (lO C):=λd n c a=>∃T j,d=mH T/\c=[mH T,.int j]/\qZ n.kvs j=wy/\a n (xM b)
def aCt(a C c d b:à):wY (lO C):=rD a C c d b
def aCu(a C c d b:à):wY (lO C):=pD a C c d b
def W5(h C b c i:à):wY (lO C):=λg n f a=>∃fs an T j d,g=mH T/\f=[mH T,.int j,d]/\eS fs an/\T.fm=fV fs an/\Cd d/\((qZ n.kvs j=wy/\a n (xM c))\/(∃e,qZ n.kvs j=wz e/\zS fs an d=ww/\a n (xM b)))
def W7(d c:à):wY (lO c):=λg n e Q=>∃fs an T a t f x,g=mH T/\e=[FZ d T,.str x]/\CP fs an T a t f n/\pL 1000 x /\
 (iV (Txt.split x cO)=ww->Q n (.str "line"))/\(iV (Txt.split x cO)=wx->kD fs an a (Txt.split x cO)=ww->Q n (.str "other")) /\
 (iV (Txt.split x cO)=wx->kD fs an a (Txt.split x cO)=wx->∀b z,B8 fs an a t f n (Txt.split x cO) b z->Q b (.str ("told "++z)))
def Ux:kX:=Gz
def Uy:kX:=λa Q=>∃x,a=[.str x]/\pL 1000 x/\Q (.bool (iV (Txt.split x cO)))
def Uz:kX:=λb Q=>∃fs an a,b=[fV fs an,.list (a.map aK)]/\eS fs an/\a.length<=1001/\Q (.bool (tE fs a))
def Va:kX:=λb Q=>∃fs an a,b=[fV fs an,.list (a.map aK)]/\eS fs an/\a.length<=1001/\Q (.bool (F8 fs an a))
noncomputable def wV(a:List (Nat×Rw)):List (Int×D):=a.map λe=>((e.1:Int),.bool wx)
def N0(x z:â):Txt.startswith (x++z) x=true:=by
 have e:x.cps.toList.length=x.length:=by simp[h9]
 unfold Txt.startswith;rw[StrLaws.subAt_eq,mR,iI,rP,<- e,List.take_left,b7 cS];simp
def WL(k:Nat):qZ (wV ks) (k:Nat)=(uS k ks).map λ_=>sC true:=by
 unfold qZ wV uS;rw[aHm,aBp,aBp]
 have:((λe:Int×D=>decide (e.1=(k:Nat)))∘λe:Nat×Rw=>((e.1:Int),sC wx))=λe=>decide (e.1=k):=funext λe=>by
  show decide ((e.1:Int)=(k:Int))=_;rw[e4];lia
 rw[this];rfl
def Lm{f:Nat}(h:∀e∈ks,e.1<f):yA (wV ks) (f:Nat) (.bool wx)=wV ks++[((f:Int),sC wx)]:=by
 unfold yA;rw[a8];intro z;obtain⟨x,a,e⟩:=pN.mp z;obtain⟨y,b,rfl⟩:=aR.mp a;have:=h y b;have:=b9 e;lia
def YP(a:List (Nat×Rw))(f:Nat)(r:Rw):wV a++[((f:Int),sC wx)]=wV (a++[(f,r)]):=by
 unfold wV;rw[bV];rfl
def Ln(k:Nat)(r:Rw)(a:List (Nat×Rw)):wV (pC k r a)=wV a:=by
 unfold wV pC;rw[bE];apply fX;intro e _;show((((if e.1=k then(e.1,r)else e):Nat×Rw).1:Int),_)=_;split
 ·rfl
 ·rfl
def aBz(k:Nat)(a:List (Nat×Rw)):xO (wV a) (k:Nat)=wV (lH k a):=by
 unfold xO wV lH;rw[qG];congr 1;apply oI;intro e _;show decide ((e.1:Int)≠(k:Int))=_;rw[e4];lia
def yp(fs:Fs)(an:List â)(b:List (Nat×Rw))(n:KP)(a:List â):KP:=
 if kD fs an b a=ww then n else if a.headD ""="put" then⟨n.kvs++[(n.nxt,.bool wx)],n.nxt+1⟩else if a.headD ""="out" then⟨xO n.kvs (wh a:Nat),n.nxt⟩else n
def Vu:wY FY:=λc n b Q=>∃fs an T a f x y,c=IN T/\b=[fV fs an,IN T,.str x,.str y]/\eS fs an/\pL 1000 x/\n.kvs=wV a/\n.nxt=(f:Nat)/\a.length<=50/\f<=50/\(∀e∈a,e.1<f)/\iV (Txt.split x cO)=wx /\
 (kD fs an a (Txt.split x cO)=ww->y="other")/\(kD fs an a (Txt.split x cO)=wx->∃z,y="told "++z/\((Txt.split x cO).headD ""="put"->z=nE (f:Nat))/\((Txt.split x cO).headD ""="out"\/(Txt.split x cO).headD ""="turn"->z="ok")) /\
 Q (yp fs an a n (Txt.split x cO)) (.bool wx)
def SQ{l:List â}{r:Int}(a:0<=r)(b:r<(l.length:Int)):∃y∈l,atI (l.map aK) r=wz (.str y):=by
 obtain⟨k,rfl⟩:=uV a;have hk:k<l.length:=by lia
 exact⟨l[k],iU hk,L2.eR (by rw[aQ,aJ hk];rfl)⟩
def OI{z:â}(b:uW z=wx):∀c∈z.cps.toList,c<128:=λc a=>(by decide +kernel:∀c∈iQ.cps.toList,c<128) c ((C9 b).2.2 c a)
def QY{fs}(F:eS fs an){r:Rw}(h:kY fs an r){w:â}(hw:w∈r.1.map F0++[r.2]):∀c∈w.cps.toList,c<128:=λc a=>by
 rcases bR.mp hw with hw | hw
 ·obtain⟨x,b,rfl⟩:=aR.mp hw;rcases vU F h.1 x b with rfl | ⟨z,d,rfl⟩
  ·exact(by decide +kernel:∀c∈("-":â).cps.toList,c<128) c a
  ·exact OI d c a
 ·rw[bC.mp hw]at a;exact OI (F.an.2.1 _ h.2) c a
def PR:∀c∈cO.cps.toList,c<128:=by decide +kernel
def SU{fs}(F:eS fs an)(h:kY fs an r):pL 60 (IX r):=by
 refine⟨(sQ F h).1,λc a=>?_⟩;rcases vQ a with a | ⟨w,hw,a⟩
 ·exact PR c a
 ·exact QY F h hw c a
def aDq:∀k,k<61->∀c∈(nE (k:Nat)).cps.toList,c<128:=by decide +kernel
def T2{fs}(F:eS fs an){b:List (Nat×Rw)}(g:fS fs an (b.map (·.2)))(h:∀e∈b,e.1<=60):∀c∈(rE b).cps.toList,c<128:=λc a=>by
 have d:(∀c∈("none":â).cps.toList,c<128)/\∀c∈(", ":â).cps.toList,c<128:=by decide +kernel
 unfold rE at a;split at a
 ·exact d.1 c a
 ·rcases vQ a with a | ⟨w,hw,a⟩
  ·exact d.2 c a
  ·obtain⟨e,f,rfl⟩:=aR.mp hw;rcases vQ a with a | ⟨w,hw,a⟩
   ·exact PR c a
   ·rcases aO.mp hw with rfl | hw
    ·exact aDq _ (Nat.lt_succ_of_le (h e f)) c a
    ·exact QY F (g e.2 (aR.mpr ⟨e,f,gC⟩)) hw c a
def N1{fs}(F:eS fs an)(b:jZ fs an t):∀c∈(lM t).cps.toList,c<128:=λc a=>by
 rcases vQ a with a | ⟨w,hw,a⟩
 ·exact PR c a
 ·exact OI (oK F t b w hw) c a
def LC{x:â}(h:∀c∈x.cps.toList,c<128):mK (.str ("told "++x))=true:=
 (pL.cd ((KL (n:=5) cL).app ⟨aN _,h⟩)).lay
def Wl(a b:â):dA (.list [.str a,.str b]) (.list [.str a,.str b])=true:=by
 show((a==a)&&((b==b)&&wx))=wx;rw[ai,ai];rfl
def Vv:kX:=λa Q=>∃ns fs an,a=[jY ns,fV fs an]/\ns.length<=63/\eS fs an/\∀x,pL 100 x->Q (.str x)
def Vw:kX:=λa Q=>∃ns x m,a=[jY ns,.str x]/\ns.length<=63/\pL m x/\m<=900/\∀y,pL (m+20) y->Q (.str y)
def Xx(w:â)(h:32∉w.cps.toList):Txt.split w cO=[w]:=xW 32 cR w [] λx a=>by rw[bC.mp a];exact h
def XV{fs}(F:eS fs an)(a:List (Nat×Rw)){r:Rw}(h:kY fs an r):kD fs an a (("put":â)::(r.1.map F0++[r.2]))=true:=by
 rw[J5,D7,b7 h.2,K5];unfold tE;rw[Hg (vU F h.1)];exact h.1
def XU(r:List â):iV (("put":â)::r)=true:=by
 have d:("put":â)∉(["tree","rows","rules","steps"]:List â)/\("put":â)≠"out"/\("put":â)≠"turn"/\("put":â)∈(["put","judge","why"]:List â):=by decide +kernel
 unfold iV;rw[fR,a8 d.1,a8 d.2.1,a8 d.2.2.1,b7 d.2.2.2]
def QM{z w:â}(h:w.cps.toList[0]?≠wz 116):("told ":â)++z≠w:=λe=>h (by
 rw[<- e,mR];have:("told ":â).cps.toList=[116,111,108,100,32]:=by decide +kernel
 rw[this];rfl)
section
variable{fs:Fs}{an:List â}{b c:à}{T:Bk}{a:List (Nat×Rw)}{t:Tr}{f:Nat}{n:KR}{Q:KR->D->Prop}
def zB{w:â}(hw:w∈(["rows","tree"]:List â))(W:CP fs an T a t f n)(h:∀z,(w="rows"->z=rE a)->(w="tree"->z=lM t)->Q n (.str ("told "++z))):W7 b c (mH T) n [FZ b T,.str w] Q:=by
 have hd:∀w∈(["rows","tree"]:List â),32∉w.cps.toList/\iV [w]=wx/\w∈(["tree","rows","rules","steps"]:List â)/\w≠"put"/\w≠"out"/\w≠"turn":=by decide +kernel
 obtain⟨i,j,k,l,m,o⟩:=hd w hw;have d:=Xx w i;refine⟨fs,an,T,a,t,f,w,gC,gC,W,BQ hw cL,λe=>?_,λ_ e=>?_,λ_ _ s z g=>?_⟩
 ·rw[d,j]at e;cases e
 ·rw[d,E3 _ _ _ k]at e;cases e
 ·rw[d]at g;obtain⟨_,_,_,p,q,r,_⟩:=g;rw[p l m o];exact h z (λe=>r (by rw[e])) λe=>q (by rw[e])
def XB(W:CP fs an T a t f n)(i:kY fs an r)(m:∀d g,kY fs an d->Gr fs an 1 2 ((a++[(f,d)]).map (·.2)) g->Q ⟨qY (a++[(f,d)]),((f+1:Nat):Int),iN g⟩ (.str ("told "++nE (f:Nat)))):W7 b c (mH T) n [FZ b T,.str ("put "++IX r)] Q:=by
 have h:=aCr W.F i;refine⟨fs,an,T,a,t,f,_,gC,gC,W,((KL (n:=6) cL).app (SU W.F i)).up cR,λe=>?_,λ_ e=>?_,λ_ _ o z j=>?_⟩
 ·rw[h,XU]at e;cases e
 ·rw[h,XV W.F a i]at e;cases e
 ·rw[h]at j;obtain⟨d,g,k,l,rfl,rfl⟩:=j.1 gC;exact m d g k l
def CP.put(W:CP fs an T a t f n)(hr:kY fs an r)(hg:Gr fs an 1 2 ((a++[(f,r)]).map (·.2)) t')(h:f<=49):CP fs an T (a++[(f,r)]) t' (f+1) ⟨qY (a++[(f,r)]),((f+1:Nat):Int),iN t'⟩ where
 F:=W.F
 fm:=W.fm
 dp:=W.dp
 ls:=W.ls
 kv:=rfl
 ok:=by
  intro x hx;rw[bV]at hx;rcases bR.mp hx with hx | hx
  ·exact W.ok x hx
  ·rw[bC.mp hx];exact hr
 st:=rfl
 tr:=hg.1
 dep:=hg.2
 fol:=rfl
 lt:=λe he=>by
  rcases bR.mp he with he | he
  ·have:=W.lt e he;lia
  ·rw[bC.mp he];exact lD f
 few:=by have:=W.few;rw[aW];show _+1<=_;lia
 f50:=by lia
def CP.drop(W:CP fs an T a t f n)(k:Nat){t':Tr}(hg:jZ fs an t'/\t'.dep<=2):CP fs an T (lH k a) t' f ⟨qY (lH k a),n.fol,iN t'⟩ where
 F:=W.F
 fm:=W.fm
 dp:=W.dp
 ls:=W.ls
 kv:=rfl
 ok:=by
  intro x hx;obtain⟨e,he,rfl⟩:=aR.mp hx;exact W.ok _ (aR.mpr ⟨e,(dM.mp he).1,gC⟩)
 st:=rfl
 tr:=hg.1
 dep:=hg.2
 fol:=W.fol
 lt:=λe he=>W.lt e (dM.mp he).1
 few:=aY (bW ..) W.few
 f50:=W.f50
def CP.turn(W:CP fs an T a t f n)(k:Nat)(hr:kY fs an r){t':Tr}(hg:jZ fs an t'/\t'.dep<=2):CP fs an T (pC k r a) t' f ⟨qY (pC k r a),n.fol,iN t'⟩ where
 F:=W.F
 fm:=W.fm
 dp:=W.dp
 ls:=W.ls
 kv:=rfl
 ok:=by
  intro x hx;obtain⟨e,he,rfl⟩:=aR.mp hx;obtain⟨e0,qa,rfl⟩:=aR.mp he;by_cases h:e0.1=k
  ·rw[a9 h];exact hr
  ·rw[a8 h];exact W.ok _ (aR.mpr ⟨e0,qa,gC⟩)
 st:=rfl
 tr:=hg.1
 dep:=hg.2
 fol:=W.fol
 lt:=λe he=>by
  obtain⟨e0,qa,rfl⟩:=aR.mp he;have:=W.lt e0 qa;by_cases h:e0.1=k
  ·rw[a9 h];exact this
  ·rw[a8 h];exact this
 few:=by unfold pC;rw[aC];exact W.few
 f50:=W.f50
def CP.step(W:CP fs an T a t f n)(l:f<=49){d:List â}{z:â}(u:kD fs an a d=wx)(s:B8 fs an a t f n d n' z):∃j t' k,CP fs an T j t' k n'/\k<=f+1/\yp fs an a ⟨wV a,(f:Nat)⟩ d=⟨wV j,(k:Nat)⟩/\(d.headD ""="put"->z=nE (f:Nat))/\(d.headD ""="out"\/d.headD ""="turn"->z="ok"):=by
 obtain⟨p,a2,q,a4,_⟩:=s;unfold yp;rw[a8 (by rw[u];decide)];by_cases g:d.headD ""="put"
 ·obtain⟨r,t',o,i,rfl,rfl⟩:=p g;rw[a9 g];exact⟨_,_,_,W.put o i l,aN _,by rw[YP a f r];rfl,λ_=>rfl,λe=>by rw[g]at e;exact b8 e cL⟩
 rw[a8 g];by_cases h:d.headD ""="out"
 ·obtain⟨t',i,rfl,rfl⟩:=a2 h;rw[a9 h];exact⟨_,_,_,W.drop _ i,tN _,by rw[aBz],λe=>b8 e g,λ_=>rfl⟩
 rw[a8 h];by_cases m:d.headD ""="turn"
 ·obtain⟨r,t',o,i,rfl,rfl⟩:=q m;exact⟨_,_,_,W.turn _ o i,tN _,by rw[Ln],λe=>b8 e g,λ_=>rfl⟩
 ·obtain rfl:=a4 g h m;exact⟨_,_,_,W,tN _,gC,λe=>b8 e g,λe=>(e.elim h m).elim⟩
end
def YE(a:PE X k1 t1)(b:PE X v1 t2)(c:PE X k2 t3)(d:PE X v2 t4):PE X (.Dict [wz k1,wz k2] [v1,v2] pos) (LF [(t1,t2),(t3,t4)]):=
 RA (D9 a b (D9 c d Q7)) gC gC (λz=>by cases z) eN
def YF(a:PE X k1 t1)(b:PE X v1 t2):PE X (.Dict [wz k1] [v1] pos) (LF [(t1,t2)]):=
 RA (D9 a b Q7) gC gC (λz=>by cases z) eN
def aCa{X:Cx}{jE}{i:Nat}{x:â}{u:SZ (yq F FY)}{a b pn pos:Pos}
  (j:X.N.Nodup) (l:X.N[i]?=wz x) (p:VL X.env.scope x) (o:kP (.Dict [wz k1,wz k2] [.Dict [wz k3] [v3] a,v2] b) (wz (.Name x pn)) pos.line X.env=pure ww) (k:X.fn x=wx\/X.env.scope.names.lookup x=wz .local)
  (d:PE X k1 (tC (.str "there"))) (e:PE X k2 (tC (.str "next"))) (f:PE X k3 (tC (.int 0))) (g:PE X v3 (tC (.bl wx))) (h:PE X v2 (tC (.int 1))) (m:vZ X jE u) :
  vZ (F:=F) X (.Assign [.Name x pn] (.Dict [wz k1,wz k2] [.Dict [wz k3] [v3] a,v2] b) pos::jE) (λs c n r=>∀T,u (.tuple [s,IN T]) { nx:=λ_ _=>False,rt:=λq=>c.rt q.1 } (n,⟨[(0,.bool wx)],1⟩) (r.set i (.val (IN T)))):=
 aB8 (nD j l p (YE d (YF f g) e h) o k) m
def DY:kX:=λa Q=>∃ns:List Int,a=[.list (ns.map cI)]/\ns.length<=63/\Q (.bool wx)
set_option maxHeartbeats 4000000
open PySem L2 TL
def Qt:bQ ["field"] ["field"] (aS (top 14)):=kB
def Qr:bQ ["form","thing","fields"] ["form","thing"] (aS (top 12)):=kB
def Qs:bQ ["form","thing"] ["form","thing"] (aS (top 13)):=kB
def Qf:bQ ["tree"] ["tree"] (aS (top 42)):=kB
def Qm:bQ ["one","other","on_yes","on_no"] ["one","other"] (aS (top 52)):=kB
def Kx:bQ ["self"] ["self"] (aS (hZ (top 51) 4)):=kB
def Qo:bQ ["self"] ["self"] (aS (hZ (top 51) 5)):=kB
def W9:bQ ["self","number"] ["self","number"] (aS (hZ (top 51) 7)):=kB
def XA:bQ ["self","thing"] ["self","thing"] (aS (hZ (top 51) 6)):=kB
def Qp:bQ ["self","stood"] ["self"] (aS (hZ (top 51) 8)):=kB
def Ab:bQ ["self","row","number"] ["self","row"] (aS (hZ (top 51) 1)):=kB
def Ac:bQ ["self","number","row"] ["self","number"] (aS (hZ (top 51) 2)):=kB
def Ad:bQ ["self","number","row","stood"] ["self","number","row"] (aS (hZ (top 51) 3)):=kB
def Kw:bQ ["self","form","deep","least"] ["self","form","deep","least"] (aS (hZ (top 51) 0)):=kB
def Qq:bQ ["thing","fewest","most"] ["thing","fewest","most"] (aS (top 10)):=kB
def Rl:bQ ["_law_script","_law_way"] ["_law_script"] (aS (top 89)):=kB
def Rm:bQ ["_law_tape_here","_law_many","_law_script","_law_spot","_law_cell","_law_left","_law_mixed"] ["_law_tape_here","_law_many"] (aS (top 90)):=kB
def Rn:bQ ["_law_tape_here","_law_many","_law_letters","_law_way","_law_some","_law_turn","_law_base","_law_size","_law_names_here","_law_at","_law_start"] ["_law_tape_here","_law_many"] (aS (top 91)):=kB
def Ro:bQ ["_law_tape_here","_law_fields","_law_values","_law_many","_law_names_here","_law_some","_law_k","_law_size","_law_words"] ["_law_tape_here","_law_fields","_law_values"] (aS (top 92)):=kB
def Py:bQ ["question","field"] ["question","field"] (aS (top 32)):=kB
def Pw:bQ ["form","question"] ["form","question"] (aS (top 30)):=kB
def Px:bQ ["question","stray","field"] ["question","stray","field"] (aS (top 31)):=kB
def Pv:bQ ["form","question","stray","case","number"] ["form","question","stray","case"] (aS (top 29)):=kB
def Qa:bQ ["side","sides"] ["side","sides"] (aS (top 34)):=kB
def Pz:bQ ["form","question","stray","rows","sides"] ["form","question","stray","rows"] (aS (top 33)):=kB
def Qu:bQ ["form","rows","told"] ["form","rows"] (aS (top 16)):=kB
def Qv:bQ ["form","rows","counts"] ["form","rows"] (aS (top 17)):=kB
def Po:bQ ["one","other","rest"] ["one","other"] (aS (top 20)):=kB
def Pn:bQ ["top","bottom","shared"] ["top","bottom"] (aS (top 19)):=kB
def Qw:bQ ["form","rows","many"] ["form","rows"] (aS (top 18)):=kB
def Qc:bQ ["rows","numbers"] ["rows","numbers"] (aS (top 38)):=kB
def Pt:bQ ["field","name","values","told_by_is","told_by_upto"] ["field"] (aS (top 27)):=kB
def Ps:bQ ["form","questions","field"] ["form"] (aS (top 26)):=kB
def Pu:bQ ["form","choices","question"] ["form"] (aS (top 28)):=kB
def Qb:bQ ["sides","fewest"] ["sides","fewest"] (aS (top 35)):=kB
def Pp:bQ ["one","other"] ["one","other"] (aS (top 21)):=kB
def Pr:bQ ["fractions","common","found"] ["fractions"] (aS (top 23)):=kB
def Gx:bQ ["form","rows","least","told","question","stray","sides","doubts","bottom"] ["form","rows","least"] (aS (top 37)):=kB
def Pq:bQ ["one","other"] ["one","other"] (aS (top 22)):=kB
def Qd:bQ ["form","rows","least","told"] ["form","rows","least"] (aS (top 39)):=kB
def Qe:bQ ["form","rows","deep","least","found","sides","parts"] ["form","rows","deep","least"] (aS (top 40)):=kB
def Rp:bQ ["_law_tape_here","_law_form_here","_law_case","_law_name","_law_values","_law_value"] ["_law_tape_here","_law_form_here"] (aS (top 93)):=kB
def Ku:bQ ["self","form","deep","least"] ["self","form","deep","least"] (aS (hZ (top 77) 0)):=kB
def Rz:bQ ["form","rows"] ["form","rows"] (aS (top 56)):=kB
def Sa:bQ ["form","knot","rows"] ["form","knot","rows"] (aS (top 57)):=kB
def Qg:bQ ["knot","side"] ["knot","side"] (aS (top 43)):=kB
def Qi:bQ ["form","tree","case","way","part","side"] ["form","tree","case"] (aS (top 45)):=kB
def Qj:bQ ["form","tree","case"] ["form","tree","case"] (aS (top 46)):=kB
def Ql:bQ ["tree","place","part","side"] ["tree","place"] (aS (top 48)):=kB
def Qk:bQ ["form","tree","case"] ["form","tree","case"] (aS (top 47)):=kB
def Qh:bQ ["tree"] ["tree"] (aS (top 44)):=kB
def Ry:bQ ["form","tree","rows","prices","slips"] ["form","tree","rows","prices"] (aS (top 54)):=kB
def Sb:bQ ["price"] ["price"] (aS (top 58)):=kB
def Sc:bQ ["form","tree","rows","price"] ["form","tree","rows","price"] (aS (top 59)):=kB
def Sd:bQ ["form","tree","rows","prices","leaf","leaf_cost","sides","yes","no","cost"] ["form","tree","rows","prices"] (aS (top 60)):=kB
def Sg:bQ ["form","tree","rows","sides","yes","no","slips","saved"] ["form","tree","rows"] (aS (top 63)):=kB
def Qx:bQ ["form"] ["form"] (aS (top 67)):=kB
def Qz:bQ ["lets","number","let"] ["lets","number","let"] (aS (top 69)):=kB
def QD:bQ ["tree","question","words"] ["tree"] (aS (top 71)):=kB
def Rf:bQ ["entry"] ["entry"] (aS (top 82)):=kB
def Rq:bQ ["_law_value"] ["_law_value"] (aS (top 94)):=kB
def Re:bQ ["words"] ["words"] (aS (top 81)):=kB
def Rb:bQ ["word"] ["word"] (aS (top 79)):=kB
def Ra:bQ ["words"] ["words"] (aS (top 78)):=kB
def Rr:bQ ["_law_row"] ["_law_row"] (aS (top 95)):=kB
def Rj:bQ ["field","let"] ["field","let"] (aS (top 86)):=kB
def Rk:bQ ["price","tree"] ["price","tree"] (aS (top 87)):=kB
def Ri:bQ ["form","rule","narrow","lets"] ["form","rule"] (aS (top 85)):=kB
def Qy:bQ ["form","tree","lets","number","held","yes","no","rules","let","part"] ["form","tree","lets"] (aS (top 68)):=kB
def Sh:bQ ["form","tree","rules"] ["form","tree"] (aS (top 66)):=kB
def Sf:bQ ["form","tree","rows","prices","lowest","price"] ["form","tree","rows"] (aS (top 62)):=kB
def Se:bQ ["form","tree","rows","price","part","told"] ["form","tree","rows"] (aS (top 61)):=kB
def Rc:bQ ["words"] ["words"] (aS (top 80)):=kB
def Ru:bQ ["_law_form_here","_law_words"] ["_law_form_here","_law_words"] (aS (top 98)):=kB
def Rv:bQ ["_law_form_here","_law_words"] ["_law_form_here","_law_words"] (aS (top 99)):=kB
def Rt:bQ ["_law_text","_law_words"] ["_law_text"] (aS (top 97)):=kB
def Rs:bQ ["_law_word"] ["_law_word"] (aS (top 96)):=kB
def Ts:bQ ["_law_desk","_law_text","_law_told","e"] ["_law_desk","_law_text"] (aS (top 103)):=kB
def Rh:bQ ["question","side"] ["question","side"] (aS (top 84)):=kB
def Bs:bQ ["self","word","case","tree","answer","way"] ["self","word","case"] (aS (hZ (top 77) 4)):=kB
def Br:bQ ["self","words"] ["self","words"] (aS (hZ (top 77) 2)):=kB
def Bq:bQ ["self","text","words"] ["self","text"] (aS (hZ (top 77) 1)):=kB
def Rg:bQ ["rows","told","number","row"] ["rows"] (aS (top 83)):=kB
def Kv:bQ ["self","word","tree","rows"] ["self","word"] (aS (hZ (top 77) 3)):=kB
def To:bQ ["_law_tape_here","_law_form_here","_law_row","_law_text","_law_case","_law_number","_law_some"] ["_law_tape_here","_law_form_here"] (aS (top 101)):=kB
def Tq:bQ ["_law_tape_here","_law_text","_law_words","_law_spot","_law_sign","_law_way","_law_heads","_law_odd","_law_at"] ["_law_tape_here","_law_text"] (aS (top 102)):=kB
def Rx:bQ ["_law_form_here","_law_state","_law_text","_law_told","_law_words","_law_number"] ["_law_form_here","_law_state","_law_text","_law_told"] (aS (top 100)):=kB
def Xu:bQ ["_law_script","_law_tape_here","_law_form_here","_law_desk","_law_state","_law_k","_law_text","_law_m","_law_before","_law_told"] ["_law_script"] (aS (top 104)):=kB
section
variable{P:cV}{w:f7}{K:aF}{mg:â->Option á}{base:ç}{j7 Z S O M I m3 l9:à}{nq ml mm nr mo nt mq mr mu nu jd gc gf je:à}{A C:à}{t_SIDES t_SINGLE_WORDS:à}{v7 u6 ao r8 aq:Tok}(T:Txt K mg j7 Z S O M I m3 l9 nq ml mm nr mo nt mq mr mu nu jd gc gf je A C t_SIDES t_SINGLE_WORDS v7 u6 ao r8 aq)
include T
def YV:Ft P w base T.D_17 1 Si:=by
 refine nL T.D_17.F Qt λc nd a Q h=>?_;obtain⟨f,rfl,b,h⟩:=h;refine⟨_,(bP (cK (cT bK dR (bJ aV cM (aE 0) aM) (fE (aA uA aG))))),?_⟩;refine⟨_,gC,_,gC,aB gC,?_,h⟩;rw[aC];simp only[bA,wJ];lia
def EM:Ft P w base T.D_14 1 Tx:=by
 refine nL T.D_14.F Qq λg nd f Q h=>?_;obtain⟨d,lo,c,rfl,b,h⟩:=h;refine⟨_,(bP (cK (rV (Wm (UR _) (aE 0) (λh=>vK aA2 gC T.b_isinstance rY (gF h (gF (RC gC T.b_tuple mG gC) mU)))) (rT (aAo L0 L0 qN qN (aE 1) (cB jS (aA (aE 0) aG) cZ T.b_len gX) (aE 2)))))),?_⟩;refine⟨_,gC,?_⟩
 cases d with
 |tuple a=>
  show(if wx=wx then _ else Q (.bool ww));rw[a9 rfl];refine⟨_,gC,_,gC,?_⟩;show(if decide (lo<=(a.length:Int))=wx then _ else Q (.bool ww));have e:xK (.tuple a) lo c=(decide (lo<=(a.length:Int))&&decide ((a.length:Int)<=c)):=rfl;rw[e]at h
  cases hb:decide (lo<=(a.length:Int))with
  |true=>
   rw[hb]at h;rw[a9 rfl];exact⟨_,gC,h⟩
  |false=>
   rw[hb]at h;rw[a8 cR];exact h
 |dict kvs=>cases b
 |_=>exact h
def YW:Ft P w base T.D_15 2 Tz:=by
 refine nL T.D_15.F Qr λm nd E Q h=>?_;obtain⟨fs,an,d,rfl,F,hd,h⟩:=h;refine⟨_,(aU (ss 2 nd (bJ aV cM (aE 0) aM))
 (aU (gW (oM (tv (cd (EM T) m (aA (aE 1) (aA (cB jS (aA (aE 2) aG) cZ T.b_len gX) (aA (cB jS (aA (aE 2) aG) cZ T.b_len gX) aG))))))
 (bP (cK vT))
 fA)
 (bP (cK (cB Cj (aA (el (fr:=[wy,wy]) (N':=["field","value"]) (ZX (aA (aE 2) (aA (aE 1) aG)) (λh=>X6 gC T.b_zip h)) (λb=>⟨(nA (oO gC (fD (pk 0) (fD (pk 1) mM)))),gQ,(iX (JI m) RP (aE 1) (cd (YV T) m (aA (aE 0) aG)))⟩)) aG) (uC gC) T.b_all PU))))),?_⟩
 have o:(fs.map lG).length=fs.length:=aC ..
 have g:xK d ((fs.map lG).length:Int) ((fs.map lG).length:Int)=ww->iM fs d=false:=λe=>by
  cases d with
  |tuple c=>
   have:¬c.length=fs.length:=λz=>by
    simp only[xK,o,z,aTq,decide_true,K5]at e;cases e
   simp only[iM,c6 this,aHn]
  |_=>rfl
 refine cN (.tuple (fs.map lG)) (λq j=>⟨_,gC,_,gC,j⟩) ?_;refine hX (λb=>b=!xK d ((fs.map lG).length:Int) ((fs.map lG).length:Int)) (λq j=>⟨_,gC,_,gC,_,gC,d,_,_,gC,nF hd.1,j _ gC⟩) (λl=>?_) λt=>?_
 ·have:=g (by simpa using l.symm);rw[this]at h;exact h
 ·try unfold jR
  dsimp only;have l:xK d ((fs.map lG).length:Int) ((fs.map lG).length:Int)=true:=by simpa using t.symm
  cases d with
  |tuple c=>
   have i:c.length=fs.length:=by
    simp only[xK,o,cU,c7]at l;lia
   show kO (f1 Bj) _ _ Q;dsimp only[kO,kW,pY];have n5:=F.n5;refine wP (λR h=>⟨_,gC,_,gC,_,_,gC,h⟩) (λx=>.bool (Ap x)) (by rw[qI];lia) (λx v=>?_) (λa b q u j=>?_) ?_
   ·obtain⟨k,hk⟩:=dH v;obtain⟨a,b,_,_,rfl⟩:=yQ hk;exact⟨a,b,gC⟩
   ·obtain⟨k,hk⟩:=dH u;obtain⟨y,B,r,s,e⟩:=yQ hk;cases e;obtain⟨f,n,rfl⟩:=aR.mp (bD r);exact⟨_,gC,_,gC,f,gC,(F.vs f n).2.1,zX (EB (F.vals n) (hd.item (bD s))) j⟩
   ·refine⟨(uP (fs.map lG) c).map Ap,by rw[bE];rfl,?_⟩;rw[aDn]
    have e:iM fs (.tuple c)=(fs.zip c).all λp=>JM p.1 p.2:=by
     simp only[iM,b7 i,iY]
    rw[e]at h;exact h
  |_=>exact b8 l (by simp[xK])
def RJ:Ft P w base T.D_16 3 TC:=by
 refine nL T.D_16.F Qs λg nd j Q h=>?_;obtain⟨fs,an,d,rfl,F,hd,h⟩:=h;refine⟨_,(aU (gW (oM (tv (cd (EM T) g (aA (aE 1) (aA aM (aA aM aG))))))
 (bP (cK vT))
 fA)
 (bP (cK (rV (cd (YW T) g (aA (aE 0) (aA (bJ aV cM (aE 1) aM) aG))) (rT (iX (JI g) RP (bJ aV cM (aE 1) aM) (bJ aV cM (aE 0) aM))))))),?_⟩
 rcases Yo d with⟨c,a,rfl⟩ | ⟨e,b⟩
 ·refine tU (λq f=>⟨_,gC,_,_,_,gC,nF hd.1,f _ gC⟩) ?_;refine⟨_,gC,_,gC,_,gC,fs,an,c,gC,F,hd.item eH,?_⟩;show(if iM fs c=wx then _ else _);have e:zS fs an (.tuple [c,a])=(iM fs c&&xL an a):=rfl;rw[e]at h
  cases i:iM fs c with
  |true=>
   rw[a9 rfl];rw[i]at h;refine⟨_,gC,_,gC,_,gC,_,gC,zX (JL F.an.2.1 (hd.item eH)) ?_⟩;show Q (.bool ((an.map aK).any λz=>dA z a));rw[AG];exact h
  |false=>
   rw[a8 cR];rw[i]at h;exact h
 ·refine vH (λq f=>⟨_,gC,d,_,_,gC,nF hd.1,f _ (by rw[e];rfl)⟩) ?_
  have:zS fs an d=false:=by
   unfold Gi at b;unfold zS;split at b
   ·cases b
   ·rfl
  rw[this]at h;exact h
def xH:Ft P w base T.D_40 1 Tj:=by
 refine nL T.D_40.F Qf λc nd b Q h=>?_;obtain⟨t,rfl,h⟩:=h;refine⟨_,(bP (cK (iX eZ iL (bJ aV cM (aE 0) aM) bO))),?_⟩
 cases t with
 |say a=>exact⟨_,gC,_,gC,h⟩
 |ask k n v s y m=>exact⟨_,gC,_,gC,h⟩
def aCk(L:Nat)
  (d:Ft P w base T.D_47 (2+L) (vE L)):Fj P w base T.D_47 (2+L+1) (lN K (vE (L+1))):=by
 refine nL T.D_47.F Qm λo nd ds Q h=>?_;obtain⟨fs,an,t,u,rfl,F,j,l,sh,vn,vq,h⟩:=h;refine⟨_,(aU (gW (uH (xF (tv (cd (hk:=by lia) (xH T) o (aA (aE 0) aG))) (xF (tv (cd (hk:=by lia) (xH T) o (aA (aE 1) aG))) (uY (cX (OB o) A5 (dO fM lA (aE 0) eL (eA aM)) (dO fM lA (aE 1) eL (eA aM)))))))
 (bP (cK (uM (cX (Yg o) A5 (aE 0) (aE 1)) (jV aG) (jV (aA (fE aG) aG)))))
 fA)
 (aU (nX (i:=2) (fr:=[wy]) (N':=["place"]) (fP (cd (hk:=by lia) d o (aA (bJ aV cM (aE 0) aM) (aA (bJ aV cM (aE 1) aM) aG)))) (λb=>⟨(eQ (pk 0)),gQ,(cT bK dR (fE (aA bO aG)) (aE 0))⟩) (λY W=>lL (show pT _ (aS (top 52)) ["one","other","on_yes","on_no"] ["place"] [wy]=wx from by decide +kernel) nd gC (by first | exact h7 gC | exact g7 gC) gC Y W gC))
 (aU (nX (i:=3) (fr:=[wy]) (N':=["place"]) (fP (cd (hk:=by lia) d o (aA (bJ aV cM (aE 0) aM) (aA (bJ aV cM (aE 1) aM) aG)))) (λb=>⟨(eQ (pk 0)),gQ,(cT bK dR (fE (aA bO aG)) (aE 0))⟩) (λY W=>lL (show pT _ (aS (top 52)) ["one","other","on_yes","on_no"] ["place"] [wy]=wx from by decide +kernel) nd gC (by first | exact h7 gC | exact g7 gC) gC Y W gC))
 (bP (cK (cT bK dR (aE 2) (aE 3))))))),?_⟩
 show nY _ _ _ [.val (iN t),.val (iN u),.un,.un];refine hX (λb=>b=!R5 t u) (λq c=>?_) (λhT=>?_) λU=>?_
 ·refine⟨_,gC,t,gC,?_⟩;show(if R3 t=wx then q wx else _)
  cases t with
  |say a=>exact(a9 gC).mpr (c _ gC)
  |ask k n v s y m=>
   refine(a8 (λz=>by cases z)).mpr ?_;refine⟨_,gC,u,gC,?_⟩;show(if R3 u=wx then q wx else _)
   cases u with
   |say b=>exact(a9 gC).mpr (c _ gC)
   |ask E G J H g f=>
    refine(a8 (λz=>by cases z)).mpr ?_;refine⟨_,gC,_,gC,RN (SN F j) (SN F l),?_⟩;show q (!dA (.tuple [.str "ask",.tuple [.str k,.str n,.str v],.str s]) (.tuple [.str "ask",.tuple [.str E,.str G,.str J],.str H]));rw[aAp];exact c _ gC
 ·have X:R5 t u=false:=by
   cases B:R5 t u with
   |false=>rfl
   |true=>rw[B]at hT;cases hT
  obtain⟨c1,c2⟩:=Wg X;refine⟨_,gC,_,gC,RN (Er F j cS) (Er F l cS),?_⟩;show(if dA (iN t) (iN u)=wx then _ else _);by_cases e:t=u
  ·rw[a9 ((KB t u).mpr e)];rw[c1 e]at h;exact⟨eN,h⟩
  ·rw[a8 (λz=>e ((KB t u).mp z))];rw[c2 e]at h;exact⟨eN,eN,h⟩
 ·unfold jR;dsimp only
  cases t with
  |say a=>cases U
  |ask k n v s y m=>
   cases u with
   |say b=>cases U
   |ask E G J H g f=>
    have r:ww=!decide (k=E/\n=G/\v=J/\s=H):=U
    have X:k=E/\n=G/\v=J/\s=H:=by
     by_cases e:k=E/\n=G/\v=J/\s=H
     ·exact e
     ·rw[c6 e]at r;cases r
    obtain⟨rfl,rfl,rfl,rfl⟩:=X;obtain⟨_,_,hy,hm⟩:=j;obtain⟨_,_,km,uw⟩:=l;have e1:(Tr.ask k n v s y m).dep=max y.dep m.dep+1:=rfl;have wq:(Tr.ask k n v s g f).dep=max g.dep f.dep+1:=rfl;rw[Zf,bV]at h;have l1:=DG y g;have l2:=DG m f;have n1:=L8 (t:=y) cS;have n2:=L8 (t:=m) cS;have one:∀(w:â)(p:List â)(q:D->Prop),p.length<=12->q (yB (w::p))->zd (.tuple [.str w]) (yB p) q:=λw p q N c=>⟨by rw[aC];show 1+_<=_;lia,c⟩;refine cN (.list (((K1 y g).map zb).map yB)) (λq c=>?_) ?_
    ·refine iR (ts:=(K1 y g).map yB) (λR h=>⟨_,gC,_,gC,_,gC,_,gC,fs,an,y,g,gC,F,hy,km,cS,cS,cS,_,gC,h⟩) (λx=>match x with | .tuple ts=>.tuple (.str "yes"::ts) | _=>x) (by rw[aC];lia) (λx q B c=>?_) ?_
     ·obtain⟨p,N,rfl⟩:=aR.mp B;have:=DH y g p N;exact⟨eN,_,gC,one "yes" p q cS c⟩
     ·rw[bE];rw[bE]at c;exact c
    refine cN (.list (((K1 m f).map zc).map yB)) (λq c=>?_) ?_
    ·refine iR (ts:=(K1 m f).map yB) (λR h=>⟨_,gC,_,gC,_,gC,_,gC,fs,an,m,f,gC,F,hm,uw,cS,cS,cS,_,gC,h⟩) (λx=>match x with | .tuple ts=>.tuple (.str "no"::ts) | _=>x) (by rw[aC];lia) (λx q B c=>?_) ?_
     ·obtain⟨p,N,rfl⟩:=aR.mp B;have:=DH m f p N;exact⟨eN,_,gC,one "no" p q cS c⟩
     ·rw[bE];rw[bE]at c;exact c
    exact⟨_,gC,_,gC,by simp only[aC];lia,h⟩
def Fq:Ft P w base T.D_47 15 Ve:=by
 have h:∀a:Nat,Ft P w base T.D_47 (2+a) (vE a):=λa=>by
  induction a with
  |zero=>exact BI sV λc Q h=>ZB h
  |succ a b=>exact aCk T a b
 exact h 13
def Dy:Fm P w K mg base qA 1 nu ["self"] (jG K (Lf A)):=by
 refine R6 (F:=lO A) T.D_9.F Kx λe nd c n d Q h=>?_;obtain⟨b,f,a,rfl,hk,h⟩:=h;refine⟨_,(dL (iG (aAh T.C_Book T.n_Book_numbered (aE 0) (pc:=λh=>oQ (BN gC) gC T.b_list SO (gF (YH nK IA PySem.F.type_dict_items UM h) mU))))),?_⟩;obtain rfl:=gU a;refine⟨_,gC,gC,?_⟩;rw[hk];unfold qY;rw[bE];exact h
def EC:Fm P w K mg base qA 1 jd ["self"] (jG K (Tt A)):=by
 refine R6 (F:=lO A) T.D_10.F Qo λe nd a n d Q h=>?_;obtain⟨c,b,rfl,h⟩:=h;refine⟨_,(dL (iG (tZ T.C_Book T.n_Book_standing (aE 0)))),?_⟩;obtain rfl:=gU b;exact⟨_,gC,gC,a,_,gC,gC,h⟩
def RK:Fm P w K mg base qA 2 gf ["self","number"] (jG K (Tv A)):=by
 refine R6 (F:=lO A) T.D_12.F W9 λb nd f n g Q h=>?_;obtain⟨e,j,d,c,rfl,a,h⟩:=h;refine⟨_,(dL (jO (WI b.u1 T.C_Book T.n_Book_numbered (aE 1) (aE 0))
 (dL (mL lQ))
 iH)),?_⟩
 obtain rfl:=gU c;refine⟨_,gC,j,gC,_,gC,gC,?_⟩;rw[a];exact h
def RL:Fm P w K mg base qA 4 gc ["self","thing"] (jG K (Tu A)):=by
 refine R6 (F:=lO A) T.D_11.F XA λa nd b n g Q h=>?_;obtain⟨fs,an,f,d,e,rfl,F,c,hd,hw,h⟩:=h;refine⟨_,(dL (jO (NQ (NP (vS (RJ T) T.D_16.m T.D_16.k T.D_16.d (a.mono cR) (gB (tZ T.C_Book T.n_Book_form (aE 0)) (gB (lV (aE 1)) oA)) (λh=>kI (RJ T) (a.mono cR) gC T.D_16.m T.D_16.k T.D_16.d .nil iB h)) (λh=>JD h)))
 (dL (mL lQ))
 iH)),?_⟩
 obtain rfl:=gU e;refine⟨_,gC,gC,b,_,gC,gC,_,gC,fs,an,d,by rw[c],F,hd,?_⟩;rw[hw];exact h
def Fa:Fj P w base T.D_18 1 (iP K Sj):=by
 refine kS T.D_18.F Qu λd nd n Q h=>?_;obtain⟨fs,an,rs,rfl,F,hok,k,h⟩:=h;refine⟨_,(aU (ss 2 nd (el (fr:=[wy]) (N':=["row"]) (fP (aE 1)) (λb=>⟨(eQ (pk 0)),gQ,(bJ aV cM (aE 0) aM)⟩)))
 (bP (wK (fl (fr:=[wy,wz 2]) (N':=["answer","told"]) (fP (bJ aV cM (aE 0) aM)) (λb=>⟨(eQ (pk 0)),gQ,(U3 (aE 1) (aA (aE 0) aG) (λh f=>iA dS PySem.F.slot_list_count PySem.F.type_list_count (UL d) h f))⟩))))),?_⟩
 have a4:=F.a4;refine cN (.list (rs.map λr=>aK r.2)) (λq c=>?_) ?_
 ·refine iR (λR h=>⟨_,gC,_,gC,h⟩) TM (by rw[aC];lia) (λx q g c=>?_) ?_
  ·obtain⟨r,d,rfl⟩:=aR.mp g;exact⟨_,gC,_,gC,c⟩
  ·rw[bE];exact c
 have j:=ZO λy l=>by
  obtain⟨r,d,rfl⟩:=aR.mp l;exact F.an.2.1 _ (hok r d).2
 rw[bE]at j;refine Ih (iR (λR h=>⟨_,gC,_,gC,_,gC,h⟩) (Dn rs) (by rw[aC];lia) (λx q g c=>?_) ?_)
 ·obtain⟨a,f,rfl⟩:=aR.mp g;have i:=jX (F.an.2.1 a f) (m:=0) (aN _);refine⟨_,gC,_,gC,_,gC,_,gC,⟨j.1,i.lay,by have:=i.depth;lia⟩,?_⟩;rw[NW];exact c
 ·have e:(an.map aK).map (Dn rs)=(rX an rs).map cI:=by
   unfold rX;rw[bE,bE];rfl
  rw[e];exact h
def Fd:Ft P w base T.D_22 1 Sn:=by
 refine nL T.D_22.F Po λn nd m Q h=>?_;obtain⟨a,b,rfl,h⟩:=h;refine⟨_,(aU (DX (cX uK qN (aE 1) aM)
 (aU (ss 2 nd (cT pP K0 (aE 0) (aE 1)))
 (aU (ss 0 nd (aE 1))
 (bP (ss 1 nd (aE 2))))) (λj hb=>D8 o0 j hb))
 (bP (cK (aE 0)))),?_⟩
 refine A1 (λy k=>∃(x:Nat)(g:Sl),k=[.val (.int x),.val (.int y),g]/\x.gcd y=a.gcd b) b ⟨a,_,gC,gC⟩ λy l i=>?_;obtain⟨x,g,rfl,d⟩:=i;refine⟨decide (0<y),λq c=>⟨_,gC,?_⟩,?_⟩
 ·show q (decide ((y:Int)>0));have:decide ((y:Int)>0)=decide (0<y):=by rw[e4];lia
  rw[this];exact c
 by_cases e:0<y
 ·rw[a9 (b7 e)];refine cN (.int ((x%y:Nat):Int)) (λq c=>⟨_,gC,_,gC,(show(0:Int)<(y:Int) by lia),?_⟩) ?_
  ·rw[<- Int.natCast_emod];exact c
  refine cN (.int y) (λq c=>⟨_,gC,c⟩) ?_;refine wL (.int ((x%y:Nat):Int)) (λq c=>⟨_,gC,c⟩) ⟨x%y,BT _ e,y,_,gC,?_⟩;rw[<- d,aS7 x y,Nat.gcd_rec y x,aS7]
 ·rw[a8 (by simpa using e)];have f:y=0:=by lia
  subst f;rw[Nat.gcd_zero_right]at d;subst d;exact⟨_,gC,h⟩
def YU:Ft P w base T.D_21 2 Gy:=by
 refine nL T.D_21.F Pn λi nd j Q h=>?_;obtain⟨a,b,rfl,hb,e,c,h⟩:=h;refine⟨_,(aU (ss 2 nd (cd (Fd T) i (aA (aE 0) (aA (aE 1) aG))))
 (bP (cK (fE (aA (cT L4 K0 (aE 0) (aE 2)) (aA (cT L4 K0 (aE 1) (aE 2)) aG)))))),?_⟩
 refine cN (.int ((a.gcd b:Nat):Int)) (λq g=>⟨_,gC,_,gC,a,b,gC,g⟩) ?_;have f:0<a.gcd b:=nO _ hb
 have hd:(0:Int)<((a.gcd b:Nat):Int)/\((a.gcd b:Nat):Int)<2^200:=⟨cS,by
  have:(a.gcd b)<2^190:=sD (aFa _ hb) c;have d:(2^190:Nat)<=2^200:=fN cR cR
  exact_mod_cast cH this d⟩
 refine⟨_,gC,_,gC,hd,_,gC,_,gC,hd,aB gC,?_⟩;rw[<- FW,<- FW];exact h
def Fc:Ft P w base T.D_20 3 Sm:=by
 refine nL T.D_20.F Qw λk nd B Q h=>?_;obtain⟨fs,an,rs,rfl,F,hok,d,h⟩:=h;refine⟨_,(aU (ss 2 nd (cB jS (aA (aE 1) aG) cZ T.b_len gX))
 (aU (gW (cX eZ iL (aE 2) aM)
 (bP (cK (fE (aA aM (aA aM aG)))))
 fA)
 (bP (cK (cd (YU T) k (aA (cB Ms (aA (el (fr:=[wy,wz 2]) (N':=["count","many"]) (fP (xN (cF (Fa T) k (aA (aE 0) (aA (aE 1) aG))))) (λb=>⟨(eQ (pk 0)),gQ,(cT jB rH (aE 0) (cT A3 UG (aE 1) (aE 0)))⟩)) aG) (GB gC) T.b_sum Wf) (aA (aE 2) aG))))))),?_⟩
 have a4:=F.a4;refine cN (.int (rs.length:Int)) (λq j=>⟨_,gC,?_⟩) ?_
 ·show q (.int ((rs.map fH).length:Int));rw[aC];exact j
 refine hX (λb=>b=decide ((rs.length:Int)=0)) (λq j=>⟨_,gC,j _ gC⟩) (λs=>?_) λp=>?_
 ·have m:rs.length=0:=by have:=b9 s.symm;lia
  have:=oC.mp m;subst this
  have l:ZL (kA [] []) (max 1 ([]:List Rw).length)=.tuple [.int 0,.int 1]:=by
   show ZL 0 1=_;unfold ZL;rw[Nat.gcd_zero_left];rfl
  rw[l]at h;exact⟨aB gC,h⟩
 ·try unfold jR
  dsimp only;have m:¬rs.length=0:=λz=>by have:=g8 p.symm;lia
  have o:max 1 rs.length=rs.length:=by lia
  rw[o]at h;have v:=N6 rs rs;have u:=oW d d;have f:(rX an rs).length=an.length:=by unfold rX;rw[aC]
  have i:∀c∈rX an rs,0<=c/\c<=(rs.length:Int):=λc g=>by
   obtain⟨a,_,rfl⟩:=aR.mp g;have:=Wh rs a;lia
  show kO Gy _ _ Q;dsimp only[kO,kW,pY];refine iR (λR h=>⟨_,gC,_,gC,fs,an,rs,gC,F,hok,d,_,gC,h⟩) (Hn rs.length) (by rw[aC,f];lia) (λx q y j=>?_) ?_
  ·obtain⟨c,g,rfl⟩:=aR.mp y;have:=i c g;exact⟨_,gC,_,gC,_,gC,.inl ⟨cS,cS⟩,j⟩
  ·have e:((rX an rs).map cI).map (Hn rs.length)=((rX an rs).map λc=>c*((rs.length:Int)-c)).map cI:=by
    rw[bE,bE];rfl
   rw[e];refine⟨_,gC,λn t=>?_,by rw[aC,f];lia,?_⟩
   ·obtain⟨c,g,rfl⟩:=aR.mp t;have:=i c g;have E:0<=c*((rs.length:Int)-c):=aK0 cS cS;have G:c*((rs.length:Int)-c)<=60*60:=Int.mul_le_mul cS cS cS cR;lia
   ·rw[aC9 F.an.2.2 λr k=>(hok r k).2];exact⟨_,gC,_,_,gC,cS,sD (show kA rs rs<=3600 by lia) cR,sD (show rs.length<=60 from d) cR,h⟩
def Fe:Ft P w base T.D_24 1 Sq:=by
 refine nL T.D_24.F Pq λb nd a Q h=>?_;obtain⟨x,y,rfl,c,d,h⟩:=h;refine⟨_,(bP (cK (iX Oz qN (cT jB rH (bJ aV cM (aE 0) aM) (bJ aV cM (aE 1) aM)) (cT jB rH (bJ aV cM (aE 1) aM) (bJ aV cM (aE 0) aM))))),?_⟩;refine⟨_,gC,_,gC,_,gC,_,gC,.inl ⟨cS,cS⟩,_,gC,_,gC,_,gC,_,gC,.inl ⟨cS,cS⟩,?_⟩;show Q (.bool (decide ((x.1:Int)*(y.2:Int)<(y.1:Int)*(x.2:Int))))
 have e:decide ((x.1:Int)*(y.2:Int)<(y.1:Int)*(x.2:Int))=decide (x.1*y.2<y.1*x.2):=by
  rw[e4,<- kG,<- kG];lia
 rw[e];exact h
def Nv:Ft P w base T.D_23 3 So:=by
 refine nL T.D_23.F Pp λd nd f Q h=>?_;obtain⟨x,y,rfl,a,b,h⟩:=h;refine⟨_,(bP (cK (cd (YU T) d (aA (cT bK dR (cT jB rH (bJ aV cM (aE 0) aM) (bJ aV cM (aE 1) aM)) (cT jB rH (bJ aV cM (aE 1) aM) (bJ aV cM (aE 0) aM))) (aA (cT jB rH (bJ aV cM (aE 0) aM) (bJ aV cM (aE 1) aM)) aG))))),?_⟩;have j:=a.top;have k:=a.bot;have l:=b.top;obtain⟨g,i,c⟩:=QQ a b
 have e:[cI ((x.1:Int)*(y.2:Int)+(y.1:Int)*(x.2:Int)),.int ((x.2:Int)*(y.2:Int))]=[.int ((x.1*y.2+y.1*x.2:Nat):Int),.int ((x.2*y.2:Nat):Int)]:=by
  rw[lY,kG,kG,kG]
 refine⟨_,gC,_,gC,_,gC,_,gC,.inl ⟨cS,cS⟩,_,gC,_,gC,_,gC,_,gC,.inl ⟨cS,cS⟩,_,gC,_,gC,_,gC,_,gC,.inl ⟨cS,cS⟩,_,_,e,c,cS,cS,h⟩
def Nz:Fj P w base T.D_27 1 (iP K Su):=by
 refine kS T.D_27.F Pt λj nd g Q h=>?_;obtain⟨f,rfl,c,i,h⟩:=h;refine⟨_,(aU (ss 1 nd (bJ aV cM (aE 0) aM))
 (aU (ss 2 nd (bJ aV cM (aE 0) aM))
 (aU (ss 3 nd (uM (cX eZ iL (cB jS (aA (aE 2) aG) cZ T.b_len gX) aM) (dO fM lA (aE 2) eL (eA aM)) (aE 2)))
 (aU (ss 4 nd (dO fM lA (aE 2) (eA aM) (eA (BJ aM))))
 (bP (wK (Xo (el (fr:=[wy,wz 1]) (N':=["value","name"]) (fP (aE 3)) (λb=>⟨(eQ (pk 0)),gQ,(fE (aA bO (aA (aE 1) (aA (aE 0) aG))))⟩)) (el (fr:=[wy,wz 1]) (N':=["value","name"]) (fP (aE 4)) (λb=>⟨(eQ (pk 0)),gQ,(fE (aA bO (aA (aE 1) (aA (aE 0) aG))))⟩))))))))),?_⟩
 refine cN (.str f.1) (λq a=>⟨_,gC,_,gC,a⟩) ?_;refine cN (.tuple (f.2.map aK)) (λq a=>⟨_,gC,_,gC,a⟩) ?_;refine cN (.tuple ((LW f).map aK)) (λq a=>⟨_,gC,?_⟩) ?_
 ·show(if decide (((f.2.map aK).length:Int)=2)=wx then _ else _);unfold LW at a;rw[aC];by_cases e:f.2.length=2
  ·rw[a9 (b7 cS)];rw[a9 e]at a;refine⟨_,gC,?_⟩;show q (.tuple (fY (f.2.map aK) wy (wz 1)));rw[hU,Zh _ c];exact a
  ·rw[a8 (by simpa using(by lia:¬(f.2.length:Int)=2))];rw[a8 e]at a;exact⟨_,gC,a⟩
 refine cN (.tuple ((LX f).map aK)) (λq a=>⟨_,gC,?_⟩) ?_
 ·show q (.tuple (fY (f.2.map aK) (wz 1) (wz (-2))));rw[hU,Zg _ c];exact a
 have l:(LW f).length<=5:=by
  unfold LW;split
  ·rw[bU];lia
  ·lia
 have k:(LX f).length<=5:=by
  unfold LX;rw[bU,eI];lia
 dsimp only[Gw,Gc];refine iR (λR h=>⟨_,gC,_,gC,h⟩) (λx=>.tuple [.str "is",.str f.1,x]) (by rw[aC];lia) (λx q d a=>⟨_,gC,_,gC,aB gC,a⟩) ?_;refine iR (λR h=>⟨_,gC,_,gC,h⟩) (λx=>.tuple [.str "upto",.str f.1,x]) (by rw[aC];lia) (λx q d a=>⟨_,gC,_,gC,aB gC,a⟩) ?_;refine⟨_,_,gC,gC,by simp only[aC];lia,?_⟩;rw[bE,bE];exact h
def Ny:Fj P w base T.D_26 2 (iP K Ss):=by
 refine kS T.D_26.F Ps λr nd y Q h=>?_;obtain⟨fs,an,rfl,F,h⟩:=h;refine⟨_,(aU (so 1 nd aG)
 (aU (sf (fP (bJ aV cM (aE 0) aM)) (eQ (pn 2 nd))
 (bP (IM (i:=1) (pv 1) (xN (cF (Nz T) r (aA (aE 2) aG))) (pb:=λh=>gL (iA dS sA rZ JP (pv 1) h)))))
 (bP (sM (pv 1))))),?_⟩
 have n5:=F.n5;refine pW [] cR (λq c=>c) ?_
 refine pA (λR h=>⟨_,gC,_,gC,_,gC,h⟩)
  (λk v=>∃d:Sl,v=[.val (fV fs an),.own (jN (fs.take k)),d]) ⟨_,gC⟩ (λk x j l b=>?_) λj b=>?_
 ·obtain⟨d,rfl⟩:=b;rw[aQ]at l;obtain⟨f,a,rfl⟩:=dP.mp l;obtain⟨t,u,s⟩:=F.vs f (bD a);have m:=qQ F (fs.take k) λg n=>eG n;have o:(fs.take k).length<=5:=by rw[bU];lia
  have p:(XR f).length<=10:=by
   unfold XR LW LX;rw[aW,aC,aC,bU,eI];split
   ·rw[bU];lia
   ·lia
  refine L6 gC cS (λq c=>⟨_,gC,f,gC,t,u,c⟩) ⟨.val (lG f),?_⟩
  have e:jN (fs.take (k+1))=jN (fs.take k)++XR f:=by
   unfold jN;rw[eW,a,bV,List.flatten_append];show _++[XR f].flatten=_;rw[List.flatten_singleton]
  rw[e];rfl
 ·obtain⟨d,rfl⟩:=b;rw[aC,fJ];exact⟨_,gC,h⟩
def NC:Ft P w base T.D_28 3 Sv:=by
 refine nL T.D_28.F Pu λe nd y Q h=>?_;obtain⟨fs,an,rfl,F,h⟩:=h;refine⟨_,(aU (so 1 nd aG)
 (aU (sf (fP (xN (cF (Ny T) e (aA (aE 0) aG)))) (eQ (pn 2 nd))
 (bP (IM (pv 1) (el (fr:=[wy,wz 2]) (N':=["stray","question"]) (fP (AA gC T.c_SIDES T.t_SIDES)) (λb=>⟨(eQ (pk 0)),gQ,(fE (aA (aE 1) (aA (aE 0) aG)))⟩)) (pb:=λh=>gL (iA dS sA rZ JP (pv 1) h)))))
 (uZ 1 (bP (cK (aE 1)))))),?_⟩
 have n5:=F.n5;have n:=qQ F fs λg o=>o;have t:(qs fs).length=(jN fs).length:=by rw[<- JC,aC]
 refine pW [] cR (λq s=>s) ?_
 refine pA (λR h=>⟨_,gC,fs,an,gC,F,_,gC,by rw[<- JC];exact h⟩)
  (λk v=>∃j:Sl,v=[.val (fV fs an),.own ((((qs fs).take k).flatMap Ae).map yw),j]) ⟨_,gC⟩ (λk x m i c=>?_) λm c=>?_
 ·obtain⟨j,rfl⟩:=c;rw[aQ]at i;obtain⟨q,d,rfl⟩:=dP.mp i
  have a:((((qs fs).take k).flatMap Ae).map yw).length=2*((qs fs).take k).length:=by
   rw[aC]
   generalize (qs fs).take k=l
   induction l with
   |nil=>rfl
   |cons x l u=>rw[aBh,aW,u,bA];show 2+_=_;lia
  have p:((qs fs).take k).length<=50:=by rw[bU];lia
  refine L6 (us:=[yw (q,"yes"),yw (q,"no")]) gC (by rw[a];show _+2<=_;lia) (λr e=>?_) ⟨.val (qD q),?_⟩
  ·refine iR (λR h=>⟨_,gC,h⟩) (λx=>.tuple [qD q,x]) cR (λx z i f=>⟨_,gC,_,gC,eN,f⟩) e
  ·rw[eW,d];rw[List.flatMap_append,bV];rfl
 ·obtain⟨j,rfl⟩:=c;rw[aC,fJ];exact⟨_,gC,_,gC,h⟩
def Nw:Ft P w base T.D_25 2 Sr:=by
 refine nL T.D_25.F Pr λo nd r Q h=>?_;obtain⟨l,rfl,n,h⟩:=h;refine⟨_,(aU (ss 1 nd aM)
 (aU (sf (fP (aE 0)) (eQ (pn 2 nd))
 (bP (ss 1 nd (cT zK K0 (cT jB rH (aE 1) (bJ aV cM (aE 2) aM)) (cd (Fd T) o (aA (aE 1) (aA (bJ aV cM (aE 2) aM) aG)))))))
 (bP (cK (aE 1))))),?_⟩
 refine cN (.int 1) (λq a=>a) ?_
 refine pA (λR h=>⟨_,gC,_,gC,h⟩)
  (λk p=>∃c:Sl,p=[.val (.list (l.map NH)),.val (.int ((yL (l.take k):Nat):Int)),c]) ⟨_,gC⟩ (λk x d e b=>?_) λd b=>?_
 ·obtain⟨c,rfl⟩:=b;rw[aQ]at e;obtain⟨y,f,rfl⟩:=dP.mp e;obtain⟨g,t⟩:=n y (bD f);have s:(yL (l.take k)).gcd y.2<=y.2:=aLh g (CW _ _);have m:0<(yL (l.take k)).gcd y.2:=nO _ g
  have j:yL (l.take (k+1))=(yL (l.take k)).lcm y.2:=by
   unfold yL;rw[eW,f,List.foldl_append];rfl
  refine wL (.int ((yL (l.take (k+1)):Nat):Int)) (λq a=>⟨_,gC,_,gC,_,gC,.inr ⟨cS,cS⟩,_,gC,_,gC,_,gC,_,_,gC,⟨cS,cS⟩,?_⟩) ⟨_,gC⟩;rw[j]at a
  have i:((yL (l.take k):Nat):Int)*(y.2:Int) / (((yL (l.take k)).gcd y.2:Nat):Int)=(((yL (l.take k)).lcm y.2:Nat):Int):=by
   rw[<- kG,<- FW];rfl
  rw[i];exact a
 ·obtain⟨c,rfl⟩:=b;rw[aC,fJ];exact⟨_,gC,h⟩
def Oa:Ft P w base T.D_35 1 Td:=by
 refine nL T.D_35.F Qb λc nd b Q h=>?_;obtain⟨a,bs,m,rfl,h⟩:=h;refine⟨_,(bP (cK (rV (iX L3 qN (cB jS (aA (bJ aV cM (aE 0) aM) aG) cZ T.b_len gX) (aE 1)) (rT (iX L3 qN (cB jS (aA (bJ aV cM (aE 0) aM) aG) cZ T.b_len gX) (aE 1)))))),?_⟩;refine⟨_,gC,_,gC,_,gC,?_⟩;show(if decide (m<=(a.length:Int))=wx then _ else _)
 cases e:decide (m<=(a.length:Int))with
 |false=>
  rw[a8 cR];rw[e]at h;exact h
 |true=>
  rw[a9 rfl];rw[e]at h;exact⟨_,gC,_,gC,_,gC,h⟩
def Fi:Fj P w base T.D_34 1 (iP K Tc):=by
 refine kS T.D_34.F Qa λl nd j Q h=>?_;obtain⟨w,ss,rfl,k,h⟩:=h;refine⟨_,(bP (wK (fl (fr:=[wy,wy,wz 0]) (N':=["number","found","side"]) (aD2 (aA (aE 1) aG) (λh=>aDg gC T.b_enumerate h)) (λb=>⟨(nA (oO gC (fD (pk 0) (fD (pk 1) mM)))),(E1 (cX eZ iL (aE 1) (aE 2))),(aE 0)⟩)))),?_⟩;rw[<- MT]at h;refine Ih (MF (λR h=>⟨_,gC,_,gC,h⟩) (zl w) Bi (by rw[sZ,aC];lia) (λx g=>?_) (λa b q f e=>?_) (λa b q f e=>?_) h)
 ·rw[HK]at g;obtain⟨y,_,rfl⟩:=aR.mp g;exact⟨_,_,gC⟩
 ·obtain⟨i,d⟩:=dH f;have c:=(aL.mp d).1;rw[sZ,aC]at c;rw[BK (by rw[aQ,aJ c];rfl)]at d;cases d;exact⟨_,gC,_,gC,e⟩
 ·exact⟨_,gC,e⟩
def NT:Ft P w base T.D_32 1 Sz:=by
 refine nL T.D_32.F Py λj nd m Q h=>?_;obtain⟨k,n,v,f,rfl,g,l,o,h⟩:=h;refine⟨_,(aU (gW (cX eZ iL (bJ aV cM (aE 0) aM) bO)
 (bP (cK (fE (aA (bJ aV cM (aE 0) aM) aG))))
 fA)
 (bP (cK (dO fM lA (bJ aV cM (aE 1) aM) eL (eA (cT bK dR (aAn (bJ aV cM (aE 1) aM) (aA (bJ aV cM (aE 0) aM) aG) (λh d=>iA PySem.F.plainAttrs_tuple PySem.F.slot_tuple_index PySem.F.type_tuple_index (ZG j) h d)) aM)))))),?_⟩
 unfold E2 at h;refine hX (λb=>b=decide (k="is")) (λq i=>⟨_,gC,_,gC,i _ gC⟩) (λc=>?_) λa=>?_
 ·rw[a9 (b9 c.symm)]at h;exact⟨_,gC,_,gC,aB gC,h⟩
 ·rw[a8 (g8 a.symm)]at h;refine⟨_,gC,_,gC,_,gC,_,gC,_,gC,_,gC,_,gC,_,_,gC,G5 g l,?_⟩;show Q (.tuple (fY (f.2.map aK) wy (wz ((f.2.idxOf v:Int)+1))));have e:((f.2.idxOf v:Nat):Int)+1=((f.2.idxOf v+1:Nat):Int):=rfl;rw[e,hU,nG];exact h
def Fh:Ft P w base T.D_31 2 Sy:=by
 refine nL T.D_31.F Px λd nd i Q h=>?_;obtain⟨k,n,v,st,f,rfl,c,g,a,h⟩:=h;refine⟨_,(bP (cK (cT bK dR (cd (NT T) d (aA (aE 0) (aA (aE 2) aG))) (uM (cX eZ iL (aE 1) bO) (fE (aA uA aG)) (fE aG))))),?_⟩;have b:=Z2 (k:=k) (v:=v) a;refine⟨_,gC,_,gC,k,n,v,f,gC,c,g,a,_,gC,?_⟩;unfold sJ at h;show(if decide (st="yes")=wx then _ else _);by_cases e:st="yes"
 ·rw[a9 (b7 e)];rw[a9 e]at h;exact⟨aB gC,by rw[aC];show _+1<=_;lia,h⟩
 ·rw[a8 (by simpa using e)];rw[a8 e]at h;exact⟨aB gC,by rw[aC];show _+0<=_;lia,h⟩
def Fg:Ft P w base T.D_30 1 Sx:=by
 refine nL T.D_30.F Pw λo nd r Q h=>?_;obtain⟨fs,an,k,n,v,g,j,rfl,F,c,a,h⟩:=h;refine⟨_,(bP (cK (HJ (el (fr:=[wy]) (N':=["field"]) (fP (bJ aV cM (aE 0) aM)) (λb=>⟨(eQ (pk 0)),gQ,(bJ aV cM (aE 0) aM)⟩)) (aA (bJ aV cM (aE 1) aM) aG) (λh i=>iA dS HZ HX (G8 o) h i)))),?_⟩;have n5:=F.n5;have l:=(aL.mp c).1;have d:(fs.map (·.1)).idxOf n=j:=by rw[<- a];exact JO F c
 show SE _ _ _ Q;refine iR (λR h=>⟨_,gC,_,gC,_,gC,h⟩) fst (by rw[aC];lia) (λx q p m=>?_) ?_
 ·obtain⟨f,s,rfl⟩:=aR.mp p;exact⟨_,gC,_,gC,m⟩
 ·have e:(fs.map lG).map fst=(fs.map (·.1)).map aK:=by rw[bE,bE];rfl
  rw[e];have:=G5 F.nd.2.1 (aR.mpr ⟨g,bD c,a⟩);rw[d]at this;exact⟨_,gC,_,gC,_,gC,_,j,gC,this,cS,h⟩
def Ff:Ft P w base T.D_29 3 Sw:=by
 refine nL T.D_29.F Pv λr nd E Q h=>?_;obtain⟨fs,an,k,n,v,st,i,rfl,F,p,s,t,h⟩:=h;refine⟨_,(aU (ss 4 nd (cd (Fg T) r (aA (aE 0) (aA (aE 1) aG))))
 (bP (cK (uM (cX (JI r) RP (bJ aV cM (aE 3) (aE 4)) (cd (Fh T) r (aA (aE 1) (aA (aE 2) (aA (bJ aV cM (bJ aV cM (aE 0) aM) (aE 4)) aG))))) bO bO)))),?_⟩
 obtain⟨x,o⟩:=tD t;obtain⟨d,a,e,g,B⟩:=zU p;obtain⟨j,f⟩:=dH a;have y:=(aL.mp f).1;have b:i[j]?=wz i[j]:=aJ cS
 generalize u:i[j]=c at b
 have hok:=o j d c f b;rw[LO F f b e]at h
 have l:Cd c:=by
  cases c with
  |none=>exact(C4 (n:=8) (m:=0)).cd cR
  |str z=>exact(jX (F.vals a z (b9 hok)) (m:=0) (aN _)).cd cR
  |_=>cases hok
 refine cN (.int (j:Int)) (λq p=>⟨_,gC,_,gC,fs,an,k,n,v,d,j,gC,F,f,e,p⟩) ?_;refine⟨_,gC,_,gC,_,(L2.eR b),_,gC,_,gC,_,gC,_,gC,_,gC,_,(L2.eR (by rw[aQ,f];rfl)),k,n,v,st,d,gC,F.vals a,g,(F.vs d a).2.1,zX (L7 (F.vals a) g l) ?_⟩;rw[<- ZZ s hok]at h;show(if DE c (.tuple (sJ k v st d))=wx then _ else _)
 cases hb:DE c (.tuple (sJ k v st d))with
 |true=>rw[a9 rfl];rw[hb,a9 rfl]at h;exact h
 |false=>rw[a8 cR];rw[hb,a8 cR]at h;exact h
def YT:Fj P w base T.D_33 4 (zN K Ta):=by
 refine Jb T.D_33.F Pz λc nd o Q h=>?_;obtain⟨fs,an,k,n,v,st,rs,rfl,F,l,f,hok,d,h⟩:=h;refine⟨_,(aU (nX (i:=4) (fr:=[wy,wz 0,wz 1,wz 2]) (N':=["row","form","question","stray"]) (fP (aE 3)) (λb=>⟨(eQ (pk 0)),gQ,(cd (Ff T) c (aA (aE 1) (aA (aE 2) (aA (aE 3) (aA (bJ aV cM (aE 0) aM) aG)))))⟩) (λj g=>lL (show pT _ (aS (top 33)) ["form","question","stray","rows","sides"] ["row","form","question","stray"] [wy,wz 0,wz 1,wz 2]=wx from by decide +kernel) nd gC (by first | exact h7 gC | exact g7 gC) gC j g gC))
 (bP (LL (cF (Fi T) c (aA bO (aA (aE 4) aG))) (cF (Fi T) c (aA bO (aA (aE 4) aG)))))),?_⟩
 have e:(rs.map fH).map (CD fs k n v st)=(rs.map λr=>gD fs k n v st r.1).map aK:=by rw[bE,bE];rfl
 refine cN (.list ((rs.map λr=>gD fs k n v st r.1).map aK)) (λq a=>?_) ?_
 ·refine iR (λR h=>⟨_,gC,_,gC,h⟩) (CD fs k n v st) (by rw[aC];lia) (λx q m a=>?_) ?_
  ·obtain⟨r,c,rfl⟩:=aR.mp m;exact⟨_,gC,_,gC,_,gC,_,gC,_,gC,fs,an,k,n,v,st,r.1,gC,F,l,f,(hok r c).1,a⟩
  ·rw[e];exact a
 rw[<- QW,<- QW]at h;exact⟨_,gC,"yes",_,gC,by rw[aC];exact d,_,gC,"no",_,gC,by rw[aC];exact d,h⟩
def YS:Ft P w base T.D_37 1 Tf:=by
 refine nL T.D_37.F Qc λd nd g Q h=>?_;obtain⟨fs,k,n,v,st,w,rs,rfl,i,h⟩:=h;refine⟨_,(bP (cK (el (fr:=[wy,wz 0]) (N':=["number","rows"]) (fP (aE 1)) (λb=>⟨(eQ (pk 0)),gQ,(bJ aV cM (aE 1) (aE 0))⟩)))),?_⟩
 have l:(jU fs k n v st rs w).length<=60:=by
  unfold jU;have:=bW (vL fs k n v st rs w) (fL rs.length);rw[oU]at this;lia
 refine iR (λR h=>⟨_,gC,_,gC,h⟩) (D6 rs) cS (λx q f c=>?_) ?_
 ·obtain⟨j,e,rfl⟩:=aR.mp (dM.mp f).1;have a:j<rs.length:=by simpa using e
  have d:D6 rs (.int (j:Int))=fH rs[j]:=by
   show(match L2.atI rs (j:Int)with | some r=>fH r | none=>.none)=_;rw[L2.eR (aJ a)]
  rw[d]at c;exact⟨_,gC,_,gC,_,(L2.eR (by rw[aQ,aJ a];rfl)),c⟩
 ·rw[zy fs k n v st w rs.length rs rfl];exact h
def Ob:Fj P w base T.D_36 6 (iP K Te):=by
 refine Jc T.L_36 T.D_36.F Gx (λds Q h=>by obtain⟨fs,an,rs,m,rfl,F,j,n,h⟩:=h;rfl) λci lc Ar outer s H E p ds Q h=>?_;obtain⟨fs,an,rs,m,rfl,F,j,n,h⟩:=h;have nd:=Gx.nd;refine⟨_,(aU (so 3 nd aG)
 (aU (sf (fP (cd (NC T) p (aA (aE 0) aG))) (nA (oO gC (fD (pn 4 nd) (fD (pn 5 nd) mM))))
 (aU (ss 6 nd (Cb (cQ (YT T) p (aA (aE 0) (aA (aE 4) (aA (aE 5) (aA (aE 1) aG)))))))
 (bP (gW (tv (cd (Oa T) p (aA (aE 6) (aA (aE 2) aG))))
 (aU (nX (i:=7) (fr:=[wy,wz 0,wz 1]) (N':=["numbers","form","rows"]) (fP (aE 6)) (λb=>⟨(eQ (pk 0)),gQ,(cd (Fc T) p (aA (aE 1) (aA (cd (YS T) p (aA (aE 2) (aA (aE 0) aG))) aG)))⟩) (λt hY=>lL (show pT _ (aS (top 37)) ["form","rows","least","told","question","stray","sides","doubts","bottom"] ["numbers","form","rows"] [wy,wz 0,wz 1]=wx from by decide +kernel) nd gC (by first | exact h7 gC | exact g7 gC) gC t hY gC))
 (bP (AV (i:=3) (pv 3) (fE (aA (aE 4) (aA (aE 5) (aA (cd (Nv T) p (aA (bJ aV cM (aE 7) aM) (aA (bJ aV cM (aE 7) aM) aG))) aG)))) (pb:=λh=>gL (iA dS iT iS oS (pv 3) h)))))
 fA))))
 (uZ 3 (aU (ss 8 nd (cd (Nw T) p (aA (el (fr:=[wy,wy,wy]) (N':=["question","stray","doubt"]) (fP (aE 3)) (λb=>⟨(U0 (oO gC (fD (pk 0) (fD (pk 1) (fD (pk 2) mM))))),gQ,(aE 2)⟩)) aG)))
 (bP (wK (Z8 (k:=0) (ib:=8) (p.mono cS) lc gC gC gC gC T.b_sorted VI (aA (aE 3) aG)))))))),?_⟩
 show nY _ _ _ [.val (fV fs an),.val (.list (rs.map fH)),.val (.int m),.un,.un,.un,.un,.un,.un]
 have wv:(yK fs rs m).length<=60:=by
  have h1:=qQ F fs λg hg=>hg;have n3:=F.n3;have h2:=bW (okC fs rs m) (VB fs);rw[SL]at h2;show((VB fs).filter (okC fs rs m)).length<=60;lia
 have uc:(VB fs).length<=100:=by
  have h1:=qQ F fs λg hg=>hg;have n5:=F.n5;rw[SL];lia
 refine pW [] cR (λq v=>v) ?_
 refine pA (ts:=(VB fs).map yw) (λR h=>⟨_,gC,fs,an,gC,F,_,gC,h⟩)
  (λk σ=>∃X Y s6 U:Sl,σ=[.val (fV fs an),.val (.list (rs.map fH)),.val (.int m),.own ((((VB fs).take k).filter (okC fs rs m)).map (PF fs rs)),X,Y,s6,U,.un]) ⟨_,_,_,_,gC⟩ (λk x u4 o hP=>?_) λu4 hP=>?_
 ·obtain⟨X,Y,s6,U,rfl⟩:=hP;rw[aQ]at o;obtain⟨c,r,rfl⟩:=dP.mp o;have hc:=bD r;obtain⟨v,hs⟩:=Hy hc;have l:=XQ v
  have N:(jU fs c.1.1 c.1.2.1 c.1.2.2 c.2 rs "yes").length=(yR fs c rs).length:=by
   have:=d6 jQ (zy fs c.1.1 c.1.2.1 c.1.2.2 c.2 "yes" rs.length rs gC);rw[aC,aC]at this;exact this
  have L:(jU fs c.1.1 c.1.2.1 c.1.2.2 c.2 rs "no").length=(nR fs c rs).length:=by
   have:=d6 jQ (zy fs c.1.1 c.1.2.1 c.1.2.2 c.2 "no" rs.length rs gC);rw[aC,aC,C8 F l hs j]at this;exact this
  have et:((VB fs).take (k+1)).filter (okC fs rs m)=((VB fs).take k).filter (okC fs rs m)++(if okC fs rs m c=wx then[c]else[]):=by
   rw[eW,r,jT];congr 1;show S7 _ [c]=_;rw[cW];rfl
  have xl:((((VB fs).take k).filter (okC fs rs m)).map (PF fs rs)).length<=100:=by
   rw[aC];exact aY (bW _ _) (by rw[bU];lia)
  refine⟨qD c.1,.str c.2,gC,?_⟩;dsimp only;refine cN (.tuple [.list (jU fs c.1.1 c.1.2.1 c.1.2.2 c.2 rs "yes"),.list (jU fs c.1.1 c.1.2.1 c.1.2.2 c.2 rs "no")]) (λq f=>⟨_,gC,_,gC,_,gC,_,gC,fs,an,c.1.1,c.1.2.1,c.1.2.2,c.2,rs,gC,F,l,hs,j,n,f⟩) ?_;refine JK (λb=>b=okC fs rs m c) (λq f=>⟨_,gC,_,gC,_,_,m,gC,?_⟩) (λhT=>?_) λhF=>?_
  ·refine f _ ?_;rw[N,L];rfl
  ·refine cN (.list [NH (rB (yR fs c rs)),NH (rB (nR fs c rs))]) (λq f=>?_) ?_
   ·refine JT (ts:=[.list (jU fs c.1.1 c.1.2.1 c.1.2.2 c.2 rs "yes"),.list (jU fs c.1.1 c.1.2.1 c.1.2.2 c.2 rs "no")]) (λR h=>⟨_,gC,_,gC,h⟩) (λi _ y=>(i=0->y=NH (rB (yR fs c rs)))/\(i=1->y=NH (rB (nR fs c rs)))) eN (λi x q o B=>?_) λys vy W=>?_
    ·have t:i<2:=(aL.mp o).1;rcases(show i=0\/i=1 by lia)with rfl | rfl
     ·cases o;exact⟨_,gC,_,gC,_,gC,fs,c.1.1,c.1.2.1,c.1.2.2,c.2,"yes",rs,gC,n,fs,an,_,gC,F,j.filt _,aY (bW _ _) n,B _ ⟨λ_=>rfl,λz=>by cases z⟩⟩
     ·cases o;refine⟨_,gC,_,gC,_,gC,fs,c.1.1,c.1.2.1,c.1.2.2,c.2,"no",rs,gC,n,?_⟩;rw[C8 F l hs j];exact⟨fs,an,_,gC,F,j.filt _,aY (bW _ _) n,B _ ⟨(λz=>by cases z),λ_=>rfl⟩⟩
    ·match ys,vy,W with
     |[a,b],_,W=>
      have h0:=(W 0 _ a gC gC).1 gC;have h1:=(W 1 _ b gC gC).2 gC;rw[h0,h1];exact f
   ·have G:(yR fs c rs).length<=60:=aY (bW _ _) n;have u:(nR fs c rs).length<=60:=aY (bW _ _) n;refine wM (PF fs rs c) gC cS (λq f=>⟨_,gC,_,gC,_,gC,_,gC,_,gC,_,gC,_,_,gC,AD G,AD u,eN,f⟩) ⟨.val (qD c.1),.val (.str c.2),.val (.tuple [.list (jU fs c.1.1 c.1.2.1 c.1.2.2 c.2 rs "yes"),.list (jU fs c.1.1 c.1.2.1 c.1.2.2 c.2 rs "no")]),.val (.list [NH (rB (yR fs c rs)),NH (rB (nR fs c rs))]),?_⟩;rw[et,a9 hT.symm,bV];rfl
  ·try unfold jR
   dsimp only;refine⟨.val (qD c.1),.val (.str c.2),.val (.tuple [.list (jU fs c.1.1 c.1.2.1 c.1.2.2 c.2 rs "yes"),.list (jU fs c.1.1 c.1.2.1 c.1.2.2 c.2 rs "no")]),U,?_⟩;rw[et,a8 (by rw[<- hF];decide),eK];rfl
 ·obtain⟨X,Y,s6,U,rfl⟩:=hP;rw[aC,fJ];refine⟨_,gC,?_⟩;show nY _ _ _ [.val (fV fs an),.val (.list (rs.map fH)),.val (.int m),.val (.list (FC fs rs m)),X,Y,s6,U,.un]
  have ue:∀x∈hI fs rs m,0<x.2/\x.2<=1000000:=λx o=>by
   obtain⟨c,_,rfl⟩:=aR.mp o;have:=PM (fs:=fs) n c;exact⟨this.pos,aY this.bot cR⟩
  refine cN (.int (yL (hI fs rs m):Nat)) (λq v=>?_) ?_
  ·dsimp only[kO,kW,pY];refine aDu (ts:=FC fs rs m) (λR h=>⟨_,gC,_,gC,h⟩) (λx=>match x with | .tuple [_,_,d]=>d | _=>.none) (by rw[vV];lia) (λx o=>?_) (λa b c q' hm l=>⟨_,gC,l⟩) ?_
   ·obtain⟨c,_,rfl⟩:=aR.mp o;exact⟨_,_,_,gC⟩
   ·have e:(FC fs rs m).map (λx=>match x with | .tuple [_,_,d]=>d | _=>.none)=(hI fs rs m).map NH:=by
     unfold FC hI;rw[bE,bE];rfl
    rw[e];exact⟨_,gC,ue,v⟩
  ·refine⟨_,gC,FC fs rs m,(yL (hI fs rs m):Nat),US fs rs m,gC,by rw[vV];lia,gC,by rw[vV,ZU],λi e k he hk=>?_,λJ hJ=>?_⟩
   ·have t:i<(yK fs rs m).length:=by rw[<- vV];exact(aL.mp he).1
    have e1:=SD (fs:=fs) (R:=rs) (m:=m) t;rw[dQ,he]at e1;have e2:=aDy (fs:=fs) (R:=rs) (m:=m) t;rw[dQ,hk]at e2;have sm:=PM (fs:=fs) n (yK fs rs m)[i];have s1:=sm.top;have s2:=sm.pos;have s3:=sm.bot;exact⟨_,_,_,_,e1,⟨cS,cS⟩,.inl ⟨cS,cS⟩,e2⟩
   ·rw[vV]at hJ;exact h J hJ
def Oc:Ft P w base T.D_38 7 Tg:=by
 refine nL T.D_38.F Qd λk nd r Q h=>?_;obtain⟨fs,an,rs,m,rfl,F,f,g,h⟩:=h;refine⟨_,(aU (ss 3 nd (xN (cF (Ob T) k (aA (aE 0) (aA (aE 1) (aA (aE 2) aG))))))
 (aU (gW (uH (IG (GQ (aE 3) (λh=>LY h (λ_=>rfl))) (C2 (tv (cd (Fe T) k (aA (bJ aV cM (bJ aV cM (aE 3) aM) aM) (aA (cd (Fc T) k (aA (aE 0) (aA (aE 1) aG))) aG)))))))
 (bP (cK (bJ aV cM (aE 3) aM)))
 fA)
 (bP (cK uA)))),?_⟩
 have j:∀{i:Nat}{J:List Nat},Cm fs rs m (i::J)->∃c,c∈yK fs rs m/\L2.atI (Bx fs rs m (i::J)) 0=wz (PF fs rs c):=λ{i J} a=>by
  have o:=a.lt i (aP ..);refine⟨_,iU o,L2.eR ?_⟩;show wz ((FC fs rs m).getD i .none)=_;rw[SD o]
 refine eJ (λv=>∃J,Cm fs rs m J/\v=.list (Bx fs rs m J)) (λq e=>⟨_,gC,_,gC,_,gC,fs,an,rs,m,gC,F,f,g,λJ a=>e _ ⟨J,a,gC⟩⟩) ?_;rintro _ ⟨J,a,rfl⟩
 cases J with
 |nil=>
  refine hX (λb=>b=ww) (λq e=>?_) (λn=>by cases n) λ_=>?_
  ·refine⟨_,gC,[],gC,?_⟩;show(if(ww:Bool)=wx then _ else q ww);rw[a8 cR];exact e _ gC
  ·try unfold jR
   dsimp only;exact h wy λc z=>by cases z
 |cons i J=>
  obtain⟨c,p,l⟩:=j a;refine hX (λb=>True) (λq e=>?_) (λn=>?_) λs=>?_
  ·refine⟨_,gC,_,gC,?_⟩;show(if(wx:Bool)=wx then _ else q ww);rw[a9 rfl];exact⟨_,gC,_,l,_,gC,_,gC,_,gC,fs,an,rs,gC,F,f,g,_,_,gC,(λc=>aY (PM (fs:=fs) g c).top cR) c,(aY (AD g).top cR),e _ trivial⟩
  ·exact⟨_,gC,_,l,h (wz c) λd z=>by cases z;exact p⟩
  ·try unfold jR
   dsimp only;exact h wy λc z=>by cases z
def Fb:Ft P w base T.D_19 2 Sk:=by
 refine nL T.D_19.F Qv λn nd v Q h=>?_;obtain⟨fs,an,rs,rfl,F,hok,l,h⟩:=h;refine⟨_,(aU (ss 2 nd (xN (cF (Fa T) n (aA (aE 0) (aA (aE 1) aG)))))
 (bP (cK (bJ aV cM (bJ aV cM (aE 0) aM) (HJ (aE 2) (aA (cB Mq (aA (aE 2) aG) (GD gC) T.b_max Wd) aG) (λh o=>iA dS HZ HX (G8 n) h o)))))),?_⟩
 have a2:=F.a2;refine cN (.list ((rX an rs).map cI)) (λq u=>⟨_,gC,_,gC,fs,an,rs,gC,F,hok,l,u⟩) ?_
 have k:rX an rs≠[]:=λz=>by
  have:=d6 jQ z;unfold rX at this;rw[aC]at this;simp at this;rw[this]at a2;simp at a2
 refine⟨_,gC,_,gC,_,gC,_,gC,_,gC,_,gC,k,λm t a=>?_⟩;obtain⟨j,g,f⟩:=MP (rX an rs) m t;have s:=(aL.mp g).1;have p:(rX an rs).length=an.length:=by unfold rX;rw[aC]
 have a4:=F.a4;have c:an[j]?=wz an[j]:=aJ cS;have e:(rX an rs)[j]?=wz ((B7 rs an[j]:Nat):Int):=by unfold rX;rw[aQ,c];rfl
 rw[g]at e;have x:=c8 e;refine⟨_,j,gC,UD g f,cS,_,L2.eR (by rw[aQ,c];rfl),h _ ⟨j,c,λi b hb=>?_,λi b r hb=>?_⟩⟩
 ·have:=a ((B7 rs b:Nat):Int) (bD (by unfold rX;rw[aQ,hb];rfl));lia
 ·have d:(rX an rs)[i]?=wz ((B7 rs b:Nat):Int):=by unfold rX;rw[aQ,hb];rfl
  have y:=a _ (bD d);have B:((B7 rs b:Nat):Int)≠m:=λz=>f i r (by rw[d,z]);lia
def aCm(z:Nat)
  (r:Ft P w base T.D_39 (8+z) (vG z)):Fj P w base T.D_39 (8+z+1) (lN K (vG (z+1))):=by
 refine nL T.D_39.F Qe λu nd ds Q h=>?_;obtain⟨fs,an,rs,d,m,rfl,F,f,j,hd,h⟩:=h;refine⟨_,(aU (ss 4 nd (uM (cX uK qN (aE 2) aM) (cd (hk:=by lia) (Oc T) u (aA (aE 0) (aA (aE 1) (aA (aE 3) aG)))) uA))
 (aU (gW (cX YJ Ey (aE 4) uA)
 (bP (cK (fE (aA bO (aA (cd (hk:=by lia) (Fb T) u (aA (aE 0) (aA (aE 1) aG))) aG)))))
 fA)
 (aU (ss 5 nd (Cb (cQ (hk:=by lia) (YT T) u (aA (aE 0) (aA (bJ aV cM (aE 4) aM) (aA (bJ aV cM (aE 4) aM) (aA (aE 1) aG)))))))
 (aU (nX (i:=6) (fr:=[wy,wz 0,wz 3,wz 1,wz 2]) (N':=["numbers","form","least","rows","deep"]) (fP (aE 5)) (λb=>⟨(eQ (pk 0)),gQ,(cd (hk:=by lia) r u (aA (aE 1) (aA (cd (hk:=by lia) (YS T) u (aA (aE 3) (aA (aE 0) aG))) (aA (cT A3 UG (aE 4) aM) (aA (aE 2) aG)))))⟩) (λY hY=>lL (show pT _ (aS (top 40)) ["form","rows","deep","least","found","sides","parts"] ["numbers","form","least","rows","deep"] [wy,wz 0,wz 3,wz 1,wz 2]=wx from by decide +kernel) nd gC (by first | exact h7 gC | exact g7 gC) gC Y hY gC))
 (bP (cK (fE (aA bO (aA (bJ aV cM (aE 4) aM) (aA (bJ aV cM (aE 4) aM) (aA (bJ aV cM (aE 6) aM) (aA (bJ aV cM (aE 6) aM) aG)))))))))))),?_⟩
 show nY _ _ _ [.val (fV fs an),.val (.list (rs.map fH)),.val (.int d),.val (.int m),.un,.un,.un]
 cases d with
 |zero=>
  refine cN .none (λq g=>⟨_,gC,g⟩) ?_;refine vH (λq g=>⟨_,gC,g _ gC⟩) ?_;exact⟨_,gC,_,gC,fs,an,rs,gC,F,f,j,λa ⟨k,H,_⟩=>⟨eN,h (.say a) ⟨bD H,aN _⟩⟩⟩
 |succ e=>
  refine eJ (λv=>∃o:Option Ch,(∀c,o=wz c->c∈yK fs rs m)/\v=Ea fs rs o) (λq g=>⟨_,gC,?_⟩) ?_
  ·show(if decide ((0:Int)<((e+1:Nat):Int))=wx then _ else q .none);rw[a9 (b7 cS)];exact⟨_,gC,_,gC,_,gC,fs,an,rs,m,gC,F,f,j,λo J=>g _ ⟨o,J,gC⟩⟩
  rintro _ ⟨o,J,rfl⟩
  cases o with
  |none=>
   refine vH (λq g=>⟨_,gC,g _ gC⟩) ?_;refine⟨_,gC,_,gC,fs,an,rs,gC,F,f,j,λa ⟨k,H,_⟩=>⟨eN,h (.say a) ⟨bD H,cP _⟩⟩⟩
  |some c=>
   have hc:=(dM.mp (J c gC)).1;obtain⟨g,L⟩:=Hy hc;have l:=XQ g;refine tU (λq g=>⟨_,gC,g _ gC⟩) ?_;refine cN (.tuple [.list (jU fs c.1.1 c.1.2.1 c.1.2.2 c.2 rs "yes"),.list (jU fs c.1.1 c.1.2.1 c.1.2.2 c.2 rs "no")]) (λq p=>⟨_,gC,_,gC,_,gC,_,gC,_,gC,_,gC,fs,an,c.1.1,c.1.2.1,c.1.2.2,c.2,rs,gC,F,l,L,f,j,p⟩) ?_;refine eJ (λv=>∃y n,(jZ fs an y/\y.dep<=e)/\(jZ fs an n/\n.dep<=e)/\v=.list [iN y,iN n]) (λq p=>?_) ?_
   ·have X:((e+1:Nat):Int)-1=((e:Nat):Int):=by lia
    refine JT (ts:=[.list (jU fs c.1.1 c.1.2.1 c.1.2.2 c.2 rs "yes"),.list (jU fs c.1.1 c.1.2.1 c.1.2.2 c.2 rs "no")]) (λR h=>⟨_,gC,_,gC,h⟩) (λi _ y=>∃t,(jZ fs an t/\t.dep<=e)/\y=iN t) eN (λi x q U s=>?_) λys W G=>?_
    ·have Y:i<2:=(aL.mp U).1;rcases(show i=0\/i=1 by lia)with rfl | rfl
     ·cases U;exact⟨_,gC,_,gC,_,gC,fs,c.1.1,c.1.2.1,c.1.2.2,c.2,"yes",rs,gC,j,_,gC,_,gC,fs,an,_,e,m,by rw[<- X]<;>rfl,F,f.filt _,aY (bW _ _) j,cS,λt N=>s _ ⟨t,N,gC⟩⟩
     ·cases U;refine⟨_,gC,_,gC,_,gC,fs,c.1.1,c.1.2.1,c.1.2.2,c.2,"no",rs,gC,j,?_⟩;rw[C8 F l L f];exact⟨_,gC,_,gC,fs,an,_,e,m,by rw[<- X]<;>rfl,F,f.filt _,aY (bW _ _) j,cS,λt N=>s _ ⟨t,N,gC⟩⟩
    ·match ys,W,G with
     |[a,b],_,G=>
      obtain⟨y,B,rfl⟩:=G 0 _ a gC gC;obtain⟨n,E,rfl⟩:=G 1 _ b gC gC;exact p _ ⟨y,n,B,E,gC⟩
   ·rintro _ ⟨y,n,B,E,rfl⟩;refine⟨_,gC,_,gC,_,gC,_,gC,_,gC,_,gC,_,gC,_,gC,eN,h (.ask c.1.1 c.1.2.1 c.1.2.2 c.2 y n) ⟨⟨l,L,B.1,E.1⟩,by have:=B.2;have:=E.2;show max y.dep n.dep+1<=e+1;lia⟩⟩
def YR:Ft P w base T.D_39 15 Ti:=by
 have h:∀a:Nat,Ft P w base T.D_39 (8+a) (vG a):=λa=>by
  induction a with
  |zero=>exact BI sV λc Q h=>ZD h
  |succ a b=>exact aCm T a b
 exact h 7
def YX:Fm P w K mg base qA 16 je ["self"] (jG K (Tw A)):=by
 refine R6 (F:=lO A) T.D_13.F Qp λb nd a n z Q h=>?_;obtain⟨fs,an,d,m,y,l,x,u,rfl,F,r,c,e,hk,p,s,hd,f,g,q,h⟩:=h;refine⟨_,(cJ (tS (i:=1) (tZ T.C_Book T.n_Book_standing (aE 0)) (λh=>nD (i:=1) nd gC (by first | exact h7 gC | exact g7 gC) h))
 (cJ (aB7 T.C_Book T.n_Book_standing (aE 0) (vS (YR T) T.D_39.m T.D_39.k T.D_39.d (b.mono cR) (gB (tZ T.C_Book T.n_Book_form (aE 0)) (gB (Zp T.C_Book T.n_Book_numbered (aE 0) (pc:=λh=>oQ (CK gC) gC T.b_list SO (gF (YH nK GH PySem.F.type_dict_values OL h) mU))) (gB (tZ T.C_Book T.n_Book_deep (aE 0)) (gB (tZ T.C_Book T.n_Book_least (aE 0)) oA)))) (λh=>kI (YR T) (b.mono cR) gC T.D_39.m T.D_39.k T.D_39.d .nil iB h)))
 (dL (iG (vS (Fq T) T.D_47.m T.D_47.k T.D_47.d (b.mono cR) (gB (lV (aE 1)) (gB (tZ T.C_Book T.n_Book_standing (aE 0)) oA)) (λh=>kI (Fq T) (b.mono cR) gC T.D_47.m T.D_47.k T.D_47.d .nil iB h)))))),?_⟩
 obtain rfl:=gU u;have v:n.kvs.map (·.2)=(l.map (·.2)).map fH:=by rw[hk];unfold qY;rw[bE,bE];rfl
 refine⟨_,gC,gC,a,_,gC,gC,?_⟩;refine⟨_,gC,gC,a,_,gC,gC,_,gC,gC,_,gC,gC,a,_,gC,gC,_,gC,gC,a,_,gC,gC,?_⟩;refine⟨fs,an,l.map (·.2),d,m,by rw[r,v,c,e],F,p,by rw[aC];exact s,cS,λt j=>?_⟩;obtain⟨o,B⟩:=Oh d j;refine⟨_,gC,gC,?_⟩;refine⟨_,gC,_,gC,gC,a,_,gC,gC,fs,an,x,t,by rw[f],F,g,o,cS,cS,cS,h t j _⟩
def Lv:Fm P w K mg base qA 17 mq ["self","row"] (jG K (Lc A)):=by
 refine R6 (F:=lO A) T.D_6.F Ab λv nd l n W Q h=>?_;obtain⟨fs,an,d,m,U,j,k,r,R,L,rfl,F,z,s,u,hk,B,X,hd,x,y,p,f,H,g,b,o,h⟩:=h;refine⟨_,(cJ (oZ (nZ cL (aE 0) (mW (aA (aE 1) aG)) (λh E=>gZ h T.C_Book T.M_11 (RL T) (v.mono cR) T.D_11.d .nil iB E)) (λh=>gL h))
 (cJ (jO (NR L3 qN (Xl T.C_Book T.n_Book_numbered (aE 0) (pc:=λh=>vK VD gC T.b_len gX (gF h mU))) (lV (KA gC T.c_MOST_ROWS)))
 (dL (mL lQ))
 iH)
 (cJ (tS (i:=2) (tZ T.C_Book T.n_Book_following (aE 0)) (λh=>nD (i:=2) Ab.nd gC (by first | exact h7 gC | exact g7 gC) h))
 (cJ (aCb T.C_Book T.n_Book_following (aE 0) aM)
 (cJ (WW v.u1 T.C_Book T.n_Book_numbered (aE 0) (aE 2) (aE 1))
 (dL (iG (PB (gB (lV (aE 2)) (gB (qO cL (aE 0) (λh=>qL h T.C_Book T.M_13 (YX T) (v.mono cR) T.D_13.d .nil iB)) oA)))))))))),?_⟩
 obtain rfl:=gU L;refine⟨_,gC,gC,_,gC,fs,an,l,fH r,gC,gC,F,z,o,MM b,?_⟩;have J:n.kvs.length=j.length:=by rw[hk];unfold qY;rw[aC]
 dsimp only;refine kT (λq c=>⟨_,gC,gC,?_⟩) ?_
 ·have e:decide ((60:Int)<=(n.kvs.length:Nat))=false:=c6 cS;rw[<- e]at c;exact c
 refine yP (.int (k:Nat)) (λq c=>⟨_,gC,gC,l,_,gC,gC,by rw[f];exact c⟩) ?_;refine⟨_,gC,gC,1,gC,?_⟩;refine⟨_,gC,_,gC,gC,_,gC,(k:Nat),gC,by show n.kvs.length<=_;lia,?_⟩;have a:yA n.kvs (k:Nat) (fH r)=qY (j++[(k,r)]):=by rw[hk];exact XX g
 refine⟨_,gC,_,gC,gC,fs,an,d,m,l,j++[(k,r)],R,gC,gC,F,z,s,u,a,TX B b,by rw[aW];show _+1<=60;lia,hd,x,y,p,λt G N=>⟨eN,?_⟩⟩;have e:(⟨qY (j++[(k,r)]),((k+1:Nat):Int),iN t⟩:KR)=⟨yA n.kvs (k:Nat) (fH r),n.fol+1,iN t⟩:=by rw[a,f];rfl
 have c:=h t G N;rw[e]at c;exact c
def Lw:Fm P w K mg base qA 17 mr ["self","number"] (jG K (Ld A)):=by
 refine R6 (F:=lO A) T.D_7.F Ac λu nd q n J Q h=>?_;obtain⟨fs,an,d,m,H,p,k,r,G,B,rfl,F,x,g,j,hk,v,z,hd,l,o,f,c,h⟩:=h;refine⟨_,(cJ (oZ (nZ cL (aE 0) (mW (aA (aE 1) aG)) (λh e=>gZ h T.C_Book T.M_12 (RK T) (u.mono cR) T.D_12.d .nil iB e)) (λh=>gL h))
 (cJ (tS (i:=2) (Xm T.C_Book T.n_Book_numbered (aE 0) (aE 1) (pc:=λh e=>iA nK uU K2 RV h (gF e mU))) (λh=>nD (i:=2) Ac.nd gC (by first | exact h7 gC | exact g7 gC) h))
 (dL (iG (PB (gB (lV (aE 2)) (gB (qO cL (aE 0) (λh=>qL h T.C_Book T.M_13 (YX T) (u.mono cR) T.D_13.d .nil iB)) oA))))))),?_⟩
 obtain rfl:=gU B;have b:qZ n.kvs (k:Nat)=wz (fH r):=by rw[hk];exact J6 c
 refine⟨_,gC,gC,_,gC,q,(k:Nat),fH r,gC,gC,b,?_⟩;dsimp only;refine⟨_,gC,gC,_,gC,(k:Nat),fH r,gC,b,?_⟩;have a:xO n.kvs (k:Nat)=qY (lH k p):=by rw[hk];exact aAs k p
 refine⟨_,gC,_,gC,gC,fs,an,d,m,q,lH k p,G,gC,gC,F,x,g,j,a,TY v,aY (bW _ _) z,hd,l,o,f,λt y E=>⟨eN,?_⟩⟩;have s:=h t y E;rw[<- a]at s;exact s
def Lx:Fm P w K mg base qA 17 mu ["self","number","row"] (jG K (Le A)):=by
 refine R6 (F:=lO A) T.D_8.F Ad λf nd j n U Q h=>?_;obtain⟨fs,an,d,m,R,x,k,r,g,N,J,rfl,F,y,q,s,hk,B,H,hd,u,v,p,a,c,o,h⟩:=h;refine⟨_,(cJ (oZ (nZ cL (aE 0) (mW (aA (aE 1) aG)) (λh l=>gZ h T.C_Book T.M_12 (RK T) (f.mono cR) T.D_12.d .nil iB l)) (λh=>gL h))
 (cJ (oZ (nZ cL (aE 0) (mW (aA (aE 2) aG)) (λh l=>gZ h T.C_Book T.M_11 (RL T) (f.mono cR) T.D_11.d .nil iB l)) (λh=>gL h))
 (cJ (tS (i:=3) (Xk f.u1 T.C_Book T.n_Book_numbered (aE 0) (aE 1)) (λh=>nD (i:=3) Ad.nd gC (by first | exact h7 gC | exact g7 gC) h))
 (cJ (WW f.u1 T.C_Book T.n_Book_numbered (aE 0) (aE 1) (aE 2))
 (dL (iG (PB (gB (lV (aE 3)) (gB (qO cL (aE 0) (λh=>qL h T.C_Book T.M_13 (YX T) (f.mono cR) T.D_13.d .nil iB)) oA))))))))),?_⟩
 obtain rfl:=gU J;have e:qZ n.kvs (k:Nat)=wz (fH r):=by rw[hk];exact J6 a
 refine⟨_,gC,gC,_,gC,j,(k:Nat),fH r,gC,gC,e,?_⟩;dsimp only;refine⟨_,gC,gC,_,gC,fs,an,j,fH g,gC,gC,F,y,o,MM c,?_⟩;dsimp only;refine⟨_,gC,gC,_,gC,(k:Nat),fH r,gC,e,?_⟩;have G:n.kvs.length=x.length:=by rw[hk];unfold qY;rw[aC]
 refine⟨_,gC,_,gC,gC,_,gC,(k:Nat),gC,cS,?_⟩;have b:yA n.kvs (k:Nat) (fH g)=qY (pC k g x):=by rw[hk];exact XW a
 refine⟨_,gC,_,gC,gC,fs,an,d,m,j,pC k g x,N,gC,gC,F,y,q,s,b,Xs B c,by unfold pC;rw[aC];exact H,hd,u,v,p,λt E L=>⟨eN,?_⟩⟩;have z:=h t E L;rw[<- b]at z;exact z
def Lu:Fm P w K mg base qA 16 nt ["self","form","deep","least"] (JS A K Eh):=by
 refine Je T.D_5.F Kw gC T.C_Book T.n_Book_form T.n_Book_deep T.n_Book_least T.n_Book_numbered T.n_Book_following T.n_Book_standing λf i outer s H E e j fm dp ls Q h=>?_;obtain⟨fs,an,d,m,a,F,hd,h⟩:=h;refine⟨_,_,(cd (YR T) e (aA (aE 1) (aA (jV aG) (aA (aE 2) (aA (aE 3) aG))))),(λh=>(mZ (tW (pv 0) (pv 1) gC) (mZ (tW (pv 0) (pv 2) gC) (mZ (tW (pv 0) (pv 3) gC) (mZ (tW (pv 0) YD gC) (mZ (tW (pv 0) mC gC) (C6 (tW (pv 0) h gC)))))))),?_⟩;injection a with g a
 injection a with b a
 injection a with c _
 injection b with b
 injection c with c
 subst g b c;exact⟨_,gC,eN,_,gC,_,gC,fs,an,[],d,_,gC,F,(λr e=>by cases e),(cP _),cS,h⟩
def Os:Fj P w base T.D_72 1 (iP K Uq):=by
 refine kS T.D_72.F Rl λl nd k Q h=>?_;obtain⟨ns,rfl,i,h⟩:=h;refine⟨_,(aU (ss 1 nd aM)
 (aU (gW (cX uK qN (cB jS (aA (aE 0) aG) cZ T.b_len gX) aM)
 (bP (ss 1 nd (cT pP K0 (bJ aV cM (aE 0) aM) aM)))
 fA)
 (bP (wK (Z9 (aA (dO fM lA (aE 0) eL (eA aM)) (aA aM (aA aM (aA (aE 1) aG))))))))),?_⟩
 refine cN (.int 0) (λq b=>b) ?_;refine D4 (0<ns.length) (λd=>∃c:Int,d=.int c/\(c=0\/c=1)) (λq b=>⟨_,gC,b _ λhb=>?_⟩) (λj q b=>?_) (.int 0) gC ⟨0,gC,.inl gC⟩ ?_
 ·have f:=b9 hb;rw[aC]at f;lia
 ·have e:L2.atI (ns.map cI) 0=wz (.int ns[0]):=L2.eR (by rw[aQ,aJ j];rfl);refine⟨_,gC,_,e,(show(0:Int)<2 by decide),b _ ⟨_,gC,?_⟩⟩;lia
 rintro _ ⟨c,rfl,g⟩
 have a:fY (ns.map cI) wy (wz 63)=ns.map cI:=by
  have:=nG (ns.map cI) 63;rw[gG (by rw[aC];exact i)]at this;exact this
 refine⟨_,gC,_,gC,eN,?_⟩;rw[a];exact h c g
def kU:Ft P w base T.D_73 1 Ur:=by
 refine nL T.D_73.F Rm λH nd B Q h=>?_;obtain⟨ns,m,rfl,G,f,r,h⟩:=h;refine⟨_,(aU (ss 2 nd (zZ 0 (uI aV (pv 0) mC (by intro _ _;rfl))))
 (aU (ss 3 nd (zZ 1 (uI aV (pv 0) mC (by intro _ _;rfl))))
 (aU (xV 1 (cT bK dR (aE 3) aM) (N9 (pv 0) mC D3) (λg i=>N5 g i))
 (aU (ss 4 nd aM)
 (aU (gW (cX uK qN (cB jS (aA (aE 2) aG) cZ T.b_len gX) aM)
 (bP (ss 4 nd (bJ aV cM (aE 2) (cT pP K0 (uM (cX eZ iL (zZ 3 (uI aV (pv 0) mC (by intro _ _;rfl))) aM) (cT zK K0 (aE 3) aM) (aE 3)) (cB jS (aA (aE 2) aG) cZ T.b_len gX)))))
 fA)
 (aU (gW (cX eZ iL (zZ 3 (uI aV (pv 0) mC (by intro _ _;rfl))) aM)
 (aU (gW (cX eZ iL (cT pP K0 (aE 3) aM) aM)
 (bP (xV 2 (cT zK K0 (aE 4) aM) (N9 (pv 0) mC D3) (λg i=>N5 g i)))
 fA)
 (aU (ss 5 nd (zZ 2 (uI aV (pv 0) mC (by intro _ _;rfl))))
 (aU (xV 2 (cT zK K0 (aE 5) (aE 1)) (N9 (pv 0) mC D3) (λg i=>N5 g i))
 (bP (cK (cT pP K0 (aE 5) (aE 1)))))))
 fA)
 (aU (ss 6 nd (cT pP K0 (cT jB rH (cT bK dR (cT pP K0 (aE 4) aM) aM) (cT bK dR (cT bK dR (cT jB rH (cT pP K0 (aE 3) aM) aM) aM) (aE 3))) aM))
 (aU (ss 6 nd (cT pP K0 (cT bK dR (cT bK dR (cT jB rH (aE 6) (aE 6)) (cT jB rH aM (aE 6))) (aE 3)) aM))
 (bP (cK (cT pP K0 (cT pP K0 (cT jB rH (aE 6) aM) aM) (aE 1)))))))))))),?_⟩
 have l:(0:Int)<60:=by decide
 refine cN (.list (ns.map cI)) (λq e=>⟨ns,gC,e⟩) ?_;refine eJ (λd=>∃a:Int,d=.int a/\0<=a) (λq e=>⟨ns,gC,λa n=>e _ ⟨a,gC,n⟩⟩) ?_;rintro _ ⟨a,rfl,n⟩;refine IV ns gC (a+1) (λq e=>⟨_,gC,e⟩) cS ?_;refine cN (.int 0) (λq e=>e) ?_;refine D4 (0<ns.length) (λd=>∃c:Int,d=.int c) (λq e=>⟨_,gC,e _ λhb=>?_⟩) (λo q e=>?_) (.int 0) gC ⟨0,gC⟩ ?_
 ·have j:=b9 hb;rw[aC]at j;lia
 ·have p:(0:Int)<((ns.map cI).length:Nat):=by rw[aC];lia
  refine⟨_,gC,ns,gC,λc E=>?_⟩;show(if decide (c=1)=wx then _ else _);split
  ·obtain⟨x,k⟩:=M6 o (a / 60);exact⟨_,gC,⟨cR,cR⟩,_,gC,p,_,k,e _ ⟨x,gC⟩⟩
  ·obtain⟨x,k⟩:=M6 o a;exact⟨_,gC,_,gC,p,_,k,e _ ⟨x,gC⟩⟩
 rintro _ ⟨c,rfl⟩;refine hX (λ_=>True) (λq e=>⟨ns,gC,λw hw=>e _ trivial⟩) (λ_=>?_) λ_=>?_
 ·refine hX (λ_=>True) (λq e=>⟨_,gC,l,e _ trivial⟩) (λ_=>?_) λ_=>?_
  ·refine JJ ns gC (c / 2) (λq e=>⟨_,gC,⟨cR,cR⟩,e⟩) ?_;dsimp only;refine eJ (λd=>∃b:Int,d=.int b) (λq e=>⟨ns,gC,λb=>e _ ⟨b,gC⟩⟩) ?_;rintro _ ⟨b,rfl⟩;refine yZ ns gC (b / m) (λq e=>⟨_,gC,_,gC,⟨f,cS⟩,e⟩) ?_;exact⟨_,gC,_,gC,f,h _ (nT _ cS) (lP _ f)⟩
  ·unfold jR;dsimp only;refine eJ (λd=>∃b:Int,d=.int b) (λq e=>⟨ns,gC,λb=>e _ ⟨b,gC⟩⟩) ?_;rintro _ ⟨b,rfl⟩;refine yZ ns gC (b / m) (λq e=>⟨_,gC,_,gC,⟨f,cS⟩,e⟩) ?_;exact⟨_,gC,_,gC,f,h _ (nT _ cS) (lP _ f)⟩
 ·unfold jR;dsimp only;have s:(0:Int)<1000003:=by decide
  have t:(0:Int)<997:=by decide
  have u:(0:Int)<1000033:=by decide
  have v:(0:Int)<999983:=by decide
  have z:(0:Int)<65537:=by decide
  refine eJ (λd=>∃x:Int,d=.int x/\0<=x/\x<1000033) (λq e=>⟨_,gC,s,_,gC,t,.inr ⟨cR,cR⟩,_,gC,.inl ⟨cS,cS⟩,u,e _ ⟨_,gC,nT _ cR,lP _ cR⟩⟩) ?_;rintro _ ⟨x,rfl,J,L⟩;refine eJ (λd=>∃x:Int,d=.int x/\0<=x/\x<999983) (λq e=>⟨_,gC,_,gC,.inl ⟨cS,cS⟩,_,gC,.inl ⟨cR,cR⟩,_,gC,v,e _ ⟨_,gC,nT _ cR,lP _ cR⟩⟩) ?_;rintro _ ⟨y,rfl,N,R⟩;exact⟨_,gC,.inl ⟨cS,cS⟩,z,_,gC,f,h _ (nT _ cS) (lP _ f)⟩
def YN:Ft P w base T.D_74 2 Us:=by
 refine nL T.D_74.F Rn λv nd ds Q h=>?_;obtain⟨ns,m,rfl,u,xm,xn,h⟩:=h;refine⟨_,(aU (ss 2 nd bO)
 (aU (ss 3 nd (cd (kU T) v (aA (aE 0) (aA aM aG))))
 (aU (gW (cX eZ iL (aE 3) aM)
 (aU (IK (i:=4) nd gC (by first | exact h7 gC | exact g7 gC) (jV (BO (by repeat constructor))))
 (aU (ss 5 nd (cd (kU T) v (aA (aE 0) (aA aM aG))))
 (bP (cK (dO fM lA (cT bK dR (dO fM lA (aE 4) (eA (aE 5)) eL) (dO fM lA (aE 4) eL (eA (aE 5)))) eL (eA (aE 1)))))))
 fA)
 (aU (ss 6 nd (lT bO (aA (el (fr:=[wy,wz 2,wz 0]) (N':=["_law_k","_law_letters","_law_tape_here"]) (sU (aA aM aG) (λh=>qE gC T.b_range h)) (λb=>⟨(eQ (pk 0)),gQ,(bJ aV cM (aE 1) (cd (kU T) v (aA (aE 2) (aA aM aG))))⟩)) aG) (λh ha=>iA bS dE dD lR h ha)))
 (aU (gW (cX eZ iL (aE 3) aM)
 (aU (ss 7 nd (cT bK dR aM (cd (kU T) v (aA (aE 0) (aA (cT A3 UG aM (aE 1)) aG)))))
 (aU (nX (i:=8) (fr:=[wy,wz 6,wz 7]) (N':=["_law_k","_law_base","_law_size"]) (sU (aA (aE 1) aG) (λh=>qE gC T.b_range h)) (λb=>⟨(eQ (pk 0)),gQ,(dO fM lA (aE 1) eL (eA (cT bK dR (aE 2) (aE 0))))⟩) (λhi hY=>lL (show pT _ (aS (top 91)) ["_law_tape_here","_law_many","_law_letters","_law_way","_law_some","_law_turn","_law_base","_law_size","_law_names_here","_law_at","_law_start"] ["_law_k","_law_base","_law_size"] [wy,wz 6,wz 7]=wx from by decide +kernel) nd gC (by first | exact h7 gC | exact g7 gC) gC hi hY gC))
 (aU (ss 5 nd (cd (kU T) v (aA (aE 0) (aA (aE 1) aG))))
 (bP (cK (cT bK dR (dO fM lA (aE 8) (eA (aE 5)) eL) (dO fM lA (aE 8) eL (eA (aE 5)))))))))
 fA)
 (aU (ss 7 nd (cT bK dR aM (cd (kU T) v (aA (aE 0) (aA aM aG)))))
 (aU (ss 9 nd (cd (kU T) v (aA (aE 0) (aA (aE 7) aG))))
 (aU (ss 10 nd (cd (kU T) v (aA (aE 0) (aA aM aG))))
 (bP (cK (el (fr:=[wy,wz 6,wz 2,wz 7,wz 9,wz 10]) (N':=["_law_k","_law_base","_law_letters","_law_size","_law_at","_law_start"]) (sU (aA (aE 1) aG) (λh=>qE gC T.b_range h)) (λb=>⟨(eQ (pk 0)),gQ,(cT bK dR (cT bK dR (dO fM lA (aE 1) eL (eA (aE 4))) (bJ aV cM (aE 2) (cT pP K0 (cT bK dR (aE 5) (aE 0)) aM))) (dO fM lA (aE 1) (eA (cT bK dR (aE 4) aM)) (eA (aE 3))))⟩)))))))))))),?_⟩
 show nY _ _ _ [.val (jY ns),.val (.int m),.un,.un,.un,.un,.un,.un,.un,.un,.un];refine cN (.str iQ) (λq f=>f) ?_;refine eJ (λd=>∃w:Int,d=.int w) (λq f=>⟨_,gC,ns,4,gC,u,cR,cR,λr _ _=>f _ ⟨r,gC⟩⟩) ?_;rintro _ ⟨w,rfl⟩;have E:∀r:Int,0<=r->∃t:Nat,cI r=.int (t:Int)/\r=(t:Int):=λr g=>⟨r.toNat,by rw[eT g],(eT g).symm⟩;refine hX (λb=>b=decide (w=0)) (λq f=>⟨_,gC,f _ gC⟩) (λ_=>?_) λ_=>?_
 ·refine cN (.list (DA.map aK)) (λq f=>⟨cR,f⟩) ?_;refine eJ (λd=>∃t:Nat,d=.int (t:Int)) (λq f=>⟨_,gC,ns,12,gC,u,cR,cR,λr g _=>f _ ((E r g).imp λ_ e=>e.1)⟩) ?_;rintro _ ⟨t,rfl⟩;refine⟨_,gC,_,gC,_,gC,_,gC,?_,_,gC,?_⟩
  ·rw[hU,hU,aC,aC,pQ,nG,eI,bU];show 12-t+min t 12<=100000;lia
  ·show Q (.list (fY (fY (DA.map aK) (wz (t:Int)) wy++fY (DA.map aK) wy (wz (t:Int))) wy (wz (m:Int))));rw[hU,hU,<- bV,hU,pQ,nG,nG];exact h _ (G6 Nm t cS)
 ·unfold jR;dsimp only;refine eJ (λd=>∃z:â,d=.str z/\z.cps.toList.length=8/\∀c∈z.cps.toList,c∈iQ.cps.toList) (λq f=>?_) ?_
  ·refine⟨_,gC,?_⟩;refine JT (ts:=fL 8) (λR h=>⟨8,gC,cR,cR,h⟩) (λ_ _ y=>∃c,c∈iQ.cps.toList/\y=.str ⟨#[c]⟩) cR (λj x q W f=>?_) λys o L=>?_
   ·refine⟨_,gC,_,gC,ns,26,gC,u,cR,cR,λr g G=>?_⟩;obtain⟨c,X,ua,_⟩:=KI (xs:=iQ.cps.toList) (i:=r) g (by rw[B2];exact G);exact⟨cR,c,ua,f _ ⟨c,X,gC⟩⟩
   ·obtain⟨n,rfl,H⟩:=LN (ys:=ys) λy km=>by
     obtain⟨j,U,rfl⟩:=pV.mp km;have uq:j<(fL 8).length:=by rw[<- o];exact U
     exact L j (fL 8)[j] _ (aJ uq) (aJ U)
    have p:n.length=8:=by rw[aC,oU]at o;exact o
    refine⟨n.map λc=>⟨#[c]⟩,by rw[bE];rfl,?_,f _ ⟨_,gC,?_,?_⟩⟩
    ·rw[aC,bE,p]
     have:(aW1 ((λx:â=>x.length)∘λc=>(⟨#[c]⟩:â)) n).sum=n.length:=by
      clear p o L H
      induction n with
      |nil=>rfl
      |cons a l ih=>rw[bB,dY,ih,bA];show 1+_=_;lia
     rw[this,p];decide
    ·rw[show(Txt.join (d9 "") (n.map λc=>⟨#[c]⟩)).cps.toList=n from EU n];exact p
    ·rw[show(Txt.join (d9 "") (n.map λc=>⟨#[c]⟩)).cps.toList=n from EU n];exact H
  rintro _ ⟨z,rfl,B,N⟩
  have hz:z.length<=100000:=by
   have:z.length=z.cps.toList.length:=by simp[h9]
   lia
  refine hX (λb=>b=decide (w=1)) (λq f=>⟨_,gC,f _ gC⟩) (λ_=>?_) λ_=>?_
  ·refine eJ (λd=>∃k:Nat,d=.int (k:Int)/\1<=k/\k+m<=9) (λq f=>⟨_,gC,_,gC,ns,9-(m:Int),gC,u,cS,cS,λr g G=>f _ ⟨(1+r).toNat,by rw[eT cS],cS,cS⟩⟩) ?_;rintro _ ⟨k,rfl,J,rn⟩;refine cN (.list (((gO m).map λj:Nat=>Txt.slice z wy (wz ((k:Int)+(j:Int)))).map aK)) (λq f=>?_) ?_
   ·refine iR (ts:=fL m) (λR h=>⟨_,gC,(m:Int),gC,cS,cS,by simpa using h⟩) (λx=>match x with | .int j=>.str (Txt.slice z wy (wz ((k:Int)+j))) | _=>.none) (by rw[oU];lia) (λx q W f=>?_) ?_
    ·obtain⟨j,U,rfl⟩:=aR.mp W;exact⟨_,gC,_,gC,_,gC,hz,f⟩
    ·unfold fL;rw[bE];rw[bE]at f;exact f
   refine eJ (λd=>∃t:Nat,d=.int (t:Int)) (λq f=>⟨_,gC,_,gC,ns,(m:Int),gC,u,cS,cS,λr g _=>f _ ((E r g).imp λ_ e=>e.1)⟩) ?_;rintro _ ⟨t,rfl⟩;have vc:=Y4 B N J rn
   have fin:∀ys:List â,HU m ys->(fY (ys.map aK) (wz (t:Int)) wy).length+(fY (ys.map aK) wy (wz (t:Int))).length<=100000/\Q (.list (fY (ys.map aK) (wz (t:Int)) wy++fY (ys.map aK) wy (wz (t:Int)))):=λys L=>by
    have G:=L.1;rw[hU,hU,<- bV,aC,aC,pQ,nG,eI,bU];exact⟨cS,h _ (UJ L t)⟩
   exact⟨_,gC,_,gC,_,gC,_,gC,fin _ vc⟩
  ·try unfold jR
   dsimp only;refine eJ (λd=>∃k:Nat,d=.int (k:Int)/\1<=k/\k<=8) (λq f=>⟨_,gC,ns,8,gC,u,cR,cR,λr g G=>f _ ⟨(1+r).toNat,by rw[eT cS],cS,cS⟩⟩) ?_;rintro _ ⟨k,rfl,J,ut⟩;refine eJ (λd=>∃t:Nat,d=.int (t:Int)/\t<k) (λq f=>⟨_,gC,_,gC,ns,(k:Int),gC,u,cS,cS,λr g G=>f _ ⟨r.toNat,by rw[eT g],cS⟩⟩) ?_;rintro _ ⟨t,rfl,ow⟩;refine eJ (λd=>∃s:Nat,d=.int (s:Int)) (λq f=>⟨_,gC,ns,26,gC,u,cR,cR,λr g _=>f _ ((E r g).imp λ_ e=>e.1)⟩) ?_;rintro _ ⟨s,rfl⟩;refine iR (ts:=fL m) (λR h=>⟨_,gC,(m:Int),gC,cS,cS,by simpa using h⟩) (λx=>match x with | .int j=>.str (IE z t k (sN ((s+j.toNat)%26))) | _=>.none) (by rw[oU];lia) (λx q W f=>?_) ?_
   ·obtain⟨j,U,rfl⟩:=aR.mp W;have e:((s:Int)+(j:Int))%26=(((s+j)%26:Nat):Int):=by lia
    have X:=DI (i:=(s+j)%26) (BT _ cR);have Y:L2.atI iQ.cps.toList (((s:Int)+(j:Int))%26)=wz (sN ((s+j)%26)):=by rw[e];exact L2.eR X
    obtain⟨w1,w2⟩:=NO z B t k (sN ((s+j)%26));exact⟨_,gC,_,gC,hz,_,gC,_,gC,_,gC,(show(0:Int)<26 by decide),cR,_,Y,w1,_,gC,_,gC,_,gC,hz,w2,f⟩
   ·unfold fL;rw[bE];have:=h _ (UI B N (k:=k) (t:=t) (s:=s) (m:=m) ut ow cS);rw[bE]at this;exact this
def Ot:Ft P w base T.D_75 3 Ut:=by
 refine nL T.D_75.F Ro λt nd ds Q h=>?_;obtain⟨ns,f,v,rfl,s,xc,xf,xt,xu,h⟩:=h;refine⟨_,(aU (ss 3 nd (cT bK dR aM (cd (kU T) t (aA (aE 0) (aA (aE 1) aG)))))
 (aU (ss 4 nd (cd (YN T) t (aA (aE 0) (aA (aE 3) aG))))
 (aU (so 5 nd aG)
 (aU (sf (sU (aA (aE 3) aG) (λh=>qE gC T.b_range h)) (eQ (pn 6 nd))
 (aU (ss 7 nd (cT bK dR aM (cd (kU T) t (aA (aE 0) (aA (cT A3 UG (aE 2) aM) aG)))))
 (aU (ss 8 nd (aE 4))
 (aU (gW (uH (xF (cX uK qN (aE 7) (aE 3)) (uY (cX uK qN (cd (kU T) t (aA (aE 0) (aA aM aG))) aM))))
 (bP (ss 8 nd (cd (YN T) t (aA (aE 0) (aA (aE 7) aG)))))
 fA)
 (bP (AV (i:=5) (pv 5) (fE (aA (bJ aV cM (aE 4) (aE 6)) (aA (cY pB (aA (dO fM lA (aE 8) eL (eA (aE 7))) aG) iF T.b_tuple mG) aG))) (pb:=λh=>gL (iA dS iT iS oS (pv 5) h))))))))
 (uZ 5 (bP (cK (fE (aA (cY pB (aA (aE 5) aG) iF T.b_tuple mG) (aA (cY pB (aA (cd (YN T) t (aA (aE 0) (aA (cT bK dR aM (cd (kU T) t (aA (aE 0) (aA aM aG)))) aG))) aG) iF T.b_tuple mG) aG)))))))))),?_⟩
 show nY _ _ _ [.val (jY ns),.val (.int f),.val (.int v),.un,.un,.un,.un,.un,.un];refine eJ (λd=>∃m:Nat,d=.int (m:Int)/\1<=m/\m<=f) (λq c=>⟨_,gC,_,gC,ns,(f:Int),gC,s,cS,cS,λr h0 y=>c _ ⟨(1+r).toNat,by rw[eT cS],cS,cS⟩⟩) ?_;rintro _ ⟨m,rfl,Y,xo⟩;refine eJ (λd=>∃a,HU m a/\d=.list (a.map aK)) (λq c=>⟨_,gC,_,gC,ns,m,gC,s,Y,cS,λa u=>c _ ⟨a,u,gC⟩⟩) ?_;rintro _ ⟨a,u,rfl⟩;refine pW [] cR (λq c=>c) ?_
 refine pA (ts:=fL m) (λR h=>⟨_,gC,(m:Int),gC,cS,cS,by simpa using h⟩)
  (λj σ=>∃(fs:List (â×List â))(s6 s7 s8:Sl),σ=[.val (jY ns),.val (.int f),.val (.int v),.val (.int m),.val (.list (a.map aK)),.own (fs.map lG),s6,s7,s8]/\fs.map (·.1)=a.take j/\∀x∈fs,2<=x.2.length/\x.2.length<=v/\HU x.2.length x.2) ⟨[],_,_,_,gC,eH,λx hx=>by simp at hx⟩ (λj x u4 hx L=>?_) λu4 L=>?_
 ·obtain⟨hj,rfl⟩:=EY hx;obtain⟨fs,s6,s7,s8,rfl,l,p⟩:=L;have E:j<a.length:=by rw[u.1];exact hj
  have B:fs.length<=j:=by
   have:=d6 jQ l;rw[aC,bU]at this;lia
  refine eJ (λd=>∃k:Nat,d=.int (k:Int)/\2<=k/\k<=v) (λq c=>⟨_,gC,_,gC,ns,(v:Int)-1,gC,s,cS,cS,λr h0 y=>c _ ⟨(2+r).toNat,by rw[eT cS],cS,cS⟩⟩) ?_;rintro _ ⟨k,rfl,U,X⟩;refine cN (.list (a.map aK)) (λq c=>⟨_,gC,c⟩) ?_
  have fin:∀(o:List â)(n:Nat),HU n o->k<=n->∃(g:List (â×List â)),g.map (·.1)=a.take (j+1)/\(∀x∈g,2<=x.2.length/\x.2.length<=v/\HU x.2.length x.2)/\g.map lG=fs.map lG++[lG (a[j],o.take k)]:=λo n hw W=>by
   have hk:=UK hw W;refine⟨fs++[(a[j],o.take k)],?_,λx hx=>?_,by rw[bV];rfl⟩
   ·rw[bV,l,eW,aJ E];rfl
   ·rcases bR.mp hx with hx | hx
    ·exact p x hx
    ·rw[bC.mp hx];show 2<=(o.take k).length/\(o.take k).length<=v/\HU (o.take k).length (o.take k);rw[hk.1];exact⟨U,X,hk⟩
  have G:L2.atI (a.map aK) (j:Int)=wz (.str a[j]):=aA7 E;refine hX (λb=>b=ww->k<=m) (λq c=>?_) (λ_=>?_) λhF=>?_
  ·refine⟨_,gC,_,gC,?_⟩;show(if decide ((k:Int)>(m:Int))=wx then _ else _);by_cases e:(k:Int)>(m:Int)
   ·rw[a9 (b7 e)];exact c _ λz=>by cases z
   ·rw[a8 (by simpa using e)];exact⟨_,gC,ns,4,gC,s,cR,cR,λr _ _=>c _ λ_=>by lia⟩
  ·refine⟨_,gC,_,gC,ns,k,gC,s,cS,cS,λo hw=>?_⟩;obtain⟨g,y,H,J⟩:=fin o k hw (aN _);refine wM (ts:=fs.map lG) (lG (a[j],o.take k)) gC (by rw[aC];lia) (λq c=>⟨_,gC,_,gC,_,G,_,gC,_,gC,?_⟩) ⟨g,_,_,_,by rw[J];rfl,y,H⟩;show _/\q (.tuple [.str a[j],.tuple (fY (o.map aK) wy (wz (k:Int)))]);rw[hU,nG];exact⟨eN,c⟩
  ·unfold jR;dsimp only;obtain⟨g,y,H,J⟩:=fin a m u (hF gC);refine wM (ts:=fs.map lG) (lG (a[j],a.take k)) gC (by rw[aC];lia) (λq c=>⟨_,gC,_,gC,_,G,_,gC,_,gC,?_⟩) ⟨g,_,_,_,by rw[J];rfl,y,H⟩;show _/\q (.tuple [.str a[j],.tuple (fY (a.map aK) wy (wz (k:Int)))]);rw[hU,nG];exact⟨eN,c⟩
 ·obtain⟨fs,s6,s7,s8,rfl,l,p⟩:=L;rw[oU,gG (by rw[u.1];exact aN _)]at l
  have B:fs.length=m:=by
   have:=d6 jQ l;rw[aC,u.1]at this;exact this
  refine⟨_,gC,_,gC,_,gC,_,gC,ns,3,gC,s,cR,cR,λr h0 y=>⟨ns,(2+r).toNat,by rw[eT cS],s,cS,cS,λan ha=>⟨eN,?_⟩⟩⟩;have N:=ha.1;refine h fs an ⟨cS,cS,by rw[l,B];exact u,λx hx=>?_,cS,cS,by rw[N];exact ha,cS⟩ cS λx hx=>(p x hx).2.1;obtain⟨x1,x2,x3⟩:=p x hx;exact⟨x1,cS,x3⟩
def YM:Ft P w base T.D_76 2 Uu:=by
 refine nL T.D_76.F Rp λU nd ds Q h=>?_;obtain⟨ns,fs,an,rfl,L,F,h⟩:=h;refine⟨_,(aU (so 2 nd aG)
 (aU (sf (fP (bJ aV cM (aE 1) aM)) (nA (oO gC (fD (pn 3 nd) (fD (pn 4 nd) mM))))
 (aU (ss 5 nd (bJ aV cM (aE 4) (cd (kU T) U (aA (aE 0) (aA (cB jS (aA (aE 4) aG) cZ T.b_len gX) aG)))))
 (aU (gW (cX eZ iL (cd (kU T) U (aA (aE 0) (aA aM aG))) aM)
 (bP (ss 5 nd uA))
 fA)
 (bP (AV (pv 2) (aE 5) (pb:=λh=>gL (iA dS iT iS oS (pv 2) h)))))))
 (uZ 2 (bP (cK (fE (aA (cY pB (aA (aE 2) aG) iF T.b_tuple mG) (aA (bJ aV cM (bJ aV cM (aE 1) aM) (cd (kU T) U (aA (aE 0) (aA (cB jS (aA (bJ aV cM (aE 1) aM) aG) cZ T.b_len gX) aG)))) aG)))))))),?_⟩
 have n5:=F.n5;refine pW [] eN (λq n=>n) ?_
 refine pA (λR h=>⟨_,gC,_,gC,_,gC,h⟩)
  (λi W=>∃(b:List D)(s3 p s:Sl),W=[.val (jY ns),.val (fV fs an),.own b,s3,p,s]/\b.length=i/\∀(k:Nat) f c,fs[k]?=wz f->b[k]?=wz c->JM f c=wx) ⟨[],_,_,_,gC,gC,λk f c _ e=>by simp at e⟩ (λi x X Y y=>?_) λX y=>?_
 ·obtain⟨b,s3,p,s,rfl,l,m⟩:=y;rw[aQ]at Y;obtain⟨f,G,rfl⟩:=dP.mp Y;have o:=bD G;have xj:=(aL.mp G).1;have v2:=(F.vs f o).1;have v5:=(F.vs f o).2.1;refine⟨_,_,gC,?_⟩
  have next:∀d:D,JM f d=wx->(∃(j:List D)(s3 p s:Sl),[Sl.val (jY ns),.val (fV fs an),.own (b++[d]),.val (.str f.1),.val (.tuple (f.2.map aK)),.val d]=[.val (jY ns),.val (fV fs an),.own j,s3,p,s]/\j.length=i+1/\∀(k:Nat) g c,fs[k]?=wz g->j[k]?=wz c->JM g c=wx):=λd hd=>
   ⟨_,_,_,_,gC,by rw[aW];show _+1=_;lia,λk g c H e=>by
    by_cases hk:k<b.length
    ·rw[eV hk]at e;exact m k g c H e
    ·rw[eM cS]at e
     have J:k=i:=by
      have:=(aL.mp e).1;simp at this;lia
     subst J;rw[G]at H;cases H;rw[show k-b.length=0 by lia]at e;cases e;exact hd⟩
  refine eJ (λd=>JM f d=wx) (λq n=>⟨_,gC,_,gC,_,gC,ns,(f.2.length:Int),by rw[aC],L,cS,cS,λr u v=>?_⟩) ?_
  ·obtain⟨t,N,B,_⟩:=KI (xs:=f.2.map aK) u (by rw[aC];exact v);obtain⟨z,hz,rfl⟩:=aR.mp N;exact⟨_,B,n _ (b7 hz)⟩
  intro d hd;refine aCy (λ_=>True) (λW=>∃d:D,JM f d=wx/\W=[.val (jY ns),.val (fV fs an),.own b,.val (.str f.1),.val (.tuple (f.2.map aK)),.val d]) (λq n=>⟨_,gC,ns,5,gC,L,cR,cR,λr _ _=>n _ trivial⟩) (λ_ wn hD=>hD _ ⟨.none,gC,gC⟩) (λ_=>⟨d,hd,gC⟩) ?_;rintro _ ⟨d,hd,rfl⟩;exact wM d gC cS (λq n=>⟨_,gC,n⟩) (next d hd)
 ·obtain⟨b,s3,p,s,rfl,l,m⟩:=y;rw[aC]at l;refine⟨_,gC,_,gC,_,gC,_,gC,_,gC,_,gC,_,gC,ns,(an.length:Int),by rw[aC],L,by have:=F.a2;lia,by have:=F.a4;lia,λr u v=>?_⟩;obtain⟨t,N,B,_⟩:=KI (xs:=an.map aK) u (by rw[aC];exact v);obtain⟨a,E,rfl⟩:=aR.mp N;exact⟨_,B,eN,h (b,a) ⟨Mt l m,E⟩⟩
def Lo:Fm P w K mg base qA 18 nq ["self","form","deep","least"] (JR C A K Eh):=by
 exact Jd T.D_0.F Ku gC T.C_Desk T.n_Desk_form T.n_Desk_book λa c outer s H E b=>(mZ (tW (pv 0) (pv 1) gC) (C6 (tW (pv 0) (Q9 T.K_Book (Lu T) (b.mono cR) gC T.x_Book T.D_5.d .nil iB (gF (pv 1) (gF (pv 2) (gF (pv 3) mU)))) gC)))
def Fu:Ft P w base T.D_49 3 Vg:=by
 refine nL T.D_49.F Rz λf nd g Q h=>?_;obtain⟨fs,an,fa,rs,rfl,F,c,b,e,h⟩:=h;refine⟨_,(bP (cK (fE (aA bO (aA (cd (Fb T) f (aA (aE 0) (aA (aE 1) aG))) aG))))),?_⟩
 exact⟨_,gC,_,gC,fs,an,rs,gC,F,b,e,λa d=>by
  rw[d.uniq (c rs b)];exact⟨eN,h⟩⟩
def Fv:Ft P w base T.D_50 5 Vh:=by
 refine nL T.D_50.F Sa λo nd u Q h=>?_;obtain⟨fs,an,k,n,v,s,y,m,rs,rfl,F,l,p,d,f,h⟩:=h;refine⟨_,(bP (cK (el (fr:=[wy,wz 2]) (N':=["numbers","rows"]) (fP (Cb (cQ (YT T) o (aA (aE 0) (aA (bJ aV cM (aE 1) aM) (aA (bJ aV cM (aE 1) aM) (aA (aE 2) aG))))))) (λb=>⟨(eQ (pk 0)),gQ,(cd (YS T) o (aA (aE 1) (aA (aE 0) aG)))⟩)))),?_⟩;refine JT (λR h=>⟨_,gC,_,gC,_,gC,_,gC,_,gC,_,gC,fs,an,k,n,v,s,rs,gC,F,l,p,d,f,_,gC,h⟩) (λi _ y=>(i=0->y=.list ((rs.filter (kM fs k n v s)).map fH))/\(i=1->y=.list ((rs.filter λr=>!kM fs k n v s r).map fH))) eN (λi x q g c=>?_) λt j e=>?_
 ·have B:i<2:=(aL.mp g).1;rcases(show i=0\/i=1 by lia)with rfl | rfl
  ·cases g;exact⟨_,gC,_,gC,fs,k,n,v,s,"yes",rs,gC,f,c _ ⟨λ_=>rfl,λz=>by cases z⟩⟩
  ·cases g;refine⟨_,gC,_,gC,fs,k,n,v,s,"no",rs,gC,f,?_⟩;rw[C8 F l p d];exact c _ ⟨(λz=>by cases z),λ_=>rfl⟩
 ·match t,j,e with
  |[a,b],_,e=>
   rw[((e 0 _ a gC gC).1 gC),((e 1 _ b gC gC).2 gC)];exact h
def Fk:Ft P w base T.D_41 1 Tk:=by
 refine nL T.D_41.F Qg λc nd b Q h=>?_;obtain⟨k,n,v,s,y,m,a,rfl,h⟩:=h;refine⟨_,(bP (cK (uM (cX eZ iL (aE 1) bO) (bJ aV cM (aE 0) aM) (bJ aV cM (aE 0) aM)))),?_⟩;refine⟨_,gC,?_⟩;show(if decide (a="yes")=wx then _ else _);by_cases e:a="yes"
 ·rw[a9 (b7 e)];rw[a9 e]at h;exact⟨_,gC,_,gC,h⟩
 ·rw[a8 (by simpa using e)];rw[a8 e]at h;exact⟨_,gC,_,gC,h⟩
def Fl:Fj P w base T.D_43 4 (iP K Tn):=by
 refine kS T.D_43.F Qi λi nd L Q h=>?_;obtain⟨fs,an,t,b,rfl,F,E,f,hd,h⟩:=h;refine⟨_,(aU (so 3 nd aG)
 (aU (ss 4 nd (aE 1))
 (aU (DX (oM (tv (cd (xH T) i (aA (aE 4) aG))))
 (aU (ss 5 nd (cd (Ff T) i (aA (aE 0) (aA (bJ aV cM (aE 4) aM) (aA (bJ aV cM (aE 4) aM) (aA (aE 2) aG))))))
 (aU (AV (pv 3) (fE (aA (bJ aV cM (aE 4) aM) (aA (aE 5) aG))) (pb:=λh=>gL (iA dS iT iS oS (pv 3) h)))
 (bP (ss 4 nd (cd (Fk T) i (aA (aE 4) (aA (aE 5) aG))))))) (λf hb=>D8 o0 f hb))
 (bP (sM (pv 3)))))),?_⟩
 refine pW [] cR (λq c=>c) ?_;refine cN (iN t) (λq c=>⟨_,gC,c⟩) ?_;refine A1 (λn H=>∃(p:Tr)(done:List D)(j:Sl),H=[.val (fV fs an),.val (iN t),.val (.tuple b),.own done,.val (iN p),j]/\n=p.dep/\jZ fs an p/\done++uQ fs p b=uQ fs t b/\done.length+p.dep<=40) t.dep ⟨t,[],_,gC,gC,E,gC,by show 0+t.dep<=40;lia⟩ λn J r=>?_;obtain⟨p,done,j,rfl,rfl,z,d,u⟩:=r;refine⟨!R3 p,λq c=>⟨_,gC,p,gC,c⟩,?_⟩
 cases p with
 |say a=>
  show(if ww=wx then _ else _);rw[a8 cR];have e:uQ fs (.say a) b=[]:=rfl;rw[e,eK]at d;subst d;exact⟨_,gC,h⟩
 |ask k n v s y m=>
  show(if wx=wx then _ else _);rw[a9 rfl];obtain⟨c,B,G,x⟩:=z;have l:(Tr.ask k n v s y m).dep=max y.dep m.dep+1:=rfl;rw[l]at u |-
  refine cN (.str (gD fs k n v s b)) (λq g=>⟨_,gC,_,gC,_,gC,_,gC,_,gC,_,gC,fs,an,k,n,v,s,b,gC,F,c,B,f,g⟩) ?_;refine aCz (.tuple [.tuple [.str k,.str n,.str v],.str (gD fs k n v s b)]) gC cS (λq c=>⟨_,gC,_,gC,_,gC,aB gC,c⟩) ?_;refine wL (iN (if gD fs k n v s b="yes" then y else m)) (λq c=>⟨_,gC,_,gC,k,n,v,s,y,m,_,gC,c⟩) ?_
  have o:done++[.tuple [.tuple [.str k,.str n,.str v],.str (gD fs k n v s b)]]++(if gD fs k n v s b="yes" then uQ fs y b else uQ fs m b)=uQ fs t b:=by
   rw[<- d,oJ];rfl
  refine⟨(if gD fs k n v s b="yes" then y else m).dep,?_,if gD fs k n v s b="yes" then y else m,_,_,gC,gC,?_,?_,?_⟩
  ·split<;>lia
  ·split
   ·exact G
   ·exact x
  ·rw[<- o];congr 1;split<;>rfl
  ·rw[aW,pJ];split<;>lia
def Od:Ft P w base T.D_44 5 Vb:=by
 refine nL T.D_44.F Qj λf nd i Q h=>?_;obtain⟨fs,an,t,c,rfl,F,g,d,hd,h⟩:=h;refine⟨_,(bP (cK (cY pB (aA (el (fr:=[wy,wy]) (N':=["question","side"]) (fP (xN (cF (Fl T) f (aA (aE 0) (aA (aE 1) (aA (aE 2) aG)))))) (λb=>⟨(nA (oO gC (fD (pk 0) (fD (pk 1) mM)))),gQ,(aE 1)⟩)) aG) iF T.b_tuple mG))),?_⟩;show kO (f1 BG) _ _ Q;dsimp only[kO,kW,pY];have j:=CZ (fs:=fs) t c;refine wP (λR h=>⟨_,gC,_,gC,_,gC,fs,an,t,c,gC,F,g,d,hd,_,gC,h⟩) TM cS (AR t c) (λa b q k e=>⟨_,gC,e⟩) ?_;rw[AQ];exact h
def Oe:Ft P w base T.D_46 2 Vd:=by
 refine nL T.D_46.F Ql λr nd L Q h=>?_;obtain⟨t,p,i,rfl,B,hd,h⟩:=h;refine⟨_,(aU (ss 2 nd (aE 0))
 (aU (sf (fP (aE 1)) (eQ (pn 3 nd))
 (aU (gW (uH (xF (tv (cd (xH T) r (aA (aE 2) aG))) (uY (cX (zJ r) A5 (aE 3) (AA gC T.c_SIDES T.t_SIDES)))))
 (bP lQ)
 fA)
 (bP (ss 2 nd (cd (Fk T) r (aA (aE 2) (aA (aE 3) aG)))))))
 (bP (cK (aE 2))))),?_⟩
 refine cN (iN t) (λq j=>⟨_,gC,j⟩) ?_
 refine pA (λR h=>⟨_,gC,_,gC,h⟩)
  (λk J=>∃(x:Tr)(s3:Sl),J=[.val (iN t),.val (.tuple (i.map aK)),.val (iN x),s3]/\uJ x (i.drop k)=wz p) ⟨t,_,gC,B⟩ (λk d z E l=>?_) λz l=>?_
 ·obtain⟨x,s3,rfl,c⟩:=l;rw[aQ]at E;obtain⟨f,g,rfl⟩:=dP.mp E
  have H:i.drop k=f::i.drop (k+1):=by
   rw[KY ((aL.mp g).1)];congr 1;exact(aL.mp g).2
  rw[H]at c;have u:=(JH B) f (bD g)
  cases x with
  |say a=>cases c
  |ask G n v s y m=>
   have b:(if f="yes" then uJ y (i.drop (k+1))else if f="no" then uJ m (i.drop (k+1))else wy)=wz p:=c;refine tU (λq j=>⟨_,gC,.ask G n v s y m,gC,?_⟩) ?_
   ·show(if ww=wx then _ else _);rw[a8 cR]
    have o:uW f=true:=by
     rcases u with rfl | rfl
     ·exact EK
     ·exact L9
    refine⟨_,gC,JL (λy hy=>?_) ((jX o (m:=0) (aN _)).cd cR),j _ ?_⟩
    ·rcases aO.mp hy with rfl | hy
     ·exact EK
     ·rw[bC.mp hy];exact L9
    ·have e:DE (.str f) (.tuple ((["yes","no"]:List â).map aK))=xL ["yes","no"] (.str f):=AG _ _;show(!DE (.str f) (.tuple ((["yes","no"]:List â).map aK)))=ww;rw[e]
     have:xL ["yes","no"] (.str f)=true:=by
      refine b7 ?_;rcases u with rfl | rfl<;>simp
     rw[this];rfl
   refine wL (iN (if f="yes" then y else m)) (λq j=>⟨_,gC,_,gC,G,n,v,s,y,m,f,gC,j⟩) ⟨if f="yes" then y else m,_,gC,?_⟩;rcases u with rfl | rfl
   ·rw[a9 rfl]at b |-
    exact b
   ·rw[a8 OF,a9 rfl]at b;rw[a8 OF];exact b
 ·obtain⟨x,s3,rfl,c⟩:=l;rw[aC,List.drop_length]at c;have:x=p:=by cases x<;>exact c8 c
  subst this;exact⟨_,gC,h⟩
def Fp:Ft P w base T.D_45 6 Vc:=by
 refine nL T.D_45.F Qk λc nd e Q h=>?_;obtain⟨fs,an,t,a,rfl,F,d,b,hd,h⟩:=h;refine⟨_,(bP (cK (bJ aV cM (cd (Oe T) c (aA (aE 1) (aA (cd (Od T) c (aA (aE 0) (aA (aE 1) (aA (aE 2) aG)))) aG))) aM))),?_⟩;exact⟨_,gC,_,gC,_,gC,_,gC,fs,an,t,a,gC,F,d,b,hd,t,.say (qR fs t a),tT fs t a,gC,yD F b t d,hd,_,gC,h⟩
def aCl(d:Nat)
  (c:Ft P w base T.D_42 (1+d) (vF d)):Fj P w base T.D_42 (1+d+1) (lN K (vF (d+1))):=by
 refine nL T.D_42.F Qh λf nd o Q h=>?_;obtain⟨t,rfl,hk,hd,h⟩:=h;refine⟨_,(aU (gW (tv (cd (hk:=by lia) (xH T) f (aA (aE 0) aG)))
 (bP (cK aM))
 fA)
 (bP (cK (cT bK dR (cT bK dR aM (cd (hk:=by lia) c f (aA (bJ aV cM (aE 0) aM) aG))) (cd (hk:=by lia) c f (aA (bJ aV cM (aE 0) aM) aG)))))),?_⟩
 cases t with
 |say a=>exact hX (λb=>b=wx) (λq e=>⟨_,gC,.say a,gC,e _ gC⟩) (λ_=>h) λl=>by cases l
 |ask k n v s y m=>
  have i:(Tr.ask k n v s y m).dep=max y.dep m.dep+1:=rfl;have g:(Tr.ask k n v s y m).kn=y.kn+m.kn+1:=rfl;rw[i]at hd;rw[g]at hk;refine tU (λq e=>⟨_,gC,.ask k n v s y m,gC,e _ gC⟩) ?_;refine⟨_,gC,_,gC,y,gC,cS,cS,_,gC,_,gC,m,gC,cS,cS,?_⟩
  have j:(1:Int)+(y.kn:Int)+(m.kn:Int)=(((Tr.ask k n v s y m).kn:Nat):Int):=by
   rw[g];lia
  show Q (.int (1+(y.kn:Int)+(m.kn:Int)));rw[j];exact h
def YQ:Ft P w base T.D_42 42 Tl:=by
 have h:∀a:Nat,Ft P w base T.D_42 (1+a) (vF a):=λa=>by
  induction a with
  |zero=>exact BI sV λc Q h=>ZC h
  |succ a b=>exact aCl T a b
 exact h 41
def RI:Ft P w base T.D_48 43 Vf:=by
 refine nL T.D_48.F Ry λd nd u Q h=>?_;obtain⟨fs,an,t,rs,a,b,rfl,F,m,f,g,e,v,n,o,p,s,h⟩:=h;refine⟨_,(aU (nX (i:=4) (fr:=[wy,wz 0,wz 1]) (N':=["row","form","tree"]) (fP (aE 2)) (λb=>⟨(eQ (pk 0)),(E1 (cX RF zu (cd (Fp T) d (aA (aE 1) (aA (aE 2) (aA (bJ aV cM (aE 0) aM) aG)))) (bJ aV cM (aE 0) aM))),(aE 0)⟩) (λl k=>lL (show pT _ (aS (top 54)) ["form","tree","rows","prices","slips"] ["row","form","tree"] [wy,wz 0,wz 1]=wx from by decide +kernel) nd gC (by first | exact h7 gC | exact g7 gC) gC l k gC))
 (bP (cK (cT bK dR (cT jB rH (bJ aV cM (aE 3) aM) (cB jS (aA (aE 4) aG) cZ T.b_len gX)) (cT jB rH (bJ aV cM (aE 3) aM) (cd (YQ T) d (aA (aE 1) aG))))))),?_⟩
 refine cN (.list ((rs.filter λr=>!decide (qR fs t r.1=r.2)).map fH)) (λq c=>?_) ?_
 ·refine ER (λR h=>⟨_,gC,_,gC,h⟩) (λx=>match x with | .tuple [.tuple cs,.str w]=>!decide (qR fs t cs=w) | _=>ww) id (by rw[aC];lia) (λx q j c=>?_) (λx q j c=>⟨_,gC,c⟩) ?_
  ·obtain⟨r,d,rfl⟩:=aR.mp j;exact⟨_,gC,_,gC,_,gC,_,gC,fs,an,t,r.1,gC,F,m,(e r d).1,f,_,gC,_,gC,c⟩
  ·rw[tL,qG];exact c
 refine⟨_,gC,_,gC,_,gC,.inl ⟨cS,cS⟩,_,gC,_,gC,_,gC,t,gC,g,cS,.inl ⟨cS,cS⟩,?_⟩;rw[aC];exact h
def Of:Ft P w base T.D_51 1 Vi:=by
 refine nL T.D_51.F Sb λd nd c Q h=>?_;obtain⟨a,b,rfl,h⟩:=h;refine⟨_,(bP (cK (fE (aA (bJ aV cM (aE 0) aM) (aA (bJ aV cM (aE 0) aM) aG))))),?_⟩;exact⟨_,gC,_,gC,_,gC,_,gC,eN,h⟩
def aCj(x:Nat)
  (f:Ft P w base T.D_53 (44+x) (vD x)):Fj P w base T.D_53 (44+x+1) (lN K (vD (x+1))):=by
 refine nL T.D_53.F Sd λg nd X Q h=>?_;obtain⟨fs,an,fa,t,rs,a,b,rfl,F,e,H,hd,d,B,l,o,p,u,h⟩:=h;refine⟨_,(aU (gW (tv (cd (hk:=by lia) (xH T) g (aA (aE 1) aG)))
 (bP (cK (fE (aA (cd (hk:=by lia) (RI T) g (aA (aE 0) (aA (aE 1) (aA (aE 2) (aA (aE 3) aG))))) (aA (aE 1) aG)))))
 fA)
 (aU (ss 4 nd (cd (hk:=by lia) (Fu T) g (aA (aE 0) (aA (aE 2) aG))))
 (aU (ss 5 nd (cd (hk:=by lia) (RI T) g (aA (aE 0) (aA (aE 4) (aA (aE 2) (aA (aE 3) aG))))))
 (aU (ss 6 nd (cd (hk:=by lia) (Fv T) g (aA (aE 0) (aA (aE 1) (aA (aE 2) aG)))))
 (aU (ss 7 nd (cd (hk:=by lia) f g (aA (aE 0) (aA (bJ aV cM (aE 1) aM) (aA (bJ aV cM (aE 6) aM) (aA (aE 3) aG))))))
 (aU (ss 8 nd (cd (hk:=by lia) f g (aA (aE 0) (aA (bJ aV cM (aE 1) aM) (aA (bJ aV cM (aE 6) aM) (aA (aE 3) aG))))))
 (aU (ss 9 nd (cT bK dR (cT bK dR (bJ aV cM (aE 3) aM) (bJ aV cM (aE 7) aM)) (bJ aV cM (aE 8) aM)))
 (aU (gW (cX L0 qN (aE 5) (aE 9))
 (bP (cK (fE (aA (aE 5) (aA (aE 4) aG)))))
 fA)
 (bP (cK (fE (aA (aE 9) (aA (cT bK dR (dO fM lA (aE 1) eL (eA aM)) (fE (aA (bJ aV cM (aE 7) aM) (aA (bJ aV cM (aE 8) aM) aG)))) aG))))))))))))),?_⟩
 show nY _ _ _ [.val (fV fs an),.val (iN t),.val (.list (rs.map fH)),.val (.tuple [.int a,.int b]),.un,.un,.un,.un,.un,.un]
 have J:∀z:â,a*(gE fs (.say z) rs:Nat)+b*(((Tr.say z).kn:Nat):Int)=a*(gE fs (.say z) rs:Nat):=λz=>by
  show _+b*0=_;rw[QF,QG]
 cases t with
 |say z=>
  refine vH (λq j=>⟨_,gC,.say z,gC,j _ gC⟩) ?_;refine⟨_,gC,_,gC,_,gC,_,gC,fs,an,.say z,rs,a,b,gC,F,H,cP _,cP _,d,B,l,o,p,u,_,gC,eN,?_⟩;rw[J];exact h
 |ask k n v s y m=>
  have L:(Tr.ask k n v s y m).dep=max y.dep m.dep+1:=rfl;rw[L]at hd;obtain⟨j,U,W,R⟩:=H;have Y:=bW (kM fs k n v s) rs;have l2:=bW (λr=>!kM fs k n v s r) rs
  have E:jZ fs an (.say (fa rs)):=by
   obtain⟨i,N,_⟩:=e rs d;exact bD N
  refine tU (λq j=>⟨_,gC,.ask k n v s y m,gC,j _ gC⟩) ?_;refine cN (iN (.say (fa rs))) (λq c=>⟨_,gC,_,gC,fs,an,fa,rs,gC,F,e,d,B,c⟩) ?_;refine cN (.int (a*(gE fs (.say (fa rs)) rs:Nat))) (λq c=>⟨_,gC,_,gC,_,gC,_,gC,fs,an,.say (fa rs),rs,a,b,gC,F,E,cP _,cP _,d,B,l,o,p,u,by rw[J];exact c⟩) ?_;refine cN (.list [.list ((rs.filter (kM fs k n v s)).map fH),.list ((rs.filter λr=>!kM fs k n v s r).map fH)]) (λq c=>⟨_,gC,_,gC,_,gC,fs,an,k,n,v,s,y,m,rs,gC,F,j,U,d,B,c⟩) ?_;refine cN (.tuple [.int (lw fs fa a b y (rs.filter (kM fs k n v s))).1,iN (lw fs fa a b y (rs.filter (kM fs k n v s))).2]) (λq c=>⟨_,gC,_,gC,_,gC,_,gC,_,gC,_,gC,fs,an,fa,y,_,a,b,gC,F,e,W,cS,d.filt _,cS,l,o,p,u,c⟩) ?_;refine cN (.tuple [.int (lw fs fa a b m (rs.filter λr=>!kM fs k n v s r)).1,iN (lw fs fa a b m (rs.filter λr=>!kM fs k n v s r)).2]) (λq c=>⟨_,gC,_,gC,_,gC,_,gC,_,gC,_,gC,fs,an,fa,m,_,a,b,gC,F,e,R,cS,d.filt _,cS,l,o,p,u,c⟩) ?_;refine cN (.int (b+(lw fs fa a b y (rs.filter (kM fs k n v s))).1+(lw fs fa a b m (rs.filter λr=>!kM fs k n v s r)).1)) (λq c=>⟨_,gC,_,gC,_,gC,_,gC,_,gC,_,gC,c⟩) ?_;have el:lw fs fa a b (.ask k n v s y m) rs=if a*(gE fs (.say (fa rs)) rs:Nat)<=b+(lw fs fa a b y (rs.filter (kM fs k n v s))).1+(lw fs fa a b m (rs.filter λr=>!kM fs k n v s r)).1 then(a*(gE fs (.say (fa rs)) rs:Nat),.say (fa rs))else(b+(lw fs fa a b y (rs.filter (kM fs k n v s))).1+(lw fs fa a b m (rs.filter λr=>!kM fs k n v s r)).1,.ask k n v s (lw fs fa a b y (rs.filter (kM fs k n v s))).2 (lw fs fa a b m (rs.filter λr=>!kM fs k n v s r)).2):=rfl;rw[el]at h;refine hX (λz=>z=decide (a*(gE fs (.say (fa rs)) rs:Nat)<=b+(lw fs fa a b y (rs.filter (kM fs k n v s))).1+(lw fs fa a b m (rs.filter λr=>!kM fs k n v s r)).1)) (λq c=>⟨_,gC,_,gC,c _ gC⟩) (λG=>?_) λG=>?_
  ·rw[a9 (b9 G.symm)]at h;exact⟨_,gC,_,gC,eN,h⟩
  ·rw[a8 (g8 G.symm)]at h
   try unfold jR
   dsimp only;refine⟨_,gC,_,gC,_,gC,_,gC,_,gC,_,gC,eN,?_⟩;show zd (.tuple (fY [aK "ask",.tuple [.str k,.str n,.str v],.str s,iN y,iN m] wy (wz 3))) _ _;rw[Kq];exact⟨eN,eN,h⟩
def Pd:Ft P w base T.D_53 57 Ua:=by
 have h:∀a:Nat,Ft P w base T.D_53 (44+a) (vD a):=λa=>by
  induction a with
  |zero=>exact BI sV λc Q h=>ZA h
  |succ a b=>exact aCj T a b
 exact h 13
def Fw:Ft P w base T.D_52 58 Vj:=by
 refine nL T.D_52.F Sc λe nd m Q h=>?_;obtain⟨fs,an,fa,t,rs,a,b,rfl,F,c,l,hd,d,k,f,g,i,j,h⟩:=h;refine⟨_,(bP (cK (bJ aV cM (cd (Pd T) e (aA (aE 0) (aA (aE 1) (aA (aE 2) (aA (cd (Of T) e (aA (aE 3) aG)) aG))))) aM))),?_⟩;exact⟨_,gC,_,gC,_,gC,_,gC,_,_,gC,fs,an,fa,t,rs,a,b,gC,F,c,l,hd,d,k,f,g,i,j,_,gC,h⟩
def aCi(u:Nat)
  (g:Ft P w base T.D_56 (44+u) (vC u)):Fj P w base T.D_56 (44+u+1) (lN K (vC (u+1))):=by
 refine nL T.D_56.F Sg λd nd ds Q h=>?_;obtain⟨fs,an,fa,t,rs,rfl,F,c,E,hd,j,l,b,o,f,h⟩:=h;refine⟨_,(aU (gW (tv (cd (hk:=by lia) (xH T) d (aA (aE 1) aG)))
 (bP (cK (fE (aA (cd (hk:=by lia) (RI T) d (aA (aE 0) (aA (aE 1) (aA (aE 2) (aA (fE (aA aM (aA aM aG))) aG))))) (aA (jV aG) aG)))))
 fA)
 (aU (ss 3 nd (cd (hk:=by lia) (Fv T) d (aA (aE 0) (aA (aE 1) (aA (aE 2) aG)))))
 (aU (ss 4 nd (cd (hk:=by lia) g d (aA (aE 0) (aA (bJ aV cM (aE 1) aM) (aA (bJ aV cM (aE 3) aM) aG)))))
 (aU (ss 5 nd (cd (hk:=by lia) g d (aA (aE 0) (aA (bJ aV cM (aE 1) aM) (aA (bJ aV cM (aE 3) aM) aG)))))
 (aU (ss 6 nd (cT bK dR (bJ aV cM (aE 4) aM) (bJ aV cM (aE 5) aM)))
 (aU (ss 7 nd (cT A3 UG (cd (hk:=by lia) (RI T) d (aA (aE 0) (aA (cd (hk:=by lia) (Fu T) d (aA (aE 0) (aA (aE 2) aG))) (aA (aE 2) (aA (fE (aA aM (aA aM aG))) aG))))) (aE 6)))
 (bP (cK (fE (aA (aE 6) (aA (cT bK dR (cT bK dR (jV (aA (cd (hk:=by lia) (YU T) d (aA (aE 7) (aA (cd (hk:=by lia) (YQ T) d (aA (aE 1) aG)) aG))) aG)) (bJ aV cM (aE 4) aM)) (bJ aV cM (aE 5) aM)) aG))))))))))),?_⟩
 show nY _ _ _ [.val (fV fs an),.val (iN t),.val (.list (rs.map fH)),.un,.un,.un,.un,.un];have one:∀z:â,(1:Int)*(gE fs (.say z) rs:Nat)+0*(((Tr.say z).kn:Nat):Int)=(gE fs (.say z) rs:Nat):=λz=>by rw[aTo,Int.zero_mul,QG]
 cases t with
 |say z=>
  refine vH (λq p=>⟨_,gC,.say z,gC,p _ gC⟩) ?_;refine⟨_,gC,_,gC,_,gC,eN,fs,an,.say z,rs,1,0,gC,F,E,cP _,cP _,b,o,cR,cR,cR,cR,eN,eN,?_⟩;rw[one];exact h
 |ask k n v s y m=>
  have L:(Tr.ask k n v s y m).dep=max y.dep m.dep+1:=rfl;have N:(Tr.ask k n v s y m).kn=y.kn+m.kn+1:=rfl;have G:CG fs fa (.ask k n v s y m) rs=((gE fs (.say (fa rs)) rs:Int)-(gE fs (.ask k n v s y m) rs:Nat),(Tr.ask k n v s y m).kn)::(CG fs fa y (rs.filter (kM fs k n v s))++CG fs fa m (rs.filter λr=>!kM fs k n v s r)):=rfl;have U:=E;obtain⟨p,hs,hy,hm⟩:=E;have l1:=bW (kM fs k n v s) rs;have l2:=bW (λr=>!kM fs k n v s r) rs
  have x:jZ fs an (.say (fa rs)):=by
   obtain⟨i,X,_⟩:=c rs b;exact bD X
  rw[G]at f;have Y:=l;have W:=j;rw[L]at hd j;rw[N]at l;refine tU (λq p=>⟨_,gC,.ask k n v s y m,gC,p _ gC⟩) ?_;refine cN (.list [.list ((rs.filter (kM fs k n v s)).map fH),.list ((rs.filter λr=>!kM fs k n v s r).map fH)]) (λq a=>⟨_,gC,_,gC,_,gC,fs,an,k,n,v,s,y,m,rs,gC,F,p,hs,b,o,a⟩) ?_;refine cN (.tuple [.int (gE fs y (rs.filter (kM fs k n v s)):Nat),.list ((CG fs fa y (rs.filter (kM fs k n v s))).map λe=>O9 (mB e))]) (λq a=>⟨_,gC,_,gC,_,gC,_,gC,_,gC,fs,an,fa,y,_,gC,F,c,hy,cS,cS,cS,b.filt _,cS,λe B=>f e (aH _ (dZ _ B)),a⟩) ?_;refine cN (.tuple [.int (gE fs m (rs.filter λr=>!kM fs k n v s r):Nat),.list ((CG fs fa m (rs.filter λr=>!kM fs k n v s r)).map λe=>O9 (mB e))]) (λq a=>⟨_,gC,_,gC,_,gC,_,gC,_,gC,fs,an,fa,m,_,gC,F,c,hm,cS,cS,cS,b.filt _,cS,λe B=>f e (aH _ (cE _ B)),a⟩) ?_;refine cN (.int (gE fs (.ask k n v s y m) rs:Nat)) (λq a=>⟨_,gC,_,gC,_,gC,_,gC,by rw[DZ]at a;exact a⟩) ?_;refine cN (.int ((gE fs (.say (fa rs)) rs:Int)-(gE fs (.ask k n v s y m) rs:Nat))) (λq a=>⟨_,gC,_,gC,_,gC,fs,an,fa,rs,gC,F,c,b,o,_,gC,eN,fs,an,.say (fa rs),rs,1,0,gC,F,x,cP _,cP _,b,o,cR,cR,cR,cR,_,gC,by rw[one];exact a⟩) ?_;have H:=f _ (aP ..);dsimp only at H;have vk:gE fs (.say (fa rs)) rs<=60:=aY (bW _ _) o;have big:(1000000000000:Nat)<2^190:=by decide +kernel
  have R:[cI ((gE fs (.say (fa rs)) rs:Int)-(gE fs (.ask k n v s y m) rs:Nat)),.int ((Tr.ask k n v s y m).kn:Nat)]=[.int (((gE fs (.say (fa rs)) rs:Int)-(gE fs (.ask k n v s y m) rs:Nat)).toNat:Nat),.int ((Tr.ask k n v s y m).kn:Nat)]:=by rw[eT H]
  have J:=II (fs:=fs) (fa:=fa) y (rs.filter (kM fs k n v s));have s2:=II (fs:=fs) (fa:=fa) m (rs.filter λr=>!kM fs k n v s r);refine⟨_,gC,_,gC,_,gC,.ask k n v s y m,gC,cS,cS,_,_,R,cS,cS,cS,eN,_,gC,_,gC,?_⟩;refine⟨by rw[aC,J];show 1+_<=_;lia,_,gC,_,gC,by rw[aW,aC,aC,J,s2];show 1+_+_<=_;lia,eN,?_⟩;rw[G,bB,bV]at h;exact h
def Pg:Ft P w base T.D_56 57 Ud:=by
 have h:∀a:Nat,Ft P w base T.D_56 (44+a) (vC a):=λa=>by
  induction a with
  |zero=>exact BI sV λc Q h=>Y9 h
  |succ a b=>exact aCi T a b
 exact h 13
def Pi:Ft P w base T.D_58 2 Uf:=by
 refine nL T.D_58.F Qx λd nd i Q h=>?_;obtain⟨fs,an,rfl,F,h⟩:=h;refine⟨_,(bP (cK (cY pB (aA (el (fr:=[wy]) (N':=["field"]) (fP (bJ aV cM (aE 0) aM)) (λb=>⟨(eQ (pk 0)),gQ,(cd (YV T) d (aA (aE 0) aG))⟩)) aG) iF T.b_tuple mG))),?_⟩;have n5:=F.n5;have e:(fs.map lG).map (λx=>match x with | .tuple [_,.tuple vs]=>.tuple (vs++[.none]) | _=>x)=(fs.map wX).map dB:=by rw[bE,bE];rfl
 show kO (f1 BG) _ _ Q;dsimp only[kO,kW,pY];refine iR (λR h=>⟨_,gC,_,gC,_,gC,h⟩) (λx=>match x with | .tuple [_,.tuple vs]=>.tuple (vs++[.none]) | _=>x) (by rw[aC];lia) (λx q g c=>?_) ?_
 ·obtain⟨f,a,rfl⟩:=aR.mp g;exact⟨_,gC,f,gC,((F.vs f a).2.1),c⟩
 ·rw[e];exact h
def Pk:Ft P w base T.D_60 1 Uh:=by
 refine nL T.D_60.F Qz λk nd f Q h=>?_;obtain⟨L,j,g,e,rfl,d,i,h⟩:=h;refine⟨_,(bP (cK (cT bK dR (cT bK dR (dO fM lA (aE 0) eL (eA (aE 1))) (fE (aA (aE 2) aG))) (dO fM lA (aE 0) (eA (cT bK dR (aE 1) aM)) eL)))),?_⟩;have a:fY (L.map dB) wy (wz (j:Int))=(L.take j).map dB:=by rw[hU,nG]
 have b:fY (L.map dB) (wz ((j:Int)+1)) wy=(L.drop (j+1)).map dB:=by
  have:=pQ L (j+1);rw[hU];exact d6 _ this
 have c:zO (rS L j g)=.tuple ((L.take j).map dB++[.tuple (e.filter g)]++(L.drop (j+1)).map dB):=by
  unfold zO;rw[E6 d,bV,bB,oJ];rfl
 rw[c]at h;refine⟨_,gC,_,gC,_,gC,eN,?_,_,gC,_,gC,?_,?_⟩
 ·rw[a,aC,bU];show _+1<=_;lia
 ·rw[a,b,aW,aC,aC,bU,eI];show _+1+_<=_;lia
 ·rw[a,b];exact h
def aCg(d:Nat)
  (c:Ft P w base T.D_61 (1+d) (vA d)):Fj P w base T.D_61 (1+d+1) (lN K (vA (d+1))):=by
 refine nL T.D_61.F QD λi nd x Q h=>?_;obtain⟨fs,an,t,rfl,F,o,hk,hd,h⟩:=h;refine⟨_,(aU (gW (tv (cd (hk:=by lia) (xH T) i (aA (aE 0) aG)))
 (bP (cK (aAm bO (aA (aE 0) aG) (λh f=>iA bS dE dD ZF h f))))
 fA)
 (aU (ss 1 nd (bJ aV cM (aE 0) aM))
 (aU (ss 2 nd (jV (aA bO (aA (bJ aV cM (aE 1) aM) (aA (bJ aV cM (aE 1) aM) (aA (bJ aV cM (aE 1) aM) (aA (bJ aV cM (aE 0) aM) (aA (cd (hk:=by lia) c i (aA (bJ aV cM (aE 0) aM) aG)) (aA (cd (hk:=by lia) c i (aA (bJ aV cM (aE 0) aM) aG)) aG)))))))))
 (bP (cK (lT bO (aA (aE 2) aG) (λh f=>iA bS dE dD lR h f))))))),?_⟩
 cases t with
 |say a=>
  refine vH (λq b=>⟨_,gC,.say a,gC,b _ gC⟩) ?_;have l:=OG (oK F (.say a) o);refine⟨cO,gC,_,gC,kK (.say a),gC,?_,h⟩;have e:cO.length=1:=by decide +kernel
  rw[e];have:(kK (.say a)).length=2:=rfl;lia
 |ask k n v s y m=>
  have p:(Tr.ask k n v s y m).dep=max y.dep m.dep+1:=rfl;have r:(Tr.ask k n v s y m).kn=y.kn+m.kn+1:=rfl;rw[p]at hd;rw[r]at hk;obtain⟨b,u,j,g⟩:=o;refine tU (λq b=>⟨_,gC,.ask k n v s y m,gC,b _ gC⟩) ?_;refine cN (.tuple [.str k,.str n,.str v]) (λq b=>⟨_,gC,_,gC,b⟩) ?_;refine cN (.list ((["ask",n,k,v,s,lM y,lM m]:List â).map aK)) (λq b=>⟨_,gC,_,gC,_,gC,_,gC,_,gC,_,gC,_,gC,_,gC,_,gC,_,gC,fs,an,y,gC,F,j,cS,cS,_,gC,_,gC,fs,an,m,gC,F,g,cS,cS,aB gC,b⟩) ?_;have B:=AX F j;have E:=AX F g;have l:=OG λw hw=>oK F (.ask k n v s y m) ⟨b,u,j,g⟩ w (bR.mpr (.inl (aH _ hw)));refine⟨cO,gC,_,gC,_,gC,?_,?_⟩
  ·have e:cO.length=1:=by decide +kernel
   have z:("ask":â).length=3:=by decide +kernel
   rw[e];simp only[bB,mY,dY,List.sum_nil,bA,wJ]at l |-
   lia
  ·rw[TQ];exact h
def Pl:Ft P w base T.D_61 32 Ui:=by
 have h:∀a:Nat,Ft P w base T.D_61 (1+a) (vA a):=λa=>by
  induction a with
  |zero=>exact BI sV λc Q h=>Y7 h
  |succ a b=>exact aCg T a b
 exact h 31
def Fz:Ft P w base T.D_66 1 Ha:=by
 refine nL T.D_66.F Rf λc nd b Q h=>?_;obtain⟨x,rfl,a,h⟩:=h;refine⟨_,(bP (cK (uM (cX YJ Ey (aE 0) uA) (J9 gC T.c_LACKING) (aE 0)))),?_⟩;rcases a with rfl | ⟨z,d,rfl⟩
 ·exact⟨_,gC,h⟩
 ·exact⟨_,gC,_,gC,h⟩
def Ou:Ft P w base T.D_77 1 Uv:=by
 refine nL T.D_77.F Rq λc nd b Q h=>?_;obtain⟨x,rfl,a,h⟩:=h;refine⟨_,(bP (cK (uM (cX T9 Y1 (aE 0) uA) (aE 0) bO))),?_⟩;rcases a with rfl | ⟨z,d,rfl⟩
 ·exact⟨_,gC,h⟩
 ·exact⟨_,gC,_,gC,h⟩
def YO:Ft P w base T.D_65 1 Ul:=by
 refine nL T.D_65.F Re λg nd d Q h=>?_;obtain⟨i,rfl,f,h⟩:=h;refine⟨_,(bP (cK (cY pB (aA (el (fr:=[wy]) (N':=["word"]) (fP (aE 0)) (λb=>⟨(eQ (pk 0)),gQ,(uM (cX eZ iL (aE 0) (J9 gC T.c_LACKING)) uA (aE 0))⟩)) aG) iF T.b_tuple mG))),?_⟩;show kO (f1 BG) _ _ Q;dsimp only[kO,kW,pY];refine iR (λR h=>⟨_,gC,_,gC,h⟩) (λx=>match x with | .str w=>uR w | _=>x) (by rw[aC];lia) (λx q c a=>?_) ?_
 ·obtain⟨w,hw,rfl⟩:=aR.mp c;refine⟨_,gC,?_⟩;show(if decide (w="-")=wx then _ else _);have a:q (uR w):=a;unfold uR at a;by_cases e:w="-"
  ·rw[a9 e]at a;rw[a9 (b7 e)];exact a
  ·rw[a8 e]at a;rw[a8 λz=>e (b9 z)];exact⟨_,gC,a⟩
 ·rw[bE];exact h
def Fy:Ft P w base T.D_63 1 Gz:=by
 refine nL T.D_63.F Rb λp nd o Q h=>?_;obtain⟨w,rfl,g,h⟩:=h;refine⟨_,(aU (gW (uH (xF (oM (WK L0 L0 qN qN aM (cB jS (aA (aE 0) aG) cZ T.b_len gX) (KA gC T.c_MOST_FIGURES))) (uY (oM (tv (cB Cj (aA (el (fr:=[wy]) (N':=["sign"]) (fP (aE 0)) (λb=>⟨(eQ (pk 0)),gQ,(iX mD EF (aE 0) (J9 gC T.c_FIGURES))⟩)) aG) (uC gC) T.b_all PU))))))
 (bP (cK vT))
 fA)
 (bP (cK (Ew (iX eZ iL (aE 0) bO) (rT (Zo (Cc (aE 0) (aA bO aG) (λh m=>iA bS qC qB A7 h m)))))))),?_⟩
 unfold uL at h;refine hX (λb=>b=!(decide (1<=w.length)&&decide (w.length<=9)&&(GA w).all id)) (λq a=>?_) (λl=>?_) λk=>?_
 ·refine⟨_,gC,g,?_⟩;have i:decide ((1:Int)<=(w.length:Nat))=decide (1<=w.length):=by rw[e4];lia
  have j:decide (((w.length:Nat):Int)<=9)=decide (w.length<=9):=by rw[e4];lia
  show(if decide ((1:Int)<=(w.length:Nat))=wx then _ else _);rw[i]
  cases d:decide (1<=w.length)with
  |false=>exact a _ (by rw[d];rfl)
  |true=>
   rw[a9 rfl];show(if(!decide (((w.length:Nat):Int)<=9))=wx then q wx else _);rw[j]
   cases f:decide (w.length<=9)with
   |false=>exact a _ (by rw[d,f];rfl)
   |true=>
    rw[a8 cR];dsimp only[Dm,M3,kO,kW,pY];refine iR (λR h=>⟨_,gC,_,gC,h⟩) Om (by unfold yY;rw[aC];exact g) (λx q n a=>?_) ⟨GA w,by unfold GA yY;rw[bE,bE];rfl,a _ (by rw[d,f];rfl)⟩;obtain⟨c,_,rfl⟩:=aR.mp n;exact⟨_,gC,a⟩
 ·have:=l.symm;rw[tM]at this;rw[this]at h;exact h
 ·have:=k.symm;rw[rQ]at this;rw[this,iY]at h;refine⟨_,gC,?_⟩;show(if decide (w="0")=wx then Q (.bool wx)else _);by_cases e:w="0"
  ·rw[b7 e]at h |-;exact h
  ·rw[c6 e]at h |-
   exact⟨_,gC,_,gC,h⟩
def Fx:Ft P w base T.D_62 2 Uj:=by
 refine nL T.D_62.F Ra λi nd j Q h=>?_;obtain⟨w,r,rfl,g,h⟩:=h;refine⟨_,(aU (gW (cX mD EF (bJ aV cM (aE 0) aM) (AA gC T.c_SINGLE_WORDS T.t_SINGLE_WORDS))
 (bP (cK (iX eZ iL (cB jS (aA (aE 0) aG) cZ T.b_len gX) aM)))
 fA)
 (aU (gW (cX eZ iL (bJ aV cM (aE 0) aM) bO)
 (bP (cK (rV (iX eZ iL (cB jS (aA (aE 0) aG) cZ T.b_len gX) aM) (rT (cd (Fy T) i (aA (bJ aV cM (aE 0) aM) aG))))))
 fA)
 (aU (gW (cX eZ iL (bJ aV cM (aE 0) aM) bO)
 (bP (cK (rV (iX L3 qN (cB jS (aA (aE 0) aG) cZ T.b_len gX) aM) (rT (cd (Fy T) i (aA (bJ aV cM (aE 0) aM) aG))))))
 fA)
 (bP (cK (iX mD EF (bJ aV cM (aE 0) aM) (fE (aA bO (aA bO (aA bO aG)))))))))),?_⟩
 have f:atI ((w::r).map aK) 0=wz (.str w):=L2.eR gC;unfold iV at h;rw[fR,oH]at h;refine hX (λb=>b=decide (w∈(["tree","rows","rules","steps"]:List â))) (λq d=>⟨_,gC,_,f,_,gC,d _ gC⟩) (λc=>?_) λa=>?_
 ·rw[a9 (b9 c.symm)]at h;have e:decide (((((w::r).map aK).length:Nat):Int)=1)=decide ((w::r).length=1):=by rw[e4,aC];lia
  rw[<- e]at h;exact⟨_,gC,h⟩
 rw[a8 (g8 a.symm)]at h
 try unfold jR
 dsimp only;refine hX (λb=>b=decide (w="out")) (λq d=>⟨_,gC,_,f,d _ gC⟩) (λc=>?_) λa=>?_
 ·rw[a9 (b9 c.symm)]at h;refine⟨_,gC,?_⟩;rcases r with _ | ⟨x,_ | ⟨y,r⟩⟩
  ·exact h
  ·exact⟨_,gC,_,gC,x,gC,g x (aP ..),h⟩
  ·exact h
 rw[a8 (g8 a.symm)]at h
 try unfold jR
 dsimp only;refine hX (λb=>b=decide (w="turn")) (λq d=>⟨_,gC,_,f,d _ gC⟩) (λc=>?_) λa=>?_
 ·rw[a9 (b9 c.symm)]at h;refine⟨_,gC,?_⟩;rcases r with _ | ⟨x,r⟩
  ·exact h
  ·show(if decide (2<=((((w::x::r).map aK).length:Nat):Int))=wx then _ else Q (.bool ww));rw[a9 (by rw[aC];simp;lia)];rw[b7 (show 2<=(w::x::r).length by simp),iY]at h;exact⟨_,gC,_,L2.eR gC,x,gC,g x (aP ..),h⟩
 rw[a8 (g8 a.symm)]at h
 try unfold jR
 dsimp only;exact⟨_,gC,_,f,eN,["put","judge","why"],gC,h⟩
def YL:Ft P w base T.D_78 2 Uw:=by
 refine nL T.D_78.F Rr λg nd i Q h=>?_;obtain⟨fs,an,r,rfl,F,a,h⟩:=h;refine⟨_,(bP (cK (lT bO (aA (cT bK dR (el (fr:=[wy]) (N':=["_law_value"]) (fP (bJ aV cM (aE 0) aM)) (λb=>⟨(eQ (pk 0)),gQ,(cd (Ou T) g (aA (aE 0) aG))⟩)) (jV (aA (bJ aV cM (aE 0) aM) aG))) aG) (λh d=>iA bS dE dD lR h d)))),?_⟩;obtain⟨w,m,e,hw,k⟩:=sP F a;have j:=(sQ F a).2;have l:=oN λx c=>(hw x c).2;refine⟨_,gC,?_⟩;dsimp only[kW,pY,rA];refine iR (λR h=>⟨_,gC,_,gC,_,gC,h⟩) (λx=>.str (F0 x)) cS (λx q c f=>⟨_,gC,x,gC,vU F a.1 x c,f⟩) ?_;refine⟨_,gC,_,gC,eN,by rw[aC];show _+1<=_;lia,r.1.map F0++[r.2],by rw[bV,bE];rfl,?_,h⟩;have hb:cO.length=1:=by decide +kernel
 show _+_*cO.length<=_;rw[e,hb];rw[bA]at *;lia
def Op:Ft P w base T.D_70 2 Up:=by
 refine nL T.D_70.F Rj λn nd p Q h=>?_;obtain⟨f,e,rfl,g,a,l,h⟩:=h;refine⟨_,(bP (cK (cT bK dR (cT bK dR (bJ aV cM (aE 0) aM) bO) (lT bO (aA (el (fr:=[wy]) (N':=["entry"]) (fP (aE 1)) (λb=>⟨(eQ (pk 0)),gQ,(cd (Fz T) n (aA (aE 0) aG))⟩)) aG) (λh k=>iA bS dE dD lR h k))))),?_⟩;have r:=(vN g).2.2
 have o:=oN λw hw=>by
  obtain⟨x,c,rfl⟩:=aR.mp hw;exact(KM (a x c)).2.2
 rw[aC]at o;have i:(" in ":â).length=4:=by decide +kernel
 have j:("/":â).length=1:=by decide +kernel
 have d:=MD g a l;unfold ZM at d;rw[iI]at d;refine⟨_,gC,_,gC,by rw[i];lia,_,gC,?_⟩;refine iR (λR h=>⟨_,gC,_,gC,h⟩) (λx=>.str (F0 x)) cS (λx q c m=>⟨_,gC,x,gC,a x c,m⟩) ?_;refine⟨e.map F0,by rw[bE];rfl,by rw[aC,j];lia,cS,h⟩
def Oq:Ft P w base T.D_71 43 Hc:=by
 refine nL T.D_71.F Rk λe nd i Q h=>?_;obtain⟨z,rfl,j,k,l,m,h⟩:=h;refine⟨_,(bP (cK (cT bK dR (cT bK dR (cT bK dR (cT bK dR (cY vW (aA (bJ aV cM (aE 0) aM) aG) mP T.b_str uD) bO) (cY vW (aA (bJ aV cM (aE 0) aM) aG) mP T.b_str uD)) bO) (cY vW (aA (cd (YQ T) e (aA (aE 1) aG)) aG) mP T.b_str uD)))),?_⟩;obtain⟨f,a2⟩:=mN z.1.1 cS;obtain⟨g,c⟩:=mN z.1.2 cS;obtain⟨c1,d⟩:=mN z.2.kn cS;have a:("/":â).length=1:=by decide +kernel
 have b:(" ":â).length=1:=by decide +kernel
 refine⟨_,gC,_,gC,a2,?_⟩;refine⟨by show(nE _).length+_<=_;rw[a];lia,_,gC,_,gC,c,?_⟩;refine⟨by show(nE _++_).length+(nE _).length<=_;rw[iI,a];lia,?_⟩;refine⟨by show(nE _++_++nE _).length+_<=_;rw[iI,iI,a,b];lia,_,gC,z.2,gC,cS,cS,d,?_⟩;exact⟨by show(nE _++_++nE _++_).length+(nE _).length<=_;rw[iI,iI,iI,a,b];lia,h⟩
def Oo:Ft P w base T.D_69 3 Hb:=by
 refine nL T.D_69.F Ri λB nd X Q h=>?_;obtain⟨fs,an,r,rfl,F,m,t,h⟩:=h;refine⟨_,(aU (nX (i:=2) (fr:=[wy,wy]) (N':=["field","let"]) (ZX (aA (bJ aV cM (aE 0) aM) (aA (bJ aV cM (aE 1) aM) aG)) (λh=>X6 gC T.b_zip h)) (λb=>⟨(nA (oO gC (fD (pk 0) (fD (pk 1) mM)))),(E1 (cX (OB B) A5 (aE 1) (cd (YV T) B (aA (aE 0) aG)))),(cd (Op T) B (aA (aE 0) (aA (aE 1) aG)))⟩) (λL J=>lL (show pT _ (aS (top 85)) ["form","rule","narrow","lets"] ["field","let"] [wy,wy]=wx from by decide +kernel) nd gC (by first | exact h7 gC | exact g7 gC) gC L J gC))
 (aU (ss 3 nd (uM (GQ (aE 2) (λh=>LY h (λ_=>rfl))) (lT bO (aA (aE 2) aG) (λh t=>iA bS dE dD lR h t)) bO))
 (bP (cK (cT bK dR (cT bK dR (aE 3) bO) (bJ aV cM (aE 1) aM)))))),?_⟩
 have n5:=F.n5;obtain⟨v,y⟩:=G7 F m;have N:=SV v y;have el:((fs.zip r.1).map λp=>(.tuple [lG p.1,.tuple p.2]:D)).length<=5:=by rw[aC,aFb];lia
 refine cN (.list ((oR fs r.1).map aK)) (λq c=>?_) ?_
 ·refine MF (λR h=>⟨_,gC,_,gC,_,gC,_,gC,_,_,gC,by rw[Yv];exact h⟩)
   (λx=>match x with | .tuple [.tuple [_,.tuple vs],.tuple e]=>decide (e≠vs++[.none]) | _=>ww) (λx=>match x with | .tuple [.tuple [.str n,_],.tuple e]=>.str (n++" in "++Txt.join "/" (e.map F0)) | _=>x) cS (λx j=>?_) (λa b q u c=>?_) (λa b q u c=>?_) ?_
  ·obtain⟨⟨f,e⟩,_,rfl⟩:=aR.mp j;exact⟨_,_,gC⟩
  ·obtain⟨⟨f,e⟩,g,z⟩:=aR.mp u;cases z;obtain⟨k,o,s⟩:=BB F m g;have d:=FB F k;have U:=(F.vs f k).2.1;have H:Th 60 2 (.tuple e):=xT 8 1 6 (λx j=>(o x j).th (aN 8)) s cR cR;have W:Th 60 2 (.tuple (wX f)):=xT 8 1 6 (λx j=>(d x j).th (aN 8)) (by unfold wX;rw[aW,aC];show _+1<=6;lia) cR cR;refine⟨_,gC,_,gC,f,gC,U,⟨H.lay,W.lay,aY (Nat.min_le_left _ _) (aY H.depth cR)⟩,?_⟩
   ·show q (!IB e (wX f));rw[AB d];have c:q (decide (e≠wX f)):=c;rw[qw]at c;exact c
  ·obtain⟨⟨f,e⟩,g,z⟩:=aR.mp u;cases z;obtain⟨k,o,s⟩:=BB F m g;exact⟨_,gC,_,gC,f,e,gC,F.name k,o,s,c⟩
  ·rw[qG,bE];unfold oR at c;rw[bE]at c;exact c
 refine cN (.str (if oR fs r.1=[]then("all":â)else Txt.join " and " (oR fs r.1))) (λq c=>?_) ?_
 ·refine⟨_,gC,_,gC,?_⟩;have E:∀(l:List â)(a b:Prop),(if l=[]then a else b)->(if(!(l.map aK).isEmpty)=wx then b else a):=λl a b h=>by cases l<;>exact h
  refine E (oR fs r.1) _ _ ?_;by_cases z:oR fs r.1=[]
  ·rw[a9 z]at c |-;exact c
  ·rw[a8 z]at c |-
   exact⟨_,gC,_,gC,oR fs r.1,gC,cS,c⟩
 ·have G:=G0 F m t;unfold xG at G h;rw[iI]at G;refine⟨_,gC,by rw[<- iI];lia,_,gC,_,gC,cS,h⟩
def aCh(dd:Nat)
  (H:Fj P w base T.D_59 (3+dd) (iP K (vB dd))):Fj P w base T.D_59 (3+dd+1) (iP K (vB (dd+1))):=by
 refine kS T.D_59.F Qy λo nd ds Q h=>?_;obtain⟨fs,an,t,L,rfl,F,ht,G,sh,vo,h⟩:=h;refine⟨_,(aU (gW (tv (cd (hk:=by lia) (xH T) o (aA (aE 1) aG)))
 (bP (wK (Z9 (aA (fE (aA (aE 2) (aA (bJ aV cM (aE 1) aM) aG))) aG))))
 fA)
 (aU (ss 3 nd (cd (hk:=by lia) (Fg T) o (aA (aE 0) (aA (bJ aV cM (aE 1) aM) aG))))
 (aU (ss 4 nd (cd (hk:=by lia) (Fh T) o (aA (bJ aV cM (aE 1) aM) (aA (bJ aV cM (aE 1) aM) (aA (bJ aV cM (bJ aV cM (aE 0) aM) (aE 3)) aG)))))
 (aU (ss 5 nd (cY pB (aA (el (fr:=[wy,wz 4]) (N':=["entry","held"]) (fP (bJ aV cM (aE 2) (aE 3))) (λb=>⟨(eQ (pk 0)),(E1 (cX (JI o) RP (aE 0) (aE 1))),(aE 0)⟩)) aG) iF T.b_tuple mG))
 (aU (ss 6 nd (cY pB (aA (el (fr:=[wy,wz 4]) (N':=["entry","held"]) (fP (bJ aV cM (aE 2) (aE 3))) (λb=>⟨(eQ (pk 0)),(E1 (cX (zJ o) A5 (aE 0) (aE 1))),(aE 0)⟩)) aG) iF T.b_tuple mG))
 (aU (so 7 nd aG)
 (aU (sf (fP (fE (aA (fE (aA (aE 5) (aA (bJ aV cM (aE 1) aM) aG))) (aA (fE (aA (aE 6) (aA (bJ aV cM (aE 1) aM) aG))) aG)))) (nA (oO gC (fD (pn 8 nd) (fD (pn 9 nd) mM))))
 (bP (gW (cX uK qN (cB jS (aA (aE 8) aG) cZ T.b_len gX) aM)
 (bP (IM (i:=7) (pv 7) (xN (cF (hk:=by lia) H o (aA (aE 0) (aA (aE 9) (aA (cd (hk:=by lia) (Pk T) o (aA (aE 2) (aA (aE 3) (aA (aE 8) aG)))) aG))))) (pb:=λh=>gL (iA dS sA rZ JP (pv 7) h))))
 fA)))
 (bP (sM (pv 7)))))))))),?_⟩
 show nY _ _ _ [.val (fV fs an),.val (iN t),.val (zO L),.un,.un,.un,.un,.un,.un,.un];have n5:=F.n5
 cases t with
 |say a=>
  refine vH (λq c=>⟨_,gC,.say a,gC,c _ gC⟩) ?_;exact⟨_,gC,_,gC,_,gC,eN,eN,h [(L,a)] ⟨aN _,λr o=>by rw[bC.mp o];exact⟨G,ht⟩⟩⟩
 |ask k n v s y m=>
  refine tU (λq c=>⟨_,gC,.ask k n v s y m,gC,c _ gC⟩) ?_;obtain⟨c,hs,hy,hm⟩:=ht;have e1:(Tr.ask k n v s y m).dep=max y.dep m.dep+1:=rfl;rw[e1]at sh vo h;obtain⟨f,U,z,uj,hv,hk⟩:=Wv F c;have v5:=(F.vs f z).2.1;have uo:jx fs n<L.length:=by rw[G.1];exact(aL.mp U).1
  have tw:L.length<=5:=by rw[G.1];exact n5
  obtain⟨e,he⟩:∃e,L[jx fs n]?=wz e:=⟨_,aJ uo⟩;have N:∀x∈e,VM x:=λx j=>FB F z x (G.sub U he x j)
  have xa:e.length<=6:=by
   obtain⟨p,rfl⟩:=G.2 _ f e U he;have h5:=bW p (wX f);have h6:(wX f).length=f.2.length+1:=by unfold wX;rw[aW,aC];rfl
   lia
  have uf:L2.atI (fs.map lG) ((jx fs n:Nat):Int)=wz (lG f):=L2.eR (by rw[aQ,U];rfl);have J:L2.atI (L.map dB) ((jx fs n:Nat):Int)=wz (.tuple e):=L2.eR (by rw[aQ,he];rfl);refine cN (.int ((jx fs n:Nat):Int)) (λq d=>⟨_,gC,_,gC,_,gC,fs,an,k,n,v,f,jx fs n,gC,F,U,uj,d⟩) ?_;refine cN (.tuple (sJ k v s f)) (λq d=>⟨_,gC,_,gC,_,gC,_,gC,_,gC,_,gC,_,gC,_,uf,k,n,v,s,f,gC,F.vals z,hv,v5,d⟩) ?_;have sk:∀x∈e,CH x (.tuple (sJ k v s f)):=λx j=>L7 (F.vals z) hv (((N x j).th (n:=8) (m:=0) (aN 8)).cd cR)
  generalize sJ k v s f=Y at *
  refine cN (.tuple (e.filter λx=>DE x (.tuple Y))) (λq d=>?_) ?_
  ·show kO (f1 BG) _ _ q;dsimp only[kO,kW,pY];exact ER (ts:=e) (λR h=>⟨_,gC,_,gC,_,J,_,gC,h⟩) (λx=>DE x (.tuple Y)) id cS (λx q j c=>⟨_,gC,_,gC,zX (sk x j) c⟩) (λx q j c=>⟨_,gC,c⟩) (by rw[tL];exact d)
  refine cN (.tuple (e.filter λx=>!DE x (.tuple Y))) (λq d=>?_) ?_
  ·show kO (f1 BG) _ _ q;dsimp only[kO,kW,pY];exact ER (ts:=e) (λR h=>⟨_,gC,_,gC,_,J,_,gC,h⟩) (λx=>!DE x (.tuple Y)) id cS (λx q j c=>⟨_,gC,_,gC,sk x j,c⟩) (λx q j c=>⟨_,gC,c⟩) (by rw[tL];exact d)
  refine pW [] eN (λq c=>c) ?_;have xp:2^(max y.dep m.dep)<=2^5:=fN cR cS
  refine pA (ts:=[.tuple [.tuple (e.filter λx=>DE x (.tuple Y)),iN y],.tuple [.tuple (e.filter λx=>!DE x (.tuple Y)),iN m]]) (λR h=>⟨_,gC,_,gC,_,gC,eN,_,gC,_,gC,_,gC,eN,eN,_,gC,h⟩)
   (λi σ=>∃(l:List (List (List D)×â))(s8 s9:Sl),σ=[.val (fV fs an),.val (iN (.ask k n v s y m)),.val (zO L),.val (.int ((jx fs n:Nat):Int)),.val (.tuple Y),.val (.tuple (e.filter λx=>DE x (.tuple Y))),.val (.tuple (e.filter λx=>!DE x (.tuple Y))),.own (l.map G1),s8,s9]/\l.length<=i*2^(max y.dep m.dep)/\∀r∈l,nH fs r.1/\r.2∈an) ⟨[],_,_,gC,cP _,λr o=>by cases o⟩ (λi x u4 j hP=>?_) λu4 hP=>?_
  ·obtain⟨l,s8,s9,rfl,W,B⟩:=hP
   obtain⟨g,u,rfl,hu,X,hi⟩:∃g u,x=.tuple [.tuple (e.filter g),iN u]/\jZ fs an u/\u.dep<=max y.dep m.dep/\i<2:=by
    match i,j with
    |0,j=>cases j;exact⟨_,y,gC,hy,GI ..,cS⟩
    |1,j=>cases j;exact⟨_,m,gC,hm,FU ..,cS⟩
   have xh:i*2^(max y.dep m.dep)<=1*2^(max y.dep m.dep):=VQ _ cS;have xi:(i+1)*2^(max y.dep m.dep)=i*2^(max y.dep m.dep)+2^(max y.dep m.dep):=Nat.succ_mul ..;refine⟨_,_,gC,?_⟩;refine JK (λ_=>True) (λq c=>⟨_,gC,c _ trivial⟩) (λ_=>?_) λ_=>⟨l,_,_,gC,cS,B⟩;refine⟨_,gC,_,gC,_,gC,_,gC,_,gC,_,gC,L,jx fs n,g,e,gC,he,tw,fs,an,u,_,gC,F,hu,G.filt _ _,cS,cS,λl' E=>⟨_,gC,?_,l++l',_,_,by rw[bV];rfl,?_,λr o=>(bR.mp o).elim (B r) (E.2 r)⟩⟩
   ·have:=E.1;have:2^u.dep<=2^(max y.dep m.dep):=fN cR X;rw[aC,aC];lia
   ·have:=E.1;have:2^u.dep<=2^(max y.dep m.dep):=fN cR X;rw[aW];lia
  ·obtain⟨l,s8,s9,rfl,W,B⟩:=hP;exact⟨_,gC,h l ⟨by rw[aS6,Nat.mul_comm];exact W,B⟩⟩
def Pj:Fj P w base T.D_59 9 (iP K Ug):=by
 have h:∀a:Nat,Fj P w base T.D_59 (3+a) (iP K (vB a)):=λa=>by
  induction a with
  |zero=>exact Zs U1 λc Q h=>Y8 h
  |succ a b=>exact aCh T a b
 exact h 6
def Ph:Fj P w base T.D_57 10 (iP K Ue):=by
 refine kS T.D_57.F Sh λc nd g Q h=>?_;obtain⟨fs,an,t,rfl,F,f,a,h⟩:=h;refine⟨_,(aU (sF 2 nd (cF (Pj T) c (aA (aE 0) (aA (aE 1) (aA (cd (Pi T) c (aA (aE 0) aG)) aG)))))
 (aU (gW (TH 2 (cX uK qN (cB jS (aA (aE 2) aG) cZ T.b_len gX) (KA gC T.c_MOST_RULES)))
 (bP lQ)
 fA)
 (bP (sM (pv 2))))),?_⟩
 have pt:2^t.dep<=2^5:=fN cR a;refine⟨_,gC,_,gC,_,gC,fs,an,gC,F,fs,an,t,fs.map wX,gC,F,f,nH.whole fs,cS,a,λl b=>?_⟩;dsimp only;have d:=b.1;refine tU (λq e=>⟨_,gC,_,gC,e _ (c6 ?_)⟩) ?_
 ·rw[aC];lia
 exact⟨_,gC,h l b⟩
def Pf:Ft P w base T.D_55 58 Uc:=by
 refine nL T.D_55.F Sf λE nd X Q h=>?_;obtain⟨fs,an,fa,t,rs,rfl,F,g,L,hd,hk,H,j,J,l,h⟩:=h;refine⟨_,(aU (ss 3 nd (bJ aV cM (cd (Pg T) E (aA (aE 0) (aA (aE 1) (aA (aE 2) aG)))) aM))
 (aU (ss 4 nd (bJ aV cM (aE 3) aM))
 (aU (sf (fP (aE 3)) (eQ (pn 5 nd))
 (bP (gW (tv (cd (Fe T) E (aA (aE 5) (aA (aE 4) aG))))
 (bP (ss 4 nd (aE 5)))
 fA)))
 (bP (cK (aE 4)))))),?_⟩
 have hb:∀e∈CG fs fa t rs,(mB e).1<=60:=λe f=>by
  have:=(yX t rs e f).1;have Y:(mB e).1<=e.1.toNat:=qX _ _;lia
 refine cN (.list ((CG fs fa t rs).map λe=>O9 (mB e))) (λq a=>⟨_,gC,_,gC,_,gC,fs,an,fa,t,rs,gC,F,g,L,cS,cS,cS,j,J,λe f=>Int.le_of_lt (l e f),_,gC,a⟩) ?_
 obtain⟨x,o,G⟩:∃x∈CG fs fa t rs,L2.atI ((CG fs fa t rs).map λe=>O9 (mB e)) 0=wz (O9 (mB x)):=by
  cases t with
  |say z=>cases H
  |ask k n v s y m=>exact⟨_,aP ..,L2.eR gC⟩
 refine cN (O9 (mB x)) (λq a=>⟨_,gC,_,G,a⟩) ?_
 refine pA (λR h=>⟨_,gC,_,gC,h⟩)
  (λi N=>∃e∈CG fs fa t rs,∃r:Sl,N=[.val (fV fs an),.val (iN t),.val (.list (rs.map fH)),.val (.list ((CG fs fa t rs).map λe=>O9 (mB e))),.val (O9 (mB e)),r]) ⟨x,o,_,gC⟩ (λi d u o c=>?_) λu c=>?_
 ·obtain⟨z,b,r,rfl⟩:=c;obtain⟨p,B,rfl⟩:=aR.mp (bD o);have U:=hb p B;have W:=hb z b;refine JK (λ_=>True) (λq a=>⟨_,gC,_,gC,mB p,mB z,gC,cS,cS,a _ trivial⟩) (λ_=>?_) λ_=>?_
  ·exact wL (O9 (mB p)) (λq a=>⟨_,gC,a⟩) ⟨p,B,_,gC⟩
  ·exact⟨z,b,_,gC⟩
 ·obtain⟨z,b,r,rfl⟩:=c;exact⟨_,gC,h z b⟩
def Pe:Fj P w base T.D_54 59 (iP K Ub):=by
 refine kS T.D_54.F Se λg nd W Q h=>?_;obtain⟨fs,an,fa,U,rs,rfl,F,b,t,hd,hk,c,l,h⟩:=h;refine⟨_,(aU (ss 3 nd (fE (aA aM (aA aM aG))))
 (aU (ss 4 nd (cd (Fw T) g (aA (aE 0) (aA (aE 1) (aA (aE 2) (aA (aE 3) aG))))))
 (aU (so 5 nd (aA (fE (aA (aE 3) (aA (aE 4) aG))) aG))
 (aU (DX (oM (tv (cd (xH T) g (aA (aE 4) aG))))
 (aU (ss 3 nd (cd (Pf T) g (aA (aE 0) (aA (aE 4) (aA (aE 2) aG)))))
 (aU (ss 4 nd (cd (Fw T) g (aA (aE 0) (aA (aE 4) (aA (aE 2) (aA (aE 3) aG))))))
 (bP (AV (pv 5) (fE (aA (aE 3) (aA (aE 4) aG))) (pb:=λh=>gL (iA dS iT iS oS (pv 5) h)))))) (λB hb=>D8 o0 B hb))
 (bP (sM (pv 5))))))),?_⟩
 have j:=RW b 1 0 U rs t c;have E:=(RX (fs:=fs) (fa:=fa) 1 0 U rs).1;have L:=LM (fs:=fs) (fa:=fa) 1 0 U rs;refine cN (O9 (0,1)) (λq a=>⟨eN,a⟩) ?_;refine cN (iN (lw fs fa 1 0 U rs).2) (λq a=>⟨_,gC,_,gC,_,gC,_,gC,fs,an,fa,U,rs,1,0,gC,F,b,t,cS,c,l,cR,cR,cR,cR,a⟩) ?_
 generalize (lw fs fa 1 0 U rs).2=p at *
 refine pW [yc ((0,1),p)] eN (λq a=>⟨_,gC,_,gC,eN,a⟩) ?_;refine A1 (λn N=>∃(pre:List yy)(x:Nat×Nat)(p:Tr),N=[.val (fV fs an),.val (iN U),.val (.list (rs.map fH)),.val (O9 x),.val (iN p),.own (pre.map yc)]/\St fs fa (x.2:Nat) (x.1:Nat) p rs/\0<x.2/\jZ fs an p/\p.dep<=12/\p.kn=n/\n<=12/\pre.length+n<=13/\∀z∈pre,z.1.1<=60/\z.1.2<=12/\z.2.kn<=12/\z.2.dep<=12) p.kn ⟨[((0,1),p)],(0,1),p,gC,L,Nat.one_pos,j.1,cS,gC,cS,by show 1+_<=13;lia,λz i=>by rw[bC.mp i];exact⟨show 0<=60 by decide,show 1<=12 by decide,by show p.kn<=12;lia,by show p.dep<=12;lia⟩⟩ λn R u=>?_;obtain⟨pre,x,p,rfl,f,H,m,r,rfl,s,G,i⟩:=u;refine⟨!Au p,λq a=>⟨_,gC,p,gC,by cases p<;>exact a⟩,?_⟩
 cases d:Au p with
 |true=>
  rw[a8 cR];exact⟨_,gC,h pre cS i⟩
 |false=>
  show(if wx=wx then _ else _);rw[a9 rfl];refine eJ (λv=>∃e∈CG fs fa p rs,v=O9 (mB e)) (λq a=>⟨_,gC,_,gC,_,gC,fs,an,fa,p,rs,gC,F,b,m,r,s,d,c,l,WX cS cS f,λe k=>a _ ⟨e,k,gC⟩⟩) ?_;rintro _ ⟨e,k,rfl⟩;obtain⟨n1,X,n3,J⟩:=Y6 cS cS f k
  generalize mB e=y at *
  have o:=RW b (y.2:Nat) (y.1:Nat) p rs m c;refine cN (iN (lw fs fa (y.2:Nat) (y.1:Nat) p rs).2) (λq a=>⟨_,gC,_,gC,_,gC,_,gC,fs,an,fa,p,rs,(y.2:Nat),(y.1:Nat),gC,F,b,m,cS,c,l,cS,cS,cS,cS,a⟩) ?_;refine wM (yc (y,(lw fs fa (y.2:Nat) (y.1:Nat) p rs).2)) gC (by rw[aC];lia) (λq a=>⟨_,gC,_,gC,eN,a⟩) ?_;refine⟨_,J,pre++[(y,_)],y,_,by rw[bV];rfl,LM _ _ p rs,n1,o.1,cS,gC,cS,by rw[aW];show _+1+_<=13;lia,λz hz'=>?_⟩;rcases bR.mp hz' with hz' | hz'
  ·exact i z hz'
  ·rw[bC.mp hz'];refine⟨?_,?_,?_,?_⟩<;>dsimp only<;>lia
def RH:Ft P w base T.D_64 2 Uk:=by
 refine nL T.D_64.F Rc λb nd c Q h=>?_;obtain⟨a,rfl,f,h⟩:=h;refine⟨_,(bP (cK (cT bK dR (fE (aA (cd (YO T) b (aA (dO fM lA (aE 0) eL (eA (BJ aM))) aG)) aG)) (cY pB (aA (dO fM lA (aE 0) (eA (BJ aM)) eL) aG) iF T.b_tuple mG)))),?_⟩;have d:=AE a wy (wz (-1));have e:=AE a (wz (-1)) wy;refine⟨_,gC,fY a wy (wz (-1)),by show[eO (fY _ wy (wz (-1)))]=_;rw[(hU ..)],cS,eN,_,gC,?_⟩;show zd (.tuple [.tuple _]) (.tuple (fY (a.map aK) (wz (-1)) wy)) Q;rw[(hU ..)];exact⟨by rw[aC];show 1+_<=_;lia,h⟩
def Hk:Ft P w base T.D_81 1 Uz:=by
 refine nL T.D_81.F Ru λy nd t Q h=>?_;obtain⟨fs,an,g,rfl,F,v,h⟩:=h;refine⟨_,(aU (gW (cX RF zu (cB jS (aA (aE 1) aG) cZ T.b_len gX) (cB jS (aA (bJ aV cM (aE 0) aM) aG) cZ T.b_len gX))
 (bP (cK vT))
 fA)
 (bP (cK (cB Cj (aA (el (fr:=[wy,wy]) (N':=["_law_word","_law_field"]) (aD1 (aA (aE 1) (aA (bJ aV cM (aE 0) aM) aG)) (λh=>aDf gC T.b_zip h)) (λb=>⟨(nA (oO gC (fD (pk 0) (fD (pk 1) mM)))),gQ,(Ew (iX eZ iL (aE 0) bO) (rT (iX mD EF (aE 0) (bJ aV cM (aE 1) aM))))⟩)) aG) (uC gC) T.b_all PU)))),?_⟩
 have el:(((g.map aK).length:Nat):Int)=(g.length:Int):=by rw[aC]
 have i:(((fs.map lG).length:Nat):Int)=(fs.length:Int):=by rw[aC]
 unfold tE iM at h;dsimp only at h;rw[aC]at h;refine hX (λb=>b=!decide (g.length=fs.length)) (λq c=>⟨_,gC,_,gC,_,gC,c _ ?_⟩) (λn=>?_) λm=>?_
 ·rw[el,i];congr 1;rw[e4];lia
 ·have:=n.symm;rw[tM]at this;rw[this]at h;exact h
 have d:=m.symm;rw[rQ,c7]at d;rw[b7 d,iY]at h
 try unfold jR
 dsimp only;show kO (f1 Bj) _ _ Q;dsimp only[kO,kW,pY];refine wP (λR h=>⟨_,gC,_,gC,_,gC,_,_,gC,h⟩) (λx=>.bool (yr x)) (by rw[qI,aC];lia) (λx p=>?_) (λa b q o c=>?_) ?_
 ·obtain⟨k,hk⟩:=dH p;obtain⟨a,b,_,_,rfl⟩:=yQ hk;exact⟨a,b,gC⟩
 ·obtain⟨k,hk⟩:=dH o;obtain⟨r,s,j,l,e⟩:=yQ hk;cases e;obtain⟨f,u,rfl⟩:=aR.mp (bD l);obtain⟨w,hw,rfl⟩:=aR.mp (bD j);refine⟨_,gC,?_⟩;have c:q (.bool (decide (w="-")||decide (w∈f.2))):=by rw[Y0]at c;exact c
  show(if decide (w="-")=wx then q (.bool wx)else _);by_cases e:w="-"
  ·rw[b7 e]at c |-;exact c
  ·rw[c6 e]at c |-
   exact⟨_,gC,_,gC,_,gC,f.2,gC,c⟩
 ·refine⟨(uP (g.map aK) (fs.map lG)).map yr,by rw[bE];rfl,?_⟩;rw[RM (an:=an) (Xd F)];exact h
def Hl:Ft P w base T.D_82 2 Va:=by
 refine nL T.D_82.F Rv λe nd g Q h=>?_;obtain⟨fs,an,f,rfl,F,d,h⟩:=h;refine⟨_,(bP (cK (rV (iX uK qN (cB jS (aA (aE 1) aG) cZ T.b_len gX) aM) (rV (cd (Hk T) e (aA (aE 0) (aA (dO fM lA (aE 1) eL (eA (BJ aM))) aG))) (rT (iX mD EF (bJ aV cM (aE 1) (BJ aM)) (bJ aV cM (aE 0) aM))))))),?_⟩;refine⟨_,gC,?_⟩;rcases DB f with rfl | ⟨v,a,rfl⟩
 ·exact h
 have c:fY ((v++[a]).map aK) wy (wz (-1))=v.map aK:=by rw[hU,FF]
 rw[aW]at d;show(if decide (((((v++[a]).map aK).length:Nat):Int)>0)=wx then _ else _);rw[a9 (b7 (by rw[aC,aW];show((v.length+1:Nat):Int)>0;lia))];rw[D7]at h;refine⟨_,gC,_,gC,fs,an,v,by show[_,eO (fY _ wy (wz (-1)))]=_;rw[c],F,cS,?_⟩;show(if tE fs v=wx then _ else Q (.bool ww))
 cases b:tE fs v with
 |false=>rw[b]at h;exact h
 |true=>
  rw[b,iY]at h;rw[a9 rfl];exact⟨_,gC,_,Zx v a,_,gC,_,gC,an,gC,h⟩
def Gb:Ft P w base T.D_79 1 Ux:=by
 refine nL T.D_79.F Rs λL nd H Q h=>?_;obtain⟨w,rfl,i,h⟩:=h;refine⟨_,(aU (gW (uH (xF (cX eZ iL (aE 0) bO) (xF (cX uK qN (cB jS (aA (aE 0) aG) cZ T.b_len gX) aM) (uY (uH (IG (cX eZ iL (bJ aV cM (aE 0) aM) bO) (C2 (cX uK qN (cB jS (aA (aE 0) aG) cZ T.b_len gX) aM))))))))
 (bP (cK vT))
 fA)
 (bP (cK (iX L3 qN (cB Mr (aA (el (fr:=[wy]) (N':=["_law_sign"]) (fP (aE 0)) (λb=>⟨(eQ (pk 0)),gQ,(Zm bO (aA (aE 0) aG) (λh B=>iA bS PySem.F.slot_str_find PySem.F.type_str_find aDt h B))⟩)) aG) (GC gC) T.b_min We) aM)))),?_⟩
 show nY _ _ _ [.val (.str w)];have f:w.cps.toList.length=w.length:=by simp[h9]
 cases a:w.cps.toList with
 |nil=>
  obtain rfl:w="":=sX (by rw[a];rfl);refine vH (λq d=>⟨_,gC,?_⟩) ?_
  ·exact d _ gC
  ·rw[show uL ""=ww by decide +kernel]at h;exact h
 |cons c l=>
  rw[a,bA]at f;have hw:w≠"":=λz=>by rw[z]at a;cases a
  have t:decide ((9:Int)<((w.length:Nat):Int))=!decide (w.length<=9):=by rw[<- qw,e4];lia
  have r:decide ((1:Int)<((w.length:Nat):Int))=!decide (l=[]):=by rw[<- qw,e4];cases l<;>simp at f |-<;>lia
  have u:uL w=(decide (w.length<=9)&&(GA w).all id&&!(decide (c=48)&&!decide (l=[]))):=by
   unfold uL;rw[b7 (show 1<=w.length by lia),iY,LJ a];congr 1;have:decide (w="0")=(decide (c=48)&&decide (l=[])):=by rw[dX,c7,L5 a,cU,c7,c7]
   rw[this];cases decide (c=48)<;>cases decide (l=[])<;>rfl
  rw[u]at h;refine hX (λb=>b=(!decide (w.length<=9)||(decide (c=48)&&!decide (l=[])))) (λq d=>⟨_,gC,?_⟩) (λy=>?_) λv=>?_
  ·show(if decide (w="")=wx then q wx else _);rw[a8 λz=>hw (b9 z)];refine⟨_,gC,i,?_⟩;show(if decide ((9:Int)<((w.length:Nat):Int))=wx then q wx else _);rw[t]
   cases o:decide (w.length<=9)with
   |false=>rw[o]at d;exact d _ gC
   |true=>
    rw[o]at d;rw[a8 cR];refine⟨_,gC,i,c,by rw[a];exact L2.eR (j:=0) gC,?_⟩;show(if decide ((⟨#[c]⟩:â)="0")=wx then _ else q ww);rw[W8]
    cases n:decide (c=48)with
    |false=>rw[n]at d;exact d _ gC
    |true=>
     rw[n]at d;rw[a9 rfl];refine⟨_,gC,i,?_⟩;show q (decide ((1:Int)<((w.length:Nat):Int)));rw[r];exact d _ gC
  ·have:(decide (w.length<=9)&&(GA w).all id&&!(decide (c=48)&&!decide (l=[])))=false:=by
    revert y
    cases decide (w.length<=9)<;>cases decide (c=48)<;>cases decide (l=[])<;>simp
   rw[this]at h;exact h
  ·have:(decide (w.length<=9)&&(GA w).all id&&!(decide (c=48)&&!decide (l=[])))=(GA w).all id:=by
    revert v
    cases decide (w.length<=9)<;>cases decide (c=48)<;>cases decide (l=[])<;>simp
   rw[this]at h
   try unfold jR
   dsimp only;show rA _ (kO _ _) _ _ Q;dsimp only[rA,kO,kW,pY];refine iR (ts:=yY w) (λR h=>⟨_,gC,_,gC,h⟩) (λx=>.int (Txt.find "0123456789" (Cw x))) (by unfold yY;rw[aC,a,bA];lia) (λx q G m=>?_) ?_
   ·obtain⟨c,_,rfl⟩:=aR.mp G;exact⟨_,gC,_,gC,m⟩
   ·refine⟨w.cps.toList.map λc=>Txt.find "0123456789" ⟨#[c]⟩,?_,?_,λp E k=>?_⟩
    ·unfold yY;rw[bE,bE];rfl
    ·rw[a];exactλz=>by cases z
    ·have s:decide ((0:Int)<=p)=(GA w).all id:=by
      unfold GA;rw[dX,c7,fK];constructor
      ·intro J b hb;obtain⟨c,g,rfl⟩:=aR.mp hb;have:=k _ (aR.mpr ⟨c,g,gC⟩);show Txt.contains _ _=wx;rw[R7];exact b7 cS
      ·intro e;obtain⟨c,g,rfl⟩:=aR.mp E;have:=e _ (aR.mpr ⟨c,g,gC⟩);have this:Txt.contains _ _=true:=this;rw[R7]at this;exact b9 this
     show Q (.bool (decide ((0:Int)<=p)));rw[s];exact h
def Ov:Ft P w base T.D_80 2 Uy:=by
 refine nL T.D_80.F Rt λj nd o Q h=>?_;obtain⟨x,rfl,k,h⟩:=h;refine⟨_,(aU (ss 1 nd (sY (aE 0) (aA bO aG) (λh n=>iA bS jI jH sT h n)))
 (aU (gW (cX mD EF (bJ aV cM (aE 1) aM) (jV (aA bO (aA bO (aA bO (aA bO aG))))))
 (bP (cK (iX eZ iL (cB jS (aA (aE 1) aG) cZ T.b_len gX) aM)))
 fA)
 (aU (gW (cX mD EF (bJ aV cM (aE 1) aM) (jV (aA bO (aA bO (aA bO aG)))))
 (bP (cK vT))
 fA)
 (aU (gW (cX eZ iL (bJ aV cM (aE 1) aM) bO)
 (bP (cK (rV (iX eZ iL (cB jS (aA (aE 1) aG) cZ T.b_len gX) aM) (rT (cd (Gb T) j (aA (bJ aV cM (aE 1) aM) aG))))))
 fA)
 (bP (cK (rV (iX eZ iL (bJ aV cM (aE 1) aM) bO) (rV (iX uK qN (cB jS (aA (aE 1) aG) cZ T.b_len gX) aM) (rT (cd (Gb T) j (aA (bJ aV cM (aE 1) aM) aG))))))))))),?_⟩
 obtain⟨w,d,l,p,hw⟩:=qK k;refine cN (.list ((Txt.split x cO).map aK)) (λq a=>⟨_,gC,_,gC,cL,by have:=k.len;lia,a⟩) ?_;rw[l]at h |-
 have f:atI ((w::d).map aK) 0=wz (.str w):=L2.eR gC;unfold iV at h;rw[fR,oH]at h;refine hX (λb=>b=decide (w∈(["tree","rows","rules","steps"]:List â))) (λq a=>⟨_,gC,_,f,eN,_,gC,a _ gC⟩) (λc=>?_) λi=>?_
 ·rw[a9 (b9 c.symm)]at h;have e:decide (((((w::d).map aK).length:Nat):Int)=1)=decide ((w::d).length=1):=by rw[e4,aC];lia
  rw[<- e]at h;exact⟨_,gC,h⟩
 rw[a8 (g8 i.symm)]at h
 try unfold jR
 dsimp only;refine hX (λb=>b=decide (w∈(["put","judge","why"]:List â))) (λq a=>⟨_,gC,_,f,eN,_,gC,a _ gC⟩) (λc=>?_) λm=>?_
 ·have g:=b9 c.symm;rw[a8 λz=>by rw[z]at g;exact b8 g cL,a8 λz=>by rw[z]at g;exact b8 g cL,<- c]at h;exact h
 try unfold jR
 dsimp only;rw[<- m]at h;refine hX (λb=>b=decide (w="out")) (λq a=>⟨_,gC,_,f,a _ gC⟩) (λc=>?_) λi=>?_
 ·rw[a9 (b9 c.symm)]at h;refine⟨_,gC,?_⟩;rcases d with _ | ⟨x,_ | ⟨y,r⟩⟩
  ·exact h
  ·exact⟨_,gC,_,gC,x,gC,aY (hw x eH).len cR,h⟩
  ·exact h
 rw[a8 (g8 i.symm)]at h
 try unfold jR
 dsimp only;refine⟨_,gC,_,f,?_⟩;show(if decide (w="turn")=wx then _ else Q (.bool ww));by_cases e:w="turn"
 ·rw[a9 e]at h;rw[a9 (b7 e)];refine⟨_,gC,?_⟩;rcases d with _ | ⟨x,r⟩
  ·exact h
  ·show(if decide (((((w::x::r).map aK).length:Nat):Int)>1)=wx then _ else Q (.bool ww));rw[a9 (by rw[aC];simp;lia)];rw[b7 (show 2<=(w::x::r).length by simp),iY]at h;exact⟨_,gC,_,L2.eR gC,x,gC,aY (hw x eH).len cR,h⟩
 ·rw[a8 e]at h;rw[a8 λz=>e (b9 z)];exact h
def Lq:Fm P w K mg base qA 18 mm ["self","words"] (jG K (Kz C A)):=by
 refine R6 (F:=lO A) T.D_2.F Br λs nd m n ds Q h=>?_;obtain⟨fs,an,Bo,E,t,f,w,ws,U,rfl,W,hw,R,o,H,b,h⟩:=h;refine⟨_,(cJ (jO (pO (cX eZ iL (bJ aV cM (aE 1) aM) bO))
 (dL (iG (Ce vW (gB (Na aV cM (nZ cL (mF (K:=K) gC (aE 0)) (mW (aA (cd (RH T) s (aA (dO fM lA (aE 1) (eA aM) eL) aG)) aG)) (λh o=>gZ h T.C_Book T.M_6 (Lv T) (s.mono cR) T.D_6.d .nil iB o)) (lV aM)) oA) (λh=>oQ mP gC T.b_str uD h))))
 iH)
 (cJ (jO (pO (cX eZ iL (bJ aV cM (aE 1) aM) bO))
 (dL (oZ (nZ cL (mF (K:=K) gC (aE 0)) (mW (aA (cY FK (aA (bJ aV cM (aE 1) aM) aG) tF T.b_int FM) aG)) (λh o=>gZ h T.C_Book T.M_7 (Lw T) (s.mono cR) T.D_7.d .nil iB o)) (λh=>gL h)))
 (dL (oZ (nZ cL (mF (K:=K) gC (aE 0)) (mW (aA (cY FK (aA (bJ aV cM (aE 1) aM) aG) tF T.b_int FM) (aA (cd (RH T) s (aA (dO fM lA (aE 1) (eA aM) eL) aG)) aG))) (λh o=>gZ h T.C_Book T.M_8 (Lx T) (s.mono cR) T.D_8.d .nil iB o)) (λh=>gL h))))
 (dL (iG (lV bO))))),?_⟩
 obtain rfl:=gU U;have c:∀(w:â)(r:List â),atI ((w::r).map aK) 0=wz (.str w):=λw r=>L2.eR gC;have G:∀(k:Nat)(u:List â),fY (u.map aK) (wz (k:Nat)) wy=(u.drop k).map aK:=λk u=>by rw[hU,pQ]
 have ne:∀{x y:â}(q:KR->Bool->Prop),x≠y->q n ww->q n (decide (x=y)):=λq h z=>by rw[c6 h];exact z
 have F:=W.F;have few:=W.few;have f50:=W.f50;have dep:=W.dep;rcases hw with rfl | rfl | rfl
 ·rw[J5]at b;obtain⟨r,v,a⟩:=LQ b;refine pS (λq i=>⟨_,gC,_,c _ _,?_⟩) ?_
  ·show q n (decide (("put":â)="put"));rw[b7 rfl];exact i
  refine⟨_,gC,C,_,_,mH m,gC,T.C_Desk,T.n_Desk_book,gC,gC,_,gC,ws,by show[eO (fY _ (wz 1) wy)]=_;exact d6 (λl=>[eO l]) (G 1 _),cS,?_⟩;refine⟨fs,an,2,1,m,E,f,r,t,gC,by rw[v];rfl,F,W.fm,W.dp,W.ls,W.kv,W.ok,cS,cS,W.st,W.tr,cS,W.fol,cS,(λe N z=>by have:=W.lt e N;lia),a,Hw F a,λL b J=>?_⟩;exact⟨_,gC,(mN f cS).2,h _ _ (aB2 a b f50)⟩
 ·obtain⟨x,rfl,g⟩:=OS H;obtain⟨k,g,B⟩:=zL g;rw[O8 _ _ _ g]at b;obtain⟨r,j⟩:=nB.mp b;have p:wh (("out":â)::[x])=k:=K8 g;refine kT (λq i=>⟨_,gC,_,c _ _,ne q cL i⟩) ?_;refine pS (λq i=>⟨_,gC,_,c _ _,?_⟩) ?_
  ·show q n (decide (("out":â)="out"));rw[b7 rfl];exact i
  refine⟨_,gC,C,_,_,mH m,gC,T.C_Desk,T.n_Desk_book,gC,gC,_,gC,_,L2.eR gC,_,g,cS,fs,an,2,1,m,E,k,r,t,gC,gC,F,W.fm,W.dp,W.ls,W.kv,W.ok,cS,cS,W.st,W.tr,cS,j,λL b J=>?_⟩;have:=h _ _ (aB1 (by rw[p];exact b));rw[p]at this;exact this
 ·obtain⟨x,r,rfl,g⟩:=yF H;obtain⟨k,g,B⟩:=zL g;rw[O7 _ _ _ g,cU]at b;obtain⟨X,j⟩:=nB.mp b.1;obtain⟨Y,v,a⟩:=LQ b.2;have p:wh (("turn":â)::x::r)=k:=K8 g;rw[bA]at R;refine kT (λq i=>⟨_,gC,_,c _ _,ne q cL i⟩) ?_;refine AO ww (λq i=>⟨_,gC,_,c _ _,ne q cL i⟩) (λz=>by cases z) λ_=>?_;refine⟨_,gC,C,_,_,mH m,gC,T.C_Desk,T.n_Desk_book,gC,gC,_,gC,_,L2.eR gC,_,g,cS,_,gC,r,by show[eO (fY _ (wz 2) wy)]=_;exact d6 (λl=>[eO l]) (G 2 _),cS,?_⟩;refine⟨fs,an,2,1,m,E,k,X,Y,t,gC,by rw[v];rfl,F,W.fm,W.dp,W.ls,W.kv,W.ok,cS,cS,W.st,W.tr,cS,j,a,Hw F a,λL b J=>?_⟩;have:=h _ _ (aB0 a (by rw[p];exact b));rw[p]at this;exact this
def Ga:Ft P w base T.D_67 2 Um:=by
 refine nL T.D_67.F Rg λJ nd U Q h=>?_;obtain⟨fs,an,a,rfl,F,o,p,W,h⟩:=h;refine⟨_,(aU (gW (cX eZ iL (cB jS (aA (aE 0) aG) cZ T.b_len gX) aM)
 (bP (cK bO))
 fA)
 (aU (so 1 nd aG)
 (aU (sf (fP (aE 0)) (nA (oO gC (fD (pn 2 nd) (fD (pn 3 nd) mM))))
 (bP (AV (i:=1) (pv 1) (lT bO (aA (cT bK dR (cT bK dR (jV (aA (cY vW (aA (aE 2) aG) mP T.b_str uD) aG)) (el (fr:=[wy]) (N':=["entry"]) (fP (bJ aV cM (aE 3) aM)) (λb=>⟨(eQ (pk 0)),gQ,(cd (Fz T) J (aA (aE 0) aG))⟩))) (jV (aA (bJ aV cM (aE 3) aM) aG))) aG) (λh l=>iA bS dE dD lR h l)) (pb:=λh=>gL (iA dS iT iS oS (pv 1) h)))))
 (uZ 1 (bP (cK (lT bO (aA (aE 1) aG) (λh l=>iA bS dE dD lR h l)))))))),?_⟩
 show nY _ _ _ [.val (.list (EH a)),.un,.un,.un];have s:cO.length=1:=by decide +kernel
 have t:(", ":â).length=2:=by decide +kernel
 unfold rE at h;refine hX (λb=>b=decide (a=[])) (λq d=>⟨_,gC,d _ ?_⟩) (λB=>?_) λz=>?_
 ·rw[e4,EG];rw[<- oC];lia
 ·rw[a9 (b9 B.symm)]at h;exact h
 rw[a8 (g8 z.symm)]at h
 try unfold jR
 dsimp only;have L:=D1 F o p;refine pW [] eN (λq d=>d) ?_
 refine pA (ts:=EH a) (λR h=>⟨_,gC,_,gC,h⟩)
  (λi N=>∃m s3:Sl,N=[.val (.list (EH a)),.own (((a.take i).map AY).map aK),m,s3]) ⟨_,_,gC⟩ (λi x n g k=>?_) λn k=>?_
 ·obtain⟨m,s3,rfl⟩:=k;unfold EH at g;rw[aQ]at g;obtain⟨e,c,rfl⟩:=dP.mp g;have j:=bD c;have E:=(aL.mp c).1;have f:=o e.2 (aR.mpr ⟨e,j,gC⟩);have H:=(sQ F f).2;have u:a.take (i+1)=a.take i++[e]:=by rw[eW,c];rfl
  refine⟨_,_,gC,?_⟩;have y:=(mN e.1 (by have:=p e j;lia));obtain⟨w,X,v,hw,G⟩:=sP F f;have r:=oN λx g=>(hw x g).2;refine wM (.str (AY e)) gC (by rw[aC,aC,bU];lia) (λq d=>?_) ⟨_,_,by rw[u,bV,bV];rfl⟩;refine⟨cO,gC,?_⟩;dsimp only[kW,pY,rA];refine⟨_,gC,y.2,eN,?_⟩;dsimp only;refine iR (ts:=e.2.1) (λR h=>⟨_,gC,_,gC,_,gC,h⟩) (λx=>.str (F0 x)) cS (λx q g d=>⟨_,gC,x,gC,vU F f.1 x g,d⟩) ?_;refine⟨by rw[aC];show 1+_<=_;lia,_,gC,_,gC,eN,by rw[aW,aC];show 1+_+1<=_;lia,nE (e.1:Nat)::(e.2.1.map F0++[e.2.2]),by rw[bB,bV,bE];rfl,?_,d⟩;rw[v,s,bB,dY,bA];rw[bA]at *;lia
 ·obtain⟨m,s3,rfl⟩:=k;refine⟨_,gC,?_⟩;rw[EG,fJ];have r:=oN L;rw[aC]at r;exact⟨_,gC,_,gC,a.map AY,gC,by rw[t,aC];lia,h⟩
def Lr:Fm P w K mg base qA 61 nr ["self","word"] (jG K (La C A)):=by
 refine R6 (F:=lO A) T.D_3.F Kv λg nd j n ds Q h=>?_;obtain⟨fs,an,Bo,o,t,f,w,ht,rfl,W,hw,h⟩:=h;refine⟨_,(cJ (tS (i:=2) (qO cL (mF (K:=K) gC (aE 0)) (λh=>qL h T.C_Book T.M_10 (EC T) (g.mono cR) T.D_10.d .nil iB)) (λh=>nD (i:=2) nd gC (by first | exact h7 gC | exact g7 gC) h))
 (cJ (jO (pO (cX eZ iL (aE 1) bO))
 (dL (iG (lV (cd (Pl T) g (aA (aE 2) aG)))))
 iH)
 (cJ (jO (pO (cX eZ iL (aE 1) bO))
 (dL (iG (vS (Ga T) T.D_67.m T.D_67.k T.D_67.d (g.mono cR) (gB (qO cL (mF (K:=K) gC (aE 0)) (λh=>qL h T.C_Book T.M_9 (Dy T) (g.mono cR) T.D_9.d .nil iB)) oA) (λh=>kI (Ga T) (g.mono cR) gC T.D_67.m T.D_67.k T.D_67.d .nil iB h))))
 iH)
 (cJ (jO (pO (cX eZ iL (aE 1) bO))
 (dL (iG (lV (lT bO (aA (el (fr:=[wy,wz 0]) (N':=["rule","self"]) (fP (xN (cF (Ph T) g (aA (mF (K:=K) gC (aE 0)) (aA (aE 2) aG))))) (λb=>⟨(eQ (pk 0)),gQ,(cd (Oo T) g (aA (mF (K:=K) gC (aE 1)) (aA (aE 0) aG)))⟩)) aG) (λh J=>iA bS dE dD lR h J)))))
 iH)
 (cJ (Yb (i:=3) (fr:=[wy,wy]) (N':=["number","row"]) (qO cL (mF (K:=K) gC (aE 0)) (λh=>qL h T.C_Book T.M_9 (Dy T) (g.mono cR) T.D_9.d .nil iB)) (λb=>⟨(nA (oO gC (fD (pk 0) (fD (pk 1) mM)))),gQ,(aE 1)⟩) (λhi hY=>lL (show pT _ (aS (hZ (top 77) 3)) ["self","word","tree","rows"] ["number","row"] [wy,wy]=wx from by decide +kernel) nd gC (by first | exact h7 gC | exact g7 gC) gC hi hY gC))
 (dL (iG (lV (lT bO (aA (el (fr:=[wy,wy]) (N':=["price","part"]) (fP (xN (cF (Pe T) g (aA (mF (K:=K) gC (aE 0)) (aA (aE 2) (aA (aE 3) aG)))))) (λb=>⟨(nA (oO gC (fD (pk 0) (fD (pk 1) mM)))),gQ,(cd (Oq T) g (aA (aE 0) (aA (aE 1) aG)))⟩)) aG) (λh J=>iA bS dE dD lR h J)))))))))),?_⟩
 obtain rfl:j=Bo:=gU ht;have F:=W.F;have few:=W.few;have f50:=W.f50;have dep:=W.dep
 have kn:t.kn<=3:=by
  have:=t.kn_dep;have:2^t.dep<=2^2:=fN cR dep;lia
 have ne:∀{x y:â}(q:KR->Bool->Prop),x≠y->q n ww->q n (decide (x=y)):=λq h z=>by rw[c6 h];exact z
 have H:∀{x y:â}(q:KR->Bool->Prop),x=y->q n wx->q n (decide (x=y)):=λq h z=>by rw[b7 h];exact z
 show xR _ _ _ _ _ [.val (FZ C j),.val (.str w),.un,.un];refine yP (iN t) (λq c=>⟨_,gC,C,_,_,mH j,gC,T.C_Desk,T.n_Desk_book,gC,gC,j,gC,gC,by rw[W.st];exact c⟩) ?_;by_cases E:w="tree"
 ·refine pS (λq c=>⟨_,gC,H q E c⟩) ?_;subst E;have u:=AX F W.tr;exact⟨_,gC,fs,an,t,gC,F,W.tr,cS,cS,h _ (λ_=>rfl) (λz=>b8 z cL) cS⟩
 refine kT (λq c=>⟨_,gC,ne q E c⟩) ?_;by_cases G:w="rows"
 ·refine pS (λq c=>⟨_,gC,H q G c⟩) ?_;subst G;refine⟨_,gC,C,_,_,mH j,gC,T.C_Desk,T.n_Desk_book,gC,gC,j,o,gC,gC,W.kv,fs,an,o,gC,F,W.ok,(λe v=>by have:=W.lt e v;lia),cS,h _ (λz=>b8 z E) (λ_=>rfl) (T1 F W.ok (λe v=>by have:=W.lt e v;lia) cS)⟩
 refine kT (λq c=>⟨_,gC,ne q G c⟩) ?_;have h:∀z:â,z.length<=90000->Q n (.str z):=λz p=>h z (λe=>b8 e E) (λe=>b8 e G) p;by_cases w3:w="rules"
 ·refine pS (λq c=>⟨_,gC,H q w3 c⟩) ?_;refine⟨_,gC,?_⟩;dsimp only[kW,pY];refine⟨_,gC,C,_,_,j.fm,gC,T.C_Desk,T.n_Desk_form,gC,_,gC,fs,an,t,by rw[W.fm],F,W.tr,cS,λl u=>⟨_,gC,?_⟩⟩;have ry:=u.1;have:2^t.dep<=2^2:=fN cR dep;show U5 [wy,wz 0] (λ_ R=>R (l.map G1)) (gN 0) AF (kO Hb (kW (Do K "form" (PH 1)) (kW (PH 0) pY))) [.val (FZ C j),.val (.str w),.val (iN t),.un] λx=>Z6 "; " [x] (Q n);refine iR (ts:=l.map G1) (λR h=>h) (λx=>match x with | .tuple [.tuple ls,.str a]=>.str (xG fs (yo ls,a)) | _=>x) (by rw[aC];lia) (λx q B c=>?_) ?_
  ·obtain⟨r,g,rfl⟩:=aR.mp B;have c:q (.str (xG fs (yo (r.1.map dB),r.2))):=c;rw[IF]at c;exact⟨_,gC,C,_,_,j.fm,gC,T.C_Desk,T.n_Desk_form,gC,_,gC,fs,an,r,by rw[W.fm],F,(u.2 r g).1,(u.2 r g).2,c⟩
  ·have hs:=oN (n:=500) (ws:=l.map (xG fs)) λw hw=>by
    obtain⟨r,g,rfl⟩:=aR.mp hw;exact G0 F (u.2 r g).1 (u.2 r g).2
   have s:=xJ "; " (l.map (xG fs));have Y:("; ":â).length=2:=by decide +kernel
   rw[Y]at s;rw[aC]at hs s;refine⟨l.map (xG fs),?_,by rw[Y,aC];lia,h _ (aY s cS)⟩;rw[bE,bE];apply fX;intro r _;show aK (xG fs (yo (r.1.map dB),r.2))=_;rw[IF];rfl
 refine kT (λq c=>⟨_,gC,ne q w3 c⟩) ?_;obtain⟨fa,L⟩:=Nc F;have hR:fS fs an (o.map (·.2)):=W.ok;refine yP (.list ((o.map (·.2)).map fH)) (λq c=>⟨_,gC,C,_,_,mH j,gC,T.C_Desk,T.n_Desk_book,gC,gC,j,o,gC,gC,W.kv,_,gC,?_⟩) ?_
 ·refine wP (ti:=λ_ Q=>Q (EH o)) (Q:=λd=>q n d) (λR h=>h) TM (by rw[EG];lia) (λx B=>?_) (λa b q hm c=>⟨_,gC,c⟩) ?_
  ·obtain⟨e,v,rfl⟩:=aR.mp B;exact⟨_,_,gC⟩
  ·have e:(EH o).map TM=(o.map (·.2)).map fH:=by unfold EH;rw[bE,bE];rfl
   rw[e];exact c
 refine⟨_,gC,?_⟩;dsimp only[kW,pY];refine⟨_,gC,C,_,_,j.fm,gC,T.C_Desk,T.n_Desk_form,gC,_,gC,_,gC,fs,an,fa,t,o.map (·.2),by rw[W.fm],F,L,W.tr,cS,cS,hR,by rw[aC];lia,λST s2 N=>⟨_,gC,?_⟩⟩;show U5 [wy,wy] (λ_ R=>R (ST.map yc)) (gP 0 1) AF (kO Hc (kW (PH 0) (kW (PH 1) pY))) [.val (FZ C j),.val (.str w),.val (iN t),.val (.list ((o.map (·.2)).map fH))] λx=>Z6 ", " [x] (Q n);refine wP (ts:=ST.map yc) (λR h=>h) Bu (by rw[aC];lia) (λx B=>?_) (λa b q hm c=>?_) ?_
 ·obtain⟨e,v,rfl⟩:=aR.mp B;exact⟨_,_,gC⟩
 ·obtain⟨z,p,e⟩:=aR.mp hm;cases e;obtain⟨z1,U,X,z4⟩:=N z p;have c:q (Bu (yc z)):=c;rw[QS z4]at c;exact⟨_,gC,_,gC,z,gC,z1,U,X,z4,c⟩
 ·have h1:=oN (n:=20) (ws:=ST.map DW) λw hw=>by
   obtain⟨z,p,rfl⟩:=aR.mp hw;obtain⟨z1,U,X,_⟩:=N z p;exact TJ z1 U X
  have e:(", ":â).length=2:=by decide +kernel
  have s:=xJ ", " (ST.map DW);rw[e]at s;rw[aC]at h1 s;refine⟨ST.map DW,?_,by rw[e,aC];lia,h _ (aY s cS)⟩;rw[bE,bE];exact fX λz p=>QS (N z p).2.2.2
def Pm:Ft P w base T.D_68 1 Uo:=by
 refine nL T.D_68.F Rh λi nd b Q h=>?_;obtain⟨k,n,v,s,rfl,c,d,f,g,h⟩:=h;refine⟨_,(bP (cK (lT bO (aA (jV (aA (bJ aV cM (aE 0) aM) (aA (bJ aV cM (aE 0) aM) (aA (bJ aV cM (aE 0) aM) (aA (aE 1) aG))))) aG) (λh a=>iA bS dE dD lR h a)))),?_⟩;have e:cO.length=1:=by decide +kernel
 refine⟨cO,gC,_,gC,_,gC,_,gC,_,gC,_,gC,_,gC,_,gC,eN,[n,k,v,s],gC,?_,h⟩;rw[e];show n.length+(k.length+(v.length+(s.length+0)))+4*1<=_;lia
def Ls:Fm P w K mg base qA 61 mo ["self","word","case"] (jG K (Lb C A)):=by
 refine R6 (F:=lO A) T.D_4.F Bs λm nd l n ds Q h=>?_;obtain⟨fs,an,X,ks,t,f,w,g,ht,rfl,W,hw,hc,h⟩:=h;refine⟨_,(cJ (jO (pO (oM (tv (cd (YW T) m (aA (mF (K:=K) gC (aE 0)) (aA (aE 2) aG))))))
 (dL (mL lQ))
 iH)
 (cJ (tS (i:=3) (qO cL (mF (K:=K) gC (aE 0)) (λh=>qL h T.C_Book T.M_10 (EC T) (m.mono cR) T.D_10.d .nil iB)) (λh=>nD (i:=3) nd gC (by first | exact h7 gC | exact g7 gC) h))
 (cJ (mL (ss 4 nd (cd (Fp T) m (aA (mF (K:=K) gC (aE 0)) (aA (aE 3) (aA (aE 2) aG))))))
 (cJ (jO (pO (cX eZ iL (aE 1) bO))
 (dL (iG (lV (aE 4))))
 iH)
 (cJ (mL (nX (i:=5) (fr:=[wy,wy]) (N':=["question","side"]) (fP (xN (cF (Fl T) m (aA (mF (K:=K) gC (aE 0)) (aA (aE 3) (aA (aE 2) aG)))))) (λb=>⟨(nA (oO gC (fD (pk 0) (fD (pk 1) mM)))),gQ,(cd (Pm T) m (aA (aE 0) (aA (aE 1) aG)))⟩) (λhi hY=>lL (show pT _ (aS (hZ (top 77) 4)) ["self","word","case","tree","answer","way"] ["question","side"] [wy,wy]=wx from by decide +kernel) nd gC (by first | exact h7 gC | exact g7 gC) gC hi hY gC)))
 (dL (iG (lV (lT bO (aA (cT bK dR (aE 5) (jV (aA (aE 4) aG))) aG) (λh J=>iA bS dE dD lR h J)))))))))),?_⟩
 obtain rfl:l=X:=gU ht;have F:=W.F;have j:iM fs (.tuple (g.map uR))=true:=hc;have dep:=W.dep;show xR _ _ _ _ _ [.val (FZ C l),.val (.str w),.val (.tuple (g.map uR)),.un,.un,.un];refine kT (λq c=>⟨_,gC,C,_,_,l.fm,gC,T.C_Desk,T.n_Desk_form,gC,_,gC,fs,an,_,by rw[W.fm],F,FI hw,?_⟩) ?_
 ·rw[j];exact c
 refine yP (iN t) (λq c=>⟨_,gC,C,_,_,mH l,gC,T.C_Desk,T.n_Desk_book,gC,gC,l,gC,gC,by rw[W.st];exact c⟩) ?_;refine oY (cN (.str (qR fs t (g.map uR))) (λq c=>⟨_,gC,C,_,_,l.fm,gC,T.C_Desk,T.n_Desk_form,gC,_,gC,_,gC,fs,an,t,_,by rw[W.fm],F,W.tr,j,cS,c⟩) ?_);have J:=KO F (g.map uR) W.tr;have wl:=CZ (fs:=fs) t (g.map uR);by_cases y:w="judge"
 ·refine pS (λq c=>⟨_,gC,by show q n (decide _);rw[b7 y];exact c⟩) ?_;exact⟨_,gC,h _ cS⟩
 refine kT (λq c=>⟨_,gC,by show q n (decide _);rw[c6 y];exact c⟩) ?_;have o:=DO F j W.tr
 generalize hL:uQ fs t (g.map uR)=L at o wl
 refine oY (cN (.list ((L.map LB).map aK)) (λq c=>?_) ?_)
 ·refine wP (ts:=L) (λR h=>⟨_,gC,C,_,_,l.fm,gC,T.C_Desk,T.n_Desk_form,gC,_,gC,_,gC,fs,an,t,_,by rw[W.fm],F,W.tr,j,cS,by rw[hL];exact⟨_,gC,h⟩⟩) (λx=>.str (LB x)) cS (λx p=>?_) (λa b q hm c=>?_) ?_
  ·obtain⟨k,n,v,s,rfl,_⟩:=o x p;exact⟨_,_,gC⟩
  ·obtain⟨k,n,v,s,e,B,E,G,H⟩:=o _ hm;cases e;exact⟨_,gC,_,gC,k,n,v,s,gC,B,E,G,H,c⟩
  ·rw[bE]at c;exact c
 have Y:cO.length=1:=by decide +kernel
 have u:(", ":â).length=2:=by decide +kernel
 have tl:∀z∈L.map LB++[qR fs t (g.map uR)],z.length<=40:=λz hz=>by
  rcases bR.mp hz with hz | hz
  ·obtain⟨x,p,rfl⟩:=aR.mp hz;obtain⟨k,n,v,s,rfl,B,E,G,H⟩:=o x p;refine aY (xJ cO [n,k,v,s]) ?_;rw[Y];show n.length+(k.length+(v.length+(s.length+0)))+4*1<=_;lia
  ·rw[bC.mp hz];lia
 have U:=oN tl;have r:=xJ ", " (L.map LB++[qR fs t (g.map uR)]);rw[u]at r;rw[aW,aC]at U r;have N:([qR fs t (g.map uR)]:List â).length=1:=rfl;rw[N]at U r;refine⟨", ",gC,_,gC,_,gC,eN,by rw[aC,aC];show L.length+1<=_;lia,L.map LB++[qR fs t (g.map uR)],by rw[bV];rfl,by rw[u,aW,aC,N];lia,h _ cS⟩
def Lp:Fm P w K mg base qA 62 ml ["self","text"] (jG K (Ky C A)):=by
 refine R6 (F:=lO A) T.D_1.F Bq λi nd c n N Q h=>?_;obtain⟨fs,an,L,p,t,f,x,H,rfl,W,v,m,k,h⟩:=h;refine⟨_,(cJ (mL (ss 2 nd (sY (aE 1) (aA bO aG) (λh g=>iA bS jI jH sT h g))))
 (cJ (jO (pO (oM (tv (cd (Fx T) i (aA (aE 2) aG)))))
 (dL (mL lQ))
 iH)
 (cJ (jO (pO (cX mD EF (bJ aV cM (aE 2) aM) (AA gC T.c_SINGLE_WORDS T.t_SINGLE_WORDS)))
 (dL (iG (zY (aE 0) (mW (aA (bJ aV cM (aE 2) aM) aG)) (λh g=>gZ h T.C_Desk T.M_3 (Lr T) (i.mono cR) T.D_3.d .nil iB g))))
 iH)
 (cJ (jO (pO (cX mD EF (bJ aV cM (aE 2) aM) (fE (aA bO (aA bO aG)))))
 (dL (iG (zY (aE 0) (mW (aA (bJ aV cM (aE 2) aM) (aA (cd (YO T) i (aA (dO fM lA (aE 2) (eA aM) eL) aG)) aG))) (λh g=>gZ h T.C_Desk T.M_4 (Ls T) (i.mono cR) T.D_4.d .nil iB g))))
 iH)
 (dL (iG (zY (aE 0) (mW (aA (aE 2) aG)) (λh g=>gZ h T.C_Desk T.M_2 (Lq T) (i.mono cR) T.D_2.d .nil iB g)))))))),?_⟩
 obtain rfl:=gU H;have a:∀(w:â)(r:List â),atI ((w::r).map aK) 0=wz (.str w):=λw r=>L2.eR gC;obtain⟨w,o,B,E,hw⟩:=qK v;have G:=v.len;refine oY (cN (.list ((Txt.split x cO).map aK)) (λq b=>⟨_,gC,_,gC,cL,cS,b⟩) ?_);rw[B]at h m k |-
 refine kT (λq b=>⟨_,gC,w,o,gC,(λy j=>aY (hw y (aH _ j)).len cR),by rw[m];exact b⟩) ?_;rcases A9 m with⟨h1,rfl⟩ | h1 | h1
 ·refine pS (λq b=>⟨_,gC,_,a _ _,_,gC,by show q n (decide _);rw[b7 h1];exact b⟩) ?_;exact⟨_,gC,["form","book"],[c.fm,mH c],gC,cL,_,gC,_,a _ _,fs,an,c,p,t,f,w,gC,gC,W,h1,λz z1 J u=>h _ _ (DR (.inl h1) z1 J u)⟩
 ·have n1:w∉(["tree","rows","rules","steps"]:List â):=by rcases h1 with rfl | rfl<;>decide +kernel
  have s:w∈(["judge","why"]:List â):=by rcases h1 with rfl | rfl<;>decide +kernel
  have n3:w≠"tree"/\w≠"rows":=by rcases h1 with rfl | rfl<;>decide +kernel
  refine kT (λq b=>⟨_,gC,_,a _ _,_,gC,by show q n (decide _);rw[c6 n1];exact b⟩) ?_;rw[BF _ _ _ h1]at k;refine pS (λq b=>⟨_,gC,_,a _ _,eN,["judge","why"],gC,by show q n (decide _);rw[b7 s];exact b⟩) ?_;exact⟨_,gC,["form","book"],[c.fm,mH c],gC,cL,_,gC,_,a _ _,_,gC,o,by show[eO (fY _ (wz 1) wy)]=_;exact d6 (λl=>[eO l]) (pQ _ 1),cS,fs,an,c,p,t,f,w,o,gC,gC,W,λy j=>hw y (aH _ j),k,λz u=>h _ _ (DR (.inr h1) (λe=>b8 e n3.1) (λe=>b8 e n3.2) u)⟩
 ·have n1:w∉(["tree","rows","rules","steps"]:List â):=by rcases h1 with rfl | rfl | rfl<;>decide +kernel
  have s:w∉(["judge","why"]:List â):=by rcases h1 with rfl | rfl | rfl<;>decide +kernel
  refine kT (λq b=>⟨_,gC,_,a _ _,_,gC,by show q n (decide _);rw[c6 n1];exact b⟩) ?_;refine kT (λq b=>⟨_,gC,_,a _ _,eN,["judge","why"],gC,by show q n (decide _);rw[c6 s];exact b⟩) ?_;exact⟨_,gC,["form","book"],[c.fm,mH c],gC,cL,_,gC,fs,an,c,p,t,f,w,o,gC,gC,W,h1,E,λy j=>hw y (aH _ j),m,k,h⟩
def YY:Fm P w K mg base (P8 P w) 2 gf ["self","number"] (lF K (pD C A O M I)):=by
 refine MO (F:=lO A) T.D_12.F W9 (λr n g Q h=>by obtain⟨a,j,d,rfl,b,h⟩:=h;rfl) λf l outer s H E c p e n g m h i=>?_;obtain⟨a,j,d,rfl,b,h⟩:=h;have nd:=W9.nd;refine⟨_,(dL (jO (WI c.u1 T.C_Book T.n_Book_numbered (aE 1) (aE 0))
 (dL (yW i T.X_NoSuch (aA bO aG) (λh=>zG T.R_NoSuch c gC T.x_NoSuch h)))
 iH)),?_⟩
 obtain rfl:e=a:=gU d;refine ID wx (λq k=>⟨_,gC,j,gC,_,gC,gC,?_⟩) (λ_=>?_) λz=>by cases z
 ·rw[b];exact k
 ·exact⟨eN,gC,h,λB o hb=>hb⟩
def Nt:Fm P w K mg base (P8 P w) 17 mr ["self","number"] (lF K (aCu C A O M I)):=by
 refine MO (F:=lO A) T.D_7.F Ac (λr n k Q h=>by obtain⟨b,j,g,rfl,e,h⟩:=h;rfl) λi m outer s H E f q c n k o h l=>?_;obtain⟨b,j,g,rfl,e,h⟩:=h;have nd:=Ac.nd;refine⟨_,(cJ (yM.or (oZ (nZ cL (aE 0) (mW (aA (aE 1) aG)) (λh a=>gZ h T.C_Book T.M_12 (RK T) (f.mono cR) T.D_12.d .nil iB a)) (λh=>gL h))
 (sL (qP l cL (aE 0) (mW (aA (aE 1) aG)) (λh a=>gZ h T.C_Book T.M_12 (YY T) (f.mono cR) T.D_12.d .nil zH a)) (λh=>gL h)))
 (cJ (mL lQ)
 (dL (mL lQ)))),?_⟩
 obtain rfl:c=b:=gU g;exact .inr ⟨⟨_,gC,gC,gC,_,gC,c,j,gC,gC,e,h⟩,λB p hb=>hb⟩
def YZ:Fm P w K mg base (P8 P w) 4 gc ["self","thing"] (lF K (rD C A O M I)):=by
 refine MO (F:=lO A) T.D_11.F XA (λu n i Q h=>by obtain⟨fs,an,b,d,f,rfl,F,e,hd,hw,h⟩:=h;rfl) λg o outer s H E a t c n i p h j=>?_;obtain⟨fs,an,b,d,f,rfl,F,e,hd,hw,h⟩:=h;have nd:=XA.nd;refine⟨_,(dL (jO (NQ (NP (vS (RJ T) T.D_16.m T.D_16.k T.D_16.d (a.mono cR) (gB (tZ T.C_Book T.n_Book_form (aE 0)) (gB (lV (aE 1)) oA)) (λh=>kI (RJ T) (a.mono cR) gC T.D_16.m T.D_16.k T.D_16.d .nil iB h)) (λh=>JD h)))
 (dL (yW j T.X_NoRow (aA bO aG) (λh=>zG T.R_NoRow a gC T.x_NoRow h)))
 iH)),?_⟩
 obtain rfl:c=b:=gU f;refine ID wx (λq l=>⟨_,gC,gC,c,_,gC,gC,_,gC,fs,an,d,by rw[e],F,hd,?_⟩) (λ_=>?_) λz=>by cases z
 ·rw[hw];exact l
 ·exact⟨eN,gC,h,λB r hb=>hb⟩
def Nr:Fm P w K mg base (P8 P w) 17 mq ["self","row"] (lF K (aCt C A O M I)):=by
 refine MO (F:=lO A) T.D_6.F Ab (λq n j Q h=>by obtain⟨fs,an,b,d,g,rfl,F,e,hd,hw,h⟩:=h;rfl) λi l outer s H E f p c n j m h k=>?_;obtain⟨fs,an,b,d,g,rfl,F,e,hd,hw,h⟩:=h;have nd:=Ab.nd;refine⟨_,(cJ (yM.or (oZ (nZ cL (aE 0) (mW (aA (aE 1) aG)) (λh a=>gZ h T.C_Book T.M_11 (RL T) (f.mono cR) T.D_11.d .nil iB a)) (λh=>gL h))
 (sL (qP k cL (aE 0) (mW (aA (aE 1) aG)) (λh a=>gZ h T.C_Book T.M_11 (YZ T) (f.mono cR) T.D_11.d .nil zH a)) (λh=>gL h)))
 (cJ (mL lQ)
 (cJ (mL lQ)
 (cJ (mL lQ)
 (cJ (mL lQ)
 (dL (mL lQ))))))),?_⟩
 obtain rfl:c=b:=gU g;exact .inr ⟨⟨_,gC,gC,gC,_,gC,fs,an,c,d,gC,gC,F,e,hd,hw,h⟩,λB o hb=>hb⟩
def Nu:Fm P w K mg base (P8 P w) 17 mu ["self","number","row"] (lF K (W5 C A O M I)):=by
 refine MO (F:=lO A) T.D_8.F Ad (λu n o Q h=>by obtain⟨fs,an,f,j,d,k,rfl,F,i,hd,h⟩:=h;rfl) λl q outer s H E c t b n o r h g=>?_;obtain⟨fs,an,f,j,d,k,rfl,F,i,hd,h⟩:=h;have nd:=Ad.nd;refine⟨_,(cJ (yM.or (oZ (nZ cL (aE 0) (mW (aA (aE 1) aG)) (λh a=>gZ h T.C_Book T.M_12 (RK T) (c.mono cR) T.D_12.d .nil iB a)) (λh=>gL h))
 (sL (qP g cL (aE 0) (mW (aA (aE 1) aG)) (λh a=>gZ h T.C_Book T.M_12 (YY T) (c.mono cR) T.D_12.d .nil zH a)) (λh=>gL h)))
 (cJ (yM.or (oZ (nZ cL (aE 0) (mW (aA (aE 2) aG)) (λh a=>gZ h T.C_Book T.M_11 (RL T) (c.mono cR) T.D_11.d .nil iB a)) (λh=>gL h))
 (sL (qP g cL (aE 0) (mW (aA (aE 2) aG)) (λh a=>gZ h T.C_Book T.M_11 (YZ T) (c.mono cR) T.D_11.d .nil zH a)) (λh=>gL h)))
 (cJ (mL lQ)
 (cJ (mL lQ)
 (dL (mL lQ)))))),?_⟩
 obtain rfl:b=f:=gU k;rcases h with⟨e,h⟩ | ⟨m,e,hw,h⟩
 ·exact .inr ⟨⟨_,gC,gC,gC,_,gC,b,j,gC,gC,e,h⟩,λB p hb=>hb⟩
 ·refine .inl ⟨_,gC,gC,_,gC,b,j,m,gC,gC,e,?_⟩;dsimp only;exact .inr ⟨⟨_,gC,gC,gC,_,gC,fs,an,b,d,gC,gC,F,i,hd,hw,h⟩,λB p hb=>hb⟩
def Np:Fm P w K mg base (P8 P w) 18 mm ["self","words"] (lF K (W6 C A O M I)):=by
 refine MO (F:=lO A) T.D_2.F Br (λτ n ds Q h=>by obtain⟨fs,an,R,L,w,N,X,rfl,F,v,hk,hw,W,b,G,i,p,t⟩:=h;rfl) λci Ar outer s H E m ps g n ds ED h o=>?_;obtain⟨fs,an,R,L,w,N,X,rfl,F,v,hk,hw,W,b,G,i,p,t⟩:=h;have nd:=Br.nd;refine⟨_,(cJ (jO (pO (cX eZ iL (bJ aV cM (aE 1) aM) bO))
 (dL (IH (Xi (Xj (qP o cL (mF (K:=K) gC (aE 0)) (mW (aA (cd (RH T) m (aA (dO fM lA (aE 1) (eA aM) eL) aG)) aG)) (λh b=>gZ h T.C_Book T.M_6 (Nr T) (m.mono cR) T.D_6.d .nil zH b)) mC) (λh=>oQ mP gC T.b_str uD h))))
 iH)
 (cJ (jO (pO (cX eZ iL (bJ aV cM (aE 1) aM) bO))
 (dL (sL (qP o cL (mF (K:=K) gC (aE 0)) (mW (aA (cY FK (aA (bJ aV cM (aE 1) aM) aG) tF T.b_int FM) aG)) (λh b=>gZ h T.C_Book T.M_7 (Nt T) (m.mono cR) T.D_7.d .nil zH b)) (λh=>gL h)))
 (dL (sL (qP o cL (mF (K:=K) gC (aE 0)) (mW (aA (cY FK (aA (bJ aV cM (aE 1) aM) aG) tF T.b_int FM) (aA (cd (RH T) m (aA (dO fM lA (aE 1) (eA aM) eL) aG)) aG))) (λh b=>gZ h T.C_Book T.M_8 (Nu T) (m.mono cR) T.D_8.d .nil zH b)) (λh=>gL h))))
 (dL (mL lQ)))),?_⟩
 obtain rfl:g=R:=gU X;have a:∀(w:â)(r:List â),atI ((w::r).map aK) 0=wz (.str w):=λw r=>L2.eR (j:=0) gC;have U:∀(k:Nat)(u:List â),fY (u.map aK) (wz (k:Nat)) wy=(u.drop k).map aK:=λk u=>by rw[hU,pQ]
 have ne:∀{x y:â}(q:KR->Bool->Prop),x≠y->q n ww->q n (decide (x=y)):=λq h z=>by rw[c6 h];exact z
 obtain⟨nk,fol,st⟩:=n;obtain rfl:nk=qY L:=hk;show xR _ _ _ _ _ [.val (FZ C g),.val (.list ((w::N).map aK))];rcases hw with rfl | rfl | rfl
 ·rw[J5]at i;refine pS (λq c=>⟨_,gC,_,a _ _,?_⟩) ?_
  ·show q _ (decide (("put":â)="put"));rw[b7 rfl];exact c
  refine⟨⟨_,gC,C,_,_,mH g,gC,T.C_Desk,T.n_Desk_book,gC,gC,gC,_,gC,N,by show[eO (fY _ (wz 1) wy)]=_;exact d6 (λl=>[eO l]) (U 1 _),cS,fs,an,g,_,gC,gC,F,v,SM b,i,p⟩,λB Y hb=>hb⟩
 ·obtain⟨x,rfl,f⟩:=OS G;obtain⟨k,f,J⟩:=zL f;rw[O8 _ _ _ f,Option.isSome_eq_false_iff,Option.isNone_iff_eq_none]at i;refine kT (λq c=>⟨_,gC,_,a _ _,ne q cL c⟩) ?_;refine pS (λq c=>⟨_,gC,_,a _ _,?_⟩) ?_
  ·show q _ (decide (("out":â)="out"));rw[b7 rfl];exact c
  exact⟨⟨_,gC,C,_,_,mH g,gC,T.C_Desk,T.n_Desk_book,gC,gC,gC,_,gC,_,L2.eR (j:=1) gC,_,f,cS,g,_,gC,gC,HE i,t⟩,λB Y hb=>hb⟩
 ·obtain⟨x,r,rfl,f⟩:=yF G;obtain⟨k,f,J⟩:=zL f;rw[O7 _ _ _ f]at i;rw[bA]at W;refine kT (λq c=>⟨_,gC,_,a _ _,ne q cL c⟩) ?_;refine AO ww (λq c=>⟨_,gC,_,a _ _,ne q cL c⟩) (λz=>by cases z) λ_=>?_;refine⟨⟨_,gC,C,_,_,mH g,gC,T.C_Desk,T.n_Desk_book,gC,gC,gC,_,gC,_,L2.eR (j:=1) gC,_,f,cS,_,gC,r,by show[eO (fY _ (wz 2) wy)]=_;exact d6 (λl=>[eO l]) (U 2 _),cS,fs,an,g,_,_,gC,gC,F,v,SM λy hy=>b y (aH _ hy),?_⟩,λB Y hb=>hb⟩
  cases e:uS k L with
  |none=>exact .inl ⟨HE e,t⟩
  |some r0=>
   rw[e]at i;exact .inr ⟨_,J6 e,i,p⟩
def Nq:Fm P w K mg base (P8 P w) 61 mo ["self","word","case"] (lF K (AW C A O M I)):=by
 refine MO (F:=lO A) T.D_4.F Bs (λt n j Q h=>by obtain⟨fs,an,b,w,g,f,rfl,F,d,hw,a,h⟩:=h;rfl) λi m outer s H E e r c n j o h k=>?_;obtain⟨fs,an,b,w,g,f,rfl,F,d,hw,a,h⟩:=h;have nd:=Bs.nd;refine⟨_,(cJ (jO (pO (oM (tv (cd (YW T) e (aA (mF (K:=K) gC (aE 0)) (aA (aE 2) aG))))))
 (dL (yW k T.X_NoRow (aA bO aG) (λh=>zG T.R_NoRow e gC T.x_NoRow h)))
 iH)
 (cJ (mL lQ)
 (cJ (mL lQ)
 (cJ (mL lQ)
 (cJ (mL lQ)
 (dL (mL lQ))))))),?_⟩
 obtain rfl:c=b:=gU f;refine ID wx (λq l=>⟨_,gC,C,_,_,c.fm,gC,T.C_Desk,T.n_Desk_form,gC,_,gC,fs,an,_,by rw[d],F,FI hw,?_⟩) (λ_=>?_) λz=>by cases z
 ·show q n (!iM fs (.tuple (g.map uR)));unfold tE at a;rw[a];exact l
 ·exact⟨eN,gC,h,λB p hb=>hb⟩
def Ez:Fm P w K mg base (P8 P w) 62 ml ["self","text"] (lF K (aCs C A O M I)):=by
 refine MO (F:=lO A) T.D_1.F Bq (λτ n U Q h=>by obtain⟨fs,an,z,L,x,J,rfl,F,t,hk,u,h⟩:=h;rfl) λR Ar outer s H E k ps c n U ED h p=>?_;obtain⟨fs,an,z,L,x,J,rfl,F,t,hk,u,h⟩:=h;have nd:=Bq.nd;refine⟨_,(cJ (mL (ss 2 nd (sY (aE 1) (aA bO aG) (λh f=>iA bS jI jH sT h f))))
 (cJ (jO (pO (oM (tv (cd (Fx T) k (aA (aE 2) aG)))))
 (dL (yW p T.X_NoLine (aA bO aG) (λh=>zG T.R_NoLine k gC T.x_NoLine h)))
 iH)
 (cJ (jO (pO (cX mD EF (bJ aV cM (aE 2) aM) (AA gC T.c_SINGLE_WORDS T.t_SINGLE_WORDS)))
 (dL (mL lQ))
 iH)
 (cJ (jO (pO (cX mD EF (bJ aV cM (aE 2) aM) (fE (aA bO (aA bO aG)))))
 (dL (IH (HI p (aE 0) (mW (aA (bJ aV cM (aE 2) aM) (aA (cd (YO T) k (aA (dO fM lA (aE 2) (eA aM) eL) aG)) aG))) (λh f=>gZ h T.C_Desk T.M_4 (Nq T) (k.mono cR) T.D_4.d .nil zH f))))
 iH)
 (dL (IH (HI p (aE 0) (mW (aA (aE 2) aG)) (λh f=>gZ h T.C_Desk T.M_2 (Np T) (k.mono cR) T.D_2.d .nil zH f)))))))),?_⟩
 obtain rfl:c=z:=gU J;have b:∀(w:â)(r:List â),atI ((w::r).map aK) 0=wz (.str w):=λw r=>L2.eR (j:=0) gC;obtain⟨w,e,W,Y,hw⟩:=qK u;have lg:=u.len;show xR _ _ _ _ _ [.val (FZ C c),.val (.str x),.un];refine oY (cN (.list ((Txt.split x cO).map aK)) (λq a=>⟨_,gC,_,gC,cL,cS,a⟩) ?_);rw[W]at h |-
 have m:∀y∈e,y.length<=100000:=λy o=>aY (hw y (aH _ o)).len cR;rcases h with⟨i,h⟩ | ⟨i,g,G,X⟩
 ·refine pS (λq a=>⟨_,gC,w,e,gC,m,by rw[i];exact a⟩) ?_;exact⟨eN,gC,h,λB N hb=>hb⟩
 refine kT (λq a=>⟨_,gC,w,e,gC,m,by rw[i];exact a⟩) ?_;rcases A9 i with⟨h1,rfl⟩ | h1 | h1
 ·rw[E3 _ _ _ h1]at g;cases g
 ·have n1:w∉(["tree","rows","rules","steps"]:List â):=by rcases h1 with rfl | rfl<;>decide +kernel
  have v:w∈(["judge","why"]:List â):=by rcases h1 with rfl | rfl<;>decide +kernel
  refine kT (λq a=>⟨_,gC,_,b _ _,_,gC,by show q n (decide _);rw[c6 n1];exact a⟩) ?_;rw[BF _ _ _ h1]at g;refine pS (λq a=>⟨_,gC,_,b _ _,eN,["judge","why"],gC,by show q n (decide _);rw[b7 v];exact a⟩) ?_;refine⟨⟨_,gC,gC,["form","book"],[c.fm,mH c],gC,cL,_,gC,_,b _ _,_,gC,e,by show[eO (fY _ (wz 1) wy)]=_;exact d6 (λl=>[eO l]) (pQ _ 1),cS,fs,an,c,w,e,gC,gC,F,t,λy o=>hw y (aH _ o),g,G⟩,λB N hb=>hb⟩
 ·have n1:w∉(["tree","rows","rules","steps"]:List â):=by rcases h1 with rfl | rfl | rfl<;>decide +kernel
  have v:w∉(["judge","why"]:List â):=by rcases h1 with rfl | rfl | rfl<;>decide +kernel
  refine kT (λq a=>⟨_,gC,_,b _ _,_,gC,by show q n (decide _);rw[c6 n1];exact a⟩) ?_;refine kT (λq a=>⟨_,gC,_,b _ _,eN,["judge","why"],gC,by show q n (decide _);rw[c6 v];exact a⟩) ?_;exact⟨⟨_,gC,gC,["form","book"],[c.fm,mH c],gC,cL,_,gC,fs,an,c,L,w,e,gC,gC,F,t,hk,h1,Y,λy o=>hw y (aH _ o),i,g,G,X⟩,λB N hb=>hb⟩
def EE:Fj P w base T.D_86 63 (jG K (W7 C A)):=by
 refine R6 (F:=lO A) T.D_86.F Ts λm nd a n N Q h=>?_;obtain⟨fs,an,L,l,t,f,x,G,rfl,W,o,y,p,B⟩:=h;refine⟨_,(cJ (mL (ss 2 nd bO))
 (cJ (yM.or (aB6 (dL (tS (i:=2) (MR bK dR (lV bO) (zY (aE 0) (mW (aA (aE 1) aG)) (λh k=>gZ h T.C_Desk T.M_1 (Lp T) (m.mono cR) T.D_1.d .nil iB k))) (λh=>nD (i:=2) nd gC (by first | exact h7 gC | exact g7 gC) h))) (λh=>aC8 xZ h)) (yM.or (by refine' aB5 (J:=I) (i:=3) (G2 (aE 0) (mW (aA (aE 1) aG)) (λh k=>XG (Gu xZ oP (Q0 xZ h T.C_Desk T.M_1 (Ez T) (m.mono cR) T.D_1.d k)))) (λv=>?hb) (λr b=>aC7 xZ gC gC nd gC gC gC T.x_NoLine r b);(case hb=>(refine' (cJ (mL (ss 2 nd bO)) (dL (mL (gW (uH (IG (tv (show gK _ _ (Dp K (.type "ValueError") (PH 3))from ?z1)) (C2 (oM (tv (show gK _ _ (Et K [S,O,l9,M,m3,Z] (PH 3))from ?z0))))))   (bP (ss 2 nd bO))   fA))));(case z0=>exact(Zn (cs:=[S,O,l9,M,m3,Z]) (aE 3) (λh=>vK VE gC T.b_isinstance rY (gF h (gF (JF (gF (pX gC T.x_NoPlace gC) (gF (pX gC T.x_NoRow gC) (gF (pX gC T.x_NoRule gC) (gF (pX gC T.x_NoSuch gC) (gF (pX gC T.x_NoText gC) (gF (pX gC T.x_TooMany gC) mU))))))) mU)))));(case z1=>exact(Xh (c:=.type "ValueError") (cv:=.ty "ValueError") (aE 3) (λh=>vK (aA1 λ_ z=>z) gC T.b_isinstance rY (gF h (gF (RC gC T.b_ValueError GE gC) mU))))))))
 (WV (J0:=I) (J:=j7) (G2 (aE 0) (mW (aA (aE 1) aG)) (λh k=>XG (Gu xZ oP (Q0 xZ h T.C_Desk T.M_1 (Ez T) (m.mono cR) T.D_1.d k)))) (λv=>(dL (mL (ss 2 nd bO)))) (λr b=>X1 xZ gC gC gC T.x_NoLine gC T.x_JudgeError r b))))
 (dL (iG (lV (aE 2)))))),?_⟩
 obtain rfl:=gU G
 have E:qU K (.ref I) ([S,O,l9,M,m3,Z].map d0)=wz false:=by
  show qU K (.ref I) [.ref S,.ref O,.ref l9,.ref M,.ref m3,.ref Z]=wz ww;simp only[qU,T.q_NoLine_NoPlace,T.q_NoLine_NoRow,T.q_NoLine_NoRule,T.q_NoLine_NoSuch,T.q_NoLine_NoText,T.q_NoLine_TooMany]
 have u:("told ":â).length=5:=by decide +kernel
 refine oY (cN (.str "") (λq g=>g) ?_);by_cases e:iV (Txt.split x cO)=wx
 ·by_cases j:kD fs an l (Txt.split x cO)=wx
  ·refine .inl ⟨_,gC,["form","book"],[a.fm,mH a],gC,cL,_,gC,fs,an,a,l,t,f,x,gC,gC,W,o,e,j,λH z s=>⟨?_,?_⟩⟩
   ·have:=s.2.2.2.2.2.2;rw[u];lia
   ·exact⟨_,gC,B e j H z s⟩
  ·rw[aBt]at j;exact .inr (.inr ⟨_,gC,["form","book"],[a.fm,mH a],gC,cL,_,gC,fs,an,a,l,x,gC,gC,W.F,W.fm,W.kv,o,.inr ⟨e,j,⟨⟨O,gC,T.u_NoRow_NoLine,T.j_NoRow⟩,⟨_,gC,p e j⟩⟩,⟨⟨M,gC,T.u_NoSuch_NoLine,T.j_NoSuch⟩,⟨_,gC,p e j⟩⟩⟩⟩)
 ·rw[aBt]at e;refine .inr (.inl ⟨_,gC,["form","book"],[a.fm,mH a],gC,cL,_,gC,fs,an,a,l,x,gC,gC,W.F,W.fm,W.kv,o,.inl ⟨e,⟨I,gC,T.e_NoLine⟩,?_⟩⟩);refine oY (cN (.str "unlike") (λq g=>g) ?_);refine Ye (λq g=>⟨_,gC,I,.none,wx,gC,T.v_NoLine,?_⟩) ?_
  ·show(if wx=wx then _ else _);rw[a9 rfl];exact⟨_,gC,I,.none,ww,gC,eN,E,g _ gC⟩
  ·exact wL (.str "line") (λq g=>g) ⟨_,gC,y e⟩
def Ox:Ft P w base T.D_84 3 Vv:=by
 refine nL T.D_84.F To λg nd ds Q h=>?_;obtain⟨ns,fs,an,rfl,J,F,h⟩:=h;refine⟨_,(aU (ss 2 nd (cd (YM T) g (aA (aE 0) (aA (aE 1) aG))))
 (aU (ss 3 nd (cd (YL T) g (aA (aE 2) aG)))
 (aU (ss 4 nd (lT bO (aA (dO fM lA (sY (aE 3) (aA bO aG) (λh E=>iA bS jI jH sT h E)) eL (eA (BJ aM))) aG) (λh E=>iA bS dE dD lR h E)))
 (aU (ss 5 nd (cY vW (aA (cd (kU T) g (aA (aE 0) (aA aM aG))) aG) mP T.b_str uD))
 (aU (ss 6 nd (jV (aA (cT bK dR bO (aE 3)) (aA (cT bK dR bO (aE 4)) (aA (cT bK dR bO (aE 4)) (aA (cT bK dR bO (aE 5)) (aA (cT bK dR (cT bK dR (cT bK dR bO (aE 5)) bO) (aE 3)) (aA bO aG))))))))
 (aU (ss 6 nd (cT bK dR (aE 6) (jV (aA bO (aA bO (aA bO (aA (cT bK dR bO (aE 5)) aG)))))))
 (bP (cK (bJ aV cM (aE 6) (cd (kU T) g (aA (aE 0) (aA aM aG)))))))))))),?_⟩
 show nY _ _ _ [.val (jY ns),.val (fV fs an),.un,.un,.un,.un,.un];refine eJ (λd=>∃r,kY fs an r/\d=fH r) (λq f=>⟨_,gC,_,gC,ns,fs,an,gC,J,F,λr g=>f _ ⟨r,g,gC⟩⟩) ?_;rintro _ ⟨r,g,rfl⟩;refine cN (.str (IX r)) (λq f=>⟨_,gC,fs,an,r,gC,F,g,f⟩) ?_;have i:=SU F g
 generalize IX r=t at i
 have N:=i.len;have bl:cO.length=1:=by decide +kernel
 refine eJ (λd=>∃c,pL 61 c/\d=.str c) (λq f=>?_) ?_
 ·have L:=GX i;obtain⟨w,ws,s,_,hw⟩:=qK i;rw[s]at L;obtain e | ⟨v,a,e⟩:=DB (w::ws)
  ·cases e
  rw[e]at L hw s;have e1:fY ((v++[a]).map aK) wy (wz (-1))=v.map aK:=by rw[hU,FF]
  rw[bV,wI,aW]at L;refine⟨cO,gC,_,gC,_,gC,cL,cS,v,by show fY ((Txt.split t cO).map aK) wy (wz (-1))=_;rw[s];exact e1,by rw[bl];lia,f _ ⟨_,M9 (n:=60) (λy p=>hw y (dZ _ p)) cS,gC⟩⟩
 rintro _ ⟨c,G,rfl⟩;refine eJ (λd=>∃k,pL 4 k/\d=.str k) (λq f=>⟨_,gC,ns,3,gC,J,cR,cR,λr u B=>?_⟩) ?_
 ·obtain⟨k,rfl⟩:=uV u;have hk:k<3:=by lia
  refine⟨(mN k cS).2,f _ ⟨_,?_,gC⟩⟩;exact(by decide +kernel:∀k:Nat,k<3->(nE (k:Nat)).length<=4/\∀c∈(nE (k:Nat)).cps.toList,c<128) k hk |>.elim λa b=>⟨a,b⟩
 rintro _ ⟨k,hk,rfl⟩;have m:=G.len;have H:=hk.len;have j:∀{z:â},(([z]:List â).all λx=>decide (x.length<=6)&&x.cps.toList.all λc=>decide (c<128))=wx->pL 6 z:=λh=>KL h;have W:=j (z:="put ") cL;have X:=j (z:="judge ") cL;have Y:=j (z:="why ") cL;have p4:=j (z:="out ") cL;have o:=j (z:="turn ") cL;have U:=j (z:=" ") cL;have q1:=W.len;have q2:=X.len;have q3:=Y.len;have q4:=p4.len;have q5:=o.len;have q6:=U.len;refine cN (.list ((["put "++t,"judge "++c,"why "++c,"out "++k,"turn "++k++" "++t,"tree"]:List â).map aK)) (λq f=>?_) ?_
 ·have ad:∀{a b:Nat},a<=6->b<=61->a+b<=100000:=λB h2=>by lia
  have t1:=(o.app hk).len;have t2:=((o.app hk).app U).len;exact⟨_,gC,ad q1 cS,_,gC,ad q2 m,_,gC,ad q3 m,_,gC,ad q4 cS,_,gC,ad q5 cS,aY (lE t1 q6) eN,_,gC,aY (lE t2 N) eN,eN,f⟩
 refine cN (.list ((["put "++t,"judge "++c,"why "++c,"out "++k,"turn "++k++" "++t,"tree","rows","rules","steps","turn "++k]:List â).map aK)) (λq f=>?_) ?_
 ·exact⟨_,gC,_,gC,aY (lE q5 H) eN,eN,eN,f⟩
 refine⟨_,gC,_,gC,ns,10,gC,J,cR,cR,λr u B=>?_⟩;obtain⟨y,p,e⟩:=SQ (l:=["put "++t,"judge "++c,"why "++c,"out "++k,"turn "++k++" "++t,"tree","rows","rules","steps","turn "++k]) u B;refine⟨_,e,h y ?_⟩;have R:∀z∈(["tree","rows","rules","steps"]:List â),pL 100 z:=λz hz=>BQ hz cL;simp only[aO,cG,f6]at p;rcases p with rfl | rfl | rfl | rfl | rfl | rfl | rfl | rfl | rfl | rfl
 ·exact(W.app i).up cR
 ·exact(X.app G).up cR
 ·exact(Y.app G).up cR
 ·exact(p4.app hk).up cR
 ·exact(((o.app hk).app U).app i).up cR
 all_goals first | exact(o.app hk).up cR | exact R _ eH
def Oy:Ft P w base T.D_85 2 Vw:=by
 refine nL T.D_85.F Tq λu nd ds Q h=>?_;obtain⟨ns,x,m,rfl,t,v,hm,h⟩:=h;refine⟨_,(aU (ss 2 nd (sY (aE 1) (aA bO aG) (λh o=>iA bS jI jH sT h o)))
 (aU (ss 3 nd (cd (kU T) u (aA (aE 0) (aA (cT bK dR (cB jS (aA (aE 1) aG) cZ T.b_len gX) aM) aG))))
 (aU (ss 4 nd (bJ aV cM bO (cd (kU T) u (aA (aE 0) (aA aM aG)))))
 (aU (ss 5 nd (cd (kU T) u (aA (aE 0) (aA aM aG))))
 (aU (gW (cX eZ iL (aE 5) aM)
 (bP (cK (cT bK dR (cT bK dR (dO fM lA (aE 1) eL (eA (aE 3))) (aE 4)) (dO fM lA (aE 1) (eA (aE 3)) eL))))
 fA)
 (aU (gW (cX eZ iL (aE 5) aM)
 (bP (cK (cT bK dR (dO fM lA (aE 1) eL (eA (aE 3))) (dO fM lA (aE 1) (eA (cT bK dR (aE 3) aM)) eL))))
 fA)
 (aU (gW (cX eZ iL (aE 5) aM)
 (bP (cK (dO fM lA (aE 1) eL (eA (aE 3)))))
 fA)
 (aU (gW (cX eZ iL (aE 5) aM)
 (bP (cK (cT bK dR (aE 1) (bJ aV cM (jV (aA bO (aA bO (aA bO (aA bO aG))))) (cd (kU T) u (aA (aE 0) (aA aM aG)))))))
 fA)
 (aU (gW (cX eZ iL (aE 5) aM)
 (aU (IK (i:=6) nd gC (by first | exact h7 gC | exact g7 gC) (jV (BO (by repeat constructor))))
 (bP (cK (lT bO (aA (cT bK dR (jV (aA (bJ aV cM (aE 6) (cd (kU T) u (aA (aE 0) (aA aM aG)))) aG)) (dO fM lA (aE 2) (eA aM) eL)) aG) (λh o=>iA bS dE dD lR h o)))))
 fA)
 (aU (IK (i:=7) nd gC (by first | exact h7 gC | exact g7 gC) (jV (BO (by repeat constructor))))
 (aU (ss 8 nd (cd (kU T) u (aA (aE 0) (aA (cB jS (aA (aE 2) aG) cZ T.b_len gX) aG))))
 (bP (cK (lT bO (aA (cT bK dR (cT bK dR (dO fM lA (aE 2) eL (eA (aE 8))) (jV (aA (bJ aV cM (aE 7) (cd (kU T) u (aA (aE 0) (aA aM aG)))) aG))) (dO fM lA (aE 2) (eA (cT bK dR (aE 8) aM)) eL)) aG) (λh o=>iA bS dE dD lR h o))))))))))))))),?_⟩
 obtain⟨w,ws,X,ot,hw⟩:=qK v;show nY _ _ _ [.val (jY ns),.val (.str x),.un,.un,.un,.un,.un,.un,.un];have lg:=v.len;have bl:cO.length=1:=by decide +kernel
 have B:0<(Txt.split x cO).length:=by rw[X];exact Nat.succ_pos _
 have Y:(Txt.split x cO).length<=901:=by rw[X,bA];lia
 refine cN (.list ((Txt.split x cO).map aK)) (λq f=>⟨_,gC,_,gC,cL,cS,f⟩) ?_;refine eJ (λd=>∃a:Nat,d=.int (a:Nat)) (λq f=>⟨_,gC,_,gC,cS,ns,((x.length:Nat):Int)+1,gC,t,cS,cS,λr g j=>f _ ⟨r.toNat,by rw[eT g]⟩⟩) ?_;rintro _ ⟨a,rfl⟩;refine eJ (λd=>∃s:â,pL 1 s/\d=.str s) (λq f=>⟨_,gC,ns,14,gC,t,cR,cR,λr g j=>?_⟩) ?_
 ·obtain⟨k,rfl⟩:=uV g;have z:(" 09+-_,:aZ~stw":â).cps.toList.length=14/\∀c∈(" 09+-_,:aZ~stw":â).cps.toList,c<128:=by decide +kernel
  have hk:k<(" 09+-_,:aZ~stw":â).cps.toList.length:=by lia
  have hg:=aJ hk;exact⟨cL,_,L2.eR hg,f _ ⟨_,⟨aN _,λc hc=>by rw[bC.mp hc];exact z.2 _ (bD hg)⟩,gC⟩⟩
 rintro _ ⟨s,hs,rfl⟩;have vk:=hs.len;have c1:∀lo p,pL m (Txt.slice x lo p):=λlo p=>v.cut lo p;have G:∀lo p,(Txt.slice x lo p).length<=m:=λlo p=>(c1 lo p).len
 have W:∀(c:Nat),(Txt.slice x wy (wz (a:Nat))).length+(Txt.slice x (wz (c:Nat)) wy).length<=x.length+(a-c):=λc=>by
  have e:∀y:â,y.length=y.cps.toList.length:=λy=>by simp[h9]
  rw[e,e,e,nI,nI,nG,pQ,bU,eI];lia
 have mk:∀{y:â}{b:Nat},pL b y->y.length<=m+20->pL (m+20) y:=λj h2=>⟨h2,j.asc⟩;refine eJ (λd=>∃k:Int,d=.int k) (λq f=>⟨_,gC,ns,8,gC,t,cR,cR,λr g j=>f _ ⟨r,gC⟩⟩) ?_;rintro _ ⟨k,rfl⟩;refine hX (λb=>b=decide (k=0)) (λq f=>⟨_,gC,f _ gC⟩) (λJ=>?_) λH=>?_
 ·have d1:=W a;have d2:=G wy (wz (a:Nat));have d3:=G (wz (a:Nat)) wy;refine⟨_,gC,_,gC,cS,_,gC,cS,_,gC,_,gC,cS,?_,h _ (mk (((c1 _ _).app hs).app (c1 _ _)) ?_)⟩
  ·rw[iI];lia
  ·rw[iI,iI];lia
 try unfold jR
 dsimp only;refine hX (λb=>b=decide (k=1)) (λq f=>⟨_,gC,f _ gC⟩) (λJ=>?_) λH=>?_
 ·have d1:=W (a+1);have d2:=G wy (wz (a:Nat));have d3:=G (wz ((a+1:Nat):Int)) wy;refine⟨_,gC,_,gC,cS,_,gC,_,gC,cS,?_,h _ (mk ((c1 _ _).app (c1 _ _)) ?_)⟩
  ·show(Txt.slice x wy (wz (a:Nat))).length+(Txt.slice x (wz ((a+1:Nat):Int)) wy).length<=_;lia
  ·rw[iI];show(Txt.slice x wy (wz (a:Nat))).length+(Txt.slice x (wz ((a+1:Nat):Int)) wy).length<=_;lia
 try unfold jR
 dsimp only;refine hX (λb=>b=decide (k=2)) (λq f=>⟨_,gC,f _ gC⟩) (λJ=>?_) λH=>?_
 ·exact⟨_,gC,_,gC,cS,h _ ((c1 _ _).up cS)⟩
 try unfold jR
 dsimp only;refine hX (λb=>b=decide (k=3)) (λq f=>⟨_,gC,f _ gC⟩) (λJ=>?_) λH=>?_
 ·refine⟨_,gC,eN,_,gC,ns,4,gC,t,cR,cR,λr g j=>?_⟩;obtain⟨y,E,e⟩:=SQ (l:=[" "," x","s"," 0"]) g j;have o:=BQ (n:=2) E cL;have hb:=o.len;exact⟨_,e,cS,h _ ((v.app o).up cS)⟩
 try unfold jR
 dsimp only;refine hX (λb=>b=decide (k=4)) (λq f=>⟨_,gC,f _ gC⟩) (λJ=>?_) λH=>?_
 ·refine cN (.list ((["Put","out","turn","tree","rows","","judges","rule","step","why","put","say"]:List â).map aK)) (λq f=>⟨eN,f⟩) ?_;refine⟨cO,gC,_,gC,_,gC,ns,12,gC,t,cR,cR,λr g j=>?_⟩;obtain⟨y,E,e⟩:=SQ (l:=["Put","out","turn","tree","rows","","judges","rule","step","why","put","say"]) g j;obtain⟨N,R⟩:=M8 v (BQ (n:=10) E cL) B;have L:fY ((Txt.split x cO).map aK) (wz 1) wy=((Txt.split x cO).drop 1).map aK:=by rw[hU];exact d6 _ (pQ _ 1)
  have U:=AE ((Txt.split x cO).map aK) (wz 1) wy;rw[aC]at U;refine⟨_,e,eN,_,gC,by show 1+_<=_;lia,_,by show _::fY ((Txt.split x cO).map aK) (wz 1) wy=_;rw[L];rfl,?_,h _ R⟩;rw[bl];exact aY (by rw[yN];exact N) (show m+20<=16777216 by lia)
 try unfold jR
 dsimp only;refine cN (.list ((["00","01","0","1","-1","+1","1_0","","999999999","1000000000","1.0","x","0x1","one"]:List â).map aK)) (λq f=>⟨eN,f⟩) ?_;refine eJ (λd=>∃b:Nat,b<(Txt.split x cO).length/\d=.int (b:Nat)) (λq f=>⟨_,gC,_,gC,ns,(((Txt.split x cO).length:Nat):Int),by rw[aC],t,cS,cS,λr g j=>f _ ⟨r.toNat,cS,by rw[eT g]⟩⟩) ?_;rintro _ ⟨b,hb,rfl⟩;refine⟨cO,gC,_,gC,_,gC,_,gC,_,gC,ns,14,gC,t,cR,cR,λr g j=>?_⟩;obtain⟨y,E,e⟩:=SQ (l:=["00","01","0","1","-1","+1","1_0","","999999999","1000000000","1.0","x","0x1","one"]) g j;obtain⟨N,R⟩:=M8 v (BQ (n:=10) E cL) hb;have L:fY ((Txt.split x cO).map aK) (wz ((b+1:Nat):Int)) wy=((Txt.split x cO).drop (b+1)).map aK:=by rw[hU];exact d6 _ (pQ _ (b+1))
 have e3:fY ((Txt.split x cO).map aK) wy (wz (b:Nat))=((Txt.split x cO).take b).map aK:=by rw[hU];exact d6 _ (nG _ b)
 have U:=AE ((Txt.split x cO).map aK) (wz ((b+1:Nat):Int)) wy;have k4:=AE ((Txt.split x cO).map aK) wy (wz (b:Nat));rw[aC]at U k4;refine⟨_,e,eN,by show _+1<=_;lia,_,gC,_,gC,?_,_,?_,?_,h _ R⟩
 ·show((fY ((Txt.split x cO).map aK) wy (wz (b:Nat)))++[aK y]).length+(fY ((Txt.split x cO).map aK) (wz ((b+1:Nat):Int)) wy).length<=_;rw[aW];show _+1+_<=_;lia
 ·show((fY ((Txt.split x cO).map aK) wy (wz (b:Nat)))++[aK y])++(fY ((Txt.split x cO).map aK) (wz ((b+1:Nat):Int)) wy)=_;rw[L,e3,bV,bV];rfl
 ·rw[bl];exact aY (by rw[yN];exact N) (show m+20<=16777216 by lia)
def Ow:Fj P w base T.D_83 5 (jG K Vu):=by
 refine R6 (F:=FY) T.D_83.F Rx λp nd Tp n ds Q h=>?_;obtain⟨fs,an,T0,g,f,x,y,ht,rfl,F,hx,hk,hf,hl,f50,ou,J,hb,H,h⟩:=h;refine⟨_,(cJ (mL (ss 4 nd (sY (aE 2) (aA bO aG) (λh R=>iA bS jI jH sT h R))))
 (cJ (jO (pO (cX eZ iL (bJ aV cM (aE 4) aM) bO))
 (cJ (jO (pO (oM (tv (cd (Hl T) p (aA (aE 0) (aA (dO fM lA (aE 4) (eA aM) eL) aG))))))
 (dL (iG (lV (iX eZ iL (aE 3) bO))))
 iH)
 (cJ (Yx (i:=1) (R8 (i:=1) (rG p.u1 (pv 1) oP (by intro _ _;rfl))) vT (λh J=>JE p.u1 (rG p.u1 (pv 1) oP (by intro _ _;rfl)) J h gC))
 (cJ (Yc (i:=1) (MR bK dR (R8 (i:=1) (rG p.u1 (pv 1) oP (by intro _ _;rfl))) (lV aM)) (λh=>JE p.u1 (pv 1) oP h gC))
 (dL (iG (Ie eZ iL (lV (aE 3)) (MR bK dR (lV bO) (Ce vW (gB (MR A3 UG (R8 (i:=1) (rG p.u1 (pv 1) oP (by intro _ _;rfl))) (lV aM)) oA) (λh=>oQ mP gC T.b_str uD h)))))))))
 iH)
 (cJ (jO (pO (uH (xF (cX eZ iL (bJ aV cM (aE 4) aM) bO) (uY (cX eZ iL (bJ aV cM (aE 4) aM) bO)))))
 (dL (iG (lV (uM (tv (cd (Hk T) p (aA (aE 0) (aA (dO fM lA (aE 4) (eA aM) eL) aG)))) (Cc (aE 3) (aA bO aG) (λh R=>iA bS qC qB A7 h R)) (iX eZ iL (aE 3) bO)))))
 iH)
 (cJ (jO (pO (uH (xF (cX eZ iL (bJ aV cM (aE 4) aM) bO) (uY (cX eZ iL (bJ aV cM (aE 4) aM) bO)))))
 (cJ (mL (ss 5 nd (cY FK (aA (bJ aV cM (aE 4) aM) aG) tF T.b_int FM)))
 (cJ (jO (WD (Vl (Yp (i:=1) (aE 5) (λh=>XZ (G3 p.u1 h (rG p.u1 (pv 1) oP (by intro _ _;rfl))))) (Yr (pO (uH (IG (cX eZ iL (bJ aV cM (aE 4) aM) bO) (C2 (oM (tv (cd (Hl T) p (aA (aE 0) (aA (dO fM lA (aE 4) (eA aM) eL) aG))))))))))))
 (dL (iG (lV (iX eZ iL (aE 3) bO))))
 iH)
 (cJ (jO (pO (cX eZ iL (bJ aV cM (aE 4) aM) bO))
 (dL (Yd (i:=1) (aE 5) (pc:=λh=>gL (iA nK uU K2 RV (rG p.u1 (pv 1) oP (by intro _ _;rfl)) h))))
 iH)
 (dL (iG (lV (iX eZ iL (aE 3) bO)))))))
 iH)
 (dL (iG (lV (Cc (aE 3) (aA bO aG) (λh R=>iA bS qC qB A7 h R))))))))),?_⟩
 obtain rfl:Tp=T0:=QT ht;have d:∀(w:â)(r:List â),atI ((w::r).map aK) 0=wz (.str w):=λw r=>L2.eR (j:=0) gC;obtain⟨nk,nn⟩:=n;obtain rfl:nk=wV g:=hk;obtain rfl:nn=(f:Nat):=hf;obtain⟨w,B,es,ot,hw⟩:=qK hx;have lg:=hx.len;rw[es]at J hb H h;rw[fR]at H;have Y:∀(k:Nat)(u:List â),fY (u.map aK) (wz (k:Nat)) wy=(u.drop k).map aK:=λk u=>by rw[hU,pQ]
 have o:∀{q:KP->D->Prop}{m:KP}{a b:â},a=b->q m (.bool wx)->q m (.bool (decide (a=b))):=λh z=>by rw[b7 h];exact z
 have W:∀{q:KP->Bool->Prop}{m:KP}{a b:â},a=b->q m wx->q m (decide (a=b)):=λh z=>by rw[b7 h];exact z
 have X:∀{q:KP->Bool->Prop}{m:KP}{a b:â},a≠b->q m ww->q m (decide (a=b)):=λh z=>by rw[c6 h];exact z
 have s:kD fs an g (w::B)=wx->Txt.startswith y "told "=true:=λe=>by
  obtain⟨z,rfl,_⟩:=H e;exact N0 ..
 show xR _ _ _ _ _ [.val (fV fs an),.val (IN Tp),.val (.str x),.val (.str y),.un,.un];refine oY (cN (.list ((Txt.split x cO).map aK)) (λq c=>⟨_,gC,_,gC,cL,cS,c⟩) ?_);rw[es];unfold yp at h;rw[fR]at h;by_cases L:w="put"
 ·subst L;refine pS (λq c=>⟨_,gC,_,d _ _,W gC c⟩) ?_;rw[J5]at hb H h;refine AO (!F8 fs an B) (λq c=>⟨_,gC,_,gC,fs,an,B,by show[_,eO (fY _ (wz 1) wy)]=_;exact d6 (λl=>[fV fs an,eO l]) (Y 1 _),F,cS,c⟩) (λE=>?_) λv=>zn ?_
  ·rw[tM]at E;rw[a9 E]at h;exact⟨_,gC,o (hb E) h⟩
  dsimp only;rw[rQ]at v;rw[v,a8 cR,a9 rfl]at h;obtain⟨z,rfl,hz,_⟩:=H v;rw[hz rfl];refine⟨gC,gC,_,gC,by show(wV g).length<=_;unfold wV;rw[aC];lia,?_⟩;dsimp only;have e1:yA (wV g) ((f:Nat):Int) (.bool wx)=wV g++[((f:Int),.bool wx)]:=Lm ou;have e2:(f:Int)+1-1=(f:Int):=by lia
  have nl:=mN f cS;have e5:("told ":â).length=5:=by decide +kernel
  refine⟨gC,_,gC,gC,?_⟩;refine⟨_,gC,gC,?_⟩;show f1 Ge [cI ((f:Int)+1-1)] (λy=>zd (.str "told ") y λy=>Av (aK ("told "++nE (f:Nat))) y (Q ⟨yA (wV g) ((f:Nat):Int) (.bool wx),(f:Int)+1⟩));rw[e2,e1];refine⟨nl.2,aY (lE (kH e5) nl.1) eN,?_⟩;exact o gC h
 refine kT (λq c=>⟨_,gC,_,d _ _,X L c⟩) ?_;by_cases N:w="judge"\/w="why"
 ·refine pS (λq c=>⟨_,gC,_,d _ _,?_⟩) ?_
  ·show(if decide (w="judge")=wx then q _ wx else _);by_cases e:w="judge"
   ·rw[a9 (b7 e)];exact c
   ·rw[a8 λz=>e (b9 z)];exact⟨_,gC,_,d _ _,W (N.resolve_left e) c⟩
  have w4:w≠"out":=by rcases N with rfl | rfl<;>decide +kernel
  rw[BF _ _ _ N]at hb h s;rw[a8 L,a8 w4,ite_self]at h;refine⟨_,gC,_,gC,fs,an,B,by show[_,eO (fY _ (wz 1) wy)]=_;exact d6 (λl=>[fV fs an,eO l]) (Y 1 _),F,cS,?_⟩;show(if tE fs B=wx then _ else _)
  cases hc:tE fs B with
  |true=>
   rw[a9 rfl];refine⟨_,gC,_,gC,?_⟩;show Q _ (.bool (Txt.startswith y "told "));rw[s hc];exact h
  |false=>
   rw[a8 cR];exact⟨_,gC,o (hb hc) h⟩
 refine kT (λq c=>⟨_,gC,_,d _ _,?_⟩) ?_
 ·show(if decide (w="judge")=wx then q _ wx else _);rw[a8 λz=>N (.inl (b9 z))];exact⟨_,gC,_,d _ _,X (λz=>N (.inr z)) c⟩
 by_cases t:w="out"\/w="turn"
 ·refine pS (λq c=>⟨_,gC,_,d _ _,?_⟩) ?_
  ·show(if decide (w="out")=wx then q _ wx else _);by_cases e:w="out"
   ·rw[a9 (b7 e)];exact c
   ·rw[a8 λz=>e (b9 z)];exact⟨_,gC,_,d _ _,W (t.resolve_left e) c⟩
  obtain⟨x2,r,rfl,hn⟩:∃x r,B=x::r/\uL x=true:=by
   rcases t with rfl | rfl
   ·obtain⟨x,rfl,hn⟩:=OS J;exact⟨x,[],gC,hn⟩
   ·exact yF J
  obtain⟨k,hk,rn⟩:=zL hn;rw[bA]at ot;refine oY (cN (.int (k:Nat)) (λq c=>⟨_,gC,_,L2.eR (j:=1) gC,_,hk,cS,c⟩) ?_)
  have G:kD fs an g (w::x2::r)=((uS k g).isSome&&(decide (w="out")||F8 fs an r)):=by
   rcases t with rfl | rfl
   ·rw[O8 _ _ _ hk,b7 gC,aLl,K5]
   ·rw[O7 _ _ _ hk,c6 cL,aK2]
  refine AO (!kD fs an g (w::x2::r)) (λq c=>⟨_,gC,_,gC,gC,?_⟩) (λE=>?_) λv=>zn ?_
  ·show(if(qZ (wV g) (k:Nat)).isNone=wx then q _ wx else _);rw[WL];rw[G]at c
   cases e:uS k g with
   |none=>rw[e]at c;exact c
   |some r0=>
    rw[e]at c;show(if ww=wx then _ else _);rw[a8 cR];refine⟨_,gC,_,d _ _,?_⟩;show(if decide (w="turn")=wx then _ else q _ ww);rcases t with rfl | rfl
    ·rw[a8 cL];rw[b7 rfl]at c;exact c
    ·rw[a9 (b7 gC)];rw[c6 cL]at c;exact⟨_,gC,_,gC,fs,an,r,by show[_,eO (fY _ (wz 2) wy)]=_;exact d6 (λl=>[fV fs an,eO l]) (Y 2 _),F,cS,c⟩
  ·rw[tM]at E;rw[a9 E]at h;exact⟨_,gC,o (hb E) h⟩
  rw[rQ]at v;obtain⟨z,rfl,_,hz⟩:=H v;rw[hz t];rw[v,a8 cR,a8 L,K8 hk]at h;dsimp only;have gs:(uS k g).isSome=true:=by rw[v]at G;exact(Bool.and_eq_true_iff.mp G.symm).1
  obtain⟨r0,vj⟩:=nB.mp gs;have ek:("told ":â)++"ok"="told ok":=by decide +kernel
  by_cases e:w="out"
  ·refine pS (λq c=>⟨_,gC,_,d _ _,W e c⟩) ?_;rw[a9 e]at h;exact⟨gC,_,gC,(k:Nat),.bool wx,gC,by show qZ (wV g) (k:Nat)=_;rw[WL,vj];rfl,_,gC,o ek h⟩
  ·refine kT (λq c=>⟨_,gC,_,d _ _,X e c⟩) ?_;rw[a8 e]at h;exact⟨_,gC,o ek h⟩
 refine kT (λq c=>⟨_,gC,_,d _ _,?_⟩) ?_
 ·show(if decide (w="out")=wx then q _ wx else _);rw[a8 λz=>t (.inl (b9 z))];exact⟨_,gC,_,d _ _,X (λz=>t (.inr z)) c⟩
 have U:kD fs an g (w::B)=true:=by
  rcases A9 J with⟨h1,_⟩ | h1 | h1
  ·exact E3 _ _ _ h1 _
  ·exact b8 h1 N
  ·exact(h1.elim L t).elim
 rw[U,a8 cR,a8 L,a8 λz=>t (.inl z)]at h;refine⟨_,gC,_,gC,?_⟩;show Q _ (.bool (Txt.startswith y "told "));rw[s U];exact h
def Xg:Ft P w base T.D_law 66 DY:=by
 refine nL T.D_law.F Xu λg nd ds Q h=>?_;obtain⟨ns,rfl,E,h⟩:=h;refine⟨_,(aU (ss 1 nd (U2 (cF (Os T) g (aA (aE 0) aG))))
 (aU (ss 2 nd (cd (Ot T) g (aA (aE 1) (aA aM (aA aM aG)))))
 (aB9 (i:=3) (aA (aE 2) (aA aM (aA aM aG))) (λh=>nD (i:=3) nd gC (by first | exact h7 gC | exact g7 gC) (Q9 T.K_Desk (Lo T) (g.mono cR) gC T.x_Desk T.D_0.d .nil iB h))
 (cJ (jO (NR RF zu (rK (k:=0) (f:=(qS mg "_law_said")) (fd:=(yH K (qS mg "_law_said"))) (pn:=[]) (mW (aA (aE 3) (aA (cT bK dR bO (cd (YL T) g (aA (cd (YM T) g (aA (aE 1) (aA (aE 2) aG))) aG))) aG))) (λh=>kI (EE T) (g.mono cR) gC T.D_86.m T.D_86.k T.D_86.d .nil iB h)) (lV bO))
 (dL (iG (lV vT)))
 iH)
 (aCa (i:=4) nd gC (by first | exact h7 gC | exact g7 gC) gC (by first | exact .inl gC | exact .inr gC) oP oP mC Ho mC
 (cJ (Ya (sU (aA (cT bK dR aM (cd (kU T) g (aA (aE 1) (aA aM aG)))) aG) (λh=>qE gC T.b_range h)) (eQ (pn 5 nd))
 (cJ (mL (ss 6 nd (cd (Ox T) g (aA (aE 1) (aA (aE 2) aG)))))
 (cJ (mL (sf (sU (aA (bJ aV cM (jV (aA aM (aA aM (aA aM (aA aM (aA aM aG)))))) (cd (kU T) g (aA (aE 1) (aA aM aG)))) aG) (λh=>qE gC T.b_range h)) (eQ (pn 7 nd))
 (bP (ss 6 nd (cd (Oy T) g (aA (aE 1) (aA (aE 6) aG)))))))
 (cJ (tS (i:=8) (R9 zz (Ig (gB (rK (k:=0) (f:=(qS mg "_law_said")) (fd:=(yH K (qS mg "_law_said"))) (pn:=[]) (mW (aA (aE 3) (aA bO aG))) (λh=>kI (EE T) (g.mono cR) gC T.D_86.m T.D_86.k T.D_86.d .nil iB h)) (gB (rK (k:=0) (f:=(qS mg "_law_said")) (fd:=(yH K (qS mg "_law_said"))) (pn:=[]) (mW (aA (aE 3) (aA bO aG))) (λh=>kI (EE T) (g.mono cR) gC T.D_86.m T.D_86.k T.D_86.d .nil iB h)) oA)))) (λh=>nD (i:=8) nd gC (by first | exact h7 gC | exact g7 gC) h))
 (cJ (tS (i:=9) (R9 zz (rK (k:=0) (f:=(qS mg "_law_said")) (fd:=(yH K (qS mg "_law_said"))) (pn:=[]) (mW (aA (aE 3) (aA (aE 6) aG))) (λh=>kI (EE T) (g.mono cR) gC T.D_86.m T.D_86.k T.D_86.d .nil iB h))) (λh=>nD (i:=9) nd gC (by first | exact h7 gC | exact g7 gC) h))
 (cJ (jO (pO (uH (xF (cX eZ iL (aE 9) bO) (uY (cX eZ iL (iX eZ iL (aE 9) bO) (cd (Ov T) g (aA (aE 6) aG)))))))
 (dL (iG (lV vT)))
 iH)
 (cJ (jO (Hf zz (WD (WE (pO (cX eZ iL (aE 9) bO)) (QH (NR (OB g) A5 (Ig (gB (rK (k:=0) (f:=(qS mg "_law_said")) (fd:=(yH K (qS mg "_law_said"))) (pn:=[]) (mW (aA (aE 3) (aA bO aG))) (λh=>kI (EE T) (g.mono cR) gC T.D_86.m T.D_86.k T.D_86.d .nil iB h)) (gB (rK (k:=0) (f:=(qS mg "_law_said")) (fd:=(yH K (qS mg "_law_said"))) (pn:=[]) (mW (aA (aE 3) (aA bO aG))) (λh=>kI (EE T) (g.mono cR) gC T.D_86.m T.D_86.k T.D_86.d .nil iB h)) oA))) (lV (aE 8)))))))
 (dL (iG (lV vT)))
 iH)
 (dL (jO (Hf El (WD (WE (pO (cX RF zu (aE 9) bO)) (QH (NQ (NP (rK (k:=0) (f:=(qS mg "_law_right")) (fd:=(yH K (qS mg "_law_right"))) (pn:=[]) (gB (lV (aE 2)) (gB (lV (aE 4)) (gB (lV (aE 6)) (gB (lV (aE 9)) oA)))) (λh=>kI (Ow T) (g.mono cR) gC T.D_83.m T.D_83.k T.D_83.d .nil iB h)) (λh=>JD h)))))))
 (dL (iG (lV vT)))
 iH)))))))) (λU hg hb=>X3 o0 gC U hg hb))
 (dL (iG (Ie eZ iL (R9 zz (rK (k:=0) (f:=(qS mg "_law_said")) (fd:=(yH K (qS mg "_law_said"))) (pn:=[]) (mW (aA (aE 3) (aA (cT bK dR bO (cd (YL T) g (aA (cd (YM T) g (aA (aE 1) (aA (aE 2) aG))) aG))) aG))) (λh=>kI (EE T) (g.mono cR) gC T.D_86.m T.D_86.k T.D_86.d .nil iB h))) (R9 El (MR bK dR (lV bO) (Ce vW (gB (R8 (i:=4) (rG g.u1 (pv 4) oP (by intro _ _;rfl))) oA) (λh=>oQ mP gC T.b_str uD h))))))))))))),?_⟩
 show nY _ _ _ [.val (.list (ns.map cI)),.un,.un,.un,.un,.un,.un,.un,.un,.un];refine eJ (λd=>d=jY ns) (λq n=>⟨_,gC,ns,gC,E,λc hc=>⟨ns,c,gC,hc,n _ gC⟩⟩) ?_;rintro _ rfl;refine eJ (λd=>∃fs an,eS fs an/\d=fV fs an) (λq n=>⟨_,gC,ns,2,3,gC,E,cR,cR,cR,cR,λfs an F s1 s2=>n _ ⟨fs,an,F,gC⟩⟩) ?_;rintro _ ⟨fs,an,F,rfl⟩;refine⟨_,gC,fV fs an,2,1,gC,fs,an,2,1,gC,F,cS,λt0 se Tb hf ud uv=>?_⟩;have W0:CP fs an Tb [] t0 0 ⟨[],0,iN t0⟩:=⟨F,hf,ud,uv,gC,(λr g=>by cases g),gC,se.1,se.2,gC,(λe he=>by cases he),aN _,cP _⟩;show xR _ _ _ _ _ [.val (.list (ns.map cI)),.val (jY ns),.val (fV fs an),.val (FZ C Tb),.un,.un,.un,.un,.un,.un];have e5:("put ":â).length<=6:=by decide +kernel
 refine Yw (λm b=>b=ww/\∃r B,CP fs an Tb [(0,r)] B 1 m) (λq n=>⟨_,gC,_,gC,_,gC,ns,fs,an,gC,E,F,λr g=>⟨fs,an,r,gC,F,g,?_⟩⟩) ?_ ?_
 ·refine⟨aY (lE e5 (sQ F g).1) eN,?_⟩;dsimp only[kW,pY,DN,K6,zE,eC];refine XB W0 g λr' B rz hG=>?_;show q _ (!decide ("told "++nE ((0:Nat):Int)="told 0"));rw[b7 cL];exact n _ _ ⟨gC,r',B,W0.put rz hG cS⟩
 ·rintro m ⟨z,_⟩;cases z
 rintro m ⟨_,r,t1,W1⟩;refine zn ?_;intro T;show xR (F:=yq (lO A) FY) _ _ (.tuple [mH Tb,IN T]) _ (m,(⟨[(0,.bool wx)],1⟩:KP)) [.val (.list (ns.map cI)),.val (jY ns),.val (fV fs an),.val (FZ C Tb),.val (IN T),.un,.un,.un,.un,.un];refine⟨_,gC,ns,33,gC,E,cR,cR,λN h0 Y=>⟨8+N,gC,cS,cS,?_⟩⟩;have hN:(8+N).toNat<=40:=by lia
 refine⟨λi u σ=>∃(l:List (Nat×Rw))(t:Tr)(f:Nat)(s5 s6 G s8 s9:Sl),CP fs an Tb l t f u.1/\u.2=(⟨wV l,(f:Nat)⟩:KP)/\f<=i+1/\σ=[.val (.list (ns.map cI)),.val (jY ns),.val (fV fs an),.val (FZ C Tb),.val (IN T),s5,s6,G,s8,s9],⟨[(0,r)],t1,1,_,_,_,_,_,W1,gC,aN _,gC⟩,λi u x R hx J=>?_,λu R J=>?_⟩
 ·obtain⟨l,t,f,s5,s6,G,s8,s9,W,p,uh,rfl⟩:=J;obtain⟨n1,n2⟩:=u
  replace W:CP fs an Tb l t f n1:=W
  replace p:n2=(⟨wV l,(f:Nat)⟩:KP):=p
  subst p;have few:=W.few
  have ul:i<40:=by
   have:=(aL.mp hx).1;unfold fL at this;rw[aC,mJ]at this;lia
  dsimp only[gN,List.set];refine oY (eJ (λd=>∃x,pL 100 x/\d=.str x) (λq n=>⟨_,gC,_,gC,ns,fs,an,gC,E,F,λx hx=>n _ ⟨x,hx,gC⟩⟩) ?_);rintro _ ⟨y,s,rfl⟩;refine oY ?_;refine⟨eN,_,gC,ns,5,gC,E,cR,cR,λr h0 Y=>?_⟩
  obtain⟨v,hv,ev⟩:∃v:Nat,v<=2/\L2.atI [cI 1,.int 1,.int 2,.int 1,.int 0] r=wz (.int (v:Nat)):=by
   have:r=0\/r=1\/r=2\/r=3\/r=4:=by lia
   rcases this with rfl | rfl | rfl | rfl | rfl
   ·exact⟨1,cR,gC⟩
   ·exact⟨1,cR,gC⟩
   ·exact⟨2,cR,gC⟩
   ·exact⟨1,cR,gC⟩
   ·exact⟨0,cR,gC⟩
  refine⟨_,ev,(v:Nat),gC,cS,cS,?_⟩;refine⟨λj σ=>∃(y:â)(G:Sl),pL (100+20*j) y/\σ=[.val (.list (ns.map cI)),.val (jY ns),.val (fV fs an),.val (FZ C Tb),.val (IN T),.val x,.val (.str y),G,s8,s9],⟨y,G,s,gC⟩,λj x' R oj J=>?_,λR J=>?_⟩
  ·obtain⟨y,G,s,rfl⟩:=J
   have hj:j<v:=by
    have:=(aL.mp oj).1;unfold fL at this;rw[aC,mJ]at this;lia
   exact⟨_,gC,_,gC,ns,y,100+20*j,gC,E,s,cS,λz hz=>⟨z,_,hz.up cS,gC⟩⟩
  obtain⟨y,G,s,rfl⟩:=J;have qe:(fL (v:Int).toNat).length=v:=by unfold fL;rw[aC,mJ];lia
  rw[qe]at s
  replace s:pL 1000 y:=s.up cS
  dsimp only;refine yP (.list [.str ("told "++rE l),.str ("told "++lM t)]) (λq n=>⟨mH Tb,⟨_,gC⟩,?_⟩) ?_
  ·refine⟨_,gC,?_⟩;dsimp only[kW,pY,DN,K6,zE,eC];refine zB eH W λz1 Y _=>⟨_,gC,?_⟩;dsimp only[kW,pY,DN,K6,zE,eC];refine zB eH W λz2 _ p=>⟨eN,?_⟩;rw[Y gC,p rfl];exact n
  refine aBu (λu d=>(iV (Txt.split y cO)=ww/\d=.str "line"/\u=(n1,(⟨wV l,(f:Nat)⟩:KP)))\/(iV (Txt.split y cO)=wx/\∃(a:â)(n':KR),d=.str a/\u=(n',(⟨wV l,(f:Nat)⟩:KP))/\a≠"line"/\a≠"unlike"/\∃o B H,CP fs an Tb o B H n'/\H<=f+1/\yp fs an l ⟨wV l,(f:Nat)⟩ (Txt.split y cO)=⟨wV o,(H:Nat)⟩/\(kD fs an l (Txt.split y cO)=ww->a="other")/\(kD fs an l (Txt.split y cO)=wx->∃z:â,a="told "++z/\((Txt.split y cO).headD ""="put"->z=nE (f:Nat))/\((Txt.split y cO).headD ""="out"\/(Txt.split y cO).headD ""="turn"->z="ok")))) (λq n=>⟨mH Tb,⟨_,gC⟩,_,gC,_,gC,fs,an,Tb,l,t,f,y,gC,gC,W,s,λe=>n _ _ (.inl ⟨e,gC,gC⟩),λe1 X=>n _ _ (.inr ⟨e1,"other",n1,gC,gC,cL,cL,l,t,f,W,tN _,by unfold yp;rw[a9 X],λ_=>rfl,λe=>by rw[X]at e;cases e⟩),λe1 X n' z hz=>?_⟩) ?_
  ·obtain⟨o,B,H,W',rm,L,hp,ho⟩:=W.step cS X hz;exact n _ _ (.inr ⟨e1,_,n',gC,gC,QM cL,QM cL,o,B,H,W',rm,L,λe=>(by rw[X]at e;cases e),λ_=>⟨z,gC,hp,ho⟩⟩)
  rintro u d (⟨U,rfl,rfl⟩ | ⟨U,a,n',rfl,rfl,a1,a2,o,B,H,W',rm,L,hb,hg⟩)
  ·refine kT (λq n=>⟨_,gC,?_⟩) ?_
   ·show(if decide (("line":â)="unlike")=wx then q (n1,(⟨wV l,(f:Nat)⟩:KP)) wx else _);rw[a8 cL];refine⟨_,gC,_,gC,y,gC,s,?_⟩;rw[U];exact n
   refine kT (λq n=>⟨mH Tb,⟨_,gC⟩,_,gC,?_⟩) ?_
   ·show(if decide (("line":â)="line")=wx then _ else q (n1,(⟨wV l,(f:Nat)⟩:KP)) ww);rw[a9 (b7 gC)];refine⟨_,gC,?_⟩;dsimp only[kW,pY,DN,K6,zE,eC];refine zB eH W λz1 Y _=>⟨_,gC,?_⟩;dsimp only[kW,pY,DN,K6,zE,eC];refine zB eH W λz2 _ p=>⟨eN,_,gC,?_⟩;rw[Y gC,p rfl]
    have ll:mK (.list [.str ("told "++rE l),.str ("told "++lM t)])=true:=by
     show(_&&(_&&wx))=wx;rw[LC (T2 F W.ok λe he=>by have:=W.lt e he;lia),LC (N1 F W.tr)];rfl
    refine⟨⟨ll,ll,eN⟩,?_⟩;show q _ (!dA (.list [.str ("told "++rE l),.str ("told "++lM t)]) (.list [.str ("told "++rE l),.str ("told "++lM t)]));rw[Wl];exact n
   refine ID ww (λq n=>⟨IN T,⟨_,gC⟩,_,gC,?_⟩) (λz=>by cases z) λ_=>zn ?_
   ·exact n
   exact⟨l,t,f,_,_,_,_,_,W,gC,cS,gC⟩
  ·refine kT (λq n=>⟨_,gC,?_⟩) ?_
   ·show(if decide (a="unlike")=wx then _ else _);rw[a8 λz=>a2 (b9 z)];refine⟨_,gC,_,gC,y,gC,s,?_⟩;show q _ (decide (decide (a="line")=iV (Txt.split y cO)));rw[U,c6 a1];exact n
   refine kT (λq n=>⟨mH Tb,⟨_,gC⟩,_,gC,?_⟩) ?_
   ·show(if decide (a="line")=wx then _ else q _ ww);rw[a8 λz=>a1 (b9 z)];exact n
   refine⟨IN T,⟨_,gC⟩,_,gC,?_⟩;show(if(!decide (a="line"))=wx then _ else _);rw[a9 (by rw[c6 a1];rfl)];refine⟨_,gC,_,gC,_,gC,_,gC,fs,an,T,l,f,y,a,gC,gC,F,s,gC,gC,cS,W.f50,W.lt,U,hb,hg,?_⟩;show(if(!wx)=wx then _ else _);rw[a8 cR];exact⟨o,B,H,_,_,_,_,_,W',L,cS,gC⟩
 ·obtain⟨l,t,f,s5,s6,G,s8,s9,W,p,uh,rfl⟩:=J;obtain⟨n1,n2⟩:=u
  replace W:CP fs an Tb l t f n1:=W
  replace p:n2=(⟨wV l,(f:Nat)⟩:KP):=p
  subst p
  have xg:f<=41:=by
   have:(fL (8+N).toNat).length=(8+N).toNat:=by unfold fL;rw[aC,mJ]
   lia
  refine⟨mH Tb,⟨_,gC⟩,_,gC,_,gC,_,gC,ns,fs,an,gC,E,F,λr g=>⟨fs,an,r,gC,F,g,aY (lE e5 (sQ F g).1) eN,?_⟩⟩;dsimp only[kW,pY,DN,K6,zE,eC];have nl:=mN f cS;refine XB W g λr' B rz hG=>⟨IN T,⟨_,gC⟩,gC,nl.2,aY (lE (show("told ":â).length<=5 by decide +kernel) nl.1) eN,?_⟩;show Q (.bool (decide ("told "++nE (f:Nat)="told "++nE (f:Nat))));rw[b7 rfl];exact h
def Wc:Ft P w base T.D_law 66 DY:=Xg T
def aKm{l:az}{fa:à}(a:mg "law"=wz (.ref fa)):∃b:iO,(∀s(v:á),BindsTo s b ⟨[v],[]⟩ [("_law_script",v)])/\∀base:ç,K.In base->base.Ns eF mg->lW l.prog w K mg base qA 66 fa b ["_law_script"] (lN K DY):=by
 have e:=a.symm.trans T.D_law.m;cases e;refine⟨(yH K (qS mg "law")),?_,λbase _ _=>Wc T⟩;obtain⟨_,_,_,_,_,_,_,_,_,e,_⟩:=T.D_law.F.ex;rw[e]
 exactλs v=>.of_eq gC
omit T
def aSo{K:aF}{h:ç}{mg:â->Option á}(X:K.In h)(G:h.Ns eF mg){c:à}
  (bq:fC K eF "JudgeError"=wz (wz (.ref c)))
  {i:à}
  (fh:fC K eF "TooMany"=wz (wz (.ref i)))
  {g:à}
  (fg:fC K eF "NoPlace"=wz (wz (.ref g)))
  {d:à}
  (jg:fC K eF "NoRow"=wz (wz (.ref d)))
  {b:à}
  (gk:fC K eF "NoSuch"=wz (wz (.ref b)))
  {a:à}
  (gi:fC K eF "NoLine"=wz (wz (.ref a)))
  {k:à}
  (gl:fC K eF "NoText"=wz (wz (.ref k)))
  {j:à}
  (gj:fC K eF "NoRule"=wz (wz (.ref j)))
   {ln:ClassData} 
  (ql:K.lookup c=wz ⟨c0_J,dd_J,.cls ln,sl_J⟩)
   {nz:Array w5} {pq:Nat} 
  (lx:K.lookup ln.ns=wz ⟨oc_J,od_J,.dict nz pq,os_J⟩)
  (pj:(nz.toList.all λe=>match e.key with | .str _ _=>wx | _=>ww)=wx)
  (ly:fC K ln.ns "__init__"=wz (wy))
  (om:bL K c (.type "BaseException")=wz wx)
  
  (s:gT K c=wz cc_JudgeError)
  (t:gR K (.ref c)=wz (.type "type"))
  
  (fk:gT K i=wz cc_TooMany)
  (fu:gR K (.ref i)=wz (.type "type"))
  (fq:bL K i (.ref i)=wz wx)
  
  (fj:gT K g=wz cc_NoPlace)
  (ft:gR K (.ref g)=wz (.type "type"))
  (fo:bL K g (.ref g)=wz wx)
  
  (jl:gT K d=wz cc_NoRow)
  (jo:gR K (.ref d)=wz (.type "type"))
  (jm:bL K d (.ref d)=wz wx)
  
  (gu:gT K b=wz cc_NoSuch)
  (ie:gR K (.ref b)=wz (.type "type"))
  (gz:bL K b (.ref b)=wz wx)
  
  (z:gT K a=wz cc_NoLine)
  (B:gR K (.ref a)=wz (.type "type"))
  (gx:bL K a (.ref a)=wz wx)
  
  (gw:gT K k=wz cc_NoText)
  (ig:gR K (.ref k)=wz (.type "type"))
  (ia:bL K k (.ref k)=wz wx)
  
  (gr:gT K j=wz cc_NoRule)
  (ic:gR K (.ref j)=wz (.type "type"))
  (gy:bL K j (.ref j)=wz wx)
  {ju jv:â} {Y:à}  {jk jf:Bool} 
  (ko:K.lookup d=wz (dt ju jv d Y bs_NoRow (.ref c::[.type "ValueError",.type "Exception",.type "BaseException",.type "object"]) jk sn_NoRow sub_NoRow jf col_NoRow dd_NoRow k0_NoRow k1_NoRow k2_NoRow k3_NoRow k5_NoRow "ValueError.__new__"))
   {ec:Array w5} {jj:Nat} 
  (js:K.lookup Y=wz ⟨oc_NoRow,od_NoRow,.dict ec jj,os_NoRow⟩)
  (R_NoRow:(ec.toList.all λe=>match e.key with | .str _ _=>wx | _=>ww)=wx)
  (jt:fC K Y "__init__"=wz (wy))
  (n:dG K (.ref d) "__getattribute__"=wz (wz (.builtin "BaseException.__getattribute__")))
  (v:dG K (.ref d) "__getattr__"=wz (wy))
  (E:dG K (.ref d) "__class__"=wz (wz (.builtin "object.__class__")))
  (Q:bL K d (.type "object")=wz wx)
  (p:bL K d (.type "BaseException")=wz wx)
  (ef:bL K d (.type "int")=wz ww)
  (eg:bL K d (.type "str")=wz ww)
  (dj:bL K d (.type "list")=wz ww)
  (cg:bL K d (.type "tuple")=wz ww)
  (db:bL K d (.type "bool")=wz ww)
  (j_NoRow:bL K d (.ref c)=wz wx)
  (R:bL K d (.ref a)=wz ww)
  {io iq:â} {H:à}  {gq gh:Bool} 
  (jr:K.lookup b=wz (dt io iq b H bs_NoSuch (.ref c::[.type "ValueError",.type "Exception",.type "BaseException",.type "object"]) gq sn_NoSuch sub_NoSuch gh col_NoSuch dd_NoSuch k0_NoSuch k1_NoSuch k2_NoSuch k3_NoSuch k5_NoSuch "ValueError.__new__"))
   {ck:Array w5} {gn:Nat} 
  (ij:K.lookup H=wz ⟨oc_NoSuch,od_NoSuch,.dict ck gn,os_NoSuch⟩)
  (R_NoSuch:(ck.toList.all λe=>match e.key with | .str _ _=>wx | _=>ww)=wx)
  (il:fC K H "__init__"=wz (wy))
  (m:dG K (.ref b) "__getattribute__"=wz (wz (.builtin "BaseException.__getattribute__")))
  (r:dG K (.ref b) "__getattr__"=wz (wy))
  (y:dG K (.ref b) "__class__"=wz (wz (.builtin "object.__class__")))
  (L:bL K b (.type "object")=wz wx)
  (o:bL K b (.type "BaseException")=wz wx)
  (di:bL K b (.type "int")=wz ww)
  (dm:bL K b (.type "str")=wz ww)
  (cf:bL K b (.type "list")=wz ww)
  (W:bL K b (.type "tuple")=wz ww)
  (bx:bL K b (.type "bool")=wz ww)
  (j_NoSuch:bL K b (.ref c)=wz wx)
  (N:bL K b (.ref a)=wz ww)
  {im ip:â} {F:à}  {gp gg:Bool} 
  (jq:K.lookup a=wz (dt im ip a F bs_NoLine (.ref c::[.type "ValueError",.type "Exception",.type "BaseException",.type "object"]) gp sn_NoLine sub_NoLine gg col_NoLine dd_NoLine k0_NoLine k1_NoLine k2_NoLine k3_NoLine k5_NoLine "ValueError.__new__"))
   {cj:Array w5} {gm:Nat} 
  (ii:K.lookup F=wz ⟨oc_NoLine,od_NoLine,.dict cj gm,os_NoLine⟩)
  (R_NoLine:(cj.toList.all λe=>match e.key with | .str _ _=>wx | _=>ww)=wx)
  (ik:fC K F "__init__"=wz (wy))
  (l:dG K (.ref a) "__getattribute__"=wz (wz (.builtin "BaseException.__getattribute__")))
  (q:dG K (.ref a) "__getattr__"=wz (wy))
  (x:dG K (.ref a) "__class__"=wz (wz (.builtin "object.__class__")))
  (J:bL K a (.type "object")=wz wx)
  (f:bL K a (.type "BaseException")=wz wx)
  (u:bL K a (.type "ValueError")=wz wx)
  (dh:bL K a (.type "int")=wz ww)
  (dk:bL K a (.type "str")=wz ww)
  (bz:bL K a (.type "list")=wz ww)
  (U:bL K a (.type "tuple")=wz ww)
  (bw:bL K a (.type "bool")=wz ww)
  (q_NoLine_TooMany:bL K a (.ref i)=wz ww)
  (q_NoLine_NoPlace:bL K a (.ref g)=wz ww)
  (q_NoLine_NoRow:bL K a (.ref d)=wz ww)
  (q_NoLine_NoSuch:bL K a (.ref b)=wz ww)
  (q_NoLine_NoText:bL K a (.ref k)=wz ww)
  (q_NoLine_NoRule:bL K a (.ref j)=wz ww) :
  Cz K mg (c) (i) (g) (d) (b) (a) (k) (j):={ x_JudgeError:=jK X G bq,x_TooMany:=jK X G fh,x_NoPlace:=jK X G fg,x_NoRow:=jK X G jg,x_NoSuch:=jK X G gk,x_NoLine:=jK X G gi,x_NoText:=jK X G gl,x_NoRule:=jK X G gj,X_NoRow:=⟨⟨n,v,E,Q,p⟩,λT hT=>by simp only[aO,cG,f6]at hT;(rcases hT with rfl | rfl | rfl | rfl | rfl<;>first | exact mV O0 ef | exact mV OZ eg | exact mV JU dj | exact mV ES cg | exact mV JV db)⟩,R_NoRow:=⟨_,_,_,_,_,_,_,_,_,_,_,_,_,_,_,_,_,_,_,_,ko,wN js R_NoRow,jt,ql,wN lx pj,ly⟩,j_NoRow:=J8 s t om j_NoRow,X_NoSuch:=⟨⟨m,r,y,L,o⟩,λT hT=>by simp only[aO,cG,f6]at hT;(rcases hT with rfl | rfl | rfl | rfl | rfl<;>first | exact mV O0 di | exact mV OZ dm | exact mV JU cf | exact mV ES W | exact mV JV bx)⟩,R_NoSuch:=⟨_,_,_,_,_,_,_,_,_,_,_,_,_,_,_,_,_,_,_,_,jr,wN ij R_NoSuch,il,ql,wN lx pj,ly⟩,j_NoSuch:=J8 s t om j_NoSuch,X_NoLine:=⟨⟨l,q,x,J,f⟩,λT hT=>by simp only[aO,cG,f6]at hT;(rcases hT with rfl | rfl | rfl | rfl | rfl<;>first | exact mV O0 dh | exact mV OZ dk | exact mV JU bz | exact mV ES U | exact mV JV bw)⟩,R_NoLine:=⟨_,_,_,_,_,_,_,_,_,_,_,_,_,_,_,_,_,_,_,_,jq,wN ii R_NoLine,ik,ql,wN lx pj,ly⟩,e_NoLine:=J8 z B f gx,v_NoLine:=mV F9 u,q_NoLine_TooMany:=BC fk fu q_NoLine_TooMany fq,q_NoLine_NoPlace:=BC fj ft q_NoLine_NoPlace fo,q_NoLine_NoRow:=BC jl jo q_NoLine_NoRow jm,q_NoLine_NoSuch:=BC gu ie q_NoLine_NoSuch gz,q_NoLine_NoText:=BC gw ig q_NoLine_NoText ia,q_NoLine_NoRule:=BC gr ic q_NoLine_NoRule gy,u_NoRow_NoLine:=SA z B f R,u_NoSuch_NoLine:=SA z B f N }
def ZT{t n:Nat}(l:K.lookup t=wz ⟨.type "tuple",wy,.seq #[.str "yes" k0,.str "no" k1] n,s⟩):ze K t ["yes","no"]:=⟨_,_,_,l,gC,gC,gC,(by show 2<=bN;decide),.cons ⟨_,gC⟩ (.cons ⟨_,gC⟩ (.nil))⟩
def CI{t n:Nat}(l:K.lookup t=wz ⟨.type "tuple",wy,.seq #[.str "tree" k0,.str "rows" k1,.str "rules" k2,.str "steps" k3] n,s⟩):ze K t ["tree","rows","rules","steps"]:=⟨_,_,_,l,gC,gC,gC,(by show 4<=bN;decide),.cons ⟨_,gC⟩ (.cons ⟨_,gC⟩ (.cons ⟨_,gC⟩ (.cons ⟨_,gC⟩ (.nil))))⟩
def ZI:bG H (ê H []):=λb o e=>by
 unfold ê;rw[a8 eH];exact e
theorem HD{K}:∀ns:List Int,Reps K H (ns.map cI) (ns.map V.int)
|[]=>.nil
|n::ns=>.cons (.int n) (HD ns)
def aT8{l:az}{g:(â->Option á)->ç->Prop}{b:f7->ç->Prop}{d:DefRec}{K:Params->aF}(t:l.most=wz 63)(c:d.params.defaults=[])
  (m:∀(w:f7)(h:ç),b w h->(K w.params).In h) (j:∀(w:f7)(h:ç),b w h->∀P,tabA=wz P->h.get? P=wz { cls:=.none,data:=.fields #[] }/\(K w.params).lookup P=wy/\ak h P)
  (F:∀(w:f7)(mg:â->Option á)(fa:à)(h:ç),(K w.params).In h->h.Ns eF mg->mg d.name=wz (.ref fa) ->
   ∃e:iO,(∀s(u:á),BindsTo s e ⟨[u],[]⟩ [("_law_script",u)])/\∀base:ç,(K w.params).In base->base.Ns eF mg->lW l.prog w (K w.params) mg base qA 66 fa e ["_law_script"] (lN (K w.params) DY)) :
  aBo q loose g b l.row.toRowW d [] (λf vs=>fz f vs):=
 L2.aBx (n:=63) (k:=66) (x:="_law_script") (CX:=λ_=>qA) (sp:=λw=>lN (K w.params) DY) t cR c ⟨gC,cR,cR,gC⟩ m j F
  (λw H a ns o _ i=>⟨[],[.list (ns.map cI)],λd=>d=.bool wx,λp y=>by simp at y,.cons (.list (L2.bG.seq ZI i) (HD ns)) .nil,⟨ns,gC,o,gC⟩,λd v B _ r q=>by subst q;cases r;rfl⟩) λ_ _ _ _ _ z=>z
end
end K73
open L2
namespace PySem.W.Fast
theorem mt:True:=⟨⟩
def tw5715847458156113096:=mt
def tw12082050349205459606:=mt
def tw7797061895291292173:=mt
def tw14730181646966767705:=mt
def tw13597532684168712373:=mt
def tw3499311033432169241:=mt
def tw4873508904107081911:=mt
def tw8073650698373771796:=mt
def tw4182250762220082167:=mt
def tw9842630621209442617:=mt
def tw1617324938835524105:=mt
def tw1906078737607852635:=mt
def tw1124245127876048515:=mt
def tw11048665665104541218:=mt
def tw14426956094335216528:=mt
def tw18132037642989791546:=mt
def tw13900277593787251216:=mt
def tw2224368211074287794:=mt
def tw18175229211607771196:=mt
def tw15043713629104818168:=mt
def tw15806737752111038197:=mt
def tw10721812283815202734:=mt
def tw1787490302561065877:=mt
def tw4004230990681709853:=mt
def tw11330797448287545479:=mt
def tw16204618149534621185:=mt
def tw7239230639484267927:=mt
def tw2454676456589230542:=mt
def tw17761222453079164971:=mt
def tw1353121049438767658:=mt
def tw3859580714878044300:=mt
def tw17577897091594293009:=mt
def tw5770190158203769674:=mt
def tw5696654875387859001:=mt
def tw10904165044963676276:=mt
def tw11190554078525796428:=mt
def tw16218920983926845396:=mt
def tw13275184597098536758:=mt
def tw13719046825737826296:=mt
def tw18291957311534787484:=mt
def tw9061085428684633688:=mt
def tw11801554774097386404:=mt
def tw4483704689386880055:=mt
def tw10473352298608603756:=mt
def tw11212049775536857701:=mt
def tw14211302868559083645:=mt
def tw9578640690337605612:=mt
def tw10689990176526086212:=mt
def tw9771236356275491977:=mt
def tw12079012256847070938:=mt
def tw12018706511073777895:=mt
def tw10371786355195326773:=mt
def tw3318297234330583093:=mt
def tw4019992956788675791:=mt
def tw1367977288185130219:=mt
def tw8614412741062210800:=mt
def tw46399828430210298:=mt
def tw11506705254334346101:=mt
def tw7546014326815398235:=mt
def tw13693037228286765169:=mt
def tw11387477284445282798:=mt
def tw9687861558645073733:=mt
def tw6473110067369267943:=mt
def tw4352728826574759796:=mt
def tw17800939255922511355:=mt
def tw13257159757234880633:=mt
def tw258627745403337433:=mt
def tw3727878604565533682:=mt
def tw4161652055662342722:=mt
def tw15380573526566742515:=mt
def tw13092881453559663394:=mt
def tw10511660096738236630:=mt
def tw8860859545481225204:=mt
def tw16604802641291745753:=mt
def tw9796816279569588235:=mt
def tw10561605578390011956:=mt
def tw8026099639558893957:=mt
def tw17823270124785792119:=mt
def tw14637401231015501634:=mt
def tw5676675441196213032:=mt
def tw6238077069971439700:=mt
def tw6027535920598150137:=mt
def tw593961945264438294:=mt
def tw10965446374875955497:=mt
def tw16473618137937034966:=mt
def tw5961626816073379843:=mt
def tw14044216389228632838:=mt
def tw2508205513564250748:=mt
def tw14639790831679136340:=mt
def tw10673977400350478029:=mt
def tw8049780083002183316:=mt
def tw13643850141202163500:=mt
def tw9817774406683634761:=mt
def tw13151737219860189413:=mt
def tw18321380765949981885:=mt
def tw15265094915406028098:=mt
def tw1449487992525614359:=mt
def tw10818764440188049047:=mt
def tw6484746560651182636:=mt
def tw154627231428178309:=mt
def tw15979128837503181149:=mt
def tw14150968420785894376:=mt
def tw17815047362513621575:=mt
def tw6336564453355886504:=mt
def tw7744752113167177426:=mt
def tw6593496212406183402:=mt
def tw8172117577268165461:=mt
def tw15062378367994182225:=mt
def tw8721751578955019185:=mt
def tw10306150106908732522:=mt
def tw7280248961197872915:=mt
def tw5988830055972629502:=mt
def tw15647037671998656049:=mt
def tw1815704261675345925:=mt
def tw250927536559402435:=mt
def tw3206689670568143092:=mt
def tw5090146705550663223:=mt
def tw12554103905206233429:=mt
def tw88025985505973712:=mt
def tw11435799251449896842:=mt
def tw469880932245854552:=mt
def tw14309160266623402799:=mt
def tw17204538930953134539:=mt
def tw3216161880916971544:=mt
def tw17040077205707406140:=mt
def tw11874199686173536206:=mt
def tw873168054628431183:=mt
def tw14709355919829432121:=mt
def tw7687289650317130737:=mt
def tw9327193152124675879:=mt
def tw8024596923977995137:=mt
def tw5727421816840281538:=mt
def tw10123355273380432399:=mt
def tw15052083358489209626:=mt
def tw5678754241198784053:=mt
def tw2336424919671193648:=mt
def tw6151975010593597259:=mt
def tw12118105212281938868:=mt
def tw6641853794338533978:=mt
def tw12742642686794621837:=mt
def tw10085515157864137894:=mt
def tw1978125627037912171:=mt
def tw4685902356387994489:=mt
def tw17954803042797771022:=mt
def tw18301898992802811053:=mt
def tw2756746354386497343:=mt
def tw14138038859478251275:=mt
def tw1891559338975951432:=mt
def tw3207239253561116395:=mt
def tw4744588190154999720:=mt
def tw10597192525952923323:=mt
def tw5147487001382468198:=mt
def tw4033339474862445779:=mt
def tw8800194514094400003:=mt
def tw10154055243921424999:=mt
def tw2550863390722417782:=mt
def tw1253249541938852565:=mt
def tw5728910059295638568:=mt
def tw365586847043159661:=mt
def tw6751722984070342892:=mt
def tw14184228726371308910:=mt
def tw3815967826972925670:=mt
def tw2834571000251464390:=mt
def tw14232377660683429637:=mt
def tw5125036786298906613:=mt
def tw15877778415697340791:=mt
def tw9135430083841652694:=mt
def tw4825456806156274506:=mt
def tw18052072291628503107:=mt
def tw12347134857091003388:=mt
def tw11660733152475146894:=mt
def tw448403708648097974:=mt
def tw3276767519923805917:=mt
def tw9305609416870000502:=mt
def tw9550574166782839537:=mt
def tw17821139485997431990:=mt
def tw4191360763786493563:=mt
def tw10828380336564048027:=mt
def tw16529496672102242622:=mt
def tw15762761634595855601:=mt
def tw2273658281235734254:=mt
def tw11034410942536675951:=mt
def tw9435832921152480605:=mt
def tw9879302406591436295:=mt
def tw197607130045287918:=mt
def tw3390237653005294905:=mt
def tw1065550505886744304:=mt
def tw6372306198816579943:=mt
def tw14141162054892709196:=mt
def tw6558445454696531904:=mt
def tw10484590797127330468:=mt
def tw4326422930704664788:=mt
def tw6771980802302483431:=mt
def tw14581982767463883970:=mt
def tw479041372430803608:=mt
def tw8321466242643751302:=mt
def tw15979484192693884139:=mt
def tw730229831834902441:=mt
def tw5631745071481258342:=mt
def tw11853578913715775548:=mt
def tw669338346817546988:=mt
def tw3576404215873969219:=mt
def tw364026173921117580:=mt
def tw9507536464476741012:=mt
def tw10415013971758319063:=mt
def tw6776355898026405761:=mt
def tw18104972020138121661:=mt
def tw12640357761030685767:=mt
def tw2262158592919963533:=mt
def tw3637171949225885949:=mt
def tw13425177709847920460:=mt
def tw737687844630591330:=mt
def tw5385607072657713755:=mt
def tw5525719341006476873:=mt
def tw9146139121551740044:=mt
def tw11638804690977535488:=mt
def tw4061299438502744740:=mt
def tw13791398373047118811:=mt
def tw8066310528077463238:=mt
def tw1213133635097691896:=mt
def tw11083130109784643279:=mt
def tw11380568289412239309:=mt
def tw5261870038983609986:=mt
def tw2365579872280297464:=mt
def tw13385601998109522123:=mt
def tw2120286100804028718:=mt
def tw13996937470812117365:=mt
def tw13193504578695113324:=mt
def tw7010164754085899676:=mt
def tw920598424684035886:=mt
def tw4638206047436510156:=mt
def tw2750597532588551096:=mt
def tw1924914476646673888:=mt
def tw2106199912374933777:=mt
def tw2409912596982346505:=mt
def tw3246036908122970374:=mt
def tw6187079625979159430:=mt
def tw1598311367278066655:=mt
def tw5173625945653728579:=mt
def tw8117629920275667695:=mt
def tw1238261779528829640:=mt
def tw3341779889089647366:=mt
def tw12450188419123473491:=mt
def tw7187154817747951092:=mt
def tw2730975425182831979:=mt
def tw16620724561481895544:=mt
def tw6824573677575384372:=mt
def tw13453474708218684331:=mt
def tw11870702515758315606:=mt
def tw5222525241227032794:=mt
def tw16079104511656461142:=mt
def tw11787900235191885783:=mt
def tw18275028484593783403:=mt
def tw2996685813943056166:=mt
def tw10017804061351090569:=mt
def tw884439579623070283:=mt
def tw17267492324830554485:=mt
def tw17505688087672696729:=mt
def tw13280313920725819309:=mt
def tw6222850930011684340:=mt
def tw15688275431345479476:=mt
def tw12433084300472866456:=mt
def tw1258461213956448795:=mt
def tw3623788073939424001:=mt
def tw5548667465153854682:=mt
def tw4435397669430496954:=mt
def tw842321428805465622:=mt
def tw2441323544222874045:=mt
def tw2616116363541424895:=mt
def tw12640682661584019965:=mt
def tw10457039255674876568:=mt
def tw9236341250915399610:=mt
def tw15544398853529482331:=mt
def tw6109299900048490724:=mt
def tw8761811528212073598:=mt
def tw4914814419869393641:=mt
def tw6176790918644582946:=mt
def tw7071326604036799409:=mt
def tw6784833710516648491:=mt
def tw16377096265737004051:=mt
def tw3972474337759282271:=mt
def tw14936151425580094858:=mt
def tw919592893875700801:=mt
def tw4246362343349835520:=mt
def tw973396289830325932:=mt
def tw7550863379133533973:=mt
def tw14907233086498475974:=mt
def tw11769415947324179421:=mt
def tw13115751694361463436:=mt
def tw7963359450003869927:=mt
def tw9085561400023551610:=mt
def tw5360823297308378984:=mt
def tw4192710002945734250:=mt
def tw9518857902189485306:=mt
def tw8230735579589740928:=mt
def tw10858546682449065846:=mt
def tw2805922584248297285:=mt
def tw15207827555694134269:=mt
def tw15661712345821387018:=mt
def tw18372661351538976132:=mt
def tw3941435243912775970:=mt
def tw12330834584152732377:=mt
def tw8609294768501375326:=mt
def tw8864583563718128042:=mt
def tw8495389336894496167:=mt
def tw15488974387636998865:=mt
def tw13012296517701349637:=mt
def tw13610517946631656486:=mt
def tw2869363123748156719:=mt
def tw14681573190006911140:=mt
def tw14396252488616826978:=mt
def tw5188854986724053866:=mt
def tw3221894559165322880:=mt
def tw1598804517787308763:=mt
def tw2597839788057517799:=mt
def tw6688067762660794685:=mt
def tw14811169853614163878:=mt
def tw17781155517811687210:=mt
def tw159557005402008065:=mt
def tw10899631010588172648:=mt
def tw5876316789403055098:=mt
def tw12142915048976295492:=mt
def tw18234682197966528923:=mt
def tw4940673721580072989:=mt
def tw12072259466480552300:=mt
def tw6201531507683322847:=mt
def tw17917110165075285163:=mt
def tw566644555676892062:=mt
def tw17575708554776541433:=mt
def tw6820326082813726829:=mt
def tw12717348584968435183:=mt
def tw9650868384972343176:=mt
def tw3014119448242757076:=mt
def tw14543761422479871965:=mt
def tw16696352578572624974:=mt
def tw13364316657324124996:=mt
def tw17685071176658243085:=mt
def tw13975858464968065049:=mt
def tw9067481834863302849:=mt
def tw15845861707679528789:=mt
def tw11767378896403827912:=mt
def tw2035170446616408267:=mt
def tw11987837204083346583:=mt
def tw2058809568486967249:=mt
def tw9034831751221931568:=mt
def tw12357567761480426183:=mt
def tw14628131026347860275:=mt
def tw16037593246399520336:=mt
def tw5804903039356484412:=mt
def tw9058876571042077680:=mt
def tw13663080589328633271:=mt
def tw15333984073899962031:=mt
def tw12254438279455221368:=mt
def tw17537743580722189184:=mt
def tw17929369782808176873:=mt
def tw3473608141018633969:=mt
def tw7323049082601554195:=mt
def tw11814297821876459633:=mt
def tw15162483149205459526:=mt
def tw12492923551828509852:=mt
def tw8744419136842308947:=mt
def tw1077788473239167007:=mt
def tw18231184203246355884:=mt
def tw6272877674004139194:=mt
def tw792354025762796667:=mt
def tw17184192651985533199:=mt
def tw12704981982173203059:=mt
def tw16637775980105538414:=mt
def tw11192356043725691428:=mt
def tw14415154455992731587:=mt
def tw1599369910127746178:=mt
def tw6425556370392757092:=mt
def tw12199631809617881005:=mt
def tw7468982041862313541:=mt
def tw5628212979438320392:=mt
def tw9412768978832137020:=mt
def tw14559573137697836303:=mt
def tw16147361501459741929:=mt
def tw10673961108338385488:=mt
def tw1077536827906727704:=mt
def tw9840135692845379301:=mt
def tw7898672956654560083:=mt
def tw16376608500364744447:=mt
def tw2567228107446506686:=mt
def tw13349176192374705583:=mt
def tw12147464990779967828:=mt
def tw7924117014532898002:=mt
def tw5266613938822686853:=mt
def tw16618604331098771050:=mt
def tw4072952127632522232:=mt
def tw3542469469036565178:=mt
def tw6998441452177854942:=mt
def tw17110346931573658717:=mt
def tw3617030705097411466:=mt
def tw4677881509475270904:=mt
def tw14799184095996707077:=mt
def tw18129688808647960867:=mt
def tw2199155500357258020:=mt
def tw16962505957759779658:=mt
def tw13052211262548731597:=mt
def tw4854985205385880371:=mt
def tw4723621404109999918:=mt
def tw5096280517613729549:=mt
def tw4793169066125512179:=mt
def tw4460315903771764737:=mt
def tw10800379132201422136:=mt
def tw12613757538985652293:=mt
def tw11346880817214140146:=mt
def tw11768297429570259120:=mt
def tw2375807347087160232:=mt
def tw9986706587175145753:=mt
def tw7889984174237248135:=mt
def tw12115490401729870701:=mt
def tw1728598749195664398:=mt
def tw5567499134340747824:=mt
def tw2801508823409807486:=mt
def tw10267511598693411997:=mt
def tw2133162879024974730:=mt
def tw16614811699593145578:=mt
def tw2832935781075670469:=mt
def tw479378159393383418:=mt
def tw8670783738783438276:=mt
def tw16390789690789666462:=mt
def tw17256134587572721248:=mt
def tw4821204954776527491:=mt
def tw13418262770464494698:=mt
def tw9100770070744433691:=mt
def tw14283251762010778477:=mt
def tw13949047006101449200:=mt
def tw17089649425677503104:=mt
def tw7844815160483600387:=mt
end PySem.W.Fast
open PySem PySem.W PyProof.Rows
set_option maxRecDepth 100000 in
set_option maxHeartbeats 0 in
theorem PySem.Challenge.cw_leafjudge_k73_texts_that_are_none_holds : PySem.Challenge.rw_leafjudge_k73_texts_that_are_none.Holds := by
  w_on; o_law; k_head; (case hw => w_witness2)
  k_fill
  refine K73.aT8 (l := PySem.Challenge.rw_leafjudge_k73_texts_that_are_none) rfl rfl (λw h Y => PySem.W.km_in_of Y) (λw h Y P e => ?T) ?F
  case T =>
    cases e
    exact ⟨km_tabs_of Y 266 (aP ..), by kernel_rfl, L2.aH4 (codeHd_of_K (c := 268) (P := 266) (km_in_of Y) (by kernel_rfl)) (km_tabs_of Y 266 (aP ..))⟩
  case F =>
    intro w mg fa h KX G uy
    refine' K73.aKm ⟨K73.aSo KX G ..,fv KX G ?_,⟨?_, ?_, ?_, ?_⟩,⟨?_, ?_, ?_, ?_⟩,na ?_,na ?_,na ?_,na ?_,na ?_,na ?_,⟨?_, ?_, ?_⟩,⟨?_, ?_, ?_⟩,⟨?_, ?_, ?_⟩,⟨?_, ?_, ?_⟩,⟨?_, ?_, ?_⟩,⟨?_, ?_, ?_⟩,⟨?_, ?_, ?_⟩,⟨?_, ?_, ?_⟩,fv KX G ?_,⟨?_, ?_, ?_, ?_⟩,⟨?_, ?_, ?_, ?_⟩,na ?_,na ?_,⟨?_, ?_, ?_⟩,⟨?_, ?_, ?_⟩,⟨?_, ?_, ?_⟩,⟨?_, ?_, ?_⟩,dg tA ..,dg uN ..,dg uN ..,dg uN ..,dg NI ..,dg tA ..,dg uN ..,dg uN ..,dg NI ..,dg CM ..,dg CM ..,dg uN ..,dg uN ..,dg CM ..,df KX G NI ..,df KX G uN ..,df KX G uN ..,df KX G CM ..,df KX G uN ..,df KX G uN ..,df KX G uN ..,df KX G uN ..,df KX G uN ..,df KX G uN ..,df KX G uN ..,df KX G CM ..,df KX G CM ..,df KX G CM ..,df KX G CM ..,df KX G tA ..,df KX G uN ..,df KX G NI ..,df KX G uN ..,df KX G tA ..,df KX G uN ..,df KX G uN ..,df KX G NI ..,df KX G uN ..,df KX G NI ..,df KX G tA ..,df KX G CM ..,df KX G uN ..,df KX G CM ..,df KX G NI ..,df KX G NI ..,df KX G NI ..,df KX G uN ..,df KX G uN ..,df KX G tA ..,df KX G uN ..,df KX G NI ..,df KX G CM ..,df KX G tA ..,df KX G tA ..,df KX G NI ..,df KX G NI ..,df KX G NI ..,df KX G uN ..,df KX G CM ..,df KX G NI ..,df KX G NI ..,df KX G CM ..,df KX G CM ..,df KX G CM ..,df KX G CM ..,df KX G CM ..,df KX G CM ..,df KX G CM ..,df KX G uN ..,df KX G uN ..,df KX G uN ..,df KX G uN ..,df KX G CM ..,df KX G uN ..,df KX G uN ..,df KX G NI ..,df KX G uN ..,df KX G CM ..,df KX G CM ..,df KX G CM ..,df KX G CM ..,df KX G uN ..,df KX G uN ..,df KX G tA ..,df KX G uN ..,df KX G uN ..,df KX G uN ..,df KX G CM ..,fv KX G ?_,K73.ZT ?_,fv KX G ?_,fv KX G ?_,fv KX G ?_,fv KX G ?_,fv KX G ?_,K73.CI ?_,fv KX G ?_,Xa KX G ?_ ?_ (Xb ?y_36 rfl),i7 KX G ?_,i7 KX G ?_,i7 KX G ?_,i7 KX G ?_,i7 KX G ?_,i7 KX G ?_,i7 KX G ?_,i7 KX G ?_,i7 KX G ?_,i7 KX G ?_,i7 KX G ?_,i7 KX G ?_,i7 KX G ?_,i7 KX G ?_,i7 KX G ?_⟩ uy
    (case y_36 => kernel_rfl)
    all_goals first | k_is | rfl | decide | with_unfolding_all rfl | skip

end
end
noncomputable section