import PyProof.Rows.All
import Wide.All
import OpenK.AllK
import Wide.FinOn
import Lean
import PyProof.EqAt
import PyProof.EqKinds
import PyProof.TupleCall
import PyProof.P3In
import PyProof.NeData
import KE.KSortKey
import PyProof.Rows.SortRuns
import KE.KLam
import KE.KNestM
import PyProof.FitsReplace
import PyProof.StrBlockL
import KE.KDictList
import KE.KItemsList
import PyProof.TupleKey
import PyProof.DictRoadsH
import PyProof.DictWalks
import PyProof.Rows.Range3
import KE.KListMore
import PyProof.ListMulRoad
import PyProof.CallStr
import KE.KIntText
import PySem.Challenge.RW_leafjudge_k74_rules_and_steps_as_texts
set_option Elab.async false
set_option linter.all false
set_option compiler.extract_closed false
set_option bootstrap.genMatcherCode false
set_option maxRecDepth 100000
theorem zzz(h:True:=by rfl):True:=h
theorem zzy(h:True:=by decide):True:=h
theorem zzx(h:True:=by intro _;rfl):True:=h
theorem zzw(h:True:=by first | exact .inl kA | exact .inr kA | assumption):True:=h
theorem zzv(h:True:=by first | exact .inl kA | exact .inr kA):True:=h
theorem zzu(h:True:=by first | exact h9 kA | exact g6 kA):True:=h
theorem zzt(h:True:=by intros;rfl):True:=h
theorem zzs(h:True:=by decide +kernel):True:=h
theorem zzr(h:True:=by with_unfolding_all rfl):True:=h
theorem zzq(h:True:=by first | exact IK _ | rfl):True:=h
theorem zzp(h:True:=by intro _ _;rfl):True:=h
theorem zzo(h:True:=by kernel_rfl):True:=h
theorem zzn(h:True:=by first | exact h9 kA | exact g6 (h9 kA) | exact g6 (g6 kA)):True:=h
theorem zzm(h:True:=by intro g Q h;(repeat obtain⟨_,h⟩:=h)<;>subst_vars<;>rfl):True:=h
theorem eH{p:Prop}(h:autoParam (p) zzs._auto_1):p:=h
theorem gV{p:Prop}(h:autoParam (p) zzy._auto_1):p:=h
theorem hG{p:Prop}(h:p:=by lia):p:=h
theorem hH{p:Prop}(h:p:=by simp):p:=h
theorem hI{a b:Nat}(h:autoParam (Nat.ble a b=true) zzz._auto_1):a<=b:=Nat.le_of_ble_eq_true h
theorem kA{α:Sort u}{a:α}:a=a:=rfl
open Option.some renaming inj->c5,injEq->l6
open PySem.Str renaming ofString->c7,length->q9,join->ed
open PySem renaming compareOp->c8,bootBuiltins->d7,Around->d8,World->e6,wpAny_truthy_bool->e8,wpAny_field->f9,attributeBase->g4,mem_of_lookup->g5,behindInMarks->g7,wpAny_pyIter_list->g9,foldedSetIterable->i6,wpAny_callSpecial?_slot->i7,binaryOp->j1,backTo->j2,sysModules->j3,wpAny_seqItems->j5,wpAny_pyIter_tuple->j8,wpAny_setField_rec->j9,NameKind->k5,wpAny_passesOwn->k8,wpAny_holding->m6,letOwnedTupleGo->m8,builtinsNs->m9,wpAny_Call_Name_kw->n7,wpAny_rule->n8,wpAny_getItem_str_slice->o6,call_meets->t5,Builtin->t7,sliceBounds->u0,rawInt->u5,codeAny->u6,cellsFrom->u8,IsZip->u9,getItem->v7,wpAny_pyIter_enum->v8,cLine->x0,wpAny_pyIter_zip->x4,assignEach->x8,typeIs_str->y0,post_val_or_str->y3,wpAny_execs_nil->y4,isCodeTable->z9,recursionLimit->aa,wpAny_updateSeq_pair->ab,holding->aj,wpAny_onRaise->av,assign->ax,tupleKind_room_in1->az,callType_new->bg,callerA->bh,codeAny_mono->bi,concat_meets->bj,valueAt->bo,noFill_tuple_add->bw,pushCells->bx,tupleKind->ce,sizeLine_eq->ck,subscripted->cm,wpAny_letGo->cn,Within->cr,wpAny_loadPart'->cx,standAt->dh,IsEnum->di,ZipApart->dk,atKey->dm,field->dq,newFunctionEnv->dt,pyNext->du,wpAny_letOwnedTupleGo_enum->dv,call->ec,seq_tuple_add->ef,wpAny_attempt->ek,wpAny_comprehension_free->eo,wpAny_standAt->er,getMethod->ey,lastMarks->ez,seqIndex_neg->fj,wpAny_typeOf->fo,wpAny_isTrue_Compare1->fw,keywordEach->fz,seqIndex_of->gc,length_partsBetween->gj,pyIter->gu,sliceRange->gx,wpAny_Name->gz,wpAny_call->ic,Meets->ig,again->ii,wpAny_assign_Name->im,wpAny_sequenceKey->io
open PySem.Builtin.SmallTypes renaming nextOf->c9,ownedTupleIsFree->h7,ownedTupleHandOut->u2
open PySem.NameKind renaming cell->d0,free->e4
open PySem.Value renaming ref->d5,none->k7,int->l9,builtin->y2,bool->z0,str->ar,type->bf,float->dj
open PySem.Obj renaming mapSeq->d6,data_mapFields->fe
open PyProof.Rows renaming wpS_bind->e7,seqObj->f7,callWith_type1->f8,wpS_pure->i3,slot_tuple_getitem->i9,envOfC->n4,reverseSlice'->t8,wpS_forRange->u7,AllBare->v4,arrOf->w6,Keyed->z8,pendingOf->al,listUpdate_at->au,get?_update_seq->cu,failedOf->dn,wpS_modify->dw,subscriptTail->eg,subscriptTail_builtinR->fk,zipApart_new->fq,wpS_mono->ge,entry_tuple_getitem->gh,Subscript_->gl,args_tuple_getitem->gm,setPending->gw,IsTup->ie,wpS_get->ip
open True renaming intro->e9
open ForInStep renaming yield->f6,done->s0
open Or renaming inr->g6,inl->h9
open False renaming elim->i0
open Classical renaming choose_spec->i5,choose->y9,propDecidable->ba,epsilon_spec->bc,epsilon->cz
open PySem.W renaming mg_none_of->i8,OpenLaw->ao,mg_of->dr
open PySem.Builtin.Str renaming occurrences->j0,strKind->j4,glued->t4,strSliceIndices->z6
open PySem.Builtin.Slice renaming slicePlaces->j6,sliceAdjust->o9,sliceApplied->y7
open PySem.Builtin.Tuple renaming tupleExact->j7,tupleItemsOf->y8
open PySem.Builtin.List renaming listTooLong->k4
open Ne renaming symm->k6
open List.cons renaming inj->k9
open PySem.F renaming slot_tuple_iterator_next->l5,slot_zip_next->x5,args_str_split_2->am,entry_str_split->aw,slot_str_split->bd,args_tuple_iterator_next_1->bt,entry_tuple_iterator_next->cf,typeCall_enumerate_1->dz,entry_enumerate_new->eu,newCall_enumerate_1->ev,typeOf_object_class->ew,args_object_init_2->fb,args_object_init_3->fc,called_enumerate->fx,args_zip_next_1->gf
open PySem.StrLaws renaming glued_eq_join->m7
open PySem.PassesOwn renaming never->o8
open Sum renaming inl->t9,inr->aq
open PySem.Shared renaming heap->u3
open PySem.Paired renaming length->x6
open PySem.Around renaming under->z5,frames_deeper->cy
open Sum.inl renaming inj->ae
open LawfulBEq renaming eq_of_beq->ah
open PySem.Calls renaming Name_function_global->bb,callWith_builtin->cq
open Eq renaming symm->br
open PySem.SeqAt.EqAt renaming int_str->cg,str_int->ci
open PySem.Code renaming isFrame->db
open PySem.Data renaming fields->dy
open PySem.Walks renaming list->ee
open PySem.SeqAt renaming readOf->fh,readsAll_map->fi,items_eqAt->gs
open ForIn renaming forIn->fy
def a8:=@if_neg
def a9:=@if_pos
def b0:=@decide_eq_true
def b7:=@decide_eq_false
def b8:=@of_decide_eq_true
def b9:=@absurd
def c6:=@decide_eq_true_eq
def d9:=@of_decide_eq_false
def e5:=@congrArg
def g8:=@or_false
def i4:=@decide_eq_decide
def l7:=@if_true
def m5:=@if_false
def x9:=@decide_true
def z7:=@decide_eq_false_iff_not
def af:=@beq_iff_eq
def ag:=@decide_false
def ai:=@getElem?_pos
def bq:=@ne_true_of_eq_false
def fu:=@not_or
def me:=@decide_eq_true_iff
open List renaming length_map->aA,getElem?_eq_getElem->aD,getElem?_eq_some_iff->aG,mem_cons_of_mem->aJ,getElem?_map->aM,mem_cons_self->aO,mem_map->aQ,mem_cons->aR,mem_of_getElem?->aV,map_map->aX,length_append->aZ,size_toArray->bA,length_take->bD,map_cons->bI,length_filter_le->bK,length_cons->bN,mem_singleton->bP,map_append->bT,getElem?_set_ne->bU,getElem?_set_self->bV,take_add_one->cI,mem_append->cL,filter_cons->cR,getElem?_of_mem->cT,mem_filter->cW,not_mem_nil->cX,mem_append_right->cZ,take_length->dB,append_nil->dH,getD_eq_getElem?_getD->dL,lookup_cons->dR,mem_of_mem_take->dU,getElem?_append_right->dW,getElem?_eq_none->eB,getElem?_zip_eq_some->eD,getElem?_append_left->eE,length_drop->eP,sum_cons->fD,take_of_length_le->fF,getElem_mem->fL,flatMap_cons->fU,range->fZ,filter_append->gA,all_eq_true->gW,append_assoc->iA,map_congr_left->iC,getElem?_cons_succ->iX,ext_getElem?->iY,foldl_cons->iZ,length->jK,any_cons->jL,find?_cons->jS,mem_append_left->jV,lookup->jW,idxOf_lt_length_iff->kC,getElem?_range->kJ,length_eq_zero_iff->kN,getElem?_replicate->kO,getElem?_cons_zero->kP,nodup_cons->lG,filter_map->lH,map_id->mG,getElem_idxOf->nF,getElem?_take->nG,getElem?_drop->nH,length_range->nX,filter_congr->nY,length_singleton->oQ,forIn_cons->pE,filterMap_cons->pO,map_nil->pP,mem_range->pZ,getElem?_eq_none_iff->qL,foldl_append->rC,mem_flatMap->sP,any_eq_true->sQ,drop_eq_nil_of_le->sU,headD_cons->uO,mem_iff_getElem->wI,drop_zero->wJ,flatMap_append->xJ,take_sublist->BA,length_eq_countP_add_countP->BB,countP_cons->CO,range'->E5,range_succ->FD,of_mem_zip->FE,length_zip->FF,countP_map->FG,countP_eq_length_filter->FH,count->HG,pairwise_iff_getElem->KB,mem_of_find?_eq_some->KC,exists_mem_of_ne_nil->KD,drop_eq_getElem_cons->KE,all_cons->KQ,flatten_singleton->M3,countP_le_length->O3,mem_of_mem_drop->RF,filter->RG,mem_map_of_mem->UC,length_pos_iff->UD,flatten_append->UE,filter_eq_self->UF,zip_cons_cons->UQ,mem_filterMap->UR,getElem_range->US,filterMap_map->UT,flatten_cons->ZT,any_eq_false->ZU,zipIdx_cons->Z1,range'_succ->Z2,getElem_inj->Z3,zipIdx_nil->aDs,length_nil->aDt,find?_some->aDu,any_append->aDv,take_zero->aF1,tail_cons->aF2,replicate->aF3,forIn_nil->aF4,foldl_nil->aF5,map_take->aJc,map_drop->aJd,Pairwise->aJe,toArray->aJr,map_set->aJs,isEmpty->aJt,all_map->aJu,map->aVa
open Nat renaming le_of_ble_eq_true->aC,le_refl->aN,le_trans->bE,zero_le->cJ,lt_of_lt_of_le->cU,ne_of_lt->dD,mul_assoc->dO,mul_left_comm->dQ,mul_comm->eL,pow_le_pow_right->eS,mul_lt_mul_of_pos_right->gY,lt_irrefl->hZ,le_of_lt->iB,mul_le_mul->iV,ne_of_gt->jJ,lt_of_mul_lt_mul_right->jP,lt_trichotomy->lU,mul_le_mul_right->mL,lt_succ_self->mR,le_of_eq->mS,gcd_pos_of_pos_right->nE,add_mul->nU,le_add_right->oY,div_le_self->pN,lt_of_le_of_lt->qK,mul_pos->rD,lt_succ_of_lt->rE,gcd_dvd_right->rF,min_le_right->sS,sub_zero->uL,lt_trans->uM,lt_asymm->uN,not_lt_zero->vL,min_eq_left->vM,mod_lt->AL,zero_add->BT,min_eq_right->E4,not_lt->J9,div_eq_of_eq_mul_right->KA,mul_div_cancel_left->M2,div_pos->UB,div_mul_cancel->ZS,le_succ_of_le->Z0,succ_ne_self->aDn,le_of_not_lt->aDo,le_max_right->aDp,gcd_le_right->aDq,gcd_dvd_left->aDr,le_max_left->aF0,le_of_dvd->aJp,dvd_trans->aJq,zero_mul->aRj,sub_self->aRk,pow_succ->aRl,gcd_comm->aRm,div_zero->aRn,one_mul->aR3,le_succ->aR4
open PySem.Heap renaming get?_push_of_some->aE,get?_push_size->aY,lt_size->bG,size_push->dX,SameBut->fV,IsTuple->BC,IsList->E7,get?_update_other->M4,get?_update_self->O5,size_update->Z4,ExtBut->aRp
open PySem.W renaming Frag->aI,kia_one->eO,findIn->fH,keepIn->gK,emptyDict->hV,instObj->jQ,kitOne->lS,InstAt->lT,fnOf->nT,looks_findIn->oP,codeIn->pM,kitx_list->pY,plainGet->qY,envX->sI,lookIn->uK,plainGet_of->vX,callWith_K->xF,methodObj->yY,hasDictIn->yZ,codeHdIn->AK,takerIn->BQ,kla_obj->BR,mroIn->FS,isFn->J6,cellsFrom_some->J7,methodCall_KW->KP,kitx_tuple->O2,plainOver->RB,kitx_dict->RC,handedIn->T9,makesIn->UO,notCls->ZQ,CodeHd->ZR,mg_of->ZX,clsIn->ZY,WalkO->ZZ,nsIn->aDm
open PySem renaming wpAny_bind->aK,wpAny_pure->bC,sizeLine->bF,starEach->bY,Program->cK,mainGlobals->gQ,wpAny_mono->hU,FuncData->hX,wpAny_newObj_type->kI,swapsWith->mF,wpAny_call_entry->nD
open PySem.PyData renaming str->aL,int->bO,tuple->bS,eqv->cM,canLayAll0->dI,depthAll->fB,hasDictAll->lI,list->vJ,bulkAll->vK,none->BS,canLay0->FC,eqvAll->HF,leavesShortAll->MW,dict->M1,showableAll->RD,strOk->aFz,bool->aJb
open Bool renaming false_ne_true->bQ,and_eq_true->cS,eq_iff_iff->dN,false_eq_true->gB,or_eq_true->jT,true_and->lJ,or_eq_false_iff->mH,false_or->zB,or_false->KR,false_and->aF6,and_true->aJg,true_or->aJv
open Option renaming map_eq_some_iff->bZ,filter_some->xI,bind_eq_some_iff->J8,isSome_some->RE,isSome_map->UA,getD_none->UP
open PySem.F renaming plainAttrs_list->cA,plainAttrs_str->dG,type_list_append->eG,slot_list_append->eI,type_str_join->eW,slot_str_join->eX,type_list_extend->mP,slot_list_extend->mQ,type_list_index->nB,slot_list_index->nC,type_tuple_index->qG,slot_tuple_index->qH,plainAttrs_tuple->qI,args_tuple_add_2->qJ,entry_tuple_add->qZ,slot_tuple_add->sJ,type_str_startswith->CM,slot_str_startswith->CN,slot_dict_values->FU,slot_dict_items->HD,plainAttrs_dict->HE
open Int renaming natCast_mul->dA,toNat_of_nonneg->eM,mul_assoc->eN,natCast_add->gS,emod_lt_of_pos->iM,emod_nonneg->jX,mul_comm->jY,mul_le_mul_of_nonneg_left->kZ,le_refl->lA,natCast_ediv->sT,mul_nonneg->xG,mul_add->xH,toNat_natCast->BU,mul_zero->BV,ofNat->E6,mul_lt_mul_of_pos_right->HH,lt_of_mul_lt_mul_right->KF,fdiv_eq_ediv_of_nonneg->KG,add_zero->O4,add_mul->UG,mul_le_mul->aJf,ofNat_lt->aRo,sub_mul->aR5,one_mul->aR6,mul_sub->aR7,mul_one->aR8
open Array renaming length_toList->fM,getElem?_eq_none->kY,getElem?_toList->lK,size_append->AM,size_push->E8,toList_append->RH,forIn_toList->UH,append_assoc->UI,toList->aJh
section
open PySem PySem.Spec PyProof.Rows
namespace SS
structure GS(a0:Array z8)(g:Nat->Nat)(pd:Array (Nat×Nat×Nat))(st:SortSt):Prop where
 size:(w6 st).size=a0.size
 get:∀p,p<a0.size->(w6 st)[p]?=a0[g p]?
 rng:∀p,p<a0.size->g p<a0.size
 kind:kindOf st=oneType'
 fail:dn st=none
 pend:al st=pd
def Lx(a:Array z8)(i j:Nat):Prop:=K a i<K a j\/(K a i=K a j/\i<j)
def Sd(a:Array z8)(g:Nat->Nat)(lo b:Nat):Prop:=∀p q,lo<=p->p<q->q<b->Lx a (g p) (g q)
def In(g:Nat->Nat)(lo a:Nat):Prop:=∀p,lo<=p->p<a->lo<=g p/\g p<a
noncomputable def AV(g:Nat->Nat)(i j:Nat):Nat->Nat:=λk=>if i<=k/\k<j then g (i+j-1-k)else g k
noncomputable def wb(g:Nat->Nat)(b a:Nat):Nat->Nat:=λk=>if k=a then g b else if a<k/\k<=b then g (k-1)else g k
section
variable{prog:cK}{w:e6}{A:d8}{E:Value->Shared->Prop}{s:Shared}{d:Array z8}{g:Nat->Nat}{f:Array (Nat×Nat×Nat)}{st:SortSt}
def OQ(b:IntKeys d){i:Nat}(c:i<d.size):∃t q,d[i]?=some (.int (K d i) t,q):=by
 obtain⟨n,t,h⟩:=b d[i] hH;have e:d[i]?=some d[i]:=ai _ i c;refine⟨t,d[i].2,?_⟩;have a:d[i]=(.int n t,d[i].2):=Prod.ext h kA;unfold K;rw[e,a]
 rfl
def GS.mirr(h:GS d g f st){i j:Nat}(hj:j<=d.size):GS d (AV g i j) f (setArr st (mirror (w6 st) i j ((j-i) / 2))) where
 size:=(mirror_size _ _ _ _).trans h.size
 get:=λp hp=>by
  refine(getElem?_mirror_all (by rw[h.size];exact hj) p).trans ?_;unfold AV;split
  ·exact h.get _ hG
  ·exact h.get _ hp
 rng:=λp hp=>by
  unfold AV;split
  ·exact h.rng _ hG
  ·exact h.rng _ hp
 kind:=h.kind
 fail:=h.fail
 pend:=h.pend
def GS.bubb(h:GS d g f st){src ji:Nat}(hs:src<d.size)(hd:ji<=src):GS d (wb g src ji) f (setArr st (bubble (w6 st) src (src-ji))) where
 size:=(bubble_size _ _ _).trans h.size
 get:=λp hp=>by
  refine(getElem?_bubble (by rw[h.size];exact hs) _ hG p).trans ?_;rw[show src-(src-ji)=ji by lia];unfold wb;split
  ·exact h.get _ hs
  ·split
   ·exact h.get _ hG
   ·exact h.get _ hp
 rng:=λp hp=>by
  unfold wb;split
  ·exact h.rng _ hs
  ·split
   ·exact h.rng _ hG
   ·exact h.rng _ hp
 kind:=h.kind
 fail:=h.fail
 pend:=h.pend
def xL{p q:Nat}{Q:Option Bool->SortSt->Prop}(h:GS d g f st)(a:IntKeys d)(b:p<d.size)(c:q<d.size)
  (k:Q (some (decide (K d (g p)<K d (g q)))) st):wpS (model prog w) A E s (ltAt' p q) Q st:=by
 obtain⟨t,x,e⟩:=OQ a (h.rng p b);obtain⟨u,y,i⟩:=OQ a (h.rng q c);exact wpS_ltAt h.kind ((h.get p b).trans e) ((h.get q c).trans i) k
noncomputable def T7(lo a c:Nat):StateT SortSt Sem AscSt:=
 fy [a:c] ((none,a):AscSt) λ_ z=>do
  let x <- ltAt' (lo+z.snd) (lo+z.snd-1)
  match x with
  |some b=>if b=true then pure (s0 (none,z.snd))else pure (f6 (none,z.snd+1))
  |_=>pure (s0 (some none,z.snd))
noncomputable def F5(lo n a:Nat):StateT SortSt Sem (Option Nat):=do
 t8 lo (lo+n)
 let z <- T7 lo n a
 match z.fst with
 |some r=>pure r
 |none=>pure (some z.snd)
noncomputable def QU(lo n a:Nat):StateT SortSt Sem DescSt:=
 fy [n:a] ((none,n,0):DescSt) λ_ z=>do
  let x <- ltAt' (lo+z.snd.fst) (lo+z.snd.fst-1)
  match x with
  |some b=>
   if b=true then
    if z.snd.snd>0 then do
     t8 (lo+z.snd.fst-(z.snd.snd+1)) (lo+z.snd.fst)
     pure (f6 (none,z.snd.fst+1,0))
    else pure (f6 (none,z.snd.fst+1,0))
   else do
    let x <- ltAt' (lo+z.snd.fst-1) (lo+z.snd.fst)
    match x with
    |some c=>
     if c=true then pure (s0 (none,z.snd.fst,z.snd.snd))
     else pure (f6 (none,z.snd.fst+1,z.snd.snd+1))
    |_=>pure (s0 (some none,z.snd.fst,z.snd.snd))
  |_=>pure (s0 (some none,z.snd.fst,z.snd.snd))
noncomputable def LJ(lo n a:Nat):StateT SortSt Sem (Option Nat):=do
 liftM (rule "list.sort.descending-run")
 let z <- QU lo (n+1) a
 match z.fst with
 |some r=>pure r
 |none=>
  if z.snd.snd>0 then do
   t8 (lo+z.snd.fst-(z.snd.snd+1)) (lo+z.snd.fst)
   F5 lo z.snd.fst a
  else F5 lo z.snd.fst a
def TN(lo a:Nat):countRun' lo a=(do
  let z <- T7 lo 1 a
  match z.fst with
  |some r=>pure r
  |none=>
   if(z.snd==a)=true then pure (some z.snd)
   else if z.snd>1 then do
    let x <- ltAt' lo (lo+z.snd-1)
    match x with
    |some b=>if b=true then pure (some z.snd)else do
      t8 lo (lo+z.snd)
      LJ lo z.snd a
    |_=>pure none
   else LJ lo z.snd a):=by
 have j:∀(n:Nat),F5 lo n a=(do
   t8 lo (lo+n)
   let z <- T7 lo n a
   match z with
   | (some r,_)=>pure r
   | (none,m)=>pure (some m)):=λn=>by
  unfold F5;congr 1;funext _;congr 1;funext z;obtain⟨r,m⟩:=z;cases r<;>rfl
 rw[countRun'_eq];unfold LJ;simp only[j];unfold T7 QU;congr 1;funext z;obtain⟨r,n⟩:=z
 cases r with
 |some r=>rfl
 |none=>
  dsimp only;split
  ·rfl
  ·split
   ·congr 1;funext x
    cases x with
    |none=>rfl
    |some b=>
     dsimp only;split
     ·rfl
     ·congr 1;funext _;congr 1;funext _;congr 1;congr 1;funext y;obtain⟨e,h,i⟩:=y
      cases e with
      |some e=>rfl
      |none=>
       dsimp only;split
       ·congr 1;funext _;congr 1;funext _;congr 1;funext u;obtain⟨c,n3⟩:=u;cases c<;>rfl
       ·congr 1;funext _;congr 1;funext u;obtain⟨c,n3⟩:=u;cases c<;>rfl
   ·congr 1;funext _;congr 1;congr 1;funext y;obtain⟨e,h,i⟩:=y
    cases e with
    |some e=>rfl
    |none=>
     dsimp only;split
     ·congr 1;funext _;congr 1;funext _;congr 1;funext u;obtain⟨c,n3⟩:=u;cases c<;>rfl
     ·congr 1;funext _;congr 1;funext u;obtain⟨c,n3⟩:=u;cases c<;>rfl
end
section
variable{prog:cK}{w:e6}{A:d8}{E:Value->Shared->Prop}{s:Shared}{f:Array z8}{g g0:Nat->Nat}{t:Array (Nat×Nat×Nat)}{st:SortSt}{lo n o:Nat}
structure Rn(f:Array z8)(g0 g:Nat->Nat)(lo m:Nat):Prop where
 sd:Sd f g lo (lo+m)
 inn:In g lo (lo+m)
 bef:∀p,p<lo->g p=g0 p
 aft:∀p,lo+m<=p->g p=p
def Rn.snoc{m:Nat}(r:Rn f g0 g lo m)(h1:1<=m)(h:¬K f (g (lo+m))<K f (g (lo+m-1))):Rn f g0 g lo (m+1) where
 sd:=λp q h2 h3 h4=>by
  by_cases hq:q<lo+m
  ·exact r.sd p q h2 h3 hq
  ·have e:q=lo+m:=by lia
   have e2:=r.aft q hG;have i1:=(r.inn p h2 hG).2;rw[<- e,e2]at h;unfold Lx;rw[e2]
   have:K f (g p)<=K f (g (q-1)):=by
    by_cases hp:p=q-1
    ·rw[hp];exact lA _
    ·rcases r.sd p (q-1) h2 hG hG with z | z
     ·lia
     ·lia
   lia
 inn:=λp h2 h3=>by
  by_cases hp:p<lo+m
  ·have:=r.inn p h2 hp;lia
  ·have:=r.aft p hG;lia
 bef:=r.bef
 aft:=λp h2=>r.aft p hG
def KU{a:Nat}{Q:AscSt->SortSt->Prop}(j:IntKeys f)(r:lo+o<=f.size)(q:1<=a)(e:a<=o)(k:GS f g t st)(l:Rn f g0 g lo a)
  (h:∀m,a<=m->m<=o->Rn f g0 g lo m->(m=o\/K f (g (lo+m))<K f (g (lo+m-1)))->Q (none,m) st):wpS (model prog w) A E s (T7 lo a o) Q st:=by
 unfold T7;refine u7 (I:=λx c z=>z=st/\c=(none,x)/\Rn f g0 g lo x) ?step ?fin ⟨kA,kA,l⟩
 case fin=>
  rintro c z ⟨rfl,rfl,b⟩;rw[show max a o=o by lia]at b |-
  exact h o e (aN _) b (.inl kA)
 case step=>
  rintro x c z i p ⟨rfl,rfl,b⟩;dsimp only;refine e7 (xL k j hG hG ?_);by_cases d:K f (g (lo+x))<K f (g (lo+x-1))
  ·simp only[d,x9,l7];exact i3 (h x i hG b (.inr d))
  ·simp only[d,ag,gB,m5];exact i3 ⟨kA,kA,b.snoc hG d⟩
structure Dn(f:Array z8)(g0 g:Nat->Nat)(lo x ne:Nat):Prop where
 le:ne+1<=x
 fall:∀p q,lo<=p->p<q->q<lo+(x-(ne+1))->Lx f (g q) (g p)
 inn:In g lo (lo+(x-(ne+1)))
 low:∀p,lo<=p->p<lo+(x-(ne+1))->K f (lo+x-1)<K f (g p)
 alike:∀p,lo+(x-(ne+1))<=p->p<lo+x->K f p=K f (lo+x-1)
 bef:∀p,p<lo->g p=g0 p
 aft:∀p,lo+(x-(ne+1))<=p->g p=p
def Dn.turn{x ne:Nat}(d:Dn f g0 g lo x ne) :
  (∀p q,lo<=p->p<q->q<lo+x->Lx f (AV g (lo+x-(ne+1)) (lo+x) q) (AV g (lo+x-(ne+1)) (lo+x) p))/\In (AV g (lo+x-(ne+1)) (lo+x)) lo (lo+x) /\
  (∀p,lo<=p->p<lo+x->K f (lo+x-1)<=K f (AV g (lo+x-(ne+1)) (lo+x) p))/\(∀p,p<lo->AV g (lo+x-(ne+1)) (lo+x) p=g0 p)/\∀p,lo+x<=p->AV g (lo+x-(ne+1)) (lo+x) p=p:=by
 have m:=d.le;have l:lo+x-(ne+1)=lo+(x-(ne+1)):=by lia
 have up:∀p,lo+(x-(ne+1))<=p->p<lo+x->AV g (lo+x-(ne+1)) (lo+x) p=lo+(x-(ne+1))+(lo+x)-1-p:=λp a e=>by
  unfold AV;rw[a9 hG,d.aft _ hG];lia
 have c:∀p,p<lo+(x-(ne+1))->AV g (lo+x-(ne+1)) (lo+x) p=g p:=λp a=>by
  unfold AV;rw[a8 hG]
 have k:∀p,lo+x<=p->AV g (lo+x-(ne+1)) (lo+x) p=p:=λp a=>by
  unfold AV;rw[a8 hG,d.aft _ hG]
 refine⟨λp q a e i=>?_,λp a e=>?_,λp a e=>?_,λp a=>?_,k⟩
 ·by_cases h:q<lo+(x-(ne+1))
  ·rw[c q h,c p hG];exact d.fall p q a e h
  ·rw[up q hG i];have j:=d.alike (lo+(x-(ne+1))+(lo+x)-1-q) hG hG;by_cases b:p<lo+(x-(ne+1))
   ·rw[c p b];have:=d.low p a b
    left;lia
   ·rw[up p hG hG];have r:=d.alike (lo+(x-(ne+1))+(lo+x)-1-p) hG hG
    right;lia
 ·by_cases b:p<lo+(x-(ne+1))
  ·rw[c p b];have:=d.inn p a b;lia
  ·rw[up p hG e];lia
 ·by_cases b:p<lo+(x-(ne+1))
  ·rw[c p b];have:=d.low p a b;lia
  ·rw[up p hG e];have j:=d.alike (lo+(x-(ne+1))+(lo+x)-1-p) hG hG;lia
 ·rw[c p hG];exact d.bef p a
def P7{x:Nat}(a:1<=x):AV g (lo+x-(0+1)) (lo+x)=g:=by
 funext k;unfold AV;split
 ·congr 1;lia
 ·rfl
def xK{i j:Nat}{Q:Unit->SortSt->Prop}(h:Q () (setArr st (mirror (w6 st) i j ((j-i) / 2)))):wpS (model prog w) A E s (t8 i j) Q st:=by
 rw[reverseSlice'_eq];exact dw h
def RI{Q:DescSt->SortSt->Prop}(v:IntKeys f)(T:lo+o<=f.size)(S:1<=n)(q:n<=o)(F:GS f g t st)(J:Dn f g0 g lo n 0)
  (h:∀m ne d i,GS f d t i->n<=m->m<=o->Dn f g0 d lo m ne->Q (none,m,ne) i):wpS (model prog w) A E s (QU lo n o) Q st:=by
 unfold QU;refine u7 (I:=λx c z=>∃ne d,c=(none,x,ne)/\GS f d t z/\Dn f g0 d lo x ne) ?step ?fin ⟨0,g,kA,F,J⟩
 case fin=>
  rintro c z ⟨ne,d,rfl,a,hd⟩;rw[show max n o=o by lia]at hd |-
  exact h o ne d z a q (aN _) hd
 case step=>
  rintro x c z l L ⟨ne,d,rfl,a,hd⟩;dsimp only;have G:=hd.le;have ex:=hd.aft (lo+x) hG;have u:=hd.aft (lo+x-1) hG;refine e7 (xL a v hG hG ?_);rw[ex,u];by_cases B:K f (lo+x)<K f (lo+x-1)
  ·simp only[B,x9,l7];obtain⟨M,N,O,P,R⟩:=hd.turn
   have nx:Dn f g0 (AV d (lo+x-(ne+1)) (lo+x)) lo (x+1) 0:=by
    have b:x+1-(0+1)=x:=by lia
    refine⟨hG,?_,?_,?_,?_,P,?_⟩
    ·rw[b];exact M
    ·rw[b];exact N
    ·rw[b];intro p j k;have:=O p j k;rw[show lo+(x+1)-1=lo+x by lia];lia
    ·rw[b];intro p j k;congr 1;lia
    ·rw[b];exact R
   by_cases e:ne>0
   ·rw[a9 e];exact e7 (xK (i3 ⟨0,_,kA,a.mirr hG,nx⟩))
   ·rw[a8 e];have C:ne=0:=by lia
    subst C;rw[P7 hG]at nx;exact i3 ⟨0,_,kA,a,nx⟩
  ·simp only[B,ag,gB,m5];refine e7 (xL a v hG hG ?_);rw[ex,u];by_cases y:K f (lo+x-1)<K f (lo+x)
   ·simp only[y,x9,l7];exact i3 (h x ne d z a l hG hd)
   ·simp only[y,ag,gB,m5];have b:x+1-(ne+1+1)=x-(ne+1):=by lia
    have el:lo+(x+1)-1=lo+x:=by lia
    have r:K f (lo+x)=K f (lo+x-1):=by lia
    refine i3 ⟨ne+1,d,kA,a,⟨hG,?_,?_,?_,?_,hd.bef,?_⟩⟩
    ·rw[b];exact hd.fall
    ·rw[b];exact hd.inn
    ·rw[b,el,r];exact hd.low
    ·rw[b,el];intro p j k;by_cases H:p=lo+x
     ·rw[H]
     ·rw[r];exact hd.alike p j hG
    ·rw[b];exact hd.aft
def FV{Q:Option Nat->SortSt->Prop}(y:IntKeys f)(C:lo+o<=f.size)(z:1<=n)(k:n<=o)(B:GS f g t st)
  (f1:∀p q,lo<=p->p<q->q<lo+n->Lx f (g q) (g p)) (f2:In g lo (lo+n)) (v:∀p,p<lo->g p=g0 p) (x:∀p,lo+n<=p->g p=p)
  (h:∀m l e,GS f l t e->1<=m->m<=o->Rn f g0 l lo m->Q (some m) e):wpS (model prog w) A E s (F5 lo n o) Q st:=by
 unfold F5;refine e7 (xK ?_);have d:=B.mirr (i:=lo) (j:=lo+n) hG;have up:∀p,lo<=p->p<lo+n->AV g lo (lo+n) p=g (lo+(lo+n)-1-p):=λp a b=>by unfold AV;rw[a9 ⟨a,b⟩]
 have u:∀p,(p<lo\/lo+n<=p)->AV g lo (lo+n) p=g p:=λp a=>by unfold AV;rw[a8 hG]
 refine e7 (KU y C z k d (g0:=g0) ⟨λp q a b c=>?_,λp a b=>?_,λp a=>?_,λp a=>?_⟩ λm m1 F r _=>i3 (h m _ _ d hG F r))
 ·rw[up p a hG,up q hG c];exact f1 _ _ hG hG hG
 ·rw[up p a b];exact f2 _ hG hG
 ·rw[u p (.inl a)];exact v p a
 ·rw[u p (.inr a)];exact x p a
def FW{Q:Option Nat->SortSt->Prop}(e:IntKeys f)(i:lo+o<=f.size)(j:n+1<=o)(v:GS f g t st)(x:Dn f g0 g lo (n+1) 0)
  (h:∀m d a,GS f d t a->1<=m->m<=o->Rn f g0 d lo m->Q (some m) a):wpS (model prog w) A E s (LJ lo n o) Q st:=by
 unfold LJ;refine e7 (wpS_lift (n8 ⟨kA,?_⟩));refine e7 (RI e i hG j v x λm ne d a b m1 r hd=>?_);dsimp only;obtain⟨k,l,y,p,q⟩:=hd.turn;by_cases c:ne>0
 ·rw[a9 c];exact e7 (xK (FV e i hG r (b.mirr hG) k l p q h))
 ·rw[a8 c];have u:ne=0:=by lia
  subst u;rw[P7 hG]at k l p q;exact FV e i hG r b k l p q h
def M7{Q:Option Nat->SortSt->Prop}(x:IntKeys f)(y:lo+o<=f.size)(H:1<=o)(k:GS f g t st)(bef:∀p,p<lo->g p=g0 p)(aft:∀p,lo<=p->g p=p)
  (h:∀m C v,GS f C t v->1<=m->m<=o->Rn f g0 C lo m->Q (some m) v):wpS (model prog w) A E s (countRun' lo o) Q st:=by
 rw[TN];refine e7 (KU x y (aN 1) H k (g0:=g0) ⟨λp q a b c=>by lia,λp a b=>by rw[aft p a];lia,bef,λp a=>aft p hG⟩ λm m1 F r B=>?_);dsimp only;by_cases j:m=o
 ·rw[a9 (by simpa using j)];exact i3 (h m g st k m1 F r)
 ·rw[a8 (by simpa using j)];have i:=B.resolve_left j;rw[aft _ hG,aft (lo+m-1) hG]at i;by_cases u:m>1
  ·rw[a9 u];refine e7 (xL k x hG hG ?_);rw[aft lo hG,aft (lo+m-1) hG];by_cases d:K f lo<K f (lo+m-1)
   ·simp only[d,x9,l7];exact i3 (h m g st k m1 F r)
   ·simp only[d,ag,gB,m5]
    have le:∀p q,lo<=p->p<=q->q<lo+m->K f p<=K f q:=λp q a b c=>by
     by_cases e:p=q
     ·rw[e];exact lA _
     ·have:=r.sd p q a hG c;rw[aft p a,aft q hG]at this;rcases this with z | z<;>lia
    have all:∀p,lo<=p->p<lo+m->K f p=K f (lo+m-1):=λp a b=>by
     have I:=le lo p hG a b;have J:=le p (lo+m-1) a hG hG;lia
    have l:m+1-(0+1)=m:=by lia
    have el:lo+(m+1)-1=lo+m:=by lia
    have up:∀p,lo<=p->p<lo+m->AV g lo (lo+m) p=lo+(lo+m)-1-p:=λp a b=>by unfold AV;rw[a9 ⟨a,b⟩,aft _ hG]
    refine e7 (xK (FW x y hG (k.mirr hG) (g0:=g0) ⟨hG,?_,?_,?_,?_,?_,?_⟩ h))
    ·rw[l];intro p q a b c;rw[up p a hG,up q hG c];have I:=all (lo+(lo+m)-1-p) hG hG;have J:=all (lo+(lo+m)-1-q) hG hG
     right;lia
    ·rw[l];intro p a b;rw[up p a b];lia
    ·rw[l,el];intro p a b;rw[up p a b,all (lo+(lo+m)-1-p) hG hG];exact i
    ·rw[l];intro p a b;congr 1;lia
    ·intro p a;unfold AV;rw[a8 hG];exact bef p a
    ·rw[l];intro p a;unfold AV;rw[a8 hG];exact aft p hG
  ·rw[a8 u];have G:m=1:=by lia
   subst G;refine FW x y hG k (g0:=g0) ⟨hG,λp q a b c=>by lia,λp a b=>by rw[aft p a];lia,λp a b=>?_,λp a b=>by congr 1;lia,bef,λp a=>aft p hG⟩ h;rw[aft p a];have:p=lo:=by lia
   subst this;exact i
def UZ{ok:Nat}{Q:Bool->SortSt->Prop}(R:IntKeys f)(hn:lo+n<=f.size)(hok:ok<=n)(h1:1<=ok)(S:GS f g t st)(Y:Rn f g0 g lo ok)
  (h:∀d F,GS f d t F->Rn f g0 d lo n->Q true F):wpS (model prog w) A E s (binarySort' lo n ok) Q st:=by
 rw[binarySort'_eq]
 refine e7 (ge (u7 (I:=λk c z=>c=(none,())/\∃d,GS f d t z/\Rn f g0 d lo (min k n))
  (Q:=λc z=>c=(none,())/\∃d,GS f d t z/\Rn f g0 d lo n) ?step ?fin ?init) ?post)
 case post=>
  rintro c z ⟨rfl,d,u,m⟩;exact i3 (h d z u m)
 case init=>
  refine⟨kA,g,S,?_⟩;rw[show min (max ok 1) n=ok by lia];exact Y
 case fin=>
  rintro c z ⟨U,d,u,m⟩;rw[show min (max (max ok 1) n) n=n by lia]at m;exact⟨U,d,u,m⟩
 case step=>
  rintro k c z T X ⟨rfl,d,u,m⟩;rw[show min k n=k by lia]at m;have N:=m.aft (lo+k) (aN _)
  refine e7 (ge (u7 (I:=λx c y=>y=z/\∃l r,c=(none,l,r)/\l<=r/\r<=k/\r-l<=k-x /\
    (∀i,i<l->K f (d (lo+i))<=K f (lo+k))/\∀i,r<=i->i<k->K f (lo+k)<K f (d (lo+i)))
   (Q:=λc y=>y=z/\∃l r,c=(none,l,r)/\l<=k/\(∀i,i<l->K f (d (lo+i))<=K f (lo+k))/\∀i,l<=i->i<k->K f (lo+k)<K f (d (lo+i))) ?istep ?ifin ?iinit) ?ipost)
  case iinit=>exact⟨kA,0,k,kA,hG,hG,hG,λi hi=>by lia,λi a b=>by lia⟩
  case ifin=>
   rintro c y ⟨rfl,l,r,rfl,O,a2,P,a4,B⟩;have:l=r:=by lia
   subst this;exact⟨kA,l,l,kA,a2,a4,B⟩
  case istep=>
   rintro x c y _ Z ⟨rfl,l,r,rfl,O,a2,P,a4,B⟩;dsimp only
   have le:∀i j,i<=j->j<k->K f (d (lo+i))<=K f (d (lo+j)):=λi j a b=>by
    by_cases e:i=j
    ·rw[e];exact lA _
    ·rcases m.sd (lo+i) (lo+j) hG hG hG with q | q<;>lia
   by_cases C:l>=r
   ·rw[a9 C];have:l=r:=by lia
    subst this;exact i3 ⟨kA,l,l,kA,a2,a4,B⟩
   ·rw[a8 C];refine e7 (xL u R hG hG ?_);rw[N];by_cases L:K f (lo+k)<K f (d (lo+(l+r) / 2))
    ·simp only[L,x9,l7];refine i3 ⟨kA,l,(l+r) / 2,kA,hG,hG,hG,a4,λi v J=>?_⟩;exact Int.lt_of_lt_of_le L (le _ _ v J)
    ·simp only[L,ag,gB,m5];refine i3 ⟨kA,(l+r) / 2+1,r,kA,hG,hG,hG,λi v=>?_,B⟩;have:=le i ((l+r) / 2) hG hG;lia
  case ipost=>
   rintro c y ⟨rfl,l,r,rfl,a2,a4,B⟩;show wpS _ _ _ _ (do moveDown' (lo+k) (lo+l);pure (f6 (none,()))) _ _;rw[moveDown'_eq];refine e7 (dw (i3 ⟨kA,_,u.bubb hG hG,?_⟩));rw[show min (k+1) n=k+1 by lia];have M:wb d (lo+k) (lo+l) (lo+l)=lo+k:=by unfold wb;rw[a9 kA,N]
   have G:∀p,lo+l<p->p<=lo+k->wb d (lo+k) (lo+l) p=d (p-1):=λp a b=>by unfold wb;rw[a8 hG,a9 ⟨a,b⟩]
   have H:∀p,(p<lo+l\/lo+k<p)->wb d (lo+k) (lo+l) p=d p:=λp a=>by unfold wb;rw[a8 hG,a8 hG]
   have lw:∀p,lo<=p->p<lo+l->K f (d p)<=K f (lo+k):=λp a b=>by
    have:=a4 (p-lo) hG;rwa [show lo+(p-lo)=p by lia]at this
   have W:∀p,lo+l<=p->p<lo+k->K f (lo+k)<K f (d p):=λp a b=>by
    have:=B (p-lo) hG hG;rwa [show lo+(p-lo)=p by lia]at this
   refine⟨λp q v J b3=>?_,λp v J=>?_,λp v=>?_,λp v=>?_⟩
   ·rcases lU p (lo+l)with c1 | c1 | c1
    ·rw[H p (.inl c1)];rcases lU q (lo+l)with c2 | c2 | c2
     ·rw[H q (.inl c2)];exact m.sd p q v J hG
     ·rw[c2,M];have:=lw p v c1;have:=(m.inn p v hG).2;unfold Lx;lia
     ·rw[G q c2 hG];exact m.sd p (q-1) v hG hG
    ·rw[c1,M,G q hG hG]
     left;exact W _ hG hG
    ·rw[G p c1 hG,G q hG hG];exact m.sd _ _ hG hG hG
   ·rcases lU p (lo+l)with c1 | c1 | c1
    ·rw[H p (.inl c1)];have:=m.inn p v hG;lia
    ·rw[c1,M];lia
    ·rw[G p c1 hG];have:=m.inn (p-1) hG hG;lia
   ·rw[H p (.inl hG)];exact m.bef p v
   ·rw[H p (.inr hG)];exact m.aft p hG
end
section
variable{a:Type}{le:a->a->Bool}
noncomputable abbrev mg(le:a->a->Bool)(b c:List a):List a:=List.merge b c le
end
section
def DU{a:Array z8}(c:IntKeys a){i:Nat}(b:i<a.size):∃t,a[i].1=.int (K a i) t:=by
 obtain⟨t,q,e⟩:=OQ c b;rw[ai a i b]at e;exact⟨t,e5 Prod.fst (c5 e)⟩
end
structure Two(a b:Array z8):Prop where
 ia:IntKeys a
 ib:IntKeys b
 sa:∀i j,i<=j->j<a.size->K a i<=K a j
 sb:∀i j,i<=j->j<b.size->K b i<=K b j
 na:0<a.size
 nb:0<b.size
 last:∀j,j<b.size->K b j<K a (a.size-1)
 first:∀i,i<a.size->K b 0<K a i
structure KN(n:Nat)(ky:Nat->Int)(J:List Nat):Prop where
 ord:J.Pairwise λi j=>ky i<ky j\/(ky i=ky j/\i<j)
 lt:∀i∈J,i<n
 len:J.length=n
noncomputable def fa(a:Array z8)(i:Nat):z8:=(a[i]?).getD (.none,.none)
section
variable{prog:cK}{w:e6}{A:d8}{E:Value->Shared->Prop}{s:Shared}{a0:Array z8}{g:Nat->Nat}{b:Array (Nat×Nat×Nat)}{st:SortSt}
def GS.list(h:GS a0 g b st):(w6 st).toList=((fZ a0.size).map g).map (fa a0):=by
 apply iY;intro q;rw[lK,aX,aM];by_cases a:q<a0.size
 ·rw[h.get q a,kJ a];show _=some (fa a0 (g q));unfold fa;rw[ai a0 _ (h.rng q a)];rfl
 ·rw[eB (by simp;lia),kY (by rw[h.size];lia)];rfl
def Yn(hB:GS a0 g b st)(hs:Sd a0 g 0 a0.size):KN a0.size (K a0) ((fZ a0.size).map g) where
 ord:=by
  rw[KB];intro i j hi hj qg;simp only[aA,nX]at hi hj;simp only[List.getElem_map,US];exact hs i j (cJ _) qg hj
 lt:=λi hi=>by
  obtain⟨p,hp,rfl⟩:=aQ.mp hi;exact hB.rng p (pZ.mp hp)
 len:=by simp
def SQ{n:Nat}(h:n<64)(a:2<=n):minRun' n n 0=n:=by
 obtain⟨f,rfl⟩:∃f,n=f+2:=⟨n-2,hG⟩;rw[show f+2=(f+1)+1 by lia,minRun'_succ,a9 hG]
def Al(a0:Array z8)(st:SortSt):Prop:=∃g,GS a0 g #[(0,a0.size,0)] st/\Sd a0 g 0 a0.size
def GS.setP(h:GS a0 g b st)(q:Array (Nat×Nat×Nat)):GS a0 g q (gw st q):=⟨h.size,h.get,h.rng,h.kind,h.fail,kA⟩
def UY{Q:Unit->SortSt->Prop}(o:IntKeys a0)(q:GS a0 (λp=>p) #[] st)(L:2<=a0.size)(k:a0.size<64)
  (h:∀i J,dn i=none->(w6 i).toList=J.map (fa a0)->KN a0.size (K a0) J->Q () i):wpS (model prog w) A E s sortRuns' Q st:=by
 have M:=SQ k L;rw[sortRuns'_eq];refine e7 (ip ?_);dsimp only;simp only[q.size]
 generalize minRun' a0.size a0.size 0=mn at M
 refine e7 (ge (u7
  (I:=λx c z=>(x=0/\c=(none,0)/\GS a0 (λp=>p) #[] z)\/(1<=x/\c=(none,a0.size)/\Al a0 z))
  (Q:=λc z=>c=(none,a0.size)/\Al a0 z) ?step ?fin (.inl ⟨kA,kA,q⟩)) ?post)
 case fin=>
  rintro c z (⟨t,_,_⟩ | ⟨_,hc,l⟩)
  ·lia
  ·exact⟨hc,l⟩
 case step=>
  rintro x c z _ t (⟨rfl,rfl,hB'⟩ | ⟨x1,rfl,l⟩)
  ·dsimp only;rw[a8 hG];simp only[uL,BT]
   have next:∀(m:Nat)(j:Nat->Nat)(f:SortSt),GS a0 j #[] f->m=a0.size->Rn a0 (λp=>p) j 0 m ->
     (1=0/\((none,m):Option Unit×Nat)=(none,0)/\GS a0 (λp=>p) #[] (gw f ((al f).push (0,m,0)))) \/
     (1<=1/\((none,m):Option Unit×Nat)=(none,a0.size)/\Al a0 (gw f ((al f).push (0,m,0)))):=λm j f d e r=>by
    have G:=d.setP #[(0,m,0)];rw[show(al f).push (0,m,0)=#[(0,m,0)] by rw[d.pend];rfl];subst e;refine .inr ⟨hG,kA,j,G,?_⟩;have:=r.sd
    rwa [BT]at this
   refine e7 (M7 o hG hG hB' (g0:=λp=>p) (λp a=>rfl) (λp a=>rfl) λm j f d v O r=>?_);dsimp only;by_cases n:m<mn
   ·rw[a9 n];refine e7 (wpS_lift (n8 ⟨kA,?_⟩));refine e7 (UZ o hG hG v d r λH u c1 N=>?_);simp only[Bool.not_true,gB,m5];refine e7 (ip ?_);rw[show(al u).back?=none by rw[c1.pend];rfl];dsimp only;exact e7 (dw (i3 (next _ H u c1 hG N)))
   ·rw[a8 n];refine e7 (ip ?_);rw[show(al f).back?=none by rw[d.pend];rfl];dsimp only;exact e7 (dw (i3 (next _ j f d hG r)))
  ·dsimp only;rw[a9 (aN _)];exact i3 ⟨kA,l⟩
 case post=>
  rintro c z ⟨rfl,l⟩;dsimp only
  refine e7 (ge (u7 (I:=λx c y=>c=(none,())/\x=0/\y=z)
   (Q:=λc y=>c=(none,())/\dn y=none/\∃J,(w6 y).toList=J.map (fa a0)/\KN a0.size (K a0) J) ?_ ?_ ⟨kA,kA,kA⟩) ?_)
  ·rintro x c y _ _ ⟨rfl,rfl,rfl⟩;refine e7 (ip ?_);obtain⟨g,d,sd⟩:=l;rw[a9 (by rw[d.pend];exact aN 1)];exact i3 ⟨kA,d.fail,_,d.list,Yn d sd⟩
  ·rintro c y ⟨rfl,t,_⟩;lia
  ·rintro c y ⟨rfl,B,J,C,F⟩;exact i3 (h y J B C F)
end
end SS
set_option maxHeartbeats 4000000
namespace SS
section
variable{prog:cK}{w:e6}{A:d8}{E:Value->Shared->Prop}{s:Shared}{a kS f:Addr}{vs:List Value}{g:List Int}{P:PySem.Fin->Shared->Prop}{d:Shared->Prop}{lo:Nat}
structure T8(d:Shared->Prop)(lo:Nat):Prop where
 up:∀(s':Shared)(x:Addr)h'(tk:Nat),d s'->lo<=x->fV x s'.heap h'->d { s' with heap:=h',toks:=tk }
 push:∀(s':Shared)(o:Obj),d s'->d { s' with heap:=s'.heap.push o }
def mO(prog:cK)(w:e6)(A:d8)(d:Shared->Prop)(lo:Nat)(f:Addr)(vs:List Value)(g:List Int):Prop:=∀(i:Nat)(v:Value)(k:Int)(c:Shared),vs[i]?=some v->g[i]?=some k->d c ->
 wpAny (model prog w) A (call (.ref f) [v]) (λu e=>∃t,u=.int k t/\d e/\∀b o,lo<=b->c.heap.get? b=some o->e.heap.get? b=some o) (λ_ _=>False) c
def UV{b:Array Value}(hk:IntsAre b.toList g)(m:g.length=vs.length):(b.zip vs.toArray).size=vs.length/\∀i,i<vs.length->K (b.zip vs.toArray) i=g.getD i 0/\(fa (b.zip vs.toArray) i).2=vs.getD i .none:=by
 have j:b.size=vs.length:=by have:=hk.length;rw[fM]at this;lia
 have l:(b.zip vs.toArray).size=vs.length:=by rw[Array.size_zip,j,bA,Nat.min_self]
 refine⟨l,λi c=>?_⟩;obtain⟨t,h⟩:=hk.get i (g[i]' hG) (aD hG);rw[lK]at h;have k:vs.toArray[i]?=some vs[i]:=by simp[c]
 have e:(b.zip vs.toArray)[i]?=some (.int (g[i]' hG) t,vs[i]):=by
  rw[Array.getElem?_zip_eq_some];exact⟨h,k⟩
 constructor
 ·unfold K;rw[e];show numOf (l9 (g[i]' hG) t)=_;rw[dL,aD hG];rfl
 ·unfold fa;rw[e,dL,aD c];rfl
def KN.congr{n:Nat}{k1 k2:Nat->Int}(h:KN n k1 J)(e:∀i,i<n->k1 i=k2 i):KN n k2 J where
 ord:=h.ord.imp_of_mem λ{i j} hi hj q=>by rw[<- e i (h.lt i hi),<- e j (h.lt j hj)];exact q
 lt:=h.lt
 len:=h.len
def PD{st:SortSt}{b:Array Value}{e m:Nat}{J:List Nat}(T:T8 d lo)(G:d s)(ok:s.heap.get? kS=some (f7 "list" b e))(C:s.heap.get? a=some (f7 "list" #[] m))(p:kS≠a)(B:lo<=kS)(z:lo<=a)
  (q:b.size<=bF) (r:(w6 st).toList.map (·.2)=J.map λi=>vs.getD i .none) (x:J.length<=bF) (v:dn st=none)
  (h:∀n u k c,d { s with heap:=n,toks:=u }->n.get? a=some (f7 "list" k c)->k.toList=(J.map λi=>vs.getD i .none)->P (.done (.ret .none)) { s with heap:=n,toks:=u }) :
  wpAny (model prog w) A (ksk_tail a false m (.ref kS) st) P E s:=by
 have t:=fV.update s.heap kS (d6 λ_=>(#[]:Array Value));have j:(s.heap.update kS (d6 λ_=>(#[]:Array Value))).get? a=some (f7 "list" #[] m):=(t.2 a p.symm).trans C;have F:=fV.update (s.heap.update kS (d6 λ_=>(#[]:Array Value))) a (d6 λ_=>(w6 st).map (·.2));obtain⟨l,o⟩:∃l,((s.heap.update kS (d6 λ_=>(#[]:Array Value))).update a (d6 λ_=>(w6 st).map (·.2))).get? a=some (f7 "list" ((w6 st).map (·.2)) l):=⟨_,cu j λ_=>(w6 st).map (·.2)⟩
 have y:((w6 st).map (·.2)).size=J.length:=by
  have:=e5 jK r;simpa using this
 unfold ksk_tail
 try dsimp only
 refine aK (au ok kA ?_ q (cJ _));refine aK (cn ?_);refine aK (seqEpoch_at j kA ?_);refine aK (au j kA ?_ (cJ _) (by simp only[gB,m5];rw[y];exact Z0 x));rw[v];simp only[bne_self_eq_false,gB,m5];exact bC (h _ _ _ l (T.up { s with heap:=s.heap.update kS (d6 λ_=>(#[]:Array Value)) } a _ s.toks (T.up s kS _ s.toks G B t) z F) o (by rw[Array.toList_map];exact r))
def Uw{b:Array Value}{e L:Nat}(T:T8 d lo)(R:d s)(ok:s.heap.get? kS=some (f7 "list" b e))(O:s.heap.get? a=some (f7 "list" #[] L))(u:kS≠a)(N:lo<=kS)(M:lo<=a)
  (hk:IntsAre b.toList g) (Z:g.length=vs.length) (t:vs.length<64)
  (h:∀m r k c J,d { s with heap:=m,toks:=r }->m.get? a=some (f7 "list" k c)->KN vs.length (λi=>g.getD i 0) J->k.toList=(J.map λi=>vs.getD i .none)->P (.done (.ret .none)) { s with heap:=m,toks:=r }) :
  wpAny (model prog w) A (ksk_end a false vs.toArray L (.ref kS) b) P E s:=by
 obtain⟨p,v⟩:=UV (vs:=vs) hk Z;have C:b.size=vs.length:=by have:=hk.length;rw[fM]at this;lia
 have y:(2:Nat)^24=bF:=rfl
 have x:∀J:List Nat,(∀i∈J,i<vs.length)->(J.map (fa (b.zip vs.toArray))).map (·.2)=J.map λi=>vs.getD i .none:=λJ z=>by
  rw[aX];exact iC λi n=>(v i (z i n)).2
 unfold ksk_end
 try dsimp only
 simp only[gB,m5];by_cases o:vs.toArray.size<2
 ·rw[a9 o,a9 o];refine aK (bC ?_);rw[StateT.run_pure];refine aK (bC ?_)
  try dsimp only
  rw[bA]at o
  have W:(b.zip vs.toArray).toList=(fZ vs.length).map (fa (b.zip vs.toArray)):=by
   apply iY;intro q;rw[lK,aM];by_cases B:q<vs.length
   ·rw[kJ B,ai _ q (by rw[p];exact B)];show _=some (fa _ q);unfold fa;rw[ai _ q (by rw[p];exact B)];rfl
   ·rw[eB (by simp;lia),kY (by rw[p];lia)];rfl
  have sb:KN vs.length (λi=>g.getD i 0) (fZ vs.length):=⟨by
   rw[KB];intro i j n Y X;simp only[nX]at n Y;lia,λi n=>pZ.mp n,hH⟩
  exact PD (st:=SortSt.mk' general' (b.zip vs.toArray) #[] 7 none) (J:=fZ vs.length) T R ok O u N M (by rw[C,<- y];lia) (by
   show(b.zip vs.toArray).toList.map (·.2)=_;rw[W];exact x _ sb.lt) (by simp only[nX];rw[<- y];lia) kA λm r k c G H I=>h m r k c _ G H sb I
 ·rw[a8 o,a8 o];rw[bA]at o;rw[ksk_kind hk (by rw[C];lia)];refine aK (bC ?_)
  refine aK (hU (UY (a0:=b.zip vs.toArray) (st:=SortSt.mk' oneType' (b.zip vs.toArray) #[] 7 none)
   (Q:=λ_ l=>dn l=none/\∃J,(w6 l).toList=J.map (fa (b.zip vs.toArray))/\KN (b.zip vs.toArray).size (K (b.zip vs.toArray)) J)
   (ksk_intKeys hk) ⟨kA,λ_ _=>rfl,λ_ hp=>hp,kA,kA,kA⟩ (by rw[p];lia) (by rw[p];exact t) λl J S a2 U=>⟨S,J,a2,U⟩) ?_ λ_ _ e=>e)
  rintro⟨⟨⟩,l⟩ s' ⟨rfl,hf,J,z,sb⟩
  try dsimp only
  rw[p]at sb;have F:=sb.congr λi n=>(v i n).1;exact PD (J:=J) T R ok O u N M (by rw[C,<- y];lia) (by rw[z];exact x J sb.lt) (by rw[sb.len,<- y];lia) hf λm r k c G H I=>h m r k c _ G H F I
def Yh{z:Nat}(T:T8 d lo)(t0:d s)(ok:s.heap.get? kS=some (f7 "list" #[] 0))(Z:s.heap.get? a=some (f7 "list" #[] z))(p:kS≠a)(C:lo<=kS)(L:lo<=a)
  (W:g.length=vs.length) (o:vs.length<64) (turn:mO prog w A d lo f vs g)
  (h:∀b m c J,d b->b.heap.get? a=some (f7 "list" m c)->KN vs.length (λi=>g.getD i 0) J->m.toList=(J.map λi=>vs.getD i .none)->P (.done (.ret .none)) b) :
  wpAny (model prog w) A (ksk_rest a (.ref f) false vs.toArray z (.ref kS)) P E s:=by
 have I:(2:Nat)^24=bF:=rfl;unfold ksk_rest;refine aK (n8 ?_)
 first
  |rw[List.forIn_toArray]
  | (rw[<- UH];simp only[List.toList_toArray])
  |rw[<- UH]
 refine aK (ksk_fold (λi b=>d b/\∃l e,b.heap.get? kS=some (f7 "list" l e)/\b.heap.get? a=some (f7 "list" #[] z)/\IntsAre l.toList (g.take i)) vs 0 s
  ⟨t0,#[],0,ok,Z,by simpa using IntsAre.nil⟩ ?step ?done)
 case step=>
  rintro j x b K ⟨H,l,e,u,F,hk⟩;simp only[BT]at hk |-
  have hj:j<vs.length:=(aG.mp K).1;obtain⟨k,q⟩:∃k,g[j]?=some k:=⟨_,aD hG⟩
  have hz:l.size<=vs.length:=by
   have R:=hk.length;rw[fM,bD]at R;lia
  refine aK (ek (hU (turn j x k b K q H) (λv t U=>?_) λ_ _ S=>S.elim));obtain⟨n,rfl,t3,keep⟩:=U
  try dsimp only
  have r:=keep kS _ C u;have G:=keep a _ L F;have M:=fV.update t.heap kS (d6 (·.push (.int k n)));obtain⟨y,B⟩:∃y,(t.heap.update kS (d6 (·.push (.int k n)))).get? kS=some (f7 "list" (l.push (.int k n)) y):=⟨_,cu r (·.push (.int k n))⟩;have Q:g.take (j+1)=g.take j++[k]:=by rw[cI,q];simp
  have O:(l.push (l9 k n)).toList=l.toList++[l9 k n]:=by simp
  refine aK (au r kA ?_ (by rw[<- I];lia) (bE (mS (E8 ..)) (by rw[<- I];lia)));exact bC ⟨kA,T.up _ kS _ _ t3 C M,l.push (.int k n),y,B,(M.2 a p.symm).trans G,by rw[O,Q];exact ksk_snoc hk⟩
 case done=>
  rintro b ⟨H,l,e,u,F,hk⟩;have N:g.take (0+vs.length)=g:=fF hG;rw[N]at hk
  try dsimp only
  refine aK (listItems_at u kA ?_);exact Uw T H u F p C L hk W o λh' tk m c J n Y sb X=>h _ m c J n Y sb X
def Yi{n:Nat}(T:T8 d lo)(v:d s)(l:s.heap.get? a=some (f7 "list" vs.toArray n))(m:lo<=a)(t:g.length=vs.length)(b:vs.length<64)(turn:mO prog w A d lo f vs g)
  (h:∀o k c J,d o->o.heap.get? a=some (f7 "list" k c)->KN vs.length (λi=>g.getD i 0) J->k.toList=(J.map λi=>vs.getD i .none)->P (.done (.ret .none)) o) :
  wpAny (model prog w) A (ksk_tree a (.ref f) false) P E s:=by
 have q:(2:Nat)^24=bF:=rfl;have r:a<s.heap.objs.size:=bG l;have u:=fV.update s.heap a (d6 λ_=>(#[]:Array Value));obtain⟨p,j⟩:∃p,(s.heap.update a (d6 λ_=>(#[]:Array Value))).get? a=some (f7 "list" #[] p):=⟨_,cu l λ_=>#[]⟩;have e:((s.heap.update a (d6 λ_=>(#[]:Array Value))).push (f7 "tuple" vs.toArray 0)).objs.size=s.heap.objs.size+1:=by rw[size_push',Z4]
 unfold ksk_tree;refine aK (listItems_at l kA ?_);refine aK (au l kA ?_ (by rw[bA,<- q];lia) (cJ _));refine aK (seqEpoch_at j kA ?_);refine aK (wpAny_newTuple ?_ (by show vs.length<=_;rw[<- q];lia));refine aK (wpAny_newList ?_ (cJ _));refine m6 ?_
 exact Yh (s:={ s with heap:=((s.heap.update a (d6 λ_=>(#[]:Array Value))).push (f7 "tuple" vs.toArray 0)).push (f7 "list" #[] 0) }) (kS:=((s.heap.update a (d6 λ_=>(#[]:Array Value))).push (f7 "tuple" vs.toArray 0)).objs.size)
  T (T.push { s with heap:=(s.heap.update a (d6 λ_=>(#[]:Array Value))).push (f7 "tuple" vs.toArray 0) } _ (T.push { s with heap:=s.heap.update a (d6 λ_=>(#[]:Array Value)) } _ (T.up s a _ s.toks v m u)))
  (aY _ kA) (aE _ (aE _ j)) (by rw[e];exact jJ (rE r)) (by rw[e];exact bE m (iB (rE r))) m t b turn h
def RT{l:Addr}{Q:Value->Shared->Prop}(T:T8 d lo)(v:d s)(t:s.heap.IsList l vs.toArray)(k:lo<=s.heap.objs.size)(j:g.length=vs.length)(e:vs.length<64)(turn:mO prog w A.in1.in1 d lo f vs g)
  (h:∀q D b c J,d q->s.heap.objs.size<=D->q.heap.get? D=some (f7 "list" b c)->KN vs.length (λi=>g.getD i 0) J->b.toList=(J.map λi=>vs.getD i .none)->Q (.ref D) q) :
  wpAny (model prog w) A (call (.builtin "sorted") [.ref l] [(c7 "key",.ref f)]) Q E s:=by
 have r:(2:Nat)^24=bF:=rfl;refine call_function_entry_kw kind_sorted plain_sorted entry_sorted (ksk_s1 _ _) ?_;unfold t7.«sorted»;refine aK (m:=checkCount "sorted" 1 1 _) (bC ?_);refine aK (collect_list t ?_ (by rw[<- r];lia));refine aK (wpAny_newList ?_ (by rw[<- r];lia))
 have p:((s.heap.push (f7 "list" #[] 0)).update s.heap.objs.size (d6 (·++vs.toArray))).objs.size=s.heap.objs.size+1:=by
  rw[Z4,size_push']
 have n:(((s.heap.push (f7 "list" #[] 0)).update s.heap.objs.size (d6 (·++vs.toArray))).push (f7 "list" vs.toArray 0)).get? (s.heap.objs.size+1)=some (f7 "list" vs.toArray 0):=by
  rw[<- p];exact aY _ kA
 show wpAny _ _ _ _ _ { s with heap:=((s.heap.push (f7 "list" #[] 0)).update s.heap.objs.size (d6 (·++vs.toArray))).push (f7 "list" vs.toArray 0) };rw[p];refine aK (m6 (wpAny_call_entry_kw slot_list_sort ⟨_,n,kA⟩ entry_list_sort ?body (ksk_l1 _ _)))
 case body=>
  show wpAny (model prog w) A.in1.in1 (t7.«list.sort» ⟨[.ref (s.heap.objs.size+1)],[(c7 "key",.ref f)]⟩) _ _ _;rw[ksk_t1];have x:=T.push { s with heap:=(s.heap.push (f7 "list" #[] 0)).update s.heap.objs.size (d6 (·++vs.toArray)) } (f7 "list" vs.toArray 0) (T.up { s with heap:=s.heap.push (f7 "list" #[] 0) } s.heap.objs.size _ s.toks (T.push s (f7 "list" #[] 0) v) k (fV.update _ _ _));refine Yi (s:={ s with heap:=((s.heap.push (f7 "list" #[] 0)).update s.heap.objs.size (d6 (·++vs.toArray))).push (f7 "list" vs.toArray 0) }) T x n (Z0 k) j e turn λq b c J y o sb u=>⟨_,kA,?_⟩;exact bC ⟨_,kA,h q _ b c J y (aR4 _) o sb u⟩
end
end SS
noncomputable section
def L2.tabA:Option PySem.Addr:=some 228
namespace L2
abbrev mO:=Sum Int Str
noncomputable def GQ:mO->Value->Bool
|.inl k,v=>Value.isInt k v
|.inr x,v=>Value.isStrOf x v
noncomputable def Gp(w:e6):mO->Int
|.inl k=>hashInt k
|.inr x=>hashStr w x
def jE:∀{k v},GQ k v=true->(∃i t,k=t9 i/\v=l9 i t)\/(∃x t,k=aq x/\v=ar x t)
|.inl i,v,h=>by
 obtain⟨t,e⟩:=Value.isInt_shape (k:=i) (v:=v) h;exact .inl ⟨i,t,kA,e⟩
|.inr x,v,h=>by
 obtain⟨t,e⟩:=Value.isStrOf_shape (x:=x) (v:=v) h;exact .inr ⟨x,t,kA,e⟩
def S3(i:Int)(t:Tok):GQ (.inl i) (.int i t)=true:=by simp[GQ,Value.isInt]
def S0(x:Str)(t:Tok):GQ (.inr x) (.str x t)=true:=by simp[GQ,Value.isStrOf]
def Uq(a b:Int):decide ((t9 a:mO)=t9 b)=(a==b):=by
 by_cases e:a=b
 ·subst e;simp
 ·have h:¬(t9 a:mO)=t9 b:=λq=>e (ae q);rw[b7 h];exact(beq_eq_false_iff_ne.mpr e).symm
def Tq(a b:Str):decide ((aq a:mO)=aq b)=decide (a=b):=by
 by_cases e:a=b
 ·subst e;simp
 ·have h:¬(aq a:mO)=aq b:=λq=>e (Sum.inr.inj q);rw[b7 h,b7 e]
def Ur(a:Int)(b:Str):decide ((t9 a:mO)=aq b)=false:=b7 (λq=>nomatch q)
def Ut(a:Str)(b:Int):decide ((aq a:mO)=t9 b)=false:=b7 (λq=>nomatch q)
noncomputable def jB(prog:cK)(w:e6):PySem.KeyKind prog w mO where
 is:=GQ
 hash:=Gp w
 inj:=λv a b ha hb=>by
  rcases jE ha with⟨i,t,rfl,rfl⟩ | ⟨x,t,rfl,rfl⟩
  ·rcases jE hb with⟨j,u,rfl,e⟩ | ⟨y,u,rfl,e⟩
   ·injection e with e1 _;rw[e1]
   ·exact nomatch e
  ·rcases jE hb with⟨j,u,rfl,e⟩ | ⟨y,u,rfl,e⟩
   ·exact nomatch e
   ·injection e with e1 _;rw[e1]
 byValue:=λk v h=>by
  rcases jE h with⟨i,t,rfl,rfl⟩ | ⟨x,t,rfl,rfl⟩<;>rfl
 pyHash:=λhv h=>by
  rcases jE hv with⟨i,t,rfl,rfl⟩ | ⟨x,t,rfl,rfl⟩
  ·exact wpAny_pyHash_int h
  ·exact wpAny_pyHash_str h
 eqBool:=λhu hv h=>by
  rcases jE hu with⟨i,t,rfl,rfl⟩ | ⟨x,t,rfl,rfl⟩
  ·rcases jE hv with⟨j,u,rfl,rfl⟩ | ⟨y,u,rfl,rfl⟩
   ·rw[Uq]at h;exact wpAny_eqBool_int h
   ·rw[Ur]at h;exact cg i t y u _ _ _ _ h
  ·rcases jE hv with⟨j,u,rfl,rfl⟩ | ⟨y,u,rfl,rfl⟩
   ·rw[Ut]at h;exact ci x t j u _ _ _ _ h
   ·rw[Tq]at h;exact wpAny_eqBool_str h
 «strs»:=λk x t v h=>by
  rcases jE h with⟨i,u,rfl,e⟩ | ⟨y,u,rfl,e⟩
  ·exact nomatch e
  ·injection e with e1 _
   subst e1;cases v<;>rfl
def LU(prog:cK)(w:e6)(i:Int)(t:Tok):(jB prog w).is (.inl i) (.int i t)=true:=S3 i t
def LT(prog:cK)(w:e6)(x:Str)(t:Tok):(jB prog w).is (.inr x) (.str x t)=true:=S0 x t
inductive V where
 |non | bl (b:Bool) | int (i:Int) | str (x:Str) | byt (b:Array UInt8) | flt (b:UInt64) | ref (a:Addr) | ty (n:String)
 deriving DecidableEq
def fS:V->Value->Prop
|.non,u=>u=k7
|.bl b,u=>u=z0 b
|.int i,u=>∃t,u=l9 i t
|.str x,u=>∃t,u=ar x t
|.byt b,u=>∃t,u=Value.bytes b t
|.flt b,u=>∃t,u=dj b t
|.ref a,u=>u=d5 a
|.ty n,u=>u=bf n
abbrev fQ:List V->List Value->Prop:=Paired fS
theorem fQ.length{b:List V}{a:List Value}(r:fQ b a):b.length=a.length:=x6 r
theorem fQ.get:∀{xs us}{i:Nat}{x},fQ xs us->xs[i]?=some x->∃u,us[i]?=some u/\fS x u
|_,_,_,_,.nil,e=>by simp at e
|_,_,0,_,.cons r _,e=>by simp at e;subst e;exact⟨_,kA,r⟩
|_,_,i+1,x,.cons _ t,e=>by
 obtain⟨u,a,b⟩:=fQ.get (i:=i) (x:=x) t (by simpa using e);exact⟨u,by simpa using a,b⟩
theorem fQ.set(r:fS x u):∀{b:List V}{a:List Value}(i:Nat),fQ b a->fQ (b.set i x) (a.set i u)
|_,_,_,.nil=>.nil
|_,_,0,.cons _ t=>.cons r t
|_,_,i+1,.cons q t=>.cons q (fQ.set r i t)
theorem fQ.append:∀{xs ys us ws},fQ xs us->fQ ys ws->fQ (xs++ys) (us++ws)
|_,_,_,_,.nil,s=>s
|_,_,_,_,.cons r t,s=>.cons r (fQ.append t s)
theorem fQ.take:∀{a:List V}{us:List Value}(n:Nat),fQ a us->fQ (a.take n) (us.take n)
|_,_,0,_=>.nil
|_,_,_+1,.nil=>.nil
|_,_,n+1,.cons r t=>.cons r (fQ.take n t)
theorem fQ.drop:∀{b:List V}{a:List Value}(n:Nat),fQ b a->fQ (b.drop n) (a.drop n)
|_,_,0,r=>r
|_,_,_+1,.nil=>.nil
|_,_,n+1,.cons _ t=>fQ.drop n t
def vT:Option V->Option Value->Prop
|some v,some u=>fS v u
|none,none=>True
|_,_=>False
def KV{a:Type}:List (a×V)->List (a×Value)->Prop:=Paired λ(p:a×V) (q:a×Value)=>p.1=q.1/\fS p.2 q.2
noncomputable def kV:mO->V
|.inl i=>.int i
|.inr x=>.str x
inductive HO where
 /-- a list -/
 |lst (xs:List V)
 /-- a tuple (never changes) -/
 |tup (xs:List V)
 /-- a dict whose keys are ints and texts;one whose keys are tuples of ints and texts (the empty one is both) -/
 |dK (kvs:List (mO×V)) | dT (kvs:List (List mO×V))
 /-- a set of ints: w5 members,w5 size -/
 |set (S:Int->Bool) (n:Nat)
 /-- an instance of the class at C,w5 dict at dx,w5 attributes -/
 |ins (C dx:Addr) (fs:List (Str×V))
 /-- the dict of the instance at x -/
 |own (x:Addr)
 /-- the dict of an exception -/
 |xd (fs:List (Str×V))
 /-- a bound method,f of x -/
 |met (f x:Addr)
 /-- a range object lo,lo+1,.. below hi -/
 |rng (lo hi:Int)
 /-- a thing that is known to the object (the script;a dict while a gb walks it): read,never written while it is so -/
 |frz (o:Obj) (u:HO)
 /-- a code object's table -/
 |tbl (ps:Array Value)
 /-- any other thing,by what is true of w5 one object (a def of nj own: SetO a S n:=HO.ext λh=>..) -/
 |ext (φ:Heap->Prop)
abbrev Hp:=Addr->Option HO
noncomputable def fG(H:Hp)(a:Addr)(o:HO):Hp:=λb=>if b=a then some o else H b
def cD{a:Addr}:fG H a o a=some o:=by unfold fG;rw[a9 rfl]
def cC{a b:Addr}(h:b≠a):fG H a o b=H b:=by unfold fG;rw[a8 h]
def BW{a:Addr}:fG (fG H a o) a u=fG H a u:=by
 funext b;unfold fG;split<;>rfl
def Jx{H:Hp}{a b:Addr}{o u:HO}(h:H a=some o)(c:H b=some u)(d:o≠u):a≠b:=by
 intro e;subst e;rw[h]at c;exact d (c5 c)
def gM{H:Hp}{a b:Addr}{o:HO}(h:H a=some o)(c:H b=none):a≠b:=by
 intro e;subst e;rw[h]at c;cases c
section
variable(P:cK)(w:e6)
def FO(h:Heap)(a:Addr)(b:Array Value):Prop:=∃o,h.get? a=some o/\o.cls=.type "tuple"/\∃n,o.data=.seq b n/\o.dict=none
def FO.tup{h}{a:Addr}{items}(x:FO h a items):ie h a items:=let ⟨o,e,c,n,d,_⟩:=x;⟨o,e,c,n,d⟩
theorem FO.lt{h:Heap}{a:Addr}(x:FO h a items):a<h.objs.size:=x.tup.lt
def FO.new(h:Heap)(a:Array Value):FO (h.push { cls:=.type "tuple",data:=.seq a }) h.objs.size a:=⟨_,aY _ kA,kA,_,kA,kA⟩
def ZP(a:Obj):Prop:=∃(vs:Array Value)(q:Str)(t:Tok),a.data=.fields vs/\vs[1]?=some (.str q t)
def jG(H:Hp)(h:Heap)(a:Addr):HO->Prop
|.lst d=>d.length<=bF/\∃(b:List Value)(n:Nat),fQ d b/\h.get? a=some { cls:=.type "list",data:=.seq b.toArray n }
|.tup d=>d.length<=bF/\∃b:List Value,fQ d b/\FO h a b.toArray
|.dK kvs=>kvs.length<=bF/\(a==j3)=false/\∃vs,KV kvs vs/\h.DictOf (jB P w) a vs
|.dT kvs=>kvs.length<=bF/\(a==j3)=false/\∃d:List (List mO×Addr×Value),
  Paired (λ(p:List mO×V) (q:List mO×Addr×Value)=>p.1=q.1/\H q.2.1=some (.tup (p.1.map kV))/\fS p.2 q.2.2) kvs d /\
  ∃o i m,h.get? a=some o/\o.ExactDict/\o.data=.dict i m/\i.toList=d.map (entryOfKey (ce (jB P w)))/\(d.map (·.1)).Nodup
|.set S n=>h.SetOf (intKind P w) a S n
|.ins C dx fs=>H dx=some (.own a)/\fs.length<=1000/\dx≠a/\h.get? a=some (jQ C dx) /\
  ∃e,h.Ns1 dx e/\(∀f,vT (fs.lookup f) (e f))/\cr e (fs.map (·.1))
|.own _=>∃o,h.get? a=some o
|.xd fs=>∃e,h.Ns1 a e/\∀f,vT (fs.lookup f) (e f)
|.rng lo hi=>∃t u v,h.get? a=some { cls:=.type "range",data:=.fields #[.int lo t,.int hi u,.int 1 v] }
|.frz o u=>h.get? a=some o/\jG H h a u
|.tbl _=>∃qs:Array Value,h.get? a=some { cls:=.none,data:=.fields qs }/\TriplesOk qs.toList/\∀(p:Pos)(c:Value),codeAmong p qs.toList=some c->∃g l,c=.ref g/\H g=some (.frz l (.own a))/\ZP l
|.met f x=>h.get? a=some (yY (.ref f) (.ref x))
|.ext φ=>φ h/\(∃o,h.get? a=some o)/\∀j k:Heap,φ j->(∀o,j.get? a=some o->k.get? a=some o)->φ k
def sO(H:Hp)(h:Heap):Prop:=∀a o,H a=some o->jG P w H h a o
end
section
variable{P:cK}{w:e6}{H g:Hp}{h h':Heap}{a:Addr}{o:HO}
theorem jG.lt(x:jG P w H h a o):a<h.objs.size:=by
 cases o with
 |lst b=>obtain⟨_,_,_,_,e⟩:=x;exact bG e
 |tup b=>obtain⟨_,_,_,p⟩:=x;exact p.lt
 |dK kvs=>obtain⟨_,_,_,_,o,_,_,e,_⟩:=x;exact bG e
 |dT kvs=>obtain⟨_,_,_,_,o,_,_,e,_⟩:=x;exact bG e
 |set S n=>obtain⟨o,_,_,_,e,_⟩:=x;exact bG e
 |ins C dx fs=>obtain⟨_,_,_,e,_⟩:=x;exact bG e
 |own y=>obtain⟨_,e⟩:=x;exact bG e
 |xd fs=>obtain⟨_,⟨_,_,_,e,_⟩,_⟩:=x;exact bG e
 |rng lo c=>obtain⟨_,_,_,e⟩:=x;exact bG e
 |frz ob u=>obtain⟨e,_⟩:=x;exact bG e
 |tbl d=>obtain⟨_,e,_⟩:=x;exact bG e
 |met f y=>exact bG (show h.get? a=some _ from x)
 |ext i=>obtain⟨_,⟨_,e⟩,_⟩:=x;exact bG e
theorem Paired.mapP{c d:Type}{F G:c->d->Prop}:∀{l₁ l₂},Paired F l₁ l₂->(∀a b,F a b->G a b)->Paired G l₁ l₂
|_,_,.nil,_=>.nil
|_,_,.cons r t,f=>.cons (f _ _ r) (Paired.mapP t f)
def jG.stay(x:jG P w H h a o)(k:∀b u,(b=a\/H b=some (.own a))->h.get? b=some u->h'.get? b=some u)
  (F:∀b,H b=some (.own a)->g b=some (.own a)) (G:∀b m,H b=some (.tup m)->g b=some (.tup m)) (E:∀b ob u,H b=some (.frz ob u)->g b=some (.frz ob u):=by exactλ_ _ _ q=>q):jG P w g h' a o:=by
 induction o with
 |lst m=>obtain⟨z,l,n,r,e⟩:=x;exact⟨z,l,n,r,k _ _ (.inl kA) e⟩
 |tup m=>obtain⟨z,l,r,ob,e,c⟩:=x;exact⟨z,l,r,ob,k _ _ (.inl kA) e,c⟩
 |dK kvs=>obtain⟨z,y,vs,r,ob,j,i,e,c⟩:=x;exact⟨z,y,vs,r,ob,j,i,k _ _ (.inl kA) e,c⟩
 |dT kvs=>
  obtain⟨z,y,m,r,ob,j,i,e,c⟩:=x;exact⟨z,y,m,Paired.mapP r λp q z=>⟨z.1,G _ _ z.2.1,z.2.2⟩,ob,j,i,k _ _ (.inl kA) e,c⟩
 |set S n=>obtain⟨ob,j,i,t,e,c⟩:=x;exact⟨ob,j,i,t,k _ _ (.inl kA) e,c⟩
 |ins C dx fs=>
  obtain⟨d,z,ne,e,s,⟨A,j,i,B,c⟩,r⟩:=x;exact⟨F _ d,z,ne,k _ _ (.inl kA) e,s,⟨A,j,i,k _ _ (.inr d) B,c⟩,r⟩
 |own y=>obtain⟨ob,e⟩:=x;exact⟨ob,k _ _ (.inl kA) e⟩
 |xd fs=>obtain⟨s,⟨A,j,i,e,c⟩,r⟩:=x;exact⟨s,⟨A,j,i,k _ _ (.inl kA) e,c⟩,r⟩
 |rng lo J=>obtain⟨t,u,v,e⟩:=x;exact⟨t,u,v,k _ _ (.inl kA) e⟩
 |frz ob u I=>obtain⟨e,q⟩:=x;exact⟨k _ _ (.inl kA) e,I q⟩
 |tbl K=>
  obtain⟨qs,e,t,z⟩:=x;exact⟨qs,k a _ (.inl kA) e,t,λp c q=>let ⟨c',oc,h1,h2,h3⟩:=z p c q;⟨c',oc,h1,E _ _ _ h2,h3⟩⟩
 |met f y=>
  have e:h.get? a=some (yY (.ref f) (.ref y)):=x;show h'.get? a=some (yY (.ref f) (.ref y));exact k a _ (.inl kA) e
 |ext L=>obtain⟨p,⟨o,e⟩,st⟩:=x;exact⟨st _ _ p λo q=>k _ _ (.inl kA) q,⟨o,k _ _ (.inl kA) e⟩,st⟩
theorem sO.lt(x:sO P w H h)(e:H a=some o):a<h.objs.size:=(x a o e).lt
def sO.fresh(x:sO P w H h)(e:h.objs.size<=a):H a=none:=by
 cases q:H a with
 |none=>rfl
 |some u=>exact b9 (cU (x.lt q) e) (hZ _)
def sO.kept(x:sO P w H h)(k:∀b u,h.get? b=some u->h'.get? b=some u):sO P w H h':=λa o e=>
 (x a o e).stay (λb u _ q=>k b u q) (λ_ q=>q) λ_ _ q=>q
def sO.laid(x:sO P w H h)(k:∀b u,h.get? b=some u->h'.get? b=some u)(i:h.objs.size<=a)(new:jG P w (fG H a o) h' a o):sO P w (fG H a o) h':=λb u e=>by
 have d:=x.fresh i;by_cases f:b=a
 ·subst f;rw[cD]at e;cases e;exact new
 ·rw[cC f]at e;exact(x b u e).stay (λc v _ q=>k c v q) (λc q=>by rw[cC (gM q d)];exact q) (λc j q=>by rw[cC (gM q d)];exact q) λc ob v q=>by rw[cC (gM q d)];exact q
end
def Rd(H:Hp)(a:Addr)(u:HO):Prop:=H a=some u\/∃o,H a=some (.frz o u)
def Rd.ok{h}{a:Addr}(r:Rd H a u)(x:sO P w H h):jG P w H h a u:=by
 rcases r with r | ⟨o,r⟩
 ·exact x a u r
 ·obtain⟨_,q⟩:=x a _ r;exact q
def xl:Option HO->Prop
|some (.lst _)=>True
|some (.dK _)=>True
|some (.dT _)=>True
|some (.set _ _)=>True
|some (.ins _ _ _)=>True
|some (.ext _)=>True
|_=>False
section
variable{P:cK}{w:e6}{H:Hp}{h a:Heap}{x e:Addr}{d:HO}
def sO.write(ok:sO P w H h)(i:xl (H x))(o:e=x\/H e=some (.own x))(k:∀b u,b≠e->h.get? b=some u->a.get? b=some u)(n:∃u,a.get? e=some u)
  (new:jG P w (fG H x d) a x d):sO P w (fG H x d) a:=λb u q=>by
 have g:∀c y,H c=some (.own y)->c≠x:=λc y r z=>by subst z;rw[r]at i;exact i
 have j:∀c m,H c=some (.tup m)->c≠x:=λc m r z=>by subst z;rw[r]at i;exact i
 by_cases l:b=x
 ·subst l;rw[cD]at q;cases q;exact new
 ·rw[cC l]at q;by_cases f:b=e
  ·have p:H b=some (.own x):=by
    rcases o with z | z
    ·exact b9 (f.trans z) l
    ·rw[f];exact z
   rw[q]at p;cases p;obtain⟨v,s⟩:=n;exact⟨v,by rw[f];exact s⟩
  ·refine(ok b u q).stay (λc v hc r=>k c v ?_ r) (λc r=>by rw[cC (g c b r)];exact r) (λc m r=>by rw[cC (j c m r)];exact r) λc ob v r=>by rw[cC (λz=>by subst z;rw[r]at i;exact i)];exact r
   rcases hc with rfl | hc
   ·exact f
   ·rintro rfl;rcases o with z | z
    ·exact g c b hc z
    ·rw[hc]at z;cases z;exact l kA
end
structure Un(fs ex:List Addr)(H H':Hp)(h h':Heap):Prop where
 keep:∀b o,h.get? b=some o->H b=none->b∉fs->b∉ex->h'.get? b=some o
 slot:∀b o,h.get? b=some o->H b=none->b∈fs->b∉ex->∃sl,h'.get? b=some { o with slots:=sl }
 free:∀b o,h.get? b=some o->H b=none->b∉ex->H' b=none
 there:∀b o,h.get? b=some o->b∉ex->∃o',h'.get? b=some o'
 tups:∀b xs,H b=some (.tup xs)->H' b=some (.tup xs)
 frzs:∀b o u,H b=some (.frz o u)->H' b=some (.frz o u)
 tbls:∀b ps,H b=some (.tbl ps)->∃more,H' b=some (.tbl (ps++more))
section
variable{fs ex:List Addr}{H f g:Hp}{h d i h':Heap}{a x e:Addr}{o:HO}
def Un.any(u:Un fs ex H f h d){b:Addr}(q:h.get? b=some ob)(n:H b=none)(j:b∉ex):∃k,d.get? b=some { ob with slots:=k }:=by
 by_cases c:b∈fs
 ·exact u.slot b ob q n c j
 ·exact⟨ob.slots,u.keep b ob q n c j⟩
def Un.trans(a:Un fs ex H f h d)(b:Un fs ex f g d i):Un fs ex H g h i where
 keep:=λc ob q n hc hx=>b.keep c ob (a.keep c ob q n hc hx) (a.free c ob q n hx) hc hx
 slot:=λc ob q n hc hx=>by
  obtain⟨sl,e1⟩:=a.slot c ob q n hc hx;obtain⟨lu,e2⟩:=b.slot c _ e1 (a.free c ob q n hx) hc hx;exact⟨lu,e2⟩
 free:=λc ob q n hx=>by
  obtain⟨o',e1⟩:=a.there c ob q hx;exact b.free c o' e1 (a.free c ob q n hx) hx
 there:=λc ob q hx=>by
  obtain⟨o',e1⟩:=a.there c ob q hx;exact b.there c o' e1 hx
 tups:=λc xs q=>b.tups c xs (a.tups c xs q)
 frzs:=λc ob xs q=>b.frzs c ob xs (a.frzs c ob xs q)
 tbls:=λc ps q=>by
  obtain⟨m1,e1⟩:=a.tbls c ps q;obtain⟨m2,e2⟩:=b.tbls c _ e1;exact⟨m1++m2,by rw[e2,UI]⟩
def Un.kept(k:∀b u,h.get? b=some u->h'.get? b=some u):Un fs ex H H h h':=
 ⟨λb ob q _ _ _=>k b ob q,λb ob q _ _ _=>⟨ob.slots,k b ob q⟩,λ_ _ _ n _=>n,λb ob q _=>⟨ob,k b ob q⟩,λ_ _ q=>q,λ_ _ _ q=>q,λ_ c q=>⟨#[],by rw[q];simp⟩⟩
def Un.refl:Un fs ex H H h h:=Un.kept λ_ _ q=>q
def Un.laid(k:∀b u,h.get? b=some u->h'.get? b=some u)(hp:h.objs.size<=a)(hn:H a=none):Un fs ex H (fG H a o) h h' where
 keep:=λb u q _ _ _=>k b u q
 slot:=λb u q _ _ _=>⟨u.slots,k b u q⟩
 free:=λb u q n _=>by rw[cC (dD (cU (bG q) hp))];exact n
 there:=λb u q _=>⟨u,k b u q⟩
 tups:=λb xs q=>by rw[cC (gM q hn)];exact q
 frzs:=λb u xs q=>by rw[cC (gM q hn)];exact q
 tbls:=λb ps q=>⟨#[],by rw[cC (gM q hn),q];simp⟩
def Un.write(j:xl (H x))(t:e=x\/H e=some (.own x))(k:∀b u,b≠e->h.get? b=some u->h'.get? b=some u)(l:∃u,h'.get? e=some u):Un fs ex H (fG H x o) h h':=by
 have s:∀b,H b=none->b≠x:=λb n z=>by subst z;rw[n]at j;exact j
 have p:∀b,H b=none->b≠e:=λb n z=>by
  subst z;rcases t with r | r
  ·exact s b n r
  ·rw[n]at r;cases r
 have m:∀b u,H b=some u->¬xl (some u)->b≠x:=λb u q nm z=>by subst z;rw[q]at j;exact nm j
 refine⟨λb u q n _ _=>k b u (p b n) q,λb u q n _ _=>⟨u.slots,k b u (p b n) q⟩,λb u q n _=>by rw[cC (s b n)];exact n,λb u q _=>?_,
  λb v q=>by rw[cC (m b _ q λz=>z)];exact q,λb u v q=>by rw[cC (m b _ q λz=>z)];exact q,λb w q=>⟨#[],by rw[cC (m b _ q λz=>z),q];simp⟩⟩
 by_cases c:b=e
 ·subst c;exact l
 ·exact⟨u,k b u c q⟩
end
noncomputable def trk(h:Heap)(H:Hp):List Addr:=(fZ h.objs.size).filter λa=>(H a).isSome
noncomputable def JD(h:Heap)(H:Hp):Heap:=PySem.W.hideAll h (trk h H)
def S6(h:Heap)(H:Hp):(JD h H).objs.size=h.objs.size:=PySem.W.hideAll_size _ _
def YB{h:Heap}{b:Addr}(e:h.get? b=some o)(n:H b=none):(JD h H).get? b=some o:=
 PySem.W.hideAll_get _ e λa=>by
  have q:(H b).isSome=true:=(cW.mp a).2;rw[n]at q;simp at q
def Xh{h:Heap}{H:Hp}{b:Addr}(e:(JD h H).get? b=some o):h.get? b=some o/\H b=none:=by
 have a:h.get? b=some o:=PySem.W.of_hideAll (trk h H) e;refine⟨a,?_⟩
 cases q:H b with
 |none=>rfl
 |some x=>
  have c:b∈trk h H:=cW.mpr ⟨pZ.mpr (bG a),by simp[q]⟩;have z:(JD h H).get? b=none:=PySem.W.hideAll_none (trk h H) c;rw[z]at e;cases e
noncomputable def Vu(g h:Heap)(L:Addr):List (Addr×Obj):=(fZ h.objs.size).filterMap λa=>if a=L\/(g.get? a).isSome=true then none else(h.get? a).map λo=>(a,o)
noncomputable def jN(g h:Heap)(L d:Addr):List (Addr×Obj):=(Vu g h L).filter λp=>decide (p.1≠d)
structure Mod(K:aI)(mg:Str->Option Value)(base:Heap):Prop where
 kin:K.In base
 glob:base.Ns gQ mg
 blt:∃mb,base.Ns m9 mb/\∀x:Str,x≠"__name__"->mb x=d7 x
 nolimit:base.NoLimit
 bmod:∃bm o,mg "__builtins__"=some (.ref bm)/\bm≠m9/\base.get? bm=some o/\o.cls=.type "module"/\o.dict=some m9/\o.data=.plain
set_option genInjectivity false in
structure Cx where
 prog:cK
 w:e6
 K:aI
 mg:Str->Option Value
 base:Heap
 A:d8
 N:List Str
 s₀:Shared
 H₀:Hp
 env:Env
 outer:List Env
 stack:List Env
 ex:List Addr
 fn:Str->Bool
 calm:Bool
 pn:List (Addr×Obj)
 xe:Value->Shared->Prop
noncomputable def L7(l:List Env):List Addr:=l.filterMap (·.frame)
noncomputable abbrev Cx.fs(X:Cx):List Addr:=L7 X.outer
def yg(a:Scope)(x:Str):Prop:=a.names.lookup x=some .local\/a.names.lookup x=some .cell\/a.names.lookup x=some .free
def UM(a:Scope)(x:Str):Prop:=a.names.lookup x=some .local\/a.names.lookup x=some .cell
def Gc(env:Env)(h:Heap)(m:Str->Option Value)(x:Str)(u:Value):Prop:=
 (env.kindOf x=some .local/\m x=some u)\/((env.kindOf x=some .cell\/env.kindOf x=some .free)/\∃c,env.cells.lookup x=some c/\h.IsCell c (some u))
def Tb(H:Hp):Prop:=∀P,tabA=some P->∃a,H P=some (.tbl a)
structure Cx.Ok(X:Cx):Prop where
 mod:Mod X.K X.mg X.base
 kind:X.env.scope.kind=.function
 glob:X.env.globals=gQ
 blt:X.env.builtins=m9
 above:X.s₀.heap.objs.size<=X.env.locals
 inj:∀x y c,X.env.cells.lookup x=some c->X.env.cells.lookup y=some c->x=y
 has:∀x,(X.env.kindOf x=some .cell\/X.env.kindOf x=some .free)->∃c,X.env.cells.lookup x=some c
 cab:∀x c,X.fn x=true->X.env.cells.lookup x=some c->X.s₀.heap.objs.size<=c
 hd:X.calm=true->X.A.handled=none
 frames:X.A.frames=some X.stack
 stk:X.stack=X.outer\/(X.stack=X.env::X.outer/\X.env.frame=some X.env.locals)
 exf:∀b∈X.ex,b≠X.env.locals/\∀x c,X.env.cells.lookup x=some c->c≠b
 bs:∀b o,X.base.get? b=some o->X.s₀.heap.get? b=some o/\X.H₀ b=none
 bsz:X.base.objs.size<=X.s₀.heap.objs.size
 noex:∀b o,X.base.get? b=some o->b∉X.ex
 exfs:∀b∈X.ex,b∉X.fs
 funs:X.s₀.heap.FunFrames X.base X.outer
 frf:∀b∈X.fs,X.H₀ b=none
 tab:Tb X.H₀
structure dJ(X:Cx)(pins:List (Addr×Obj))(σ:List (Option V))(H:Hp)(s:Shared):Prop where
 ok:X.Ok
 os:s.os=X.s₀.os
 bare:v4 s.gens
 base:Un X.fs X.ex X.H₀ H X.s₀.heap s.heap
 loc:∃m,s.heap.Ns X.env.locals m/\∀(i:Nat)(x:Str)(v:V),X.N[i]?=some x->σ[i]?=some (some v)->yg X.env.scope x->∃u,fS v u/\Gc X.env s.heap m x u
 cell:∀x c,X.env.cells.lookup x=some c->∃v,s.heap.IsCell c v
 free:H X.env.locals=none
 freeC:∀x c,X.env.cells.lookup x=some c->H c=none
 pin:∀p∈X.pn++pins,s.heap.get? p.1=some p.2/\H p.1=none/\p.1≠X.env.locals/\p.1∉X.fs/\∀v,p.2.data≠.cell v
 hok:sO X.prog X.w H s.heap
 len:σ.length=X.N.length
section
variable{X:Cx}{f:List (Addr×Obj)}{g:List (Option V)}{H H':Hp}{s:Shared}{h':Heap}
def Cx.Ok.nofr(ok:X.Ok){b:Addr}(e:X.base.get? b=some o):b∉X.fs:=λa=>by
 have:=(ok.funs.mem a).1;rw[e]at this;cases this
theorem dJ.bs(I:dJ X f g H s):∀b o,X.base.get? b=some o->s.heap.get? b=some o/\H b=none:=λb o e=>
 ⟨I.base.keep b o (I.ok.bs b o e).1 (I.ok.bs b o e).2 (I.ok.nofr e) (I.ok.noex b o e),I.base.free b o (I.ok.bs b o e).1 (I.ok.bs b o e).2 (I.ok.noex b o e)⟩
def dJ.bk(I:dJ X f g H s):∀b o,X.base.get? b=some o->s.heap.get? b=some o:=λb o e=>(I.bs b o e).1
theorem dJ.mod(I:dJ X f g H s):Mod X.K X.mg X.base:=I.ok.mod
def dJ.kIn(I:dJ X f g H s):X.K.In s.heap:=I.ok.mod.kin.keeps I.bk
theorem dJ.nolimit(I:dJ X f g H s):s.heap.NoLimit:=I.ok.mod.nolimit.keeps I.bk
theorem dJ.lt(I:dJ X f g H s):X.env.locals<s.heap.objs.size:=let ⟨_,hn,_⟩:=I.loc;hn.lt
def dJ.sz(I:dJ X f g H s):X.s₀.heap.objs.size<=s.heap.objs.size:=bE I.ok.above (iB I.lt)
def dJ.nofs(I:dJ X f g H s){a:Addr}(h:s.heap.objs.size<=a):a∉X.fs:=λb=>by
 obtain⟨_,o,c,_⟩:=I.ok.funs.mem b;exact b9 (cU (bG c) (bE I.sz h)) (hZ _)
def dJ.cne(I:dJ X f g H s):∀x c,X.env.cells.lookup x=some c->c≠X.env.locals:=λx c e z=>by
 obtain⟨v,o,d,hd⟩:=I.cell x c e;obtain⟨m,⟨j,i,h,b,a,_⟩,_⟩:=I.loc;rw[z,b]at d;cases d;rw[a]at hd;cases hd
theorem dJ.funs(I:dJ X f g H s):s.heap.FunFrames X.base X.outer:=by
 have all:∀l,(∀b∈L7 l,b∈X.fs)->X.s₀.heap.FunFrames X.base l->s.heap.FunFrames X.base l:=by
  intro l
  induction l with
  |nil=>intro _ _;trivial
  |cons env r n=>
   intro h i;obtain⟨hk,⟨L,o,d,j,k,hd⟩,m⟩:=i;have a:L∈X.fs:=h L (by unfold L7;rw[pO,d];exact aO);obtain⟨p,e⟩:=I.base.slot L o k (I.ok.frf L a) a λz=>I.ok.exfs L z a;exact⟨hk,⟨L,_,d,j,e,hd⟩,n (λb c=>h b (by unfold L7;rw[pO,d];exact aJ _ c)) m⟩
 exact all X.outer (λ_ c=>c) I.ok.funs
theorem dJ.stack(I:dJ X f g H s):s.heap.FunFrames X.base X.stack:=by
 rcases I.ok.stk with e | ⟨e,a⟩
 ·rw[e];exact I.funs
 ·rw[e];obtain⟨m,b,_⟩:=I.loc;refine .cons (by rw[I.ok.kind];decide) a b ?_ I.funs;exact Heap.get?_none_of_le (bE I.ok.bsz I.ok.above)
def dJ.stkSub(I:dJ X f g H s):∀b∈L7 X.stack,b∈X.env.locals::X.fs:=λb a=>by
 rcases I.ok.stk with e | ⟨e,c⟩
 ·rw[e]at a;exact aJ _ a
 ·rw[e]at a;unfold L7 at a;rw[pO,c]at a;exact a
def dJ.stkFree(I:dJ X f g H s):∀b∈L7 X.stack,H b=none:=λb hb=>by
 rcases aR.mp (I.stkSub b hb)with e | hb
 ·rw[e];exact I.free
 ·obtain⟨_,o,a,_⟩:=I.ok.funs.mem hb;exact I.base.free b o a (I.ok.frf b hb) λz=>I.ok.exfs b z hb
def dJ.step{g':Array GenState}{t':Nat}{d':Drawn}{ch:List Addr}(I:dJ X f g H s)
  (j:∀b∈ch,(b∈X.ex\/X.s₀.heap.objs.size<=b)/\b≠X.env.locals/\(∀x c,X.env.cells.lookup x=some c->c≠b)/\∀p∈X.pn++f,p.1≠b)
  (keep:∀b o,b≠X.env.locals->b∉X.fs->b∉ch->s.heap.get? b=some o->H b=none->h'.get? b=some o)
  (slot:∀b o,b≠X.env.locals->b∈X.fs->b∉ch->s.heap.get? b=some o->H b=none->∃M,h'.get? b=some { o with slots:=M }) (free:∀b o,b∉ch->s.heap.get? b=some o->H b=none->H' b=none)
  (there:∀b o,b∉ch->s.heap.get? b=some o->∃K,h'.get? b=some K)
  (tups:∀b B,H b=some (.tup B)->H' b=some (.tup B)) (frzs:∀b o u,H b=some (.frz o u)->H' b=some (.frz o u)) (tbls:∀b L,H b=some (.tbl L)->∃G,H' b=some (.tbl (L++G)))
  (ns:∀m,s.heap.Ns X.env.locals m->h'.Ns X.env.locals m) (hok:sO X.prog X.w H' h') (S:v4 g') :
  dJ X f g H' { s with heap:=h',gens:=g',drawn:=d',toks:=t' }:=by
 have J:∀b o,X.s₀.heap.get? b=some o->b≠X.env.locals:=λb o e=>dD (cU (bG e) I.ok.above)
 have A:∀b o,X.s₀.heap.get? b=some o->b∉X.ex->b∉ch:=λb o e a C=>by
  rcases(j b C).1 with z | z
  ·exact a z
  ·exact b9 (cU (bG e) z) (hZ _)
 have h:∀x c,X.env.cells.lookup x=some c->∀v,s.heap.IsCell c v->h'.IsCell c v:=λx c e v ⟨o,E,hd⟩=>by
  have t:c∉ch:=λz=>(j c z).2.2.1 x c e kA;by_cases O:c∈X.fs
  ·obtain⟨M,q⟩:=slot c o (I.cne x c e) O t E (I.freeC x c e);exact⟨_,q,hd⟩
  ·exact⟨o,keep c o (I.cne x c e) O t E (I.freeC x c e),hd⟩
 refine⟨I.ok,I.os,S,⟨λb o e n C a=>?_,λb o e n C a=>?_,λb o e n a=>?_,λb o e a=>?_,λb B e=>tups b B (I.base.tups b B e),λb o B e=>frzs b o B (I.base.frzs b o B e),λb L e=>?_⟩,?_,λx c e=>?_,?_,λx c e=>?_,λp P=>?_,hok,I.len⟩
 ·exact keep b o (J b o e) C (A b o e a) (I.base.keep b o e n C a) (I.base.free b o e n a)
 ·obtain⟨M,y⟩:=I.base.slot b o e n C a;obtain⟨N,F⟩:=slot b _ (J b o e) C (A b o e a) y (I.base.free b o e n a);exact⟨N,F⟩
 ·obtain⟨K,y⟩:=I.base.there b o e a;exact free b K (A b o e a) y (I.base.free b o e n a)
 ·obtain⟨K,y⟩:=I.base.there b o e a;exact there b K (A b o e a) y
 ·obtain⟨m1,y⟩:=I.base.tbls b L e;obtain⟨W,F⟩:=tbls b _ y;exact⟨m1++W,by rw[F,UI]⟩
 ·obtain⟨m,U,T⟩:=I.loc;refine⟨m,ns m U,λi x v y F R=>?_⟩;obtain⟨u,r,l⟩:=T i x v y F R;refine⟨u,r,?_⟩;rcases l with l | ⟨k,c,e,z⟩
  ·exact .inl l
  ·exact .inr ⟨k,c,e,h x c e _ z⟩
 ·obtain⟨v,z⟩:=I.cell x c e;exact⟨v,h x c e v z⟩
 ·obtain⟨m,⟨o,_,_,E,_⟩,_⟩:=I.loc;exact free _ o (λz=>(j _ z).2.1 kA) E I.free
 ·obtain⟨v,o,E,hd⟩:=I.cell x c e;exact free c o (λz=>(j c z).2.2.1 x c e kA) E (I.freeC x c e)
 ·obtain⟨e,n,ne,Q,d⟩:=I.pin p P;have t:p.1∉ch:=λz=>(j p.1 z).2.2.2 p P kA;exact⟨keep p.1 p.2 ne Q t e n,free p.1 p.2 t e n,ne,Q,d⟩
def dJ.un{t':Nat}(I:dJ X f g H s)(u:Un X.fs [] H H' s.heap h')(hok:sO X.prog X.w H' h'):dJ X f g H' { s with heap:=h',toks:=t' }:=by
 obtain⟨m,⟨o,q,p,i,r⟩,_⟩:=id I.loc;obtain⟨x,j⟩:=u.any i I.free hH
 exact I.step (g':=s.gens) (d':=s.drawn) (ch:=[]) (λ_ z=>nomatch z) (λb o _ h _ e n=>u.keep b o e n h hH) (λb o _ h _ e n=>u.slot b o e n h hH) (λb o _ e n=>u.free b o e n hH) (λb o _ e=>u.there b o e hH) u.tups u.frzs u.tbls (λt k=>by
  obtain⟨v,d,c,a,l⟩:=k;rw[i]at a;cases a;exact⟨_,d,c,j,l⟩) hok I.bare
def dJ.call{g':Array GenState}{t':Nat}{d':Drawn}{ch:List Addr}(I:dJ X f g H s)(u:Un (L7 X.stack) ch H H' s.heap h')(hok:sO X.prog X.w H' h')(t:v4 g')
  (d:∀b∈ch,(b∈X.ex\/X.s₀.heap.objs.size<=b)/\b≠X.env.locals/\(∀x c,X.env.cells.lookup x=some c->c≠b)/\∀p∈X.pn++f,p.1≠b) :
  dJ X f g H' { s with heap:=h',gens:=g',drawn:=d',toks:=t' }:=by
 obtain⟨m,⟨o,B,A,l,r⟩,_⟩:=id I.loc;obtain⟨F,k⟩:=u.any l I.free λz=>(d _ z).2.1 kA
 exact I.step (ch:=ch) d (λb o k q a e n=>u.keep b o e n (λz=>(aR.mp (I.stkSub b z)).elim k q) a) (λb o _ _ a e n=>u.any e n a) (λb o a e n=>u.free b o e n a) (λb o a e=>u.there b o e a) u.tups u.frzs u.tbls (λC v=>by
  obtain⟨E,j,i,h,y⟩:=v;rw[l]at h;cases h;exact⟨_,j,i,k,y⟩) hok t
def dJ.turned{t':Nat}{a:Addr}(I:dJ X f g H s)(k:∀b o,b≠a->s.heap.get? b=some o->h'.get? b=some o)(C:H a=none)(i:a≠X.env.locals)
  (t:a∈X.ex\/X.s₀.heap.objs.size<=a) (w:∀x c,X.env.cells.lookup x=some c->c≠a) (y:∀p∈X.pn++f,p.1≠a):dJ X f g H { s with heap:=h',toks:=t' }:=by
 have h:∀b u,H b=some u->b≠a:=λb u e z=>by rw[z,C]at e;cases e
 refine I.step (g':=s.gens) (d':=s.drawn) (ch:=[a]) (λb A=>?_) (λb o _ _ d e _=>k b o (λz=>d (by simp[z])) e) (λb o _ _ d e _=>⟨o.slots,k b o (λz=>d (by simp[z])) e⟩) (λ_ _ _ _ n=>n)
  (λb o d e=>⟨o,k b o (λz=>d (by simp[z])) e⟩) (λ_ _ e=>e) (λ_ _ _ e=>e) (λb F e=>⟨#[],by rw[e];simp⟩) (λm B=>?_) (λb u e=>?_) I.bare
 ·have e:b=a:=by simpa using A
  subst e;exact⟨t,i,w,y⟩
 ·obtain⟨o,l,j,E,r⟩:=B;exact⟨o,l,j,k _ o (k6 i) E,r⟩
 ·refine(I.hok b u e).stay (λc v d q=>k c v ?_ q) (λ_ q=>q) λ_ _ q=>q;rcases d with z | z
  ·rw[z];exact h b u e
  ·exact h c _ z
def dJ.tok(I:dJ X f g H s)(t:Nat):dJ X f g H { s with toks:=t }:=I.un (h':=s.heap) (t':=t) Un.refl I.hok
theorem dJ.kept{t':Nat}(I:dJ X f g H s)(k:∀b u,s.heap.get? b=some u->h'.get? b=some u):dJ X f g H { s with heap:=h',toks:=t' }:=I.un (Un.kept k) (I.hok.kept k)
theorem dJ.laid{a:Addr}{t':Nat}(I:dJ X f g H s)(k:∀b u,s.heap.get? b=some u->h'.get? b=some u)(c:s.heap.objs.size<=a)(new:jG X.prog X.w (fG H a o) h' a o) :
  dJ X f g (fG H a o) { s with heap:=h',toks:=t' }:=I.un (Un.laid k c (I.hok.fresh c)) (I.hok.laid k c new)
theorem dJ.write{x e:Addr}{h:Nat}(I:dJ X f g H s)(d:xl (H x))(c:e=x\/H e=some (.own x))(k:∀b u,b≠e->s.heap.get? b=some u->h'.get? b=some u)(a:∃u,h'.get? e=some u)
  (new:jG X.prog X.w (fG H x o) h' x o):dJ X f g (fG H x o) { s with heap:=h',toks:=h }:=I.un (Un.write d c k a) (I.hok.write d c k a new)
def dJ.pins_of(I:dJ X f g H s)(h:∀p∈pins',s.heap.get? p.1=some p.2/\H p.1=none/\p.1≠X.env.locals/\p.1∉X.fs/\∀v,p.2.data≠.cell v):dJ X pins' g H s:=
 ⟨I.ok,I.os,I.bare,I.base,I.loc,I.cell,I.free,I.freeC,λp a=>(cL.mp a).elim (λz=>I.pin p (jV _ z)) (h p),I.hok,I.len⟩
def LP{N:List Str}(e:N.Nodup){i j:Nat}(a:N[i]?=some x)(b:N[j]?=some x):i=j:=by
 obtain⟨h,c⟩:=aG.mp a;obtain⟨k,d⟩:=aG.mp b;exact(Z3 e).mp (c.trans d.symm)
def F9{E:Value->Shared->Prop}{i:Nat}{Q:Unit->Shared->Prop}(I:dJ X f g H s)(hN:X.N.Nodup)(T:X.N[i]?=some x)(C:UM X.env.scope x)(r:fS v u)
  (h:∀s',dJ X f (g.set i (some v)) H s'->(∃a,fV a s.heap s'.heap/\(a=X.env.locals\/X.env.cells.lookup x=some a))->Q () s') (hf:autoParam (X.fn x=true\/X.env.scope.names.lookup x=some .local) zzw._auto_1):wpAny M A (storeName X.env x u) Q E s:=by
 obtain⟨m,hn,hl⟩:=id I.loc;have S:(X.env.scope.kind==.class||(X.env.scope.kind==.module&&X.env.locals != X.env.globals))=false:=by rw[I.ok.kind];rfl
 have J:i<g.length:=by rw[I.len];exact(aG.mp T).1
 have cne:=I.cne
 have B:∀{a:Addr}{h':Heap},(∃o,s.heap.get? a=some o/\H a=none)->fV a s.heap h'->sO X.prog X.w H h':=λ{a h'} ha l b ob e=>by
  obtain⟨_,_,F⟩:=ha;refine(I.hok b ob e).stay (λc Z hc q=>(l.2 c ?_).trans q) (λ_ q=>q) λ_ _ q=>q;rintro rfl;rcases hc with rfl | hc
  ·rw[F]at e;cases e
  ·rw[F]at hc;cases hc
 rcases C with hk | hk
 ·refine wpAny_storeName_local hk hn (λh' qx l=>?_) S;obtain⟨oL,_,_,rh,_⟩:=id hn;refine h _ ⟨I.ok,I.os,I.bare,⟨λb o e n K C=>?_,λb o e n K C=>?_,I.base.free,λb o e C=>?_,I.base.tups,I.base.frzs,I.base.tbls⟩,⟨_,qx,λj y v' t G e3=>?_⟩,λy c e=>?_,I.free,I.freeC,λp hp=>?_,B ⟨oL,rh,I.free⟩ l,by simpa using I.len⟩ ⟨_,l,.inl kA⟩
  ·exact(l.2 b (dD (cU (bG e) I.ok.above))).trans (I.base.keep b o e n K C)
  ·obtain⟨sl,t⟩:=I.base.slot b o e n K C;exact⟨sl,(l.2 b (dD (cU (bG e) I.ok.above))).trans t⟩
  ·obtain⟨o',t⟩:=I.base.there b o e C;exact⟨o',(l.2 b (dD (cU (bG e) I.ok.above))).trans t⟩
  ·by_cases O:j=i
   ·subst O;rw[T]at t;cases t;rw[bV J]at G;cases G;exact⟨u,r,.inl ⟨hk,hH⟩⟩
   ·rw[bU (k6 O)]at G;obtain⟨u',r',q⟩:=hl j y v' t G e3;refine⟨u',r',?_⟩;rcases q with⟨k,e⟩ | ⟨k,c,e,z⟩
    ·refine .inl ⟨k,?_⟩;have:y≠x:=λe=>O (LP hN t (e▸T));simp[this,e]
    ·exact .inr ⟨k,c,e,z.sameBut l (cne y c e)⟩
  ·obtain⟨Z,z⟩:=I.cell y c e;exact⟨Z,z.sameBut l (cne y c e)⟩
  ·obtain⟨e,n,ne,nf,d⟩:=I.pin p hp;exact⟨(l.2 p.1 ne).trans e,n,ne,nf,d⟩
 ·have L:X.fn x=true:=by
   rcases hf with z | z
   ·exact z
   ·rw[z]at hk;cases hk
  obtain⟨c,hc⟩:=I.ok.has x (.inl hk);obtain⟨Z,z⟩:=I.cell x c hc;refine wpAny_storeName_cell I.ok.kind hk hc z (λh' P l=>?_);obtain⟨oc,U,W⟩:=id z;refine h { s with heap:=h' } ⟨I.ok,I.os,I.bare,⟨λb o e n K C=>?_,λb o e n K C=>?_,I.base.free,λb o e C=>?_,I.base.tups,I.base.frzs,I.base.tbls⟩,⟨m,hn.sameBut l (k6 (cne x c hc)),λj y v' t G e3=>?_⟩,λy Y e=>?_,I.free,I.freeC,λp hp=>?_,B ⟨oc,U,I.freeC x c hc⟩ l,by simpa using I.len⟩ ⟨c,l,.inr hc⟩
  ·exact(l.2 b (dD (cU (bG e) (I.ok.cab x c L hc)))).trans (I.base.keep b o e n K C)
  ·obtain⟨sl,t⟩:=I.base.slot b o e n K C;exact⟨sl,(l.2 b (dD (cU (bG e) (I.ok.cab x c L hc)))).trans t⟩
  ·obtain⟨o',t⟩:=I.base.there b o e C;exact⟨o',(l.2 b (dD (cU (bG e) (I.ok.cab x c L hc)))).trans t⟩
  ·by_cases O:j=i
   ·subst O;rw[T]at t;cases t;rw[bV J]at G;cases G;exact⟨u,r,.inr ⟨.inl hk,c,hc,P⟩⟩
   ·rw[bU (k6 O)]at G;obtain⟨u',r',q⟩:=hl j y v' t G e3;refine⟨u',r',?_⟩;rcases q with q | ⟨k,Y,e,z'⟩
    ·exact .inl q
    ·refine .inr ⟨k,Y,e,z'.sameBut l ?_⟩;rintro rfl;exact O (LP hN t (I.ok.inj _ _ _ e hc▸T))
  ·by_cases R:Y=c
   ·subst R;exact⟨_,P⟩
   ·obtain⟨w2,z2⟩:=I.cell y Y e;exact⟨w2,z2.sameBut l R⟩
  ·obtain⟨e,n,ne,nf,d⟩:=I.pin p hp;refine⟨(l.2 p.1 ?_).trans e,n,ne,nf,d⟩;intro q;rw[q,U]at e;have q':oc=p.2:=c5 e;exact d Z (by rw[<- q'];exact W)
def K3{E:Value->Shared->Prop}{i:Nat}{Q:Unit->Shared->Prop}(I:dJ X f g H s)(c:X.N.Nodup)(e:X.N[i]?=some x)(j:UM X.env.scope x)(r:fS v u)
  (h:∀a,dJ X f (g.set i (some v)) H a->Q () a) (d:autoParam (X.fn x=true\/X.env.scope.names.lookup x=some .local) zzw._auto_1):wpAny M A (storeName X.env x u) Q E s:=
 F9 I c e j r (λa b _=>h a b) d
def dJ.call'{s':Shared}(I:dJ X f g H s)(h:s'.os=s.os)(u:Un (L7 X.stack) ch H H' s.heap s'.heap)(hok:sO X.prog X.w H' s'.heap)(d:v4 s'.gens)
  (a:∀b∈ch,(b∈X.ex\/X.s₀.heap.objs.size<=b)/\b≠X.env.locals/\(∀x c,X.env.cells.lookup x=some c->c≠b)/\∀p∈X.pn++f,p.1≠b):dJ X f g H' s':=by
 obtain⟨h',g',d',t',i⟩:=s';have e:i=s.os:=h;subst e;exact I.call (g':=g') (t':=t') (d':=d') u hok d a
end
abbrev XK:=Value->Option Addr->Hp->Prop
abbrev St:=List (Option V)
abbrev VK:=V->Hp->Prop
abbrev TE:=St->Hp->VK->Prop
abbrev TT:=St->Hp->(Bool->Hp->Prop)->Prop
abbrev TA:=St->Hp->(List V->Hp->Prop)->Prop
structure E3 where
 nx:St->Hp->Prop
 rt:VK
 bk:St->Hp->Prop:=λ_ _=>False
 ct:St->Hp->Prop:=λ_ _=>False
abbrev TS:=E3->St->Hp->Prop
def EP(X:Cx)(a:List (Addr×Obj))(d:St)(Q:VK)(u:Value)(c:Shared):Prop:=∃v b,dJ X a d b c/\fS v u/\Q v b
def TP(X:Cx)(a:List (Addr×Obj))(e:St)(Q:Bool->Hp->Prop)(b:Bool)(d:Shared):Prop:=∃c,dJ X a e c d/\Q b c
def AP(X:Cx)(a:List (Addr×Obj))(e:St)(Q:List V->Hp->Prop)(d:List Value)(c:Shared):Prop:=∃vs b,dJ X a e b c/\fQ vs d/\Q vs b
def SP(X:Cx)(b:List (Addr×Obj))(D:E3)(f:Flow)(d:Shared):Prop:=
 match f with
 |.next=>∃a c,dJ X b a c d/\D.nx a c
 |.brk=>∃a c,dJ X b a c d/\D.bk a c
 |.cont=>∃a c,dJ X b a c d/\D.ct a c
 |.ret u=>∃v a c,dJ X b a c d/\fS v u/\D.rt v c
def PE(X:Cx)(e:Expr)(t:TE):Prop:=
 ∀a s b H Q,dJ X a b H s->t b H Q->wpAny (model X.prog X.w) X.A (eval e X.env) (EP X a b Q) X.xe s
def PT(X:Cx)(e:Expr)(t:TT):Prop:=
 ∀pins s σ H(Q:Bool->Hp->Prop),dJ X pins σ H s->t σ H Q->wpAny (model X.prog X.w) X.A (isTrue e X.env (eval e X.env)) (TP X pins σ Q) X.xe s
def PW(X:Cx)(e:Expr)(t:TT):Prop:=
 ∀(whole:Sem Value)pins s σ H(Q:Bool->Hp->Prop),dJ X pins σ H s->t σ H Q->wpAny (model X.prog X.w) X.A (isTrue e X.env whole) (TP X pins σ Q) X.xe s
def PW.pt(h:PW X e t):PT X e t:=h _
def PA(X:Cx)(a:List Expr)(t:TA):Prop:=
 ∀(pos:Pos)pins s σ H(Q:List V->Hp->Prop),dJ X pins σ H s->t σ H Q->wpAny (model X.prog X.w) X.A (spliced (j2 pos (bY a X.env))) (AP X pins σ Q) X.xe s
def PS(X:Cx)(st:Stmt)(t:TS):Prop:=
 ∀pins s σ H(D:E3),dJ X pins σ H s->t D σ H->wpAny (model X.prog X.w) X.A (exec st X.env) (SP X pins D) X.xe s
def FP(X:Cx)(st:List Stmt)(t:TS):Prop:=
 ∀pins s σ H(D:E3),dJ X pins σ H s->t D σ H->wpAny (model X.prog X.w) X.A (execs st X.env) (SP X pins D) X.xe s
def iW{d:Type}{t}{Q b:d->Shared->Prop}{M A}{E:Value->Shared->Prop}{s}(h:wpAny M A t Q E s)(c:∀a s,Q a s->b a s):wpAny M A t b E s:=hU h c λ_ _ x=>x
section
variable{X:Cx}
def nV(i:Nat):TE:=λa H Q=>∃v,a[i]?=some (some v)/\Q v H
def tC(v:V):TE:=λ_ H Q=>Q v H
def WC{i:Nat}{x:Str}(g:X.N[i]?=some x)(o:yg X.env.scope x)(hd:autoParam ((x==("__debug__":Str))=false) zzy._auto_1)(d:autoParam ((x==("__classdict__":Str))=false) zzy._auto_1):PE X (.Name x pos) (nV i):=by
 intro b s p H Q I h;obtain⟨v,e,h⟩:=h;obtain⟨m,n,j⟩:=I.loc;obtain⟨u,r,l⟩:=j i x v g e o;have fin:EP X b p Q u s:=⟨v,H,I,r,h⟩;rcases l with⟨hk,k⟩ | ⟨hk,c,f,a⟩
 ·exact gz (wpAny_loadName_local I.ok.kind hk n k fin) hd
 ·rcases hk with hk | hk
  ·exact gz (wpAny_loadName_cell I.ok.kind hk f a fin) hd
  ·exact gz (wpAny_loadName_free I.ok.kind hk f a fin d) hd
def nL:PE X (.Constant (.int i) j pos) (tC (.int i)):=λ_ _ _ H _ I h=>wpAny_Constant_int ⟨.int i,H,I.tok _,⟨_,kA⟩,h⟩
def Mn:PE X (.Constant (.bool b) j pos) (tC (.bl b)):=λ_ _ _ H _ I h=>Constant_bool ⟨.bl b,H,I,kA,h⟩
def Uf:PE X (.Constant .none j pos) (tC .non):=λ_ _ _ H _ I h=>Constant_none ⟨.non,H,I,kA,h⟩
def Uh:PE X (.Constant (.str x) j pos) (tC (.str x)):=λ_ _ _ H _ I h=>Calls.Constant_str ⟨.str x,H,I.tok _,⟨_,kA⟩,h⟩
def Gl(X:Cx)(x:Str):Prop:=X.env.kindOf x=some .globalImplicit
def IV{E:Value->Shared->Prop}{x:Str}{Q:Value->Shared->Prop}(I:dJ X pins σ H s)(a:Gl X x)(b:X.mg x=some u)(h:Q u s)
  (hd:autoParam ((x==("__debug__":Str))=false) zzy._auto_1):wpAny (model X.prog X.w) X.A (eval (.Name x pos) X.env) Q E s:=
 bb I.ok.kind a (Calls.loadGlobal_global (by rw[I.ok.glob];exact I.mod.glob.keeps I.bk) b h) hd
def rX{E:Value->Shared->Prop}{x:Str}{Q:Value->Shared->Prop}(I:dJ X pins σ H s)(c:Gl X x)(d:X.mg x=none)(f:d7 x=some u)(h:Q u s)
  (e:autoParam (x≠"__name__") zzy._auto_1) (hd:autoParam ((x==("__debug__":Str))=false) zzy._auto_1):wpAny (model X.prog X.w) X.A (eval (.Name x pos) X.env) Q E s:=by
 obtain⟨g,a,b⟩:=I.mod.blt;exact bb I.ok.kind c (Calls.loadGlobal_builtin (by rw[I.ok.glob];exact I.mod.glob.keeps I.bk) d (by rw[I.ok.blt];exact a.keeps I.bk) ((b x e).trans f) h) hd
def IC{x:Str}(a:Gl X x)(b:X.mg x=some u)(r:fS v u)(hd:autoParam ((x==("__debug__":Str))=false) zzy._auto_1):PE X (.Name x pos) (tC v):=
 λ_ _ _ H _ I h=>IV I a b ⟨v,H,I,r,h⟩ hd
def Xm{x:Str}(a:Gl X x)(b:X.mg x=none)(d:d7 x=some u)(r:fS v u)(c:autoParam (x≠"__name__") zzy._auto_1)(hd:autoParam ((x==("__debug__":Str))=false) zzy._auto_1):PE X (.Name x pos) (tC v):=
 λ_ _ _ H _ I h=>rX I a b d ⟨v,H,I,r,h⟩ c hd
variable{a b:Expr}{f k:TE}{pos:Pos}
def PC(X:Cx)(h:CmpOp)(a b:Expr)(t:TE):Prop:=
 ∀c s g H Q,dJ X c g H s->t g H Q ->
  wpAny (model X.prog X.w) X.A (eval a X.env) (λv d=>wpAny (model X.prog X.w) X.A (eval b X.env) (λu e=>wpAny (model X.prog X.w) X.A (c8 h v u) (EP X c g Q) X.xe e) X.xe d) X.xe s
def W1(b:Expr)(h:op≠.In)(e:op≠.NotIn):g7 op b=false:=by
 have c:(op==CmpOp.In)=false:=by cases op<;>first | rfl | exact b9 kA h
 have d:(op==CmpOp.NotIn)=false:=by cases op<;>first | rfl | exact b9 kA e
 cases b<;>simp[g7,c,d]
def tB(t:TE):TT:=λe H Q=>t e H λx d=>∃c,x=.bl c/\Q c d
def Uj(h:PC X op a b t)(g:g7 op b=false:=by first | exact W1 _ gV gV | rfl):PT X (.Compare a [op] [b] pos) (tB t):=by
 intro e s o H Q I hw;refine fw (iW (h e s o H _ I hw) λv p g=>iW g λu r l=>iW l λc s3 n=>?_) g;obtain⟨x,i,j,m,q1⟩:=n;obtain⟨d,rfl,q⟩:=q1;cases m;exact e8 ⟨i,j,q⟩
def NO{e:Expr}(h:PE X e t)(j:autoParam (∀whole,isTrue e X.env whole=(do let v <- whole;dh e.pos;aj [v] (truthy v))) zzx._auto_1):PT X e (tB t):=by
 intro c s n H Q I hw;refine isTrue_plain (iW (h c s n H _ I hw) λv o m=>?_) (j _);obtain⟨x,g,i,l,q1⟩:=m;obtain⟨d,rfl,q⟩:=q1;cases l;exact e8 ⟨g,i,q⟩
variable{g n:TT}{jN:List Expr}
def Ib(t u:TT):TT:=λe H Q=>t e H λc d=>if c=true then u e d Q else Q false d
def Fa(t u:TT):TT:=λe H Q=>t e H λc d=>if c=true then Q true d else u e d Q
def Ig(t:TT):TT:=λe H Q=>t e H λc d=>Q (!c) d
def Zd(i:PT X a g):PW X (.BoolOp .And [a] pos) g:=by
 intro m d s j H Q I h;refine isTrue_and (iW (i d s j H Q I h) λc l e=>?_)
 cases c with
 |true=>exact isTrue_and_nil e
 |false=>exact e
def Vn(i:PT X a g):PW X (.BoolOp .Or [a] pos) g:=by
 intro m d s j H Q I h;refine isTrue_or (iW (i d s j H Q I h) λc l e=>?_)
 cases c with
 |false=>exact isTrue_or_nil e
 |true=>exact e
def Vm(l:PT X a g)(m:PW X (.BoolOp .And (b::jN) pos) n):PW X (.BoolOp .And (a::b::jN) pos) (Ib g n):=by
 intro p d s j H Q I h;refine isTrue_and (iW (l d s j H _ I h) λc o q=>?_);obtain⟨e,i,q1⟩:=q
 cases c with
 |true=>exact m p d o j e Q i q1
 |false=>exact⟨e,i,q1⟩
def Lr(l:PT X a g)(m:PW X (.BoolOp .Or (b::jN) pos) n):PW X (.BoolOp .Or (a::b::jN) pos) (Fa g n):=by
 intro p d s j H Q I h;refine isTrue_or (iW (l d s j H _ I h) λc o q=>?_);obtain⟨e,i,q1⟩:=q
 cases c with
 |true=>exact⟨e,i,q1⟩
 |false=>exact m p d o j e Q i q1
def V3(i:PT X a g):PT X (.UnaryOp .Not a pos) (Ig g):=by
 intro d s j H Q I h;exact isTrue_not (i d s j H (λc e=>Q (!c) e) I h)
def Rp(f k:TE):TE:=λe H Q=>f e H λx d=>∃c,x=.bl c/\if c=true then k e d Q else Q (.bl false) d
def Ih(f k:TE):TE:=λe H Q=>f e H λx d=>∃c,x=.bl c/\if c=true then Q (.bl true) d else k e d Q
def Rs(f:TE):TE:=λe H Q=>f e H λx d=>∃c,x=.bl c/\Q (.bl (!c)) d
def WF(h:PE X a t):PE X (.BoolOp op [a] pos) t:=λc s d H Q I hw=>BoolOp_one (h c s d H Q I hw)
def WL(l:PE X a f)(m:PE X (.BoolOp .And (b::jN) pos) k):PE X (.BoolOp .And (a::b::jN) pos) (Rp f k):=by
 intro d s j H Q I h;refine BoolOp_and (iW (l d s j H _ I h) λv p q=>?_);obtain⟨x,e,i,o,q1⟩:=q;obtain⟨c,rfl,q1⟩:=q1;cases o;refine e8 ?_
 cases c with
 |true=>exact m d p j e Q i q1
 |false=>exact⟨.bl false,e,i,kA,q1⟩
def Lp(l:PE X a f)(m:PE X (.BoolOp .Or (b::jN) pos) k):PE X (.BoolOp .Or (a::b::jN) pos) (Ih f k):=by
 intro d s j H Q I h;refine BoolOp_or (iW (l d s j H _ I h) λv p q=>?_);obtain⟨x,e,i,o,q1⟩:=q;obtain⟨c,rfl,q1⟩:=q1;cases o;refine e8 ?_
 cases c with
 |false=>exact m d p j e Q i q1
 |true=>exact⟨.bl true,e,i,kA,q1⟩
def Ug(j:PE X a f):PE X (.UnaryOp .Not a pos) (Rs f):=by
 intro d s o H Q I h;refine UnaryOp_ (iW (j d s o H _ I h) λv p m=>?_);obtain⟨x,e,i,l,q1⟩:=m;obtain⟨c,rfl,q1⟩:=q1;cases l;exact not_of (e8 ⟨.bl (!c),e,i,kA,q1⟩)
def Fb(t:TT)(f k:TE):TE:=λd H Q=>t d H λc e=>if c=true then f d e Q else k d e Q
def WH(q:PT X c g)(o:PE X a f)(p:PE X b k):PE X (.IfExp c a b pos) (Fb g f k):=by
 intro e s i H Q I h;refine wpAny_IfExp (iW (q e s i H _ I h) λd m r=>?_);obtain⟨j,l,q1⟩:=r
 cases d with
 |true=>exact o e m i j Q l q1
 |false=>exact p e m i j Q l q1
end
def mK(K:aI)(H:Hp)(a:Addr)(c:List V):Prop:=
 Rd H a (.lst c) \/
  ∃(o:Obj)(b:Array Value)(n:Nat),K.lookup a=some o/\o.cls=.type "list"/\o.dict=none/\o.data=.seq b n/\b.size<=bF/\fQ c b.toList
def oR(K:aI)(H:Hp)(a:Addr)(c:List V):Prop:=
 Rd H a (.tup c) \/
  ∃(o:Obj)(b:Array Value)(n:Nat),K.lookup a=some o/\o.cls=.type "tuple"/\o.dict=none/\o.data=.seq b n/\b.size<=bF/\fQ c b.toList
noncomputable def Ge:Value->Option V
|.none=>some .non
|.bool b=>some (.bl b)
|.int i _=>some (.int i)
|.str x _=>some (.str x)
|.bytes b _=>some (.byt b)
|.float b _=>some (.flt b)
|.ref a=>some (.ref a)
|.type n=>some (.ty n)
|_=>none
def fS.abs(r:fS x u):Ge u=some x:=by
 cases x with
 |non=>cases r;rfl
 |bl _=>cases r;rfl
 |int _=>obtain⟨t,rfl⟩:=r;rfl
 |str _=>obtain⟨t,rfl⟩:=r;rfl
 |byt _=>obtain⟨t,rfl⟩:=r;rfl
 |flt _=>obtain⟨t,rfl⟩:=r;rfl
 |ref _=>cases r;rfl
 |ty _=>cases r;rfl
theorem fS.inj(r:fS x u)(q:fS y u):x=y:=c5 (r.abs.symm.trans q.abs)
theorem fQ.inj:∀{xs ys us},fQ xs us->fQ ys us->xs=ys
|_,_,_,.nil,.nil=>rfl
|_,_,_,.cons r t,.cons r' t'=>by rw[r.inj r',fQ.inj t t']
section
variable{X:Cx}{b:List (Addr×Obj)}{g:St}{H:Hp}{s:Shared}{a:Addr}{f i:List V}
def mK.of{K}(h:H a=some (.lst f)):mK K H a f:=.inl (.inl h)
def oR.of{K}(h:H a=some (.tup f)):oR K H a f:=.inl (.inl h)
def dJ.list(I:dJ X b g H s)(h:mK X.K H a f):∃c:List Value,fQ f c/\PlainL s.heap a c.toArray/\f.length<=bF:=by
 rcases h with h | ⟨o,c,n,hk,d,hd,j,k,r⟩
 ·obtain⟨z,c,n,r,e⟩:=h.ok I.hok;exact⟨c,r,⟨_,n,e,kA,kA,kA⟩,z⟩
 ·refine⟨c.toList,r,⟨o,n,I.kIn a o hk,d,hd,by simpa using j⟩,?_⟩;have e:=r.length;simp only[fM]at e;lia
def dJ.tuple(I:dJ X b g H s)(h:oR X.K H a f):∃c:List Value,fQ f c/\ie s.heap a c.toArray/\f.length<=bF:=by
 rcases h with h | ⟨o,c,n,hk,d,_,j,k,r⟩
 ·obtain⟨z,c,r,p⟩:=h.ok I.hok;exact⟨c,r,p.tup,z⟩
 ·refine⟨c.toList,r,⟨o,I.kIn a o hk,d,n,by simpa using j⟩,?_⟩;have e:=r.length;simp only[fM]at e;lia
def dJ.tupleN(I:dJ X b g H s)(h:oR X.K H a f):∃o,s.heap.get? a=some o/\o.cls=.type "tuple"/\o.dict=none:=by
 rcases h with h | ⟨o,j,n,hk,k,hd,_⟩
 ·obtain⟨z,j,r,⟨o,e,c,n,_,d⟩⟩:=h.ok I.hok;exact⟨o,e,c,d⟩
 ·exact⟨o,I.kIn a o hk,k,hd⟩
def dJ.list_inj(I:dJ X b g H s)(h:mK X.K H a f)(p:mK X.K H a i):f=i:=by
 obtain⟨j,r,⟨o,n,e,_,_,d⟩,_⟩:=I.list h;obtain⟨c,q,⟨u,t,l,_,_,k⟩,_⟩:=I.list p;rw[e]at l;cases l;rw[d]at k;injection k with m _
 have:j=c:=by simpa using e5 aJh m
 subst this;exact r.inj q
def dJ.tuple_inj(I:dJ X b g H s)(h:oR X.K H a f)(p:oR X.K H a i):f=i:=by
 obtain⟨j,r,⟨o,e,_,n,d⟩,_⟩:=I.tuple h;obtain⟨c,q,⟨u,l,_,t,k⟩,_⟩:=I.tuple p;rw[e]at l;cases l;rw[d]at k;injection k with m _
 have:j=c:=by simpa using e5 aJh m
 subst this;exact r.inj q
end
noncomputable abbrev Cx.wish(X:Cx)(E:Value->Shared->Prop):Cx:={ X with xe:=E }
noncomputable abbrev Cx.nox(X:Cx):Cx:=X.wish λ_ _=>False
theorem Cx.Ok.wish{X:Cx}(ok:X.Ok)(E:Value->Shared->Prop):(X.wish E).Ok:=
 ⟨ok.mod,ok.kind,ok.glob,ok.blt,ok.above,ok.inj,ok.has,ok.cab,ok.hd,ok.frames,ok.stk,ok.exf,ok.bs,ok.bsz,ok.noex,ok.exfs,ok.funs,ok.frf,ok.tab⟩
def Cx.Ok.unwish{X:Cx}{E:Value->Shared->Prop}(ok:(X.wish E).Ok):X.Ok:=
 ⟨ok.mod,ok.kind,ok.glob,ok.blt,ok.above,ok.inj,ok.has,ok.cab,ok.hd,ok.frames,ok.stk,ok.exf,ok.bs,ok.bsz,ok.noex,ok.exfs,ok.funs,ok.frf,ok.tab⟩
section
variable{X:Cx}{a:List (Addr×Obj)}{b:St}{H:Hp}{s:Shared}{E:Value->Shared->Prop}
theorem dJ.wish(I:dJ X a b H s)(E:Value->Shared->Prop):dJ (X.wish E) a b H s:=⟨I.ok.wish E,I.os,I.bare,I.base,I.loc,I.cell,I.free,I.freeC,I.pin,I.hok,I.len⟩
theorem dJ.unwish(I:dJ (X.wish E) a b H s):dJ X a b H s:=⟨I.ok.unwish,I.os,I.bare,I.base,I.loc,I.cell,I.free,I.freeC,I.pin,I.hok,I.len⟩
theorem SP.unwish{D}(h:SP (X.wish E) a D f s'):SP X a D f s':=by
 cases f with
 |next=>obtain⟨c,d,I,q⟩:=h;exact⟨c,d,I.unwish,q⟩
 |brk=>obtain⟨c,d,I,q⟩:=h;exact⟨c,d,I.unwish,q⟩
 |cont=>obtain⟨c,d,I,q⟩:=h;exact⟨c,d,I.unwish,q⟩
 |ret u=>obtain⟨v,c,d,I,r,q⟩:=h;exact⟨v,c,d,I.unwish,r,q⟩
theorem FP.nox{st}(h:FP X.nox st t):FP X st t:=λa s b H D I hw=>
 hU (h a s b H D (I.wish _) hw) (λ_ _ q=>q.unwish) λ_ _ z=>i0 z
end
section
variable{X:Cx}{st:Stmt}{jN:List Stmt}{t u:TS}{e:Expr}{g:TE}{pos:Pos}
def Rr:TS:=λD a H=>D.nx a H
def NG(t u:TS):TS:=λD a H=>t { D with nx:=u D } a H
def PQ:FP X [] Rr:=λ_ _ a H _ I h=>y4 ⟨a,H,I,h⟩
def nJ(i:PS X st t)(j:FP X jN u):FP X (st::jN) (NG t u):=by
 intro a s l H D I h;refine wpAny_execs_cons (iW (i a s l H { D with nx:=u D } I h) λf k q=>?_)
 cases f with
 |next=>
  obtain⟨b,c,d,q⟩:=q;exact j a k b c D d q
 |ret v=>exact q
 |brk=>exact q
 |cont=>exact q
def B3(b:PS X st t):FP X [st] t:=by
 intro a s c H D I h;refine wpAny_execs_cons (iW (b a s c H D I h) λf d q=>?_)
 cases f with
 |next=>exact y4 q
 |ret v=>exact q
 |brk=>exact q
 |cont=>exact q
def dJ.quiet(I:dJ X pins σ H s):interactive X.env=false:=by simp[interactive,I.ok.kind]
def O7(g:TE):TS:=λD a H=>g a H λ_ b=>D.nx a b
def jM(f:PE X e g)(i:autoParam (mF e none pos.line X.env=pure false) zzz._auto_1):PS X (.Expr e pos) (O7 g):=by
 intro a s b H D I h;exact wpAny_Expr_any (iW (f a s b H _ I h) λv k ⟨x,c,d,j,q1⟩=>⟨b,c,d,q1⟩) I.quiet i
def Ii(g:TE):TS:=λD a H=>g a H D.rt
def C9(f:PE X e g):PS X (.Return (some e) pos) (Ii g):=by
 intro a s b H D I h;exact wpAny_Return_some (iW (f a s b H _ I h) λv j ⟨x,c,d,i,q1⟩=>⟨x,b,c,d,i,q1⟩)
def Ic(c:TT)(t u:TS):TS:=λD a H=>c a H λb d=>if b=true then t D a d else u D a d
def Dw(o:PT X c tc)(m:FP X a t)(n:FP X b u):PS X (.If c a b pos) (Ic tc t u):=by
 intro f s i H D I h;refine wpAny_If (iW (o f s i H _ I h) λd l p=>?_);obtain⟨j,k,q1⟩:=p
 cases d with
 |true=>exact m f l i j D k q1
 |false=>exact n f l i j D k q1
end
abbrev TG:=V->St->Hp->(St->Hp->Prop)->Prop
abbrev xi:=List V->St->Hp->(St->Hp->Prop)->Prop
def PG(X:Cx)(a:Expr)(t:TG):Prop:=
 ∀pins s σ H(v:V)(u:Value)(Q:St->Hp->Prop),dJ X pins σ H s->fS v u->t v σ H Q ->
  wpAny (model X.prog X.w) X.A (ax a X.env u) (λ_ d=>∃b c,dJ X pins b c d/\Q b c) X.xe s
def yi(X:Cx)(e:List Expr)(t:xi):Prop:=
 ∀pins s σ H(vs:List V)(c:List Value)(Q:St->Hp->Prop),dJ X pins σ H s->fQ vs c->t vs σ H Q ->
  wpAny (model X.prog X.w) X.A (assignInOrder ((x8 e X.env).map (·.2)) c) (λ_ d=>∃a b,dJ X pins a b d/\Q a b) X.xe s
abbrev Bg:=V->V->V->Hp->(Hp->Prop)->Prop
def Ba(X:Cx)(t:Bg):Prop:=
 ∀pins s(d:St)H(o i v:V)(c b u:Value)(Q:Hp->Prop),dJ X pins d H s->fS o c->fS i b->fS v u->t o i v H Q ->
  wpAny (model X.prog X.w) X.A (setItem c b u) (λ_ e=>∃a,dJ X pins d a e/\Q a) X.xe s
section
variable{X:Cx}{pos:Pos}
def lP(i:Nat):TG:=λv a H Q=>Q (a.set i (some v)) H
def PU{i:Nat}(c:X.N.Nodup)(e:X.N[i]?=some x)(f:UM X.env.scope x)(d:autoParam (X.fn x=true\/X.env.scope.names.lookup x=some .local) zzw._auto_1):PG X (.Name x pos) (lP i):=by
 intro a s j H v u Q I r h;exact im (K3 I c e f r (λg b=>⟨_,H,b,h⟩) d)
def ze:xi:=λvs a H Q=>vs=[]/\Q a H
def GZ(t:TG)(u:xi):xi:=λvs c H Q=>∃v r,vs=v::r/\t v c H λa b=>u r a b Q
def kQ:yi X [] ze:=by
 intro a s b H vs c Q I r h;obtain⟨e,h⟩:=h;subst e;cases r;exact assignInOrder_nil ⟨b,H,I,h⟩
def eF(g:PG X e t)(i:yi X es u)
  (j:autoParam ((x8 (e::es) X.env).map (·.2)=ax e X.env::(x8 es X.env).map (·.2)) zzz._auto_1):yi X (e::es) (GZ t u):=by
 intro a s n H vs o Q I r h;obtain⟨v,p,f,h⟩:=h;subst f
 cases r with
 |cons r k=>
  rw[j];refine assignInOrder_cons (iW (g a s n H _ _ _ I r h) λ_ l m=>?_);obtain⟨b,c,d,q1⟩:=m;exact i a l b c _ _ Q d k q1
def zg(K:aI)(n:Nat)(t:xi):TG:=λv c H Q=>∃a b,v=.ref a/\oR K H a b/\b.length=n/\t b c H Q
def mW{k:Nat}{n:Nat}(m:X.calm=true)(h:yi X es t)
  (q:autoParam ((x8 es X.env).length=n) zzz._auto_1) (d:autoParam ((x8 es X.env).findIdx? (·.1)=none) zzz._auto_1):PG X (.Tuple es k pos) (zg X.K n t):=by
 intro c s g H v u Q I r hw;obtain⟨a,A,j,w,p,hw⟩:=hw;subst j;cases r;obtain⟨z,f,x,B⟩:=I.tuple w;refine assign_Tuple_tuple (I.ok.hd m) x (by simp[q,<- p,f.length]) d λl y=>?_;have i:dJ X c g H { s with heap:=l }:=I.kept (t':=s.toks) λb o e=>y b o (dD (bG e)) e;exact h c _ g H A _ Q i (by simpa using f) hw
def zf(to d:TE)(t:Bg):TG:=λv a H Q=>to a H λo b=>d a b λi c=>t o i v c λH3=>Q a H3
def IB{to}(p:PE X o to)(n:PE X i ti)(q:Ba X t)
  (m:∀v,ax (.Subscript o i pos) X.env v=(do
   let b <- aj [v] (eval o X.env)
   let c <- aj [v,b] (eval i X.env)
   dh pos
   aj [v,b,c] (setItem b c v)
   release [v,b,c] []):=by intro _;rfl):PG X (.Subscript o i pos) (zf to ti t):=by
 intro a s e H v u Q I r h;rw[m];refine aK (m6 (iW (p a s e H _ I h) λb C d=>?_));obtain⟨x,f,j,A,q1⟩:=d;refine aK (m6 (iW (n a C e f _ j q1) λc E d=>?_));obtain⟨y,g,k,B,w⟩:=d;refine aK (er (aK (m6 (iW (q a E e g x y v b c u _ k A B r w) λ_ s3 d=>?_))));obtain⟨H3,l,z⟩:=d;exact wpAny_release ⟨e,H3,l,z⟩
def vN(c:TE)(g:TG):TS:=λD a H=>c a H λx b=>g x a b D.nx
def DA(i:PE X e te)(j:PG X tg g)(k:autoParam (swapsWithSole [tg] e pos.line X.env=pure false) zzz._auto_1)(hw:autoParam (swappedStores [tg] e X.env=pure none) zzz._auto_1)
  (f:autoParam ((x8 [tg] X.env).map (·.2)=[ax tg X.env]) zzz._auto_1):PS X (.Assign [tg] e pos) (vN te g):=by
 intro a s b H D I h;refine wpAny_Assign_stores (iW (i a s b H _ I h) λv m n=>?_) k hw;obtain⟨x,c,d,l,q1⟩:=n;rw[f];exact iW (j a m b c x v _ d l q1) λ_ o q=>q
def rP{i:Nat}(f:X.N.Nodup)(k:X.N[i]?=some x)(m:UM X.env.scope x)(g:PE X e te)(l:autoParam (mF e (some (.Name x pos')) pos.line X.env=pure false) zzz._auto_1)(j:autoParam (X.fn x=true\/X.env.scope.names.lookup x=some .local) zzw._auto_1) :
  PS X (.Assign [.Name x pos'] e pos) (vN te (lP i)):=by
 intro a s p H D I h;refine wpAny_Assign_Name (iW (g a s p H _ I h) λv q o=>?_) l;obtain⟨y,b,c,n,q1⟩:=o;exact K3 c f k m n (λr d=>⟨_,b,d,q1⟩) j
end
section
variable{X:Cx}{pos:Pos}
def VA(c:TT)(h:TS):TS:=λD a H=>∃W:Nat->St->Hp->Prop,(∃m,W m a H)/\∀m a H,W m a H ->
 c a H λb f=>if b=true then∃N:St->Hp->Prop,(∀d e,N d e->∃g,g<m/\W g d e)/\h { D with nx:=N,ct:=N,bk:=D.nx } a f else D.nx a f
def C8(x:PassesOwn (model X.prog X.w) X.A X.env X.xe)(B:PT X c tc)(z:FP X body tb):PS X (.While c body [] pos) (VA tc tb):=by
 intro a s M H D I h;obtain⟨W,⟨C,J⟩,turn⟩:=h;refine wpAny_While (codeAny_whileLoop (λn E=>∃g p,dJ X a g p E/\W n g p) ?_ C ⟨M,H,I,J⟩);rintro n F ⟨e,q,y,K⟩;refine k8 x (iW (B a F e q _ y (turn n e q K)) λb G L=>?_);obtain⟨r,t,i⟩:=L
 cases b with
 |true=>
  obtain⟨N,u,i⟩:=i;rw[a9 rfl];refine k8 x (iW (z a G e r _ t i) λf s3 j=>?_)
  cases f with
  |next=>
   obtain⟨d,H3,k,n3⟩:=j;obtain⟨m,l,o⟩:=u d H3 n3;exact⟨m,l,d,H3,k,o⟩
  |cont=>
   obtain⟨d,H3,k,n3⟩:=j;obtain⟨m,l,o⟩:=u d H3 n3;exact⟨m,l,d,H3,k,o⟩
  |brk=>exact j
  |ret v=>exact j
 |false=>
  rw[a8 bQ];exact y4 ⟨e,r,t,i⟩
end
structure It where
 go:Nat->Hp->Prop
 yld:Nat->Hp->V->Hp->Prop
 stop:Nat->Hp->Prop
def BO(X:Cx)(a:List (Addr×Obj))(H:Hp)(b:Addr):Prop:=
 H b=none/\b≠X.env.locals/\b∉X.fs/\(b∈X.ex\/X.s₀.heap.objs.size<=b)/\(∀x c,X.env.cells.lookup x=some c->c≠b)/\∀p∈X.pn++a,p.1≠b
def dJ.fpOk{s:Shared}{b:Addr}(I:dJ X pins σ H s)(a:s.heap.objs.size<=b)(d:H' b=none):BO X pins H' b:=by
 refine⟨d,jJ (cU I.lt a),I.nofs a,.inr (bE I.sz a),λx c e z=>?_,λp f z=>?_⟩
 ·obtain⟨v,q⟩:=I.cell x c e;exact b9 (cU q.lt (by rw[z];exact a)) (hZ _)
 ·exact b9 (cU (bG (I.pin p f).1) (by rw[z];exact a)) (hZ _)
structure J0(P:cK)(w:e6)(K:aI)(tg:Expr)(J:It)(fp:List Addr)(it:Addr)(tn:Nat->Heap->Prop):Prop where
 mem:it∈fp
 obj:∀i h,tn i h->∀b∈fp,∃o,h.get? b=some o/\∀v,o.data≠.cell v
 keep:∀i h h',tn i h->(∀b∈fp,∀o,h.get? b=some o->h'.get? b=some o)->tn i h'
 item:∀(X:Cx),X.prog=P->X.w=w->X.K=K->X.calm=true->∀(i:Nat)pins(s:Shared)σ H E,dJ X pins σ H s->(∀b∈fp,BO X pins H b)->tn i s.heap->J.go i H ->
  wpAny (model P w) X.A (du (.ref it)) (λr s1=>∃u,r=some u /\
   wpAny (model P w) X.A (m8 tg (.ref it) u) (λ_ s2=>∃x H',dJ X pins σ H' s2/\fS x u/\J.yld i H x H'/\tn (i+1) s2.heap/\∀b∈fp,H' b=none) E s1) E s
 done:∀(X:Cx),X.prog=P->X.w=w->X.K=K->X.calm=true->∀(i:Nat)pins(s:Shared)σ H E,dJ X pins σ H s->(∀b∈fp,BO X pins H b)->tn i s.heap->J.stop i H ->
  wpAny (model P w) X.A (du (.ref it)) (λr s1=>r=none/\dJ X pins σ H s1) E s
 self:∀A(i:Nat)(s:Shared)Q E,tn i s.heap->Q (.ref it) s->wpAny (model P w) A (gu (.ref it)) Q E s
abbrev TI:=St->Hp->(It->Hp->Prop)->Prop
def Ah(X:Cx)(a:List (Addr×Obj))(j:St)(i:Expr)(R:It->Hp->Prop)(d:Value)(g:Shared):Prop:=
 ∃(f:Addr)(e:List Addr)(h:Nat->Heap->Prop)(J:It)(c:Hp),d=.ref f/\dJ X a j c g/\J0 X.prog X.w X.K i J e f h/\h 0 g.heap/\(∀b∈e,BO X a c b)/\R J c
def PI(X:Cx)(b iter:Expr)(c:TI):Prop:=
 ∀pins(s:Shared)σ H(R:It->Hp->Prop),dJ X pins σ H s->c σ H R ->
  wpAny (model X.prog X.w) X.A (eval iter X.env) (λv a=>wpAny (model X.prog X.w) X.A (gu v) (Ah X pins σ b R) X.xe a) X.xe s
def YE{E:Value->Shared->Prop}{s:Shared}{b:Addr}{o:Obj}{Q:Unit->Shared->Prop}(e:s.heap.get? b=some o)(c:o.cls=.type n)(hd:o.data=.fields vs)
  (d:["enumerate","zip","dict_itemiterator","dict_reverseitemiterator","odict_iterator","itertools.zip_longest","itertools.pairwise"].contains n=false) (a:Q () s):wpAny M A (m8 tg (.ref b) u) Q E s:=by
 unfold m8
 cases tg<;>first
  |exact bC a
  | (cases u<;>first
    |exact bC a
    | (refine aK (wpAny_load e ?_)
       rw[c,hd];show wpAny M A (if(["enumerate","zip","dict_itemiterator","dict_reverseitemiterator","odict_iterator","itertools.zip_longest","itertools.pairwise"].contains n&&vs[0]?==some (u5 _))=true then _ else _) Q E s;rw[a8 (by intro h;rw[d,aF6]at h;cases h)];exact bC a))
noncomputable def Ak(K:aI)(a:Addr):It:=
 ⟨λi H=>∃b x,mK K H a b/\b[i]?=some x,λi H x c=>c=H/\∀b,mK K H a b->b[i]?=some x,λi H=>∃b,mK K H a b/\b.length<=i⟩
noncomputable def Ai(K:aI)(a:Addr):It:=
 ⟨λi H=>∃b x,oR K H a b/\b[i]?=some x,λi H x c=>c=H/\∀b,oR K H a b->b[i]?=some x,λi H=>∃b,oR K H a b/\b.length<=i⟩
noncomputable def Aj(lo:Int)(n:Nat):It:=⟨λi _=>i<n,λi H x a=>a=H/\x=.int (lo+i),λi _=>n<=i⟩
def RM{K}(a it:Addr):J0 P w K tg (Ak K a) [it] it (λi h=>h.IsListIter it a i) where
 mem:=by simp
 obj:=λi h st b hb=>by
  have e:b=it:=by simpa using hb
  subst e;obtain⟨o,e,c,d⟩:=st;exact⟨o,e,λv z=>by rw[d]at z;cases z⟩
 keep:=λi h h' st k=>st.at λo e=>k it hH o e
 item:=by
  intro X hP hw hK hc i pins s σ H E I hf st hg;subst hP hw hK;obtain⟨xs,x,hq,hx⟩:=hg;obtain⟨w5,rv,p,hz⟩:=I.list hq;obtain⟨u,hu,ru⟩:=rv.get hx;obtain⟨f0,f1,f2,f3,f4,f5⟩:=hf it hH;refine wpAny_pyNext_list_item st p.isList (x:=u) (by simpa using hu) λh' fv sb=>?_;have I1:dJ X pins σ H { s with heap:=h' }:=I.turned (t':=s.toks) (λb o hb e=>(sb.2 b hb).trans e) f0 f1 f3 f4 f5;obtain⟨o,e,c,d⟩:=id fv;exact⟨u,kA,YE (s:={ s with heap:=h' }) e c d gV ⟨x,H,I1,ru,⟨kA,λys hy=>by rw[I.list_inj hy hq];exact hx⟩,fv,λb hb=>(hf b hb).1⟩⟩
 done:=by
  intro X hP hw hK hc i pins s σ H E I hf st hg;subst hP hw hK;obtain⟨xs,hq,hx⟩:=hg;obtain⟨w5,rv,p,hz⟩:=I.list hq;obtain⟨f0,f1,f2,f3,f4,f5⟩:=hf it hH;have hl:=rv.length;exact wpAny_pyNext_list_end (I.ok.hd hc) st p.isList (by simp;lia) λh' eb=>⟨kA,I.turned (t':=s.toks) (λb o hb e=>eb b o hb e) f0 f1 f3 f4 f5⟩
 self:=λ_ _ _ _ _ st h=>wpAny_pyIter_listiter st h
def NC{K}(a it:Addr):J0 P w K tg (Ai K a) [it] it (λi h=>h.IsTupleIter it a i) where
 mem:=by simp
 obj:=λi h st b hb=>by
  have e:b=it:=by simpa using hb
  subst e;obtain⟨o,e,c,d⟩:=st;exact⟨o,e,λv z=>by rw[d]at z;cases z⟩
 keep:=λi h h' st k=>st.at λo e=>k it hH o e
 item:=by
  intro X hP hw hK hc i pins s σ H E I hf st hg;subst hP hw hK;obtain⟨xs,x,hq,hx⟩:=hg;obtain⟨w5,rv,p,hz⟩:=I.tuple hq;obtain⟨u,hu,ru⟩:=rv.get hx;obtain⟨f0,f1,f2,f3,f4,f5⟩:=hf it hH;refine wpAny_pyNext_tuple_item st (show s.heap.IsTuple a w5.toArray from p) (x:=u) (by simpa using hu) λh' fv sb=>?_;have I1:dJ X pins σ H { s with heap:=h' }:=I.turned (t':=s.toks) (λb o hb e=>(sb.2 b hb).trans e) f0 f1 f3 f4 f5;obtain⟨o,e,c,d⟩:=id fv;exact⟨u,kA,YE (s:={ s with heap:=h' }) e c d gV ⟨x,H,I1,ru,⟨kA,λys hy=>by rw[I.tuple_inj hy hq];exact hx⟩,fv,λb hb=>(hf b hb).1⟩⟩
 done:=by
  intro X hP hw hK hc i pins s σ H E I hf st hg;subst hP hw hK;obtain⟨xs,hq,hx⟩:=hg;obtain⟨w5,rv,p,hz⟩:=I.tuple hq;obtain⟨f0,f1,f2,f3,f4,f5⟩:=hf it hH;have hl:=rv.length;exact wpAny_pyNext_tuple_end (I.ok.hd hc) st (show s.heap.IsTuple a w5.toArray from p) (by simp;lia) λh' eb=>⟨kA,I.turned (t':=s.toks) (λb o hb e=>eb b o hb e) f0 f1 f3 f4 f5⟩
 self:=λ_ _ _ _ _ st h=>wpAny_pyIter_tupleiter st h
def ND{K}(it:Addr)(lo:Int)(n:Nat):J0 P w K tg (Aj lo n) [it] it (λi h=>IsRangeIter h it (lo+(i:Nat)*1) ((n:Int)-(i:Nat)) 1) where
 mem:=by simp
 obj:=λi h st b hb=>by
  have e:b=it:=by simpa using hb
  subst e
  exact⟨_,st,λv z=>by
   have z':dy _=Data.cell v:=z;cases z'⟩
 keep:=λi h h' st k=>k it hH _ st
 item:=by
  intro X hP hw hK hc i pins s σ H E I hf st hg;subst hP hw hK;obtain⟨f0,f1,f2,f3,f4,f5⟩:=hf it hH;have W:=Walks.range (prog:=X.prog) (w:=X.w) (I.ok.hd hc) it lo 1 n;refine W.item i s _ _ hg st λv h' tk hv fv kk=>?_;obtain⟨t,rfl⟩:=hv;have I1:dJ X pins σ H { s with heap:=h',toks:=tk }:=I.turned (λb o hb e=>kk b o (by simpa using hb) e) f0 f1 f3 f4 f5;refine⟨_,kA,YE (s:={ s with heap:=h',toks:=tk }) (n:="range_iterator") fv kA kA gV ⟨.int (lo+i),H,I1,⟨t,?_⟩,⟨kA,kA⟩,fv,λb hb=>(hf b hb).1⟩⟩;rw[aR8]
 done:=by
  intro X hP hw hK hc i pins s σ H E I hf st hg;subst hP hw hK;obtain⟨f0,f1,f2,f3,f4,f5⟩:=hf it hH;exact wpAny_pyNext_range_end (I.ok.hd hc) st (by have:n<=i:=hg;lia) λh' eb=>⟨kA,I.turned (t':=s.toks) (λb o hb e=>eb b o hb e) f0 f1 f3 f4 f5⟩
 self:=λ_ _ _ _ _ st h=>wpAny_pyIter_rangeiter st h
section
variable{X:Cx}{c:Expr}
def VU{s:Shared}{R:It->Hp->Prop}{E:Value->Shared->Prop}{lo a:Int}{f:Nat}(I:dJ X pins σ H s)(i:-(2^62)<=lo)(j:lo<2^62)(k:-(2^62)<=a)(l:a<2^62)
  (q:R (Aj lo (a-lo).toNat) H):wpAny (model X.prog X.w) X.A (gu (.ref s.heap.objs.size)) (Ah X pins σ c R) E { s with heap:=s.heap.push { cls:=.type "range",data:=.fields #[.int lo t,.int a u,.int 1 v] },toks:=f }:=by
 refine wpAny_pyIter_range (IsRange.new ..) (small_one i j k l) ?_;have d:dJ X pins σ H { s with heap:=s.heap.push { cls:=.type "range",data:=.fields #[.int lo t,.int a u,.int 1 v] },toks:=f }:=I.kept λb o e=>aE _ e
 refine⟨(s.heap.push { cls:=.type "range",data:=.fields #[.int lo t,.int a u,.int 1 v] }).objs.size,[(s.heap.push { cls:=.type "range",data:=.fields #[.int lo t,.int a u,.int 1 v] }).objs.size],_,_,H,kA,
  d.kept (t':=f) λb o e=>aE _ e,ND _ lo (a-lo).toNat,?_,λb m=>?_,q⟩
 ·have g:lo+((0:Nat):Int)*1=lo:=by simp
  have h:(((a-lo).toNat:Nat):Int)-((0:Nat):Int)=Builtin.Range.rangeSize lo a 1:=by rw[rangeSize_one];split<;>lia
  show IsRangeIter _ _ (lo+((0:Nat):Int)*1) ((((a-lo).toNat:Nat):Int)-((0:Nat):Int)) 1;rw[g,h];exact aY _ kA
 ·have e:b=(s.heap.push { cls:=.type "range",data:=.fields #[.int lo t,.int a u,.int 1 v] }).objs.size:=by simpa using m
  subst e;exact d.fpOk (aN _) (d.hok.fresh (aN _))
def Ct(b:TA):TI:=λd H R=>b d H λvs a=>∃j:Int,vs=[.int j]/\-(2^62)<=j/\j<2^62/\R (Aj 0 j.toNat) a
def qR(g:Gl X "range")(i:X.mg "range"=none)(f:PA X [a] ta)(k:autoParam (bY [a] X.env=[(false,eval a X.env)]) zzz._auto_1):PI X c (.Call (.Name "range" p) [a] [] pos) (Ct ta):=by
 intro b s u H R I h;refine Call_ (rX I g i boot_range (f8 (iW (f pos b s u H _ I h) λx w o=>?_) k kA));obtain⟨vs,v,d,m,q1⟩:=o;obtain⟨j,e,q1,l,q⟩:=q1;subst e
 cases m with
 |cons r n=>
  cases n;obtain⟨t,rfl⟩:=r;exact call_range_1 (VU d hG hG q1 l (by simpa using q))
def zv(l:TI)(g:TG)(k:TS):TS:=λD a H=>l a H λJ h=>∃W:Nat->Nat->St->Hp->Prop,(∃m,W 0 m a h)/\∀i m a H,W i m a H ->
 (J.stop i H/\D.nx a H)\/(J.go i H/\∃N:St->Hp->Prop,(∀d b,N d b->∃f,f<m/\W (i+1) f d b)/\∀x b,J.yld i H x b->g x a b λe j=>k { D with nx:=N,ct:=N,bk:=D.nx } e j)
noncomputable def DE(a:List Addr)(h:Heap):List (Addr×Obj):=a.filterMap λb=>(h.get? b).map λo=>(b,o)
def rV{h:Heap}{b:Addr}(a:b∈fp)(e:h.get? b=some o):(b,o)∈DE fp h:=UR.mpr ⟨b,a,by rw[e];rfl⟩
def SG{h:Heap}{p:Addr×Obj}(f:p∈DE fp h):p.1∈fp/\h.get? p.1=some p.2:=by
 obtain⟨b,d,e⟩:=UR.mp f
 cases q:h.get? b with
 |none=>rw[q]at e;cases e
 |some o=>
  rw[q]at e;have a:(b,o)=p:=c5 e;subst a;exact⟨d,q⟩
def dJ.pinned{s:Shared}(I:dJ X pins σ H s)(h:∀b∈fp,BO X pins H b)(i:∀b∈fp,∃o,s.heap.get? b=some o/\∀v,o.data≠.cell v):dJ X (pins++DE fp s.heap) σ H s:=
 I.pins_of λp j=>(cL.mp j).elim (λz=>I.pin p (cZ _ z)) λz=>by
  obtain⟨f,e⟩:=SG z;obtain⟨g,f1,f2,_⟩:=h p.1 f;obtain⟨o,a,d⟩:=i p.1 f;rw[e]at a;cases a;exact⟨e,g,f1,f2,d⟩
def dJ.unpinned(I:dJ X (pins++pl) σ H s):dJ X pins σ H s:=I.pins_of λp a=>I.pin p (cZ _ (jV _ a))
def V6{iter}(K:PassesOwn (model X.prog X.w) X.A X.env X.xe)(hc:X.calm=true)(hi:PI X c iter wi)(hg:PG X c g)(p:FP X body tb)
  (hs:autoParam (∀x,i6 iter X.env x=pure x) zzx._auto_1):PS X (.For c iter body [] pos) (zv wi g tb):=by
 intro a s σ H D I h;refine wpAny_For (iW (hi a s σ H _ I h) λv s1 h1=>iW h1 λnc s2 h2=>?_) hs;obtain⟨it,F,tn,J,H2,e,I2,T,S,f2,W,⟨m0,w0⟩,turn⟩:=h2;subst e
 -- what stays true of the iterator's objects through the gb
 have q:∀{z:Hp},(∀b∈F,z b=none)->∀b∈F,BO X a z b:=λhn b p=>⟨hn b p,(f2 b p).2⟩;refine codeAny_forLoop_any (λn s'=>∃i t z,dJ X a t z s'/\tn i s'.heap/\(∀b∈F,z b=none)/\W i n t z) ?_ m0 ⟨0,σ,H2,I2,S,λb p=>(f2 b p).1,w0⟩;rintro n s3 ⟨i,y,H3,Z,M,G,w3⟩;rcases turn i n y H3 w3 with⟨stop,qn⟩ | ⟨go,N,hN,step⟩
 ·refine k8 K (iW (T.done X kA kA kA hc i a s3 y H3 X.xe Z (q G) M stop) λr s4 E=>?_);obtain⟨Q,I4⟩:=E;subst Q;exact y4 ⟨y,H3,I4,qn⟩
 ·refine k8 K (iW (T.item X kA kA kA hc i a s3 y H3 X.xe Z (q G) M go) λr s4 E=>?_);obtain⟨u,Q,h4⟩:=E;subst Q;refine k8 K (iW h4 λ_ s5 E=>?_);obtain⟨x,Y,I5,r5,y5,C,P⟩:=E;have O:=I5.pinned (q P) (T.obj _ _ C);refine k8 K (iW (hg _ s5 y Y x u _ O r5 (step x Y y5)) λ_ s6 E=>?_);obtain⟨U,H6,I6,q6⟩:=E;refine k8 K (iW (p _ s6 U H6 _ I6 q6) λf R B=>?_)
  have ii:∀{j:St}{k:Hp},dJ X (a++DE F s5.heap) j k R->N j k->∃m,m<n/\∃i t z,dJ X a t z R/\tn i R.heap/\(∀b∈F,z b=none)/\W i m t z:=λ{j k} l L=>by
   obtain⟨m',hm,w7⟩:=hN j k L;refine⟨m',hm,i+1,j,k,l.unpinned,T.keep _ _ _ C λb p o e=>(l.pin (b,o) (cZ _ (cZ _ (rV p e)))).1,λb p=>?_,w7⟩;obtain⟨o,e,d⟩:=T.obj _ _ C b p;exact(l.pin (b,o) (cZ _ (cZ _ (rV p e)))).2.1
  cases f with
  |next=>obtain⟨j,k,l,L⟩:=B;exact ii l L
  |cont=>obtain⟨j,k,l,L⟩:=B;exact ii l L
  |brk=>obtain⟨j,k,l,B⟩:=B;exact⟨j,k,l.unpinned,B⟩
  |ret v=>obtain⟨x7,j,k,l,r7,B⟩:=B;exact⟨x7,j,k,l.unpinned,r7,B⟩
end
abbrev R2:=V->V->Hp->VK->Prop
def nW(X:Cx)(f:Value->Value->Sem Value)(r:R2):Prop:=
 ∀pins s σ H(x y:V)(v u:Value)Q,dJ X pins σ H s->fS x v->fS y u->r x y H Q ->
  wpAny (model X.prog X.w) X.A (f v u) (EP X pins σ Q) X.xe s
def Ae(X:Cx)(f:Value->Sem Value)(r:V->Hp->VK->Prop):Prop:=
 ∀pins s σ H(x:V)(v:Value)Q,dJ X pins σ H s->fS x v->r x H Q ->
  wpAny (model X.prog X.w) X.A (f v) (EP X pins σ Q) X.xe s
def lR(X:Cx)(f:Value)(r:List V->Hp->VK->Prop):Prop:=
 ∀pins s σ H(b:List V)(a:List Value)Q,dJ X pins σ H s->fQ b a->r b H Q ->
  wpAny (model X.prog X.w) X.A (call f a) (EP X pins σ Q) X.xe s
def Gd(X:Cx)(r:V->Hp->(Bool->Hp->Prop)->Prop):Prop:=
 ∀pins s σ H(x:V)(v:Value)(Q:Bool->Hp->Prop),dJ X pins σ H s->fS x v->r x H Q ->
  wpAny (model X.prog X.w) X.A (truthy v) (TP X pins σ Q) X.xe s
def wm(r:R2)(d e:TE):TE:=λa H Q=>d a H λx b=>e a b λy c=>r x y c Q
def EM(r:V->Hp->VK->Prop)(b:TE):TE:=λc H Q=>b c H λx a=>r x a Q
def rI(C:Int->Int->Prop)(g:Int->Int->V):R2:=λx y H Q=>∃i j,x=.int i/\y=.int j/\C i j/\Q (g i j) H
def VZ(g:Int->Int->V):R2:=λx y H Q=>∃i j,x=.int i/\y=.int j/\Q (g i j) H
def rU(g:Int->V):V->Hp->VK->Prop:=λx H Q=>∃i,x=.int i/\Q (g i) H
section
variable{X:Cx}{a b:Expr}{c d:TE}{pos:Pos}
def za(o:PE X a c)(p:PE X b d){R:V->V->Hp->Prop}(I:dJ X pins σ H s)
  (h:c σ H λx k=>d σ k λy e=>R x y e) {Q:Value->Shared->Prop} {f:Value->Value->Sem Value}
  (q:∀v u j x y e,dJ X pins σ e j->fS x v->fS y u->R x y e->wpAny (model X.prog X.w) X.A (f v u) Q X.xe j) :
  wpAny (model X.prog X.w) X.A (eval a X.env) (λv g=>wpAny (model X.prog X.w) X.A (eval b X.env) (λu i=>wpAny (model X.prog X.w) X.A (f v u) Q X.xe i) X.xe g) X.xe s:=by
 refine iW (o pins s σ H _ I h) λv B l=>?_;obtain⟨x,k,m,t,q1⟩:=l;refine iW (p pins B σ k _ m q1) λu j l=>?_;obtain⟨y,e,n,z,r⟩:=l;exact q v u j x y e n t z r
def LI(k:nW X (j1 op) r)(i:PE X a c)(j:PE X b d):PE X (.BinOp a op b pos) (wm r c d):=by
 intro e s o H Q I h;exact wpAny_BinOp (za i j I h λv u n x y f g l m q=>k e n o f x y v u Q g l m q)
def Lq{r:V->Hp->VK->Prop}(k:Ae X (unaryOp op) r)(j:PE X a c):PE X (.UnaryOp op a pos) (EM r c):=by
 intro e s f H Q I h;exact UnaryOp_ (iW (j e s f H _ I h) λv m ⟨x,g,i,l,q1⟩=>k e m f g x v Q i l q1)
def xp{f:Value->Value->Sem Value}{C:Int->Int->Prop}{g:Int->Int->Int}
  (rule:∀(i j:Int)(t u:Tok)(s:Shared)Q E,C i j->Q (.int (g i j) s.toks) { s with toks:=s.toks+1 }->wpAny (model X.prog X.w) X.A (f (.int i t) (.int j u)) Q E s) :
  nW X f (rI C λi j=>.int (g i j)):=by
 intro e s o H x y v u Q I l m h;obtain⟨i,j,rfl,rfl,k,q⟩:=h;obtain⟨t,rfl⟩:=l;obtain⟨n,rfl⟩:=m;exact rule i j t n s _ _ k ⟨.int (g i j),H,I.tok _,⟨_,kA⟩,q⟩
def Br{f:Value->Value->Sem Value}{g:Int->Int->Int}
  (rule:∀(i j:Int)(t u:Tok)(s:Shared)Q E,Q (.int (g i j) s.toks) { s with toks:=s.toks+1 }->wpAny (model X.prog X.w) X.A (f (.int i t) (.int j u)) Q E s) :
  nW X f (VZ λi j=>.int (g i j)):=by
 intro e s n H x y v u Q I k l h;obtain⟨i,j,rfl,rfl,q⟩:=h;obtain⟨t,rfl⟩:=k;obtain⟨m,rfl⟩:=l;exact rule i j t m s _ _ ⟨.int (g i j),H,I.tok _,⟨_,kA⟩,q⟩
def yc{f:Value->Value->Sem Value}{g:Int->Int->Bool}
  (rule:∀(i j:Int)(t u:Tok)s Q E,Q (.bool (g i j)) s->wpAny (model X.prog X.w) X.A (f (.int i t) (.int j u)) Q E s) :
  nW X f (VZ λi j=>.bl (g i j)):=by
 intro e s n H x y v u Q I k l h;obtain⟨i,j,rfl,rfl,q⟩:=h;obtain⟨t,rfl⟩:=k;obtain⟨m,rfl⟩:=l;exact rule i j t m s _ _ ⟨.bl (g i j),H,I,kA,q⟩
def yz(i j:Int):Prop:=0<j/\j<1073741824
def O0(i j:Int):Prop:=(-(2^64)<i/\i<2^64)\/(-(2^64)<j/\j<2^64)
def O0.ok{i j:Int}(h:O0 i j):IntMulOk i j:=by
 rcases h with⟨e,f⟩ | ⟨e,f⟩
 ·exact .of_left (intBits_le_64 e f)
 ·exact .of_right (intBits_le_64 e f)
def Ub:nW X (j1 .Add) (VZ λi j=>.int (i+j)):=Br λ_ _ _ _ _ _ _ q=>add_int q
def rR:nW X (j1 .Sub) (VZ λi j=>.int (i-j)):=Br λ_ _ _ _ _ _ _ q=>sub_int q
def WM:nW X (j1 .Mult) (rI O0 λi j=>.int (i*j)):=xp λ_ _ _ _ _ _ _ e q=>mul_int q e.ok
def xX:nW X (j1 .FloorDiv) (rI yz λi j=>.int (i / j)):=xp λi j _ _ _ _ _ e q=>by
 have f:(0:Int)<j:=e.1;have g:j<1073741824:=e.2;exact floordiv_int hG (by rw[KG i hG];exact q) (.inl (PyProof.noPylong_small hG))
def oT:nW X (j1 .Mod) (rI (λ_ j=>0<j) λi j=>.int (i%j)):=xp λi j _ _ _ _ _ e q=>by
 have f:(0:Int)<j:=e;exact mod_int' hG (by rw[Int.fmod_eq_emod_of_nonneg i hG];exact q)
def EC{f:Value->Sem Value}{g:Int->Int}
  (rule:∀(i:Int)(t:Tok)(s:Shared)Q E,Q (.int (g i) s.toks) { s with toks:=s.toks+1 }->wpAny (model X.prog X.w) X.A (f (.int i t)) Q E s) :
  Ae X f (rU λi=>.int (g i)):=by
 intro e s k H x v Q I j h;obtain⟨i,rfl,q⟩:=h;obtain⟨t,rfl⟩:=j;exact rule i t s _ _ ⟨.int (g i),H,I.tok _,⟨_,kA⟩,q⟩
def Vk:Ae X (unaryOp .USub) (rU λi=>.int (-i)):=EC λ_ _ _ _ _ q=>neg_int q
end
noncomputable def Ac:V->V->Bool
|.non,.non=>true | .non,.int _=>true | .int _,.non=>true | .non,.bl _=>true | .bl _,.non=>true | .non,.str _=>true | .str _,.non=>true
|.int _,.int _=>true | .bl _,.bl _=>true | .str _,.str _=>true | .byt _,.byt _=>true
|.int _,.str _=>true | .str _,.int _=>true | .bl _,.str _=>true | .str _,.bl _=>true
|_,_=>false
def Aq:R2:=λx y H Q=>Ac x y=true/\Q (.bl (decide (x=y))) H
def Ao:R2:=λx y H Q=>Ac x y=true/\Q (.bl (!decide (x=y))) H
def QX{i j:Int}:decide (V.int i=V.int j)=(i==j):=by
 rw[dN];simp
def Y3{i j:Bool}:decide (V.bl i=V.bl j)=(i==j):=by
 rw[dN];simp
def QW:decide (V.str i=V.str j)=(i==j):=by
 rw[dN];simp
def QY{i j:Array UInt8}:decide (V.byt i=V.byt j)=(i.toList==j.toList):=by
 rw[dN];cases i;cases j;simp
section
variable{X:Cx}{a b c:Expr}{g l n:TE}{pos:Pos}
def gF{k d:Bool}(I:dJ X pins σ H s)(q:Q (.bl k) H)(e:k=d):EP X pins σ Q (.bool d) s:=by
 subst e;exact⟨.bl k,H,I,kA,q⟩
def iL:nW X (c8 .Eq) Aq:=by
 intro m s o H x y v u Q I k d h;obtain⟨f,q⟩:=h
 cases x with
 |non=>
  cases k
  cases y with
  |non=>cases d;exact PySem.EqNone.eq_none_none (gF I q hH)
  |bl j=>cases d;exact PySem.EqNone.eq_none_bool (gF I q hH)
  |int j=>obtain⟨e,rfl⟩:=d;exact PySem.EqNone.eq_none_int (gF I q hH)
  |str j=>obtain⟨e,rfl⟩:=d;exact PySem.EqNone.eq_none_str (gF I q hH)
  |_=>exact b9 (show false=true from f) bQ
 |bl i=>
  cases k
  cases y with
  |non=>cases d;exact PySem.EqNone.eq_bool_none (gF I q hH)
  |bl j=>cases d;exact eq_bool (gF I q Y3)
  |str j=>obtain⟨e,rfl⟩:=d;exact PySem.EqMixed.eq_bool_str (gF I q hH)
  |_=>exact b9 (show false=true from f) bQ
 |int i=>
  obtain⟨t,rfl⟩:=k
  cases y with
  |non=>cases d;exact PySem.EqNone.eq_int_none (gF I q hH)
  |int j=>obtain⟨e,rfl⟩:=d;exact eq_int (gF I q QX)
  |str j=>obtain⟨e,rfl⟩:=d;exact PySem.EqMixed.eq_int_str (gF I q hH)
  |_=>exact b9 (show false=true from f) bQ
 |str i=>
  obtain⟨t,rfl⟩:=k
  cases y with
  |non=>cases d;exact PySem.EqNone.eq_str_none (gF I q hH)
  |bl j=>cases d;exact PySem.EqMixed.eq_str_bool (gF I q hH)
  |int j=>obtain⟨e,rfl⟩:=d;exact PySem.EqMixed.eq_str_int (gF I q hH)
  |str j=>obtain⟨e,rfl⟩:=d;exact eq_str (gF I q QW)
  |_=>exact b9 (show false=true from f) bQ
 |byt i=>
  obtain⟨t,rfl⟩:=k
  cases y with
  |byt j=>obtain⟨e,rfl⟩:=d;exact PySem.W.eq_bytes (gF I q QY)
  |_=>exact b9 (show false=true from f) bQ
 |_=>cases y<;>exact b9 (show false=true from f) bQ
def PY:nW X (c8 .NotEq) Ao:=by
 intro m s o H x y v u Q I k d h;obtain⟨f,q⟩:=h
 cases x with
 |non=>
  cases k
  cases y with
  |non=>cases d;exact PySem.EqNone.ne_none_none (gF I q hH)
  |bl j=>cases d;exact PySem.EqNone.ne_none_bool (gF I q hH)
  |int j=>obtain⟨e,rfl⟩:=d;exact PySem.EqNone.ne_none_int (gF I q hH)
  |str j=>obtain⟨e,rfl⟩:=d;exact PySem.EqNone.ne_none_str (gF I q hH)
  |_=>exact b9 (show false=true from f) bQ
 |bl i=>
  cases k
  cases y with
  |non=>cases d;exact PySem.EqNone.ne_bool_none (gF I q hH)
  |bl j=>cases d;exact ne_bool (gF I q (e5 not Y3))
  |str j=>obtain⟨e,rfl⟩:=d;exact PySem.EqMixed.ne_bool_str (gF I q hH)
  |_=>exact b9 (show false=true from f) bQ
 |int i=>
  obtain⟨t,rfl⟩:=k
  cases y with
  |non=>cases d;exact PySem.EqNone.ne_int_none (gF I q hH)
  |int j=>obtain⟨e,rfl⟩:=d;exact ne_int (gF I q (e5 not QX))
  |str j=>obtain⟨e,rfl⟩:=d;exact PySem.EqMixed.ne_int_str (gF I q hH)
  |_=>exact b9 (show false=true from f) bQ
 |str i=>
  obtain⟨t,rfl⟩:=k
  cases y with
  |non=>cases d;exact PySem.EqNone.ne_str_none (gF I q hH)
  |bl j=>cases d;exact PySem.EqMixed.ne_str_bool (gF I q hH)
  |int j=>obtain⟨e,rfl⟩:=d;exact PySem.EqMixed.ne_str_int (gF I q hH)
  |str j=>obtain⟨e,rfl⟩:=d;exact ne_str (gF I q (e5 not QW))
  |_=>exact b9 (show false=true from f) bQ
 |byt i=>
  obtain⟨t,rfl⟩:=k
  cases y with
  |byt j=>obtain⟨e,rfl⟩:=d;exact PySem.W.ne_bytes (gF I q (e5 not QY))
  |_=>exact b9 (show false=true from f) bQ
 |_=>cases y<;>exact b9 (show false=true from f) bQ
def PZ:nW X (c8 .Lt) (VZ λi j=>.bl (decide (i<j))):=yc λ_ _ _ _ _ _ _ q=>lt_int q
def LK:nW X (c8 .LtE) (VZ λi j=>.bl (decide (i<=j))):=yc λ_ _ _ _ _ _ _ q=>le_int q
def AU:nW X (c8 .Gt) (VZ λi j=>.bl (decide (j<i))):=yc λ_ _ _ _ _ _ _ q=>gt_int q
def GI:nW X (c8 .GtE) (VZ λi j=>.bl (decide (j<=i))):=yc λ_ _ _ _ _ _ _ q=>ge_int q
def GH:nW X (c8 .In) (λx y H Q=>∃i j,x=.str i/\y=.str j/\Q (.bl (!(j0 j i 0 j.length 1).isEmpty)) H):=by
 intro d s m H x y v u Q I e f h;obtain⟨i,j,rfl,rfl,q⟩:=h;obtain⟨t,rfl⟩:=e;obtain⟨k,rfl⟩:=f;exact in_str (gF I q kA)
def Ud:nW X (c8 .Is) (λx y H Q=>y=.non/\Q (.bl (decide (x=.non))) H):=by
 intro d s i H x y v u Q I e f h;obtain⟨rfl,q⟩:=h;cases f;refine is_none_gen (gF I q ?_)
 cases x<;>first
  | (cases e;rfl)
  | (obtain⟨t,rfl⟩:=e;rfl)
def Xl:nW X (c8 .IsNot) (λx y H Q=>y=.non/\Q (.bl (!decide (x=.non))) H):=by
 intro d s i H x y v u Q I e f h;obtain⟨rfl,q⟩:=h;cases f;refine isnot_none_gen (gF I q ?_)
 cases x<;>first
  | (cases e;rfl)
  | (obtain⟨t,rfl⟩:=e;rfl)
def nW.or{f:Value->Value->Sem Value}{r e:R2}(h:nW X f r)(m:nW X f e):nW X f (λx y H Q=>r x y H Q\/e x y H Q):=by
 intro d s k H x y v u Q I i j q;rcases q with q | q
 ·exact h d s k H x y v u Q I i j q
 ·exact m d s k H x y v u Q I i j q
def IK(b:Expr)(h:autoParam (op≠.In) zzy._auto_1)(f:autoParam (op≠.NotIn) zzy._auto_1):g7 op b=false:=by
 have d:(op==CmpOp.In)=false:=by cases op<;>first | rfl | exact b9 kA h
 have e:(op==CmpOp.NotIn)=false:=by cases op<;>first | rfl | exact b9 kA f
 cases b<;>simp[g7,d,e]
def PX(m:nW X (c8 op) r)(i:PE X a g)(j:PE X b l)(k:g7 op b=false):PE X (.Compare a [op] [b] pos) (wm r g l):=by
 intro d s w H Q I h;exact wpAny_Compare1 (za i j I h λv u t x y e f o p q=>m d t w e x y v u Q f o p q) k
def Ek(t:TE):TT:=λe H Q=>t e H λx d=>∃k,x=.bl k/\Q k d
def PP(A:nW X (c8 op) r)(q:PE X a g)(t:PE X b l)(w:g7 op b=false):PT X (.Compare a [op] [b] pos) (Ek (wm r g l)):=by
 intro d s f H Q I h
 refine fw (iW (q d s f H _ I h) λv J ⟨x,i,m,E,q1⟩=>iW (t d J f i _ m q1) λu K ⟨y,j,o,F,B⟩=>
  iW (A d K f j x y v u _ o E F B) λc s3 ⟨z,H3,p,G,k,e,C⟩=>?_) w
 subst e;cases G;exact e8 ⟨H3,p,C⟩
def NH(r i:R2)(g l n:TE):TE:=λd H Q=>g d H λx e=>l d e λy f=>r x y f λz H3=>∃k,z=.bl k /\
 (if k=true then n d H3 λj h=>i y j h Q else Q (.bl false) H3)
def WJ(K:nW X (c8 op) r)(j:nW X (c8 op') r')(E:PE X a g)(F:PE X b l)(G:PE X c n)
  (J:autoParam (ez [op,op'] [b,c]=false) zzr._auto_1):PE X (.Compare a [op,op'] [b,c] pos) (NH r r' g l n):=by
 intro f s i H Q I h
 refine Compare_chain (iW (E f s i H _ I h) λv R ⟨x,q,A,N,q1⟩=>chain_link (iW (F f R i q _ A q1) λu S ⟨y,t,B,p,L⟩=>
  iW (K f S i t x y v u _ B N p L) λd s3 ⟨z,H3,m,O,k,e,o⟩=>?_)) J
 subst e;cases O;refine e8 ?_
 cases k with
 |false=>exact ite_ff ⟨.bl false,H3,m,kA,o⟩
 |true=>exact ite_tt (chain_last (iW (G f s3 i H3 _ m o) λU T ⟨W,w,C,P,M⟩=>j f T i w y W u U Q C p P M))
def V4(O:nW X (c8 op) r)(j:nW X (c8 op') r')(K:PE X a g)(L:PE X b l)(M:PE X c n)
  (N:autoParam (ez [op,op'] [b,c]=false) zzr._auto_1):PT X (.Compare a [op,op'] [b,c] pos) (Ek (NH r r' g l n)):=by
 intro f s i H Q I h
 refine isTrue_chain (iW (K f s i H _ I h) λv s1 ⟨x,q,B,U,q1⟩=>test_link (iW (L f s1 i q _ B q1) λu s2 ⟨y,t,C,p,R⟩=>
  iW (O f s2 i t x y v u _ C U p R) λd s3 ⟨z,H3,m,W,k,e,o⟩=>?_)) N
 subst e;cases W;refine e8 ?_
 cases k with
 |false=>
  obtain⟨k',G,P⟩:=o;cases G;exact ite_ff ⟨H3,m,P⟩
 |true=>
  refine ite_tt (test_last (iW (M f s3 i H3 _ m o) λw' s4 ⟨z',w,E,Y,S⟩=>iW (j f s4 i w y z' u w' _ E p Y S) λd' s5 zq=>?_));obtain⟨z2,A,F,Z,k2,J,T⟩:=zq;subst J;cases Z;exact e8 ⟨A,F,T⟩
def zk(K:aI)(x:V)(H:Hp)(k:Bool):Prop:=
 match x with
 |.non=>k=false
 |.bl b=>k=b
 |.int i=>k=(i != 0)
 |.str y=>y.length<=bF/\k=((y.length:Int) != 0)
 |.byt y=>y.size<=bF/\k=((y.size:Int) != 0)
 |.ref p=>(∃d,mK K H p d/\k=!d.isEmpty)\/(∃d,oR K H p d/\k=!d.isEmpty)\/∃kvs,H p=some (.dK kvs)/\k=!kvs.isEmpty
 |_=>False
def OE{d:Type}{kvs:List (d×V)}{vs:List (d×Value)}(r:KV kvs vs):(!vs.isEmpty)=!kvs.isEmpty:=by
 cases r<;>rfl
def DY{e:List V}{d:List Value}(r:fQ e d):(!d.toArray.isEmpty)=!e.isEmpty:=by
 cases r<;>simp
def wU:(bF:Nat)<2^63:=by rw[ck];decide
def Vg:Gd X (λx H Q=>∃k,zk X.K x H k/\Q k H):=by
 intro C s L H x v Q I o h;obtain⟨k,e,q⟩:=h;have G:=wU;have J:bF=16777216:=ck
 cases x with
 |non=>
  cases o;have d:k=false:=e;subst d;exact truthy_none ⟨H,I,q⟩
 |bl b=>
  cases o;have d:k=b:=e;subst d;exact e8 ⟨H,I,q⟩
 |int i=>
  obtain⟨t,rfl⟩:=o;have d:k=(i != 0):=e;subst d;exact PySem.P.truthy_int ⟨H,I,q⟩
 |str y=>
  obtain⟨t,rfl⟩:=o;obtain⟨F,d⟩:y.length<=bF/\k=((y.length:Int) != 0):=e;subst d;exact PySem.P.truthy_str hG ⟨H,I.tok _,q⟩
 |byt y=>
  obtain⟨t,rfl⟩:=o;obtain⟨F,d⟩:y.size<=bF/\k=((y.size:Int) != 0):=e;subst d;exact PySem.W.truthy_bytes hG ⟨H,I.tok _,q⟩
 |ref p=>
  cases o;have d:(∃j,mK X.K H p j/\k=!j.isEmpty)\/(∃j,oR X.K H p j/\k=!j.isEmpty)\/∃kvs,H p=some (.dK kvs)/\k=!kvs.isEmpty:=e;rcases d with⟨j,u,d⟩ | ⟨j,u,d⟩ | ⟨kvs,u,d⟩
  ·subst d;obtain⟨z,r,A,B⟩:=I.list u;have f:=r.length;exact wpAny_truthy_list A.isList (by simp only[bA];lia) ⟨H,I.tok _,by rw[DY r];exact q⟩
  ·subst d;obtain⟨z,r,A,B⟩:=I.tuple u;have f:=r.length;exact truthy_tuple A (by simp only[bA];lia) ⟨H,I.tok _,by rw[DY r];exact q⟩
  ·subst d;obtain⟨B,E,vs,r,m⟩:kvs.length<=bF/\(p==j3)=false/\∃vs,KV kvs vs/\s.heap.DictOf (jB X.prog X.w) p vs:=I.hok p _ u;have f:kvs.length=vs.length:=x6 r;exact wpAny_truthy_dict E m hG ⟨H,I.tok _,by rw[OE r];exact q⟩
 |_=>exact(show False from e).elim
def LG(m:PE X a g)(o:∀whole,isTrue a X.env whole=(do let v <- whole;dh a.pos;aj [v] (truthy v))) :
  PT X a (λe H Q=>g e H λx f=>∃k,zk X.K x f k/\Q k f):=by
 intro d s e H Q I h;exact isTrue_plain (iW (m d s e H _ I h) λv q ⟨x,i,j,p,q1⟩=>Vg d q e i x v Q j p q1) (o _)
def NY:nW X (j1 .Add) (λx y H Q=>∃i j,x=.str i/\y=.str j/\i.length+j.length<=bF/\Q (.str (i++j)) H):=by
 intro d s p H x y v u Q I f k h;obtain⟨i,j,rfl,rfl,e,q⟩:=h;obtain⟨t,rfl⟩:=f;obtain⟨m,rfl⟩:=k;exact add_str (λm o=>⟨.str (i++j),H,I.tok _,⟨_,kA⟩,q⟩) e
def nI(r:fQ [x] us):∃u,us=[u]/\fS x u:=by
 cases r with
 |cons d e=>cases e;exact⟨_,kA,d⟩
def El(r:fQ [x,y] us):∃u d,us=[u,d]/\fS x u/\fS y d:=by
 cases r with
 |cons e f=>
  cases f with
  |cons h i=>cases i;exact⟨_,_,kA,e,h⟩
def TX:lR X (.type "int") (λd H Q=>(∃i,d=[.int i]/\Q (.int i) H)\/∃k,d=[.bl k]/\Q (.int (if k then 1 else 0)) H):=by
 intro e s m H d j Q I r h;rcases h with⟨i,rfl,q⟩ | ⟨k,rfl,q⟩
 ·obtain⟨u,rfl,t,rfl⟩:=nI r;exact call_int_int ⟨.int i,H,I,⟨_,kA⟩,q⟩
 ·obtain⟨u,rfl,f⟩:=nI r;cases f;exact call_int_bool ⟨.int (if k then 1 else 0),H,I.tok _,⟨_,kA⟩,q⟩
end
structure OW(h:Heap)(x dx C:Addr)(mA:Str->Option Value):Prop where
 obj:h.get? x=some (jQ C dx)
 ns:h.Ns1 dx mA
 ne:dx≠x
def SU{h:Heap}{dx:Addr}{d:Str->Option Value}(n:h.Ns1 dx d):∃f,h.get? dx=some f/\∀name,uK name f=some (d name):=by
 obtain⟨o,c,l,j,hd,hk,_,i⟩:=n;refine⟨o,j,λname=>?_⟩;have e:=i name;unfold nsFind findBy at e;rw[<- Array.find?_toList]at e;unfold uK;rw[hd];dsimp only;split
 ·rename_i y q;rw[q]at e;exact e5 some e
 ·rename_i q;rw[q]at e
  have a:c.toList.any (·.refKey)=false:=by
   rw[ZU];intro y k;obtain⟨z,t,b⟩:=hk y (Array.mem_toList_iff.mp k);simp[DictEntry.refKey,b]
  have g:¬c.toList.any (·.refKey)=true:=by rw[a];exact bQ
  rw[a8 g];exact e5 some e
def OW.look{h}{x dx C:Addr}{b:Str->Option Value}(I:OW h x dx C b):∃a,lT h x (jQ C dx) C (some a)/\∀name,uK name a=some (b name):=
 let ⟨a,ho,hl⟩:=SU I.ns
 ⟨a,⟨I.obj,kA,kA,ho⟩,hl⟩
section
variable{prog:cK}{w:e6}{A:d8}{E:Value->Shared->Prop}{s:Shared}{K:aI}{x dx C f:Addr}{c:Str->Option Value}{name:Str}{v:Value}
def Wl{a:Bool}{Q:Value->Shared->Prop}(X:K.In s.heap)(I:OW s.heap x dx C c)(e:qY K C name=true)(hh:yZ K C=true)
  (d:fH K (.ref C) name=some none) (i:c name=some v) (b:T9 v=true) (h:Q v { s with toks:=s.toks+1 }) :
  wpAny (model prog w) A (getAttr (.ref x) name a) Q E s:=by
 obtain⟨j,J,g⟩:=I.look;exact PySem.W.get_value X J (vX e).1 (PySem.W.findObj_own hh d kA (by rw[g,i])) b h
def YF{Q:Value×List Value->Shared->Prop}(X:K.In s.heap)(I:OW s.heap x dx C c)(a:qY K C name=true)
  (b:fH K (.ref C) name=some (some (.ref f))) (e:J6 K (.ref f)=true) (g:c name=none) (h:Q (.ref f,[.ref x]) s) :
  wpAny (model prog w) A (ey (.ref x) name pl) Q E s:=by
 obtain⟨i,J,d⟩:=I.look;exact PySem.W.method_fn X J (vX a).1 (vX a).2 b (beq_iff_eq.mp e) (by show(uK name i).map (·.isSome)=some false;rw[d,g];rfl) h
def Zi{ns:List Str}{Q:Unit->Shared->Prop}(X:K.In s.heap)(I:OW s.heap x dx C c)
  (q:fH K (.ref C) "__setattr__"=some (some (.builtin "object.__setattr__"))) (p:RB K C=true) (u:BQ K C name=some none) (hh:yZ K C=true)
  (hw:cr c ns) (t:ns.length<=bF)
  (h:∀g,OW g x dx C (λy=>if y=name then some v else c y)->fV dx s.heap g->Q () { s with heap:=g,toks:=s.toks+2 }) :
  wpAny (model prog w) A (setAttr (.ref x) name v) Q E s:=by
 obtain⟨G,J,B⟩:=I.look;refine PySem.W.set_plain X J q (PySem.W.osa_open (s:={ s with toks:=s.toks+1 }) (r:=none) X J p u λb=>?_);obtain⟨cd,o,j⟩:=PySem.W.any_some hh;have z:s.heap.get? x=some ⟨.ref C,some dx,.plain,#[]⟩:=I.obj;refine aK (bC (aK (aK (wpAny_loadPart z (aK (PySem.W.Looks.here (s:={ s with toks:=s.toks+1 }) (PySem.W.looks_clsIn X o) ?_))))));rw[j];refine bC (a:=some dx) (aK (bC (aK ?_)));refine wpAny_nsSet1 (s:={ s with toks:=s.toks+1 }) I.ns λg d e=>?_;obtain⟨F,n,m,l,k,i⟩:=d.count (PySem.Within.cons name v hw);refine aK (wpAny_lookBehind l (by rw[k];exact pastItsLine_dict (bE i (by rw[bN];lia))) ?_);exact bC (h _ ⟨(e.2 _ (k6 I.ne)).trans I.obj,d,I.ne⟩ e)
def XL{R:Result->Shared->Prop}(X:K.In s.heap)(e:UO K C=true)
  (b:fH K (.ref C) "__init__"=some (some (.ref f))) (a:PySem.W.typeIn K (.ref f)=some (.type "function"))
  (h:u6 (model prog w) (A.under (.builtin "type.__call__" ⟨.ref C::vs,kw⟩)) (.call (.ref f) ⟨.ref (s.heap.objs.size+1)::vs,kw⟩) (PySem.W.InitBack (s.heap.objs.size+1) R)
   { s with heap:=(s.heap.push hV).push (jQ C s.heap.objs.size) }) :
  u6 (model prog w) A (.call (.ref C) ⟨vs,kw⟩) R s:=by
 obtain⟨hh,g,d,t,os⟩:=s;exact PySem.W.make_core (PySem.W.makes_of X e) (oP X b) (λself=>PySem.W.bind_fn X self a) (.inl kA) h
end
noncomputable def tO(f:Str)(v:V):List (Str×V)->List (Str×V)
|[]=>[(f,v)]
| (g,x)::r=>if g=f then(g,v)::r else(g,x)::tO f v r
theorem AY(f g:Str)(v:V):∀fs:List (Str×V),(tO f v fs).lookup g=if g=f then some v else fs.lookup g
|[]=>by
 show jW g [(f,v)]=_;by_cases h:g=f
 ·have a:(g==f)=true:=beq_iff_eq.mpr h;simp only[jW,a,a9 h]
 ·have a:(g==f)=false:=beq_eq_false_iff_ne.mpr h;simp only[jW,a,a8 h]
| (k,x)::r=>by
 have b:=AY f g v r;rw[show tO f v ((k,x)::r)=(if k=f then(k,v)::r else(k,x)::tO f v r)from rfl];by_cases hk:k=f
 ·rw[a9 hk];by_cases h:g=k
  ·have a:(g==k)=true:=beq_iff_eq.mpr h;simp only[jW,a,a9 (h.trans hk)]
  ·have a:(g==k)=false:=beq_eq_false_iff_ne.mpr h;simp only[jW,a,a8 (λe:g=f=>h (e.trans hk.symm))]
 ·rw[a8 hk];by_cases h:g=k
  ·have a:(g==k)=true:=beq_iff_eq.mpr h;simp only[jW,a,a8 (λe:g=f=>hk (h.symm.trans e))]
  ·have a:(g==k)=false:=beq_eq_false_iff_ne.mpr h;simp only[jW,a];exact b
theorem zU(f:Str)(v:V):∀fs:List (Str×V),f∈(tO f v fs).map (·.1)/\∀g,g∈fs.map (·.1)->g∈(tO f v fs).map (·.1)
|[]=>⟨by simp[tO],λg h=>by simp at h⟩
| (k,x)::r=>by
 obtain⟨a,b⟩:=zU f v r;rw[show tO f v ((k,x)::r)=(if k=f then(k,v)::r else(k,x)::tO f v r)from rfl];by_cases hk:k=f
 ·rw[a9 hk];subst hk;exact⟨hH,λg h=>by simpa using h⟩
 ·rw[a8 hk];refine⟨?_,λg h=>?_⟩
  ·rw[bI];exact aJ _ a
  ·rw[bI]at h |-
   rcases aR.mp h with e | e
   ·exact aR.mpr (.inl e)
   ·exact aJ _ (b g e)
theorem A2(f:Str)(v:V):∀fs:List (Str×V),(tO f v fs).length<=fs.length+1
|[]=>by simp[tO]
| (k,x)::r=>by
 have a:=A2 f v r;rw[show tO f v ((k,x)::r)=(if k=f then(k,v)::r else(k,x)::tO f v r)from rfl];by_cases hk:k=f
 ·rw[a9 hk,bN,bN];lia
 ·rw[a8 hk,bN,bN];lia
def vT.some_of(r:vT (some v) o):∃u,o=some u/\fS v u:=by
 cases o with
 |none=>exact(show False from r).elim
 |some u=>exact⟨u,kA,r⟩
def vT.none_of(r:vT none o):o=none:=by
 cases o with
 |none=>rfl
 |some u=>exact(show False from r).elim
def S8(r:fS v u):T9 u=true:=by
 cases v with
 |non=>cases (show u=k7 from r);rfl
 |bl b=>cases (show u=z0 b from r);rfl
 |int i=>obtain⟨t,e⟩:=(show∃t,u=l9 i t from r);cases e;rfl
 |str x=>obtain⟨t,e⟩:=(show∃t,u=ar x t from r);cases e;rfl
 |byt b=>obtain⟨t,e⟩:=(show∃t,u=Value.bytes b t from r);cases e;rfl
 |flt b=>obtain⟨t,e⟩:=(show∃t,u=dj b t from r);cases e;rfl
 |ref a=>cases (show u=d5 a from r);rfl
 |ty n=>cases (show u=bf n from r);rfl
section
variable{P:cK}{w:e6}{H:Hp}{h:Heap}{a C dx:Addr}{fs:List (Str×V)}
def CF(hok:sO P w H h)(e:H a=some (.ins C dx fs)):∃b,OW h a dx C b/\(∀f,vT (fs.lookup f) (b f))/\cr b (fs.map (·.1))/\fs.length<=1000/\H dx=some (.own a):=by
 obtain⟨d,z,ne,ob,b,n,r,q⟩:=(show jG P w H h a (.ins C dx fs)from hok a _ e);exact⟨b,⟨ob,n,ne⟩,r,q,z,d⟩
end
structure A9(K:aI)(C:Addr):Prop where
 pg:qY K C Str.empty=true
 hd:yZ K C=true
 po:RB K C=true
 sa:fH K (.ref C) "__setattr__"=some (some (.builtin "object.__setattr__"))
def A9.get{K}{C:Addr}(c:A9 K C)(f:Str):qY K C f=true:=c.pg
def fY(K:aI)(C:Addr)(f:Str):Prop:=fH K (.ref C) f=some none
def fY.taker{K}{C:Addr}(n:fY K C f):BQ K C f=some none:=by
 unfold BQ;rw[show fH K (.ref C) f=some none from n]
 rfl
structure AI(K:aI)(C:Addr)(m:Str)(f:Addr):Prop where
 at_:fH K (.ref C) m=some (some (.ref f))
 fn:J6 K (.ref f)=true
 kp:gK K (.ref f)=true
section
variable{X:Cx}{d:List (Addr×Obj)}{i:St}{H:Hp}{s:Shared}{a C dx:Addr}{fs:List (Str×V)}{f:Str}{v:V}{A:d8}{E:Value->Shared->Prop}
def D4{b:Bool}{Q:Value->Shared->Prop}(I:dJ X d i H s)(e:H a=some (.ins C dx fs))(c:A9 X.K C)(n:fY X.K C f)(l:fs.lookup f=some v)
  (h:∀u j,dJ X d i H j->fS v u->Q u j):wpAny (model X.prog X.w) A (getAttr (.ref a) f b) Q E s:=by
 obtain⟨m,O,r,_,_,_⟩:=CF I.hok e;obtain⟨u,k,g⟩:=vT.some_of (v:=v) (o:=m f) (by rw[<- l];exact r f);exact Wl I.kIn O (c.get f) c.hd n k (S8 g) (h u _ (I.tok _) g)
def D3{g:Addr}{Q:Value×List Value->Shared->Prop}(I:dJ X d i H s)(e:H a=some (.ins C dx fs))(c:A9 X.K C)(k:AI X.K C m g)(l:fs.lookup m=none)
  (h:Q (.ref g,[.ref a]) s):wpAny (model X.prog X.w) A (ey (.ref a) m pl) Q E s:=by
 obtain⟨j,O,r,_,_,_⟩:=CF I.hok e;have b:j m=none:=vT.none_of (by rw[<- l];exact r m);exact YF I.kIn O (c.get m) k.at_ k.fn b h
def C4{Q:Unit->Shared->Prop}(I:dJ X d i H s)(e:H a=some (.ins C dx fs))(c:A9 X.K C)(n:fY X.K C f)(L:fs.length<1000)(J:fS y u)
  (h:∀m,dJ X d i (fG H a (.ins C dx (tO f y fs))) m->Q () m):wpAny (model X.prog X.w) A (setAttr (.ref a) f u) Q E s:=by
 obtain⟨l,O,r,p,_,k⟩:=CF I.hok e;have G:(fs.map (·.1)).length<=bF:=by rw[aA,ck];lia
 refine Zi I.kIn O c.sa c.po n.taker c.hd p G λt j sb=>h _ ?_;have hd:∃o,t.get? dx=some o:=let ⟨o,_,_,e',_⟩:=j.ns;⟨o,e'⟩
 refine I.write (x:=a) (e:=dx) (by rw[e];exact e9) (.inr k) (λb q B z=>(sb.2 b B).trans z) hd ?_;refine⟨by rw[cC O.ne];exact k,?_,O.ne,j.obj,_,j.ns,λg=>?_,λg F=>?_⟩
 ·have:=A2 f y fs;lia
 ·show vT ((tO f y fs).lookup g) (if g=f then some u else l g);rw[AY];by_cases q:g=f
  ·rw[a9 q,a9 q];exact J
  ·rw[a8 q,a8 q];exact r g
 ·by_cases q:g=f
  ·rw[q];exact(zU f y fs).1
  ·refine(zU f y fs).2 g (p g λz=>F ?_);show(if g=f then some u else l g)=none;rw[a8 q];exact z
def dJ.made(I:dJ X d i H s):dJ X d i (fG (fG H s.heap.objs.size (.own (s.heap.objs.size+1))) (s.heap.objs.size+1) (.ins C s.heap.objs.size []))
  { s with heap:=(s.heap.push hV).push (jQ C s.heap.objs.size) }:=by
 have c:(s.heap.push hV).get? s.heap.objs.size=some hV:=aY s.heap kA
 have h:((s.heap.push hV).push (jQ C s.heap.objs.size)).get? (s.heap.objs.size+1)=some (jQ C s.heap.objs.size):=by
  have:=aY (s.heap.push hV) (o:=jQ C s.heap.objs.size) kA
  rwa [dX]at this
 have j:(s.heap.push hV).Ns s.heap.objs.size (λ_=>none):=⟨hV,#[],_,c,kA,(λe k=>b9 k hH),λ_=>rfl⟩;have g:=I.laid (a:=s.heap.objs.size) (o:=.own (s.heap.objs.size+1)) (h':=s.heap.push hV) (t':=s.toks) (λb u q=>aE _ q) (aN _) ⟨_,c⟩;refine g.laid (a:=s.heap.objs.size+1) (o:=.ins C s.heap.objs.size []) (t':=s.toks) (λb u q=>aE _ q) (mS (dX _ _)) ?_;have ne:s.heap.objs.size≠s.heap.objs.size+1:=dD (mR _);refine⟨by rw[cC ne,cD],cJ _,ne,h,λ_=>none,(Heap.Ns1.of_empty j).at λo q=>aE _ q,λ_=>e9,λy l=>b9 kA l⟩
def Vw{f s}{Q:Value->Shared->Prop}(c:g4 e f env (eval e env)=eval e env)
  (h:wpAny (model prog w) A (eval e env) (λo b=>wpAny (model prog w) A (getAttr o f true) Q E b) E s):wpAny (model prog w) A (eval (.Attribute e f pos) env) Q E s:=
 Attribute_any_ h (by rw[arm_eval_Attribute,c])
end
def Bv(K:aI)(c:TE)(f:Str):TE:=λd H Q=>c d H λx b=>∃a C dx fs v,x=.ref a/\b a=some (.ins C dx fs)/\A9 K C/\fY K C f/\fs.lookup f=some v/\Q v b
def HU(K:aI)(e tv:TE)(f:Str):TS:=λD b H=>tv b H λy d=>e b d λx c=>∃a C dx fs,x=.ref a/\c a=some (.ins C dx fs)/\A9 K C/\fY K C f/\fs.length<1000 /\
 D.nx b (fG c a (.ins C dx (tO f y fs)))
def Ay(X:Cx)(a:Operator)(b:V->V->Hp->VK->Prop):Prop:=
 ∀pins s σ H(x y:V)(u v:Value)Q,dJ X pins σ H s->fS x u->fS y v->b x y H Q->wpAny (model X.prog X.w) X.A (inplaceOp a u v) (EP X pins σ Q) X.xe s
def Ze(K:aI)(i tv:TE)(h:V->V->Hp->VK->Prop)(f:Str):TS:=λD d H=>i d H λx e=>∃a C dx fs v,x=.ref a/\e a=some (.ins C dx fs)/\A9 K C/\fY K C f/\fs.lookup f=some v /\
 tv d e λy g=>h v y g λz H3=>∃c b,H3 a=some (.ins C c b)/\b.length<1000/\D.nx d (fG H3 a (.ins C c (tO f z b)))
section
variable{X:Cx}{o e b:Expr}{f:Str}{pos d k:Pos}{g tv:TE}
def NV(w:PE X e g)(t:g4 e f X.env (eval e X.env)=eval e X.env):PE X (.Attribute e f pos) (Bv X.K g f):=by
 intro i s B H Q I h;refine Vw t (iW (w i s B H _ I h) λu E A=>?_);obtain⟨x,j,m,z,a,C,dx,fs,v,ex,r,c,n,l,q⟩:=A;subst ex;obtain rfl:u=d5 a:=z;exact D4 m r c n l λG F p y=>⟨v,j,p,y,q⟩
def rQ(w:PE X o g)(A:PE X b tv)(z:mF b (some (.Attribute o f d)) pos.line X.env=pure false):PS X (.Assign [.Attribute o f d] b pos) (HU X.K g tv f):=by
 intro i s j H D I h;refine plainObj_wpAny_Assign_Attribute (iW (A i s j H _ I h) λu J ⟨y,m,p,G,q⟩=>iW (w i J j m _ p q) λB N L=>?_) z;obtain⟨x,M,r,F,a,C,dx,fs,ex,v,c,n,l,E⟩:=L;subst ex;obtain rfl:B=d5 a:=F;exact C4 r v c n l G λs3 t=>⟨j,_,t,E⟩
def R3{t:V->V->Hp->VK->Prop}(O:PE X o g)(P:PE X b tv)(p:Ay X op t):PS X (.AugAssign (.Attribute o f k) op b pos) (Ze X.K g tv t f):=by
 intro i s j H D I h;refine wpAny_AugAssign_AttributeAny (iW (O i s j H _ I h) λR s1 r=>?_);obtain⟨x,w,B,W,a,C,dx,fs,v,ex,M,c,n,l,q⟩:=r;subst ex;obtain rfl:R=d5 a:=W;refine D4 B M c n l λu s2 E U=>iW (P i s2 j w _ E q) λw3 s3 ⟨y,A,F,Y,S⟩=>iW (p i s3 j A v y u w3 _ F U Y S) λw4 s4 r=>?_;obtain⟨z,H3,G,Z,L,N,m,Q,T⟩:=r;exact C4 G m c n Q Z λs5 J=>⟨j,_,J,T⟩
def Hg:V->V->Hp->VK->Prop:=λx y H Q=>∃i j,x=.int i/\y=.int j/\Q (.int (i+j)) H
def Ul:Ay X .Add Hg:=by
 rintro a s m H x y u v Q I h l ⟨i,j,rfl,rfl,q⟩;obtain⟨t,rfl⟩:=(show∃t,u=l9 i t from h);obtain⟨c,rfl⟩:=(show∃c,v=l9 j c from l);exact PyProof.Rows.iadd_int ⟨.int (i+j),H,I.tok _,⟨_,kA⟩,q⟩
end
section
variable{X:Cx}{d:List (Addr×Obj)}{f:St}{H:Hp}{s:Shared}{A:d8}{E:Value->Shared->Prop}{Q:Value->Shared->Prop}{c:Value}{b:Bool}
inductive BM(K:aI)(H:Hp):V->Value->Prop where
|non:BM K H .non (.type "NoneType")
|bl (x:Bool):BM K H (.bl x) (.type "bool")
|int (i:Int):BM K H (.int i) (.type "int")
|str (x:Str):BM K H (.str x) (.type "str")
|flt (x:UInt64):BM K H (.flt x) (.type "float")
|lst {a:Addr} {xs:List V} (e:H a=some (.lst xs)):BM K H (.ref a) (.type "list")
|frz {a:Addr} {o:Obj} {xs:List V} (e:H a=some (.frz o (.lst xs))):BM K H (.ref a) (.type "list")
|tup {a:Addr} {xs:List V} (e:H a=some (.tup xs)):BM K H (.ref a) (.type "tuple")
|dK {a:Addr} {kvs:List (mO×V)} (e:H a=some (.dK kvs)):BM K H (.ref a) (.type "dict")
|dT {a:Addr} {kvs:List (List mO×V)} (e:H a=some (.dT kvs)):BM K H (.ref a) (.type "dict")
|ins {a C dx:Addr} {fs:List (Str×V)} (e:H a=some (.ins C dx fs)) (cl:A9 K C) (ha:fH K (.ref C) "__class__"=some (some (.builtin "object.__class__")))
  (hn:PySem.W.specialIn K (.builtin "object.__class__") "__get__"=some (some (.builtin "getset_descriptor.__get__"))) (jq:PySem.W.takesIn K (.builtin "object.__class__")=some true)
  (hm:FS K C (.type "object")=some true):BM K H (.ref a) (.ref C)
def vA(I:dJ X d f H s)(g:fS x u)(ty:BM X.K H x t)(e:lS X.K t c=some b)(h:∀v,Q (.bool b) { s with toks:=v }) :
  wpAny (model X.prog X.w) A (call (.builtin "isinstance") [u,c]) Q E s:=by
 cases ty with
 |non=>cases (show u=k7 from g);exact eO PySem.W.kitx_none I.kIn e9 e (λz=>nomatch z) h
 |bl y=>cases (show u=z0 y from g);exact eO PySem.W.kitx_bool I.kIn e9 e (λz=>nomatch z) h
 |int i=>obtain⟨t,q⟩:=(show∃t,u=l9 i t from g);cases q;exact eO PySem.W.kitx_int I.kIn e9 e (λz=>nomatch z) h
 |str y=>obtain⟨t,q⟩:=(show∃t,u=ar y t from g);cases q;exact eO PySem.W.kitx_str I.kIn e9 e (λz=>nomatch z) h
 |flt y=>obtain⟨t,q⟩:=(show∃t,u=dj y t from g);cases q;exact eO PySem.W.kitx_float I.kIn e9 e (λz=>nomatch z) h
 |@lst a k ea=>
  cases (show u=d5 a from g);obtain⟨_,_,n,_,j⟩:=(show jG X.prog X.w H s.heap a (.lst k)from I.hok a _ ea);exact eO pY I.kIn ⟨_,j,kA⟩ e (λz=>nomatch z) h
 |@frz a ob k ea=>
  cases (show u=d5 a from g);obtain⟨_,_,_,n,_,j⟩:=(show jG X.prog X.w H s.heap a (.frz ob (.lst k))from I.hok a _ ea);exact eO pY I.kIn ⟨_,j,kA⟩ e (λz=>nomatch z) h
 |@tup a k ea=>
  cases (show u=d5 a from g);obtain⟨_,_,_,p⟩:=(show jG X.prog X.w H s.heap a (.tup k)from I.hok a _ ea);obtain⟨o,j,l,_⟩:=p;exact eO O2 I.kIn ⟨o,j,l⟩ e (λz=>nomatch z) h
 |@dK a kvs ea=>
  cases (show u=d5 a from g);obtain⟨_,_,vs,_,p⟩:=(show jG X.prog X.w H s.heap a (.dK kvs)from I.hok a _ ea);obtain⟨o,r,m,j,l,_⟩:=p;exact eO RC I.kIn ⟨o,j,l.1⟩ e (λz=>nomatch z) h
 |@dT a kvs ea=>
  cases (show u=d5 a from g);obtain⟨_,_,k,_,o,r,m,j,l,_⟩:=(show jG X.prog X.w H s.heap a (.dT kvs)from I.hok a _ ea);exact eO RC I.kIn ⟨o,j,l.1⟩ e (λz=>nomatch z) h
 |@ins a C dx fs ea cl ha hn jq hm=>
  cases (show u=d5 a from g);obtain⟨B,O,_⟩:=CF I.hok ea;obtain⟨F,J,_⟩:=O.look;exact eO (PySem.W.kitx_own (cl.get _) cl.hd ha hn jq hm) I.kIn J e (λz=>nomatch z) h
end
structure hW(k:Nat)(A:d8):Prop where
 hd:A.handled=none
 dp:A.depth+3*k+5<aa
 un:A.units+16*k+200<x0
 gd:A.guards=some []
def hW.mono{j k:Nat}(r:hW k A)(h:j<=k):hW j A:=⟨r.hd,by have:=r.dp;lia,by have:=r.un;lia,r.gd⟩
theorem hW.deeper{k:Nat}{A:d8}(r:hW (k+1) A)(env:Env):hW k (A.deeper env):=
 ⟨r.hd,by have:=r.dp;show A.depth+1+3*k+5<_;lia,by have:=r.un;show A.units+3+16*k+200<_;lia,r.gd⟩
theorem hW.in1{k:Nat}{A:d8}(r:hW (k+1) A):hW k A.in1:=
 ⟨r.hd,by have:=r.dp;show A.depth+3*k+5<_;lia,by have:=r.un;show A.units+1+16*k+200<_;lia,r.gd⟩
def N6{A:d8}{C:Addr}:(A.under (.builtin "type.__call__" ⟨.ref C::us,kw⟩)).depth=A.depth+1:=by
 first | rfl | simp[z5,Code.weight,Code.isCreation,Code.isGuard,Code.isCaller,Code.frames,db,guardIds]
def N5{A:d8}{C:Addr}:(A.under (.builtin "type.__call__" ⟨.ref C::us,kw⟩)).units=A.units+1:=by
 first | rfl | simp[z5,Code.cUnits,Code.frames,db]
def hW.make{k:Nat}{A:d8}(r:hW (k+1) A)(C:Addr)(b:List Value)(a:List (Str×Value)):hW k (A.under (.builtin "type.__call__" ⟨.ref C::b,a⟩)):=
 ⟨r.hd,by have:=r.dp;rw[N6];lia,by have:=r.un;rw[N5];lia,by first | exact r.gd | (simp[z5,Code.isGuard,guardIds];exact r.gd)⟩
theorem hW.depth{k:Nat}{A:d8}(r:hW k A):A.depth<aa:=by have:=r.dp;lia
theorem hW.units{k:Nat}{A:d8}(r:hW k A):A.units+64<x0:=by have:=r.un;lia
def KZ:TA:=λ_ H Q=>Q [] H
def xP(d:TE)(tr:TA):TA:=λa H Q=>d a H λx b=>tr a b λe c=>Q (x::e) c
section
variable{X:Cx}{e:Expr}{a:List Expr}{c:TE}{t:TA}{pos:Pos}
def qC:PA X [] KZ:=λ_ _ _ _ H Q I h=>Calls.spliced_nil ⟨[],H,I,.nil,h⟩
def lE(k:PE X e c)(l:PA X a t)(m:autoParam (bY (e::a) X.env=(false,eval e X.env)::bY a X.env) zzz._auto_1):PA X (e::a) (xP c t):=by
 intro pos b s d H Q I h;rw[m];show wpAny _ _ (spliced ((false,eval e X.env)::j2 pos (bY a X.env))) _ _ s;refine Calls.spliced_cons (iW (k b s d H _ I h) λu q v=>?_);obtain⟨x,f,i,o,q1⟩:=v;exact iW (l pos b q d f _ i q1) λy w ⟨r,g,j,p,n⟩=>⟨x::r,g,j,.cons o p,n⟩
def Ij(t:TA):TE:=λf H Q=>t f H λd b=>d.length<=bF/\∀p,b p=none->Q (.ref p) (fG b p (.tup d))
def Ie(t:TA):TE:=λf H Q=>t f H λd b=>d.length<=bF/\∀p,b p=none->Q (.ref p) (fG b p (.lst d))
def NS(h:PA X a t):PE X (.Tuple a x1 pos) (Ij t):=by
 intro d s n H Q I k;refine wpAny_Tuple_spliced (iW (h pos d s n H _ I k) λl f ⟨m,g,i,r,z,q⟩=>⟨by rw[<- r.length];exact z,?_⟩);have j:g f.heap.objs.size=none:=i.hok.fresh (aN _);refine⟨.ref f.heap.objs.size,fG g f.heap.objs.size (.tup m),i.laid (t':=f.toks) (λb u e=>aE _ e) (aN _) ?_,kA,q _ j⟩;exact⟨z,l,r,⟨_,aY _ kA,kA,_,kA,kA⟩⟩
def NU(h:PA X a t):PE X (.List a pos) (Ie t):=by
 intro d s n H Q I k;refine wpAny_List_spliced (iW (h pos d s n H _ I k) λl f ⟨m,g,i,r,z,q⟩=>⟨by rw[<- r.length];exact z,?_⟩);have j:g f.heap.objs.size=none:=i.hok.fresh (aN _);refine⟨.ref f.heap.objs.size,fG g f.heap.objs.size (.lst m),i.laid (t':=f.toks) (λb u e=>aE _ e) (aN _) ?_,kA,q _ j⟩;exact⟨z,l,0,r,aY _ kA⟩
end
abbrev Sp:=List V->Hp->VK->XK->Prop
abbrev UN:=List Env->Hp->Shared->XK->Value->Shared->Prop
structure OZ(P:cK)(w:e6)(K:aI)(mg:Str->Option Value)(base:Heap)(A:d8)(outer:List Env)(s:Shared)(H:Hp):Prop where
 frames:A.frames=some outer
 mod:Mod K mg base
 bs:∀b o,base.get? b=some o->s.heap.get? b=some o/\H b=none
 bsz:base.objs.size<=s.heap.objs.size
 funs:s.heap.FunFrames base outer
 frf:∀b∈L7 outer,H b=none
 hok:sO P w H s.heap
 bare:v4 s.gens
 tab:Tb H
def CE(outer:List Env)(P:cK)(w:e6)(H:Hp)(s:Shared)(Q:VK)(u:Value)(a:Shared):Prop:=
 ∃v b,a.os=s.os/\v4 a.gens/\Un (L7 outer) [] H b s.heap a.heap/\sO P w b a.heap/\fS v u/\Q v b
def CR(b:UN)(outer:List Env)(P:cK)(w:e6)(H:Hp)(s:Shared)(Q:VK)(E:XK)(r:Result)(a:Shared):Prop:=
 match r with
 |.ok (.ret u)=>CE outer P w H s Q u a
 |.ok _=>False
 |.error e=>b outer H s E e a
structure mB(P:cK)(w:e6)(K:aI)(mg:Str->Option Value)(base:Heap)(CX:UN)(k:Nat)(f:Addr)(fd:hX)(ps:List Str)(sp:Sp):Prop where
 len:∀vs H Q E,sp vs H Q E->vs.length=ps.length
 run:∀A outer s H(args:Args)(us:List Value)(vs:List V)Q E,hW k A->OZ P w K mg base A outer s H->BindsTo s fd args (ps.zip us)->fQ vs us->sp vs H Q E ->
  u6 (model P w) A (.call (.ref f) args) (CR CX outer P w H s Q E) s
def mB.imp{K}{mg:Str->Option Value}{k:Nat}{f:Addr}{c b:Sp}(F:mB P w K mg base CX k f fd ps c)
  (h:∀vs H Q E,b vs H Q E->c vs H Q E):mB P w K mg base CX k f fd ps b:=
 ⟨λvs H Q E q=>F.len vs H Q E (h _ _ _ _ q),λA outer s H a l vs Q E g e d j i=>F.run A outer s H a l vs Q E g e d j (h _ _ _ _ i)⟩
def OZ.make{K}{mg:Str->Option Value}{A:d8}(e:OZ P w K mg base A outer s H)(C:Addr)(b:List Value)(a:List (Str×Value)) :
  OZ P w K mg base (A.under (.builtin "type.__call__" ⟨.ref C::b,a⟩)) outer s H:=⟨by first | exact e.frames | (simpa[z5,Code.envs,db,pushEnvs]using e.frames),e.mod,e.bs,e.bsz,e.funs,e.frf,e.hok,e.bare,e.tab⟩
section
variable{X:Cx}{a:List (Addr×Obj)}{f:St}{H:Hp}{s c:Shared}
def dJ.env0(I:dJ X a f H s):OZ X.prog X.w X.K X.mg X.base X.A X.stack s H:=
 ⟨I.ok.frames,I.ok.mod,I.bs,bE I.ok.bsz I.sz,I.stack,I.stkFree,I.hok,I.bare,λP e=>let ⟨ps,h⟩:=I.ok.tab P e;let ⟨m,h'⟩:=I.base.tbls P ps h;⟨_,h'⟩⟩
def dJ.after(I:dJ X a f H s)(h:CE X.stack X.prog X.w H s Q u c):EP X a f Q u c:=by
 obtain⟨v,i,os,bare,un,hok,r,q⟩:=h;obtain⟨hh,g,d,t,e⟩:=c;obtain rfl:e=s.os:=os;exact⟨v,i,I.call (h':=hh) (g':=g) (d':=d) (t':=t) (ch:=[]) un hok bare (λb z=>b9 z hH),r,q⟩
end
def F6(c:Sp)(a:List V)(E:XK)(t:TA):TE:=λd H Q=>t d H λvs b=>c (vs++a) b Q E
def K0(C:Addr)(m:Str)(f:Sp)(b:List V)(E:XK)(g:TE)(t:TA):TE:=λd H Q=>g d H λx c=>∃a dx fs,x=.ref a/\c a=some (.ins C dx fs)/\fs.lookup m=none /\
 t d c λvs e=>f (x::(vs++b)) e Q E
def VB(C:Addr)(d:Sp)(b:List V)(E:XK)(t:TA):TE:=λe H Q=>t e H λvs a=>∀x dx,a x=none->a dx=none->dx≠x ->
 d (.ref x::(vs++b)) (fG (fG a dx (.own x)) x (.ins C dx [])) (λv c=>v=.non/\Q (.ref x) c) E
def pX(K:aI)(d:hX)(c:List Str)(b:List Value):Prop:=
 ∀(s:Shared)(a:List Value),K.In s.heap->(a++b).length=c.length->BindsTo s d ⟨a,[]⟩ (c.zip (a++b))
def pX.all{K}{b:List Str}(h:∀a:List Value,a.length=b.length->bindArgs fd ⟨a,[]⟩=pure (b.zip a)):pX K fd b []:=λs a _ c=>by
 rw[dH]at c |-
 exact .of_eq (h a c)
def xD(a:UN)(X:Cx)(E:XK):Prop:=∀pins σ H s(e:Value)s',dJ X pins σ H s->a X.stack H s E e s'->X.xe e s'
section
variable{X:Cx}{n:UN}{k:Nat}{f C:Addr}{y:hX}{j:List Str}{z:Sp}{b:List V}{g:List Value}{E:XK}{x m:Str}{p pos d:Pos}{e o:Expr}{i:List Expr}{B:TE}{t:TA}
def NJ(F:mB X.prog X.w X.K X.mg X.base n k f y j z)(v:hW k X.A)(l:pX X.K y j g)(hd:fQ b g)(G:xD n X E)
  (I:dJ X pins σ H s) (r:fQ vs us) (h:z (vs++b) H Q E):wpAny (model X.prog X.w) X.A (call (.ref f) us) (EP X pins σ Q) X.xe s:=by
 have c:fQ (vs++b) (us++g):=r.append hd;have q:(us++g).length=j.length:=by rw[<- c.length];exact F.len _ _ _ _ h
 refine ic (bi (F.run X.A X.stack s H ⟨us,[]⟩ (us++g) (vs++b) Q E v I.env0 (l s us I.kIn q) c h) λr J a=>?_)
 cases r with
 |error e=>exact G pins σ H s e J I a
 |ok fl=>
  cases fl with
  |ret u=>exact I.after a
  |next=>exact i0 a
  |brk=>exact i0 a
  |cont=>exact i0 a
def pT(F:mB X.prog X.w X.K X.mg X.base n k f y j z)(N:hW k X.A)(L:Gl X x)(M:X.mg x=some (.ref f))(hk:gK X.K (.ref f)=true)(G:pX X.K y j g)(hd:fQ b g)(O:xD n X E)
  (v:PA X (e::i) t) (c:autoParam ((x==("__debug__":Str))=false) zzy._auto_1) (J:autoParam (bY (e::i) X.env=(false,eval e X.env)::bY i X.env) zzz._auto_1) (l:autoParam ((j2 pos (bY i X.env)).any (·.1)=false) zzz._auto_1) :
  PE X (.Call (.Name x p) (e::i) [] pos) (F6 z b E t):=by
 intro a s P H Q I h;refine n7 (IV I L M ?_ c);refine xF (h₀:=X.base) I.ok.mod.kin hk (iW (v pos a s P H _ I h) λT S ⟨vs,R,u,r,q⟩=>⟨u.kIn,?_⟩) J l;exact NJ F N G hd O u r q
def nK(U:PE X o B)(c:A9 X.K C)(N:AI X.K C m f)(F:mB X.prog X.w X.K X.mg X.base n k f y j z)(W:hW k X.A)(T:pX X.K y j g)(hd:fQ b g)(Z:xD n X E)(S:PA X (e::i) t)
  (J:autoParam (bY (e::i) X.env=(false,eval e X.env)::bY i X.env) zzz._auto_1) (G:autoParam ((j2 pos (bY i X.env)).any (·.1)=false) zzz._auto_1)
  (Y:eval (.Call (.Attribute o m d) (e::i) [] pos) X.env=(do
   let ov <- eval o X.env
   dh d.atName
   let (f,first) <- aj [ov] (ey ov m pl)
   callWith pos f first (j2 pos (bY (e::i) X.env)) (backToKw pos (fz [] X.env))):=by rfl) :
  PE X (.Call (.Attribute o m d) (e::i) [] pos) (K0 C m z b E B t):=by
 intro v s O H Q I h;refine KP (pl:=pl) (iW (U v s O H _ I h) λu s1 zq=>?_) Y;obtain⟨x,P,L,rx,a,dx,fs,ex,R,l,q⟩:=zq;subst ex;obtain rfl:u=d5 a:=rx;refine D3 L R c N l ?_;refine xF (first:=[.ref a]) (h₀:=X.base) I.ok.mod.kin N.kp (iW (S pos v s1 O P _ L q) λus s2 ⟨vs,H2,M,r,q2⟩=>⟨M.kIn,?_⟩) J G;exact NJ (us:=.ref a::us) (vs:=.ref a::vs) F W T hd Z M (.cons kA r) q2
def xV(M:PE X o B)(c:A9 X.K C)(G:AI X.K C m f)(F:mB X.prog X.w X.K X.mg X.base n k f y j z)(N:hW k X.A)(L:pX X.K y j g)(hd:fQ b g)(P:xD n X E)
  (O:eval (.Call (.Attribute o m d) [] [] pos) X.env=(do
   let ov <- eval o X.env
   dh d.atName
   let (f,first) <- aj [ov] (ey ov m pl)
   callWith pos f first (j2 pos (bY [] X.env)) (backToKw pos (fz [] X.env))):=by rfl) :
  PE X (.Call (.Attribute o m d) [] [] pos) (K0 C m z b E B KZ):=by
 intro r s T H Q I h;refine KP (pl:=pl) (iW (M r s T H _ I h) λu Y S=>?_) O;obtain⟨x,U,v,R,a,dx,fs,ex,J,l,q⟩:=S;subst ex;obtain rfl:u=d5 a:=R;refine D3 v J c G l ?_;exact PySem.W.callWith_K0 (first:=[.ref a]) v.kIn G.kp (NJ (us:=[.ref a]) (vs:=[.ref a]) F N L hd P v (.cons kA .nil) q)
structure Mk(K:aI)(C f:Addr):Prop where
 makes:UO K C=true
 init:fH K (.ref C) "__init__"=some (some (.ref f))
 fn:J6 K (.ref f)=true
 kp:gK K (.ref C)=true
def VQ{H:Hp}{Q:VK}(M:Mk X.K C f)(F:mB X.prog X.w X.K X.mg X.base n k f y j z)(R:hW (k+1) X.A)(O:pX X.K y j g)(hd:fQ b g)
  (S:xD n X E) (I:dJ X pins σ H s) (r:fQ vs us)
  (h:∀x dx,H x=none->H dx=none->dx≠x->z (.ref x::(vs++b)) (fG (fG H dx (.own x)) x (.ins C dx [])) (λv J=>v=.non/\Q (.ref x) J) E) :
  wpAny (model X.prog X.w) X.A (call (.ref C) us) (EP X pins σ Q) X.xe s:=by
 have l:=h (s.heap.objs.size+1) s.heap.objs.size (I.hok.fresh (aR4 _)) (I.hok.fresh (aN _)) (dD (mR _));have c:=dJ.made (C:=C) I;have q:fQ (V.ref (s.heap.objs.size+1)::(vs++b)) (d5 (s.heap.objs.size+1)::(us++g)):=.cons kA (r.append hd)
 have P:(d5 (s.heap.objs.size+1)::us++g).length=j.length:=by
  have e:=q.length;rw[F.len _ _ _ _ l]at e;exact e.symm
 refine ic (XL (f:=f) I.kIn M.makes M.init (beq_iff_eq.mp M.fn) (bi (F.run _ X.stack _ _ ⟨d5 (s.heap.objs.size+1)::us,[]⟩ (d5 (s.heap.objs.size+1)::(us++g)) _ _ E (R.make C us [])
  (c.env0.make C us []) (O _ (d5 (s.heap.objs.size+1)::us) c.kIn P) q l) λr W a=>?_))
 cases r with
 |error e=>exact S pins σ _ _ e W c a
 |ok fl=>
  cases fl with
  |ret u=>
   obtain⟨v,G,L,U,N,T⟩:=c.after a;subst N;exact⟨U,⟨V.ref (s.heap.objs.size+1),G,L,kA,T⟩⟩
  |next=>exact i0 a
  |brk=>exact i0 a
  |cont=>exact i0 a
def PV(M:Mk X.K C f)(F:mB X.prog X.w X.K X.mg X.base n k f y j z)(O:hW (k+1) X.A)(L:Gl X x)(N:X.mg x=some (.ref C))(G:pX X.K y j g)(hd:fQ b g)(P:xD n X E)
  (v:PA X (e::i) t) (c:autoParam ((x==("__debug__":Str))=false) zzy._auto_1) (J:autoParam (bY (e::i) X.env=(false,eval e X.env)::bY i X.env) zzz._auto_1) (l:autoParam ((j2 pos (bY i X.env)).any (·.1)=false) zzz._auto_1) :
  PE X (.Call (.Name x p) (e::i) [] pos) (VB C z b E t):=by
 intro a s R H Q I h;refine n7 (IV I L N ?_ c);refine xF (h₀:=X.base) I.ok.mod.kin M.kp (iW (v pos a s R H _ I h) λU T ⟨vs,S,u,r,q⟩=>⟨u.kIn,?_⟩) J l;exact VQ M F O G hd P u r q
end
structure bL(N P:List Str)(sc:Scope):Prop where
 kind:sc.kind=.function
 co:sc.isCoroutine=false
 gen:sc.isGenerator=false
 nd:N.Nodup
 pre:N.take P.length=P
 par:∀x∈P,sc.names.lookup x=some .local\/sc.names.lookup x=some .cell
 nofree:∀y∈sc.names,y.2≠.free
theorem G7{kindOf:Str->Option k5}:∀{binds}{m:Str->Option Value},(∀v,(x,v)∉binds)->bindL kindOf binds m x=m x
|[],_,_=>rfl
| (n,v)::r,m,h=>by
 unfold bindL;rw[G7 λw hw=>h w (aJ _ hw)];split
 ·have:x≠n:=by rintro rfl;exact h v aO
  simp[this]
 ·rfl
theorem G9{kindOf:Str->Option k5}:∀{binds}{m:Str->Option Value},(∀v,(x,v)∉binds)->bindC kindOf binds m x=m x
|[],_,_=>rfl
| (n,v)::r,m,h=>by
 unfold bindC;rw[G9 λw hw=>h w (aJ _ hw)];split
 ·rfl
 ·have:x≠n:=by rintro rfl;exact h v aO
  simp[this]
theorem G8{kindOf:Str->Option k5}:∀{P:List Str}{vs}{i:Nat}{m:Str->Option Value},P.Nodup->P[i]?=some x->vs[i]?=some v->kindOf x=some .local ->
 bindL kindOf (P.zip vs) m x=some v
|[],_,_,_,_,h,_,_=>by simp at h
|_::_,[],_,_,_,_,h,_=>by simp at h
|p::P,w::vs,0,m,nd,h1,h2,hk=>by
 simp at h1 h2;subst h1;subst h2;show bindL kindOf ((p,w)::P.zip vs) m p=_;unfold bindL;rw[G7 λv a=>(lG.mp nd).1 (FE a).1,a9 hk];simp
|p::P,w::vs,i+1,m,nd,h1,h2,hk=>by
 show bindL kindOf ((p,w)::P.zip vs) m x=_;unfold bindL;exact G8 (i:=i) (lG.mp nd).2 (by simpa using h1) (by simpa using h2) hk
theorem HA{kindOf:Str->Option k5}:∀{P:List Str}{vs}{i:Nat}{m:Str->Option Value},P.Nodup->P[i]?=some x->vs[i]?=some v->kindOf x≠some .local ->
 bindC kindOf (P.zip vs) m x=some v
|[],_,_,_,_,h,_,_=>by simp at h
|_::_,[],_,_,_,_,h,_=>by simp at h
|p::P,w::vs,0,m,nd,h1,h2,hk=>by
 simp at h1 h2;subst h1;subst h2;show bindC kindOf ((p,w)::P.zip vs) m p=_;unfold bindC;rw[G9 λv a=>(lG.mp nd).1 (FE a).1,a8 hk];simp
|p::P,w::vs,i+1,m,nd,h1,h2,hk=>by
 show bindC kindOf ((p,w)::P.zip vs) m x=_;unfold bindC;exact HA (i:=i) (lG.mp nd).2 (by simpa using h1) (by simpa using h2) hk
noncomputable def lM(N:List Str)(vs:List V):St:=vs.map some++aF3 (N.length-vs.length) none
noncomputable def vQ(CX:UN)(P:cK)(w:e6)(K:aI)(mg:Str->Option Value)(base:Heap)(N:List Str)(qual:Str)(scope:Scope)(f:Addr)(cd:Value)(A:d8)(outer:List Env)(s:Shared)(H:Hp)(E:XK):Cx where
 prog:=P
 w:=w
 K:=K
 mg:=mg
 base:=base
 A:=A.deeper (n4 qual scope s.heap.objs.size f cd)
 N:=N
 s₀:=s
 H₀:=H
 env:=n4 qual scope s.heap.objs.size f cd
 outer:=outer
 stack:=n4 qual scope s.heap.objs.size f cd::outer
 ex:=[]
 calm:=true
 fn:=λ_=>true
 pn:=[]
 xe:=λe s'=>wpAny (model P w) (A.deeper (n4 qual scope s.heap.objs.size f cd)) (leaving (n4 qual scope s.heap.objs.size f cd) e) (λ_ lr=>CX outer H s E e lr) (λe' lr=>CX outer H s E e' lr) s'
def MJ{a:Scope}{n:Nat}(h:a.names.lookup x=some .cell):∃c,(u8 n a.names []).lookup x=some c:=by
 have q:=J7 a.names n [] (.inl h);exact Option.isSome_iff_exists.mp q
def S4{K}{mg:Str->Option Value}{N m:List Str}{d:Scope}{f:Addr}{cd}{A:d8}{s G:Shared}{vs:List V}
  (S:bL N m d) (hd:A.handled=none) (j:OZ P w K mg base A outer s H) (O:vs.length=m.length) (r:fQ vs us)
  (x:InCallC s s.heap.objs.size (bindL (n4 qual d s.heap.objs.size f cd).kindOf (m.zip us) λ_=>none) (u8 (s.heap.objs.size+1) d.names []) (bindC (n4 qual d s.heap.objs.size f cd).kindOf (m.zip us) λ_=>none) G) :
  dJ (vQ CX P w K mg base N qual d f cd A outer s H E) [] (lM N vs) H G:=by
 have J:m.length<=N.length:=by have:=e5 jK S.pre;rw[bD]at this;lia
 obtain⟨B,Q,rfl,hk⟩:=x.done;have l:∀b:Addr,b∉(vQ CX P w K mg base N qual d f cd A outer s H E).ex:=λb z=>b9 (show b∈([]:List Addr)from z) hH
 refine⟨⟨j.mod,S.kind,kA,kA,aN _,λy z c B g=>?_,λy hy=>?_,λy c _ h=>?_,λ_=>hd,cy j.frames,.inr ⟨kA,kA⟩,λb z=>b9 z (l b),j.bs,j.bsz,λb _ _=>l b,λb z=>b9 z (l b),j.funs,j.frf,j.tab⟩,
  rfl,j.bare,Un.kept hk,⟨_,x.toInCall.ns,λi y v B g M=>?_⟩,λy c h=>⟨_,x.cell y c h⟩,j.hok.fresh (aN _),λy c h=>?_,λp o=>b9 (show p∈([]:List (Addr×Obj))from o) hH,j.hok.kept hk,?_⟩
 ·exact name_of_addr x.apart (g5 B) (g5 g)
 ·have hy:d.names.lookup y=some .cell\/d.names.lookup y=some .free:=hy;rcases hy with hy | hy
  ·exact MJ hy
  ·exact b9 kA (S.nofree _ (g5 hy))
 ·exact iB (x.above y c (g5 h))
 ·have C:i<vs.length:=by
   unfold lM at g;by_cases C:i<vs.length
   ·exact C
   ·rw[dW (by simpa using C)]at g;rw[kO]at g;split at g<;>cases g
  have I:vs[i]?=some v:=by
   unfold lM at g;rw[eE (by simpa using C),aM]at g
   cases e:vs[i]? with
   |none=>rw[e]at g;cases g
   |some a=>rw[e]at g;cases g;rfl
  obtain⟨u,F,L⟩:=r.get I
  have o:m[i]?=some y:=by
   rw[<- S.pre,List.getElem?_take_of_lt hG];exact B
  have t:m.Nodup:=by rw[<- S.pre];exact S.nd.sublist (BA _ _)
  refine⟨u,L,?_⟩;rcases S.par y (aV o)with k | k
  ·exact .inl ⟨k,G8 t o F k⟩
  ·obtain⟨c,e⟩:=MJ (n:=s.heap.objs.size+1) k;refine .inr ⟨.inl k,c,e,?_⟩;have q:=x.cell y c e;rw[HA t o F (by show d.names.lookup y≠_;rw[k];decide)]at q;exact q
 ·exact j.hok.fresh (iB (x.above y c (g5 h)))
 ·unfold lM;show _=N.length;rw[aZ,aA,List.length_replicate];lia
def Cr{K:aI}{mg:Str->Option Value}{k:Nat}{f:Addr}{name kV}
   {N l:List Str} {F:Sp} (Z:K.lookup f=some ⟨oc,od,.func (nT name qual params body scope dV kV gg pm an bu ct),il⟩) (m:pM K bu qual=true) (S:bL N l scope)
  (len:∀vs H Q E,F vs H Q E->vs.length=l.length)
  (d:∀(A:d8)outer(s:Shared)H(vs:List V)Q E,hW k (A.deeper (n4 qual scope s.heap.objs.size f bu))->F vs H Q E ->
   ∃t,FP (vQ CX P w K mg base N qual scope f bu A outer s H E) body t/\t { nx:=λ_ c=>Q .non c,rt:=Q } (lM N vs) H) :
  mB P w K mg base CX (k+1) f (nT name qual params body scope dV kV gg pm an bu ct) l F:=by
 refine⟨len,λA outer s H L us vs Q E p i O r j=>?_⟩;have T:=len _ _ _ _ j;have G:K.In s.heap:=i.mod.kin.keeps λb o e=>(i.bs b o e).1;have z:s.heap.NoLimit:=i.mod.nolimit.keeps λb o e=>(i.bs b o e).1
 have g:∀y∈l.zip us,scope.names.lookup y.1=some .local\/(scope.names.lookup y.1=some .cell/\((u8 (s.heap.objs.size+1) scope.names []).lookup y.1).isSome=true):=λ⟨n,v⟩ Y=>by
  rcases S.par n (FE Y).1 with q | q
  ·exact .inl q
  ·exact .inr ⟨q,J7 _ _ _ (.inl q)⟩
 refine codeAny_call_function p.depth (G _ _ Z) kA S.co S.gen kA (PySem.W.codeRec_of G m) (O _ _ _ _ ?_);refine wpAny_newFunctionEnv_cells S.kind g λenv R M x=>?_;subst R;refine⟨z.keeps x.toInCall.keep,codeAny_func ?_⟩;obtain⟨t,X,U⟩:=d A outer s H vs Q E (p.deeper _) j;have I:dJ (vQ CX P w K mg base N qual scope f bu A outer s H E) [] (lM N vs) H M:=S4 S p.hd i T r x;refine hU (X [] M (lM N vs) H _ I U) (λfl C h=>?_) λe C h=>h
 have fin:∀{a:St}{c:Hp}{v:V}{u:Value},dJ (vQ CX P w K mg base N qual scope f bu A outer s H E) [] a c C->fS v u->Q v c->CE outer P w H s Q u C:=
  λ{a c v u} J B q=>⟨v,c,J.os,J.bare,J.base,J.hok,B,q⟩
 cases fl with
 |ret u=>
  obtain⟨v,a,c,J,B,q⟩:=h;exact fin J B q
 |next=>
  obtain⟨a,c,J,q⟩:=h;exact fin (v:=V.non) (u:=k7) J kA q
 |brk=>
  obtain⟨_,_,_,q⟩:=h;exact i0 q
 |cont=>
  obtain⟨_,_,_,q⟩:=h;exact i0 q
section
variable{X:Cx}{x:Str}{p pos:Pos}{e:Expr}{a:List Expr}{t:TA}{id T:String}{r:List V->Hp->VK->Prop}
def wg(r:List V->Hp->VK->Prop)(t:TA):TE:=λc H Q=>t c H λvs b=>r vs b Q
def DF(k:lR X (.builtin id) r)(m:Gl X x)(n:X.mg x=none)(q:d7 x=some (.builtin id))(j:PA X (e::a) t)(o:autoParam (x≠"__name__") zzy._auto_1)(c:autoParam ((x==("__debug__":Str))=false) zzy._auto_1)
  (l:autoParam (bY (e::a) X.env=(false,eval e X.env)::bY a X.env) zzz._auto_1) (d:autoParam ((j2 pos (bY a X.env)).any (·.1)=false) zzz._auto_1):PE X (.Call (.Name x p) (e::a) [] pos) (wg r t):=by
 intro b s f H Q I h;refine n7 (rX I m n q ?_ o c);exact PyProof.Rows.callWith_builtin1 (iW (j pos b s f H _ I h) λw v ⟨vs,g,i,u,q1⟩=>k b v f g vs w Q i u q1) l d
def uU(k:lR X (.type T) r)(m:Gl X x)(n:X.mg x=none)(q:d7 x=some (.type T))(j:PA X (e::a) t)(o:autoParam (x≠"__name__") zzy._auto_1)(c:autoParam ((x==("__debug__":Str))=false) zzy._auto_1)
  (l:autoParam (bY (e::a) X.env=(false,eval e X.env)::bY a X.env) zzz._auto_1) (d:autoParam ((j2 pos (bY a X.env)).any (·.1)=false) zzz._auto_1):PE X (.Call (.Name x p) (e::a) [] pos) (wg r t):=by
 intro b s f H Q I h;refine n7 (rX I m n q ?_ o c);exact f8 (iW (j pos b s f H _ I h) λw v ⟨vs,g,i,u,q1⟩=>k b v f g vs w Q i u q1) l d
end
end L2
namespace HT
section
variable{prog:cK}{w:e6}{A:d8}{E:Value->Shared->Prop}{s:Shared}
def cat_tup{t b:Addr}{vs a:List Value}{Q:Value->Shared->Prop}(x:ie s.heap t vs.toArray)(v:ie s.heap b a.toArray)(o:vs≠[])
  (r:a=[]->Q (.ref t) s) (u:a≠[]->Q (.ref s.heap.objs.size) { s with heap:=s.heap.push { cls:=.type "tuple",data:=.seq (vs++a).toArray } })
  (j:vs.length+a.length<=bF):wpAny (model prog w) A (j1 .Add (.ref t) (.ref b)) Q E s:=by
 obtain⟨⟨cls,l,data,q⟩,i,m,n,hd⟩:=id x;obtain⟨⟨k,d,data2,h⟩,c,f,p,g⟩:=id v;simp only at m hd f g;subst m hd f g;have e:vs.toArray++a.toArray=(vs++a).toArray:=by simp
 by_cases hw:a=[]
 ·exact bj ⟨_,i,kA⟩ ⟨_,c,kA⟩ bw ef sJ qZ (qJ _ _)
   (tuple_addW1 t b vs.toArray a.toArray n p l d q h (by simpa using o) (by simp[hw])) ⟨i,c,r hw⟩
 ·refine bj ⟨_,i,kA⟩ ⟨_,c,kA⟩ bw ef sJ qZ (qJ _ _)
   (tuple_addW2 t b vs.toArray a.toArray n p l d q h (by simpa using o) (by simpa using hw) (by rw[bA,bA];exact j)) ⟨i,c,?_⟩
  rw[e];exact u hw
noncomputable def sIx(n d:Nat):Option Int->Nat
|none=>d
|some v=>if v<0 then(v+(n:Int)).toNat else min v.toNat n
def sIx_none(n d:Nat):sIx n d none=d:=rfl
def sIx_nat(n d k:Nat):sIx n d (some (k:Int))=min k n:=by
 show(if(k:Int)<0 then((k:Int)+(n:Int)).toNat else min (k:Int).toNat n)=min k n;rw[a8 hG,BU]
def sIx_le(n d:Nat)(hd:d<=n)(o:Option Int):sIx n d o<=n:=by
 cases o with
 |none=>exact hd
 |some v=>
  show(if v<0 then(v+(n:Int)).toNat else min v.toNat n)<=n;by_cases a:v<0
  ·rw[a9 a];lia
  ·rw[a8 a];exact sS _ _
def clip_eq(v:Int)(n d:Nat):(if v<0 then max (v+(n:Int)) 0 else min v (n:Int))=((sIx n d (some v):Nat):Int):=by
 show(if v<0 then max (v+(n:Int)) 0 else min v (n:Int))=(((if v<0 then(v+(n:Int)).toNat else min v.toNat n):Nat):Int);by_cases a:v<0
 ·simp only[a9 a];lia
 ·simp only[a8 a];lia
def OS(lo a:Option Int)(n:Nat):o9 lo a 1 (n:Int)=(((sIx n 0 lo:Nat):Int),((sIx n n a:Nat):Int)):=by
 have b:¬((1:Int)<0):=by lia
 unfold o9;simp only[b,m5];refine Prod.ext ?_ ?_
 ·cases lo with
  |none=>rfl
  |some v=>exact clip_eq v n 0
 ·cases a with
  |none=>rfl
  |some v=>exact clip_eq v n n
def NQ(i j:Nat):j6 (i:Int) (j:Int) 1=j-i:=by
 unfold j6;have a:(1:Int)>0:=by lia
 simp only[a,l7,Int.ediv_one];split<;>lia
def C3{Q:Option Int->Shared->Prop}(p:IsPart v o)(h:Q o s):wpAny (model prog w) A (Builtin.Slice.slicePartIndex v) Q E s:=by
 cases p with
 |none=>exact slicePart_none h
 |int i t=>exact slicePart_int h
def qP{d:Addr}{lo}{n:Nat}{Q:Int×Int×Nat->Shared->Prop}(f:s.heap.IsSliceOf d vl vu .none)(g:IsPart vl lo)(i:IsPart vu b)
  (h:Q (((sIx n 0 lo:Nat):Int),1,sIx n n b-sIx n 0 lo) s):wpAny (model prog w) A (y7 (.ref d) (pure (n:Int))) Q E s:=by
 obtain⟨os,c,e,a⟩:=id f;unfold y7 Builtin.Slice.sliceFields;refine aK (aK (f9 c a (x:=vl) kA (aK (f9 c a (x:=vu) kA (aK (f9 c a (x:=.none) kA (bC ?_)))))));refine aK (slicePart_none ?_);show wpAny _ _ (if((1:Int)==0)=true then _ else _) _ _ s;rw[a8 gV];refine aK (C3 g (aK (C3 i (aK (bC ?_)))));show wpAny _ _ (match o9 lo b 1 (n:Int)with | (lo,b)=>pure (lo,(1:Int),j6 lo b 1)) _ _ s;rw[OS lo b n];show wpAny _ _ (pure (((sIx n 0 lo:Nat):Int),(1:Int),j6 ((sIx n 0 lo:Nat):Int) ((sIx n n b:Nat):Int) 1)) _ _ s;rw[NQ];exact bC h
def V9(a:Array Value)(i k:Nat):((fZ k).filterMap λ(m:Nat)=>a[((i:Int)+(m:Int)*1).toNat]?).toArray=((a.toList.drop i).take k).toArray:=by
 have e:(λ(m:Nat)=>a[((i:Int)+(m:Int)*1).toNat]?)=λm=>a[i+m]?:=by
  funext m;have:((i:Int)+(m:Int)*1).toNat=i+m:=by lia
  rw[this]
 rw[e];have:=pick_run a i k;rw[UT]at this;have b:((λx=>a[x]?)∘λx=>i+x)=λm=>a[i+m]?:=rfl;rw[b]at this;rw[this]
def getItem_tuple_cut{t i:Addr}{a:Array Value}{lo}{Q:Value->Shared->Prop}(c:ie s.heap t a)(j:s.heap.IsSliceOf i vl vu .none)(n:IsPart vl lo)(o:IsPart vu hi)
  (hw:¬(sIx a.size 0 lo=0/\sIx a.size a.size hi=a.size))
  (h:Q (.ref s.heap.objs.size) { s with heap:=s.heap.push { cls:=.type "tuple",data:=.seq ((a.toList.drop (sIx a.size 0 lo)).take (sIx a.size a.size hi-sIx a.size 0 lo)).toArray } })
  (l:a.size<=bF):wpAny (model prog w) A (v7 (.ref t) (.ref i)) Q E s:=by
 have b:sizeOk (.seq ((a.toList.drop (sIx a.size 0 lo)).take (sIx a.size a.size hi-sIx a.size 0 lo)).toArray):=by
  show((a.toList.drop (sIx a.size 0 lo)).take (sIx a.size a.size hi-sIx a.size 0 lo)).toArray.size<=bF;rw[bA,bD,eP,fM];lia
 have p:sIx a.size a.size hi<=a.size:=sIx_le _ _ (aN _) hi;obtain⟨os,g,e,k⟩:=id j;have d:s.TypeIs (.ref i) "slice":=⟨os,g,e⟩;unfold v7
 try with_reducible refine m6 ?_
 first | refine aK (bC ?_) | skip
 refine aK (io c.typeIs gV ?_)
 refine aK (i7 (name:=c7 "__getitem__") c.typeIs i9
  (nD i9 c.typeIs gh ?_ (gm _ _)))
 show wpAny _ _ (y8 (.ref t) >>= _) _ _ s;refine aK (tupleItemsOf_ c ?_);refine aK (fo d ?_);rw[a9 gV];refine aK (qP j n o ?_)
 have f:¬((((sIx a.size 0 lo:Nat):Int)==0&&(1:Int)==1&&(sIx a.size a.size hi-sIx a.size 0 lo)==a.size)=true):=by
  intro q;rw[cS,cS]at q;have q1:((sIx a.size 0 lo:Nat):Int)=0:=ah q.1.1;have r:sIx a.size a.size hi-sIx a.size 0 lo=a.size:=ah q.2;exact hw ⟨hG,hG⟩
 show wpAny _ _ (if(((sIx a.size 0 lo:Nat):Int)==0&&(1:Int)==1&&(sIx a.size a.size hi-sIx a.size 0 lo)==a.size)=true then _ else _) _ _ s;rw[a8 f,V9]
 first
  |exact aK (m:=j7 _) (kI (bC ⟨_,kA,bC h⟩) b)
  |exact aK (m:=j7 _) (kI (aK (bC (bC ⟨_,kA,bC h⟩))) b)
  |exact aK (aK (m:=j7 _) (kI (bC (bC ⟨_,kA,bC h⟩)) b))
  |exact aK (aK (m:=j7 _) (kI (bC ⟨_,kA,bC h⟩) b))
end
end HT
namespace L2
abbrev TO:=St->Hp->(Option Int->Hp->Prop)->Prop
def PO(X:Cx)(e:Option Expr)(t:TO):Prop:=
 ∀pins s σ H(Q:Option Int->Hp->Prop),dJ X pins σ H s->t σ H Q ->
  wpAny (model X.prog X.w) X.A (evalPart e X.env) (λu b=>∃o a,dJ X pins σ a b/\IsPart u o/\Q o a) X.xe s
def Z8:TO:=λ_ H Q=>Q none H
def Rt(t:TE):TO:=λb H Q=>t b H λx a=>∃i,x=.int i/\Q (some i) a
section
variable{X:Cx}{e:Expr}{d:TE}{lo c:Option Expr}{g th:TO}{pos f:Pos}
def Xu:PO X none Z8:=by
 intro a s b H Q I h;rw[evalPart_none];exact bC ⟨none,H,I,.none,h⟩
def Xv(h:PE X e d):PO X (some e) (Rt d):=by
 intro a s m H Q I hw;rw[evalPart_some];refine iW (h a s m H _ I hw) λu n l=>?_;obtain⟨x,b,j,k,q1⟩:=l;obtain⟨i,rfl,q⟩:=q1;obtain⟨t,rfl⟩:=k;exact⟨some i,b,j,.int i t,q⟩
def ZL(X:Cx)(r:V->Option Int->Option Int->Hp->VK->Prop):Prop:=
 ∀pins(s:Shared)σ H(x:V)(v b h:Value)(lo c:Option Int)(a:Addr)Q,dJ X pins σ H s->fS x v->s.heap.IsSliceOf a b h .none->IsPart b lo->IsPart h c->r x lo c H Q ->
  ∃T id,typeLookup (.type T) "__getitem__"=pure (some (.builtin id))/\s.TypeIs v T/\wpAny (model X.prog X.w) X.A (v7 v (.ref a)) (EP X pins σ Q) X.xe s
def ZL.or{r k:V->Option Int->Option Int->Hp->VK->Prop}(h:ZL X r)(t:ZL X k):ZL X (λx lo c H Q=>r x lo c H Q\/k x lo c H Q):=by
 intro a s p H x v n o lo c m Q I l b i j q;rcases q with q | q
 ·exact h a s p H x v n o lo c m Q I l b i j q
 ·exact t a s p H x v n o lo c m Q I l b i j q
def E1(r:V->Option Int->Option Int->Hp->VK->Prop)(d:TE)(g th:TO):TE:=λa H Q=>d a H λx b=>g a b λl h=>th a h λu H3=>r x l u H3 Q
def WE{r:V->Option Int->Option Int->Hp->VK->Prop}(G:ZL X r)(C:PE X e d)(F:PO X lo g)(K:PO X c th):PE X (.Subscript e (.Slice lo c none f) pos) (E1 r d g th):=by
 intro a s i H Q I h;refine gl (iW (C a s i H _ I h) λv R m=>?_);obtain⟨x,n,p,P,q1⟩:=m;refine wpAny_Slice (iW (F a R i n _ p q1) λj S ⟨l,o,t,L,N⟩=>iW (K a S i o _ t N) λk s3 m=>?_);obtain⟨u,H3,y,M,O⟩:=m;rw[evalPart_none];refine bC ?_;have z:dJ X a i H3 { s3 with heap:=s3.heap.push { cls:=.type "slice",data:=.fields #[j,k,.none] } }:=y.kept (t':=s3.toks) λb ob q=>aE _ q;obtain⟨T,id,B,J,E⟩:=G a { s3 with heap:=s3.heap.push { cls:=.type "slice",data:=.fields #[j,k,.none] } } i H3 x v j k l u s3.heap.objs.size Q z P (Heap.IsSliceOf.new ..) L M O;show wpAny (model X.prog X.w) X.A (eg e (.Slice lo c none f) v (.ref s3.heap.objs.size)) (EP X a i Q) X.xe { s3 with heap:=s3.heap.push { cls:=.type "slice",data:=.fields #[j,k,.none] } };exact tail_any (ops:=[.ref s3.heap.objs.size,v]) J B E (by with_unfolding_all rfl)
noncomputable def JM(a:List V)(lo c:Option Int):List V:=(a.drop (HT.sIx a.length 0 lo)).take (HT.sIx a.length a.length c-HT.sIx a.length 0 lo)
def A5(a:List V)(lo c:Option Int):(JM a lo c).length<=a.length:=by
 unfold JM;rw[bD,eP];lia
def Hh(K:aI):V->Option Int->Option Int->Hp->VK->Prop:=λx lo c H Q=>∃a b,x=.ref a/\oR K H a b /\
 ¬(HT.sIx b.length 0 lo=0/\HT.sIx b.length b.length c=b.length)/\∀p,H p=none->Q (.ref p) (fG H p (.tup (JM b lo c)))
def Uu:ZL X (Hh X.K):=by
 intro n s C H x v A B lo c z Q I y p u w h;obtain⟨a,j,rfl,t,hw,q⟩:=h;cases y;obtain⟨k,r,l,m⟩:=I.tuple t;have i:k.toArray.size=j.length:=by rw[bA];exact r.length.symm
 refine⟨"tuple",_,PyProof.Rows.slot_tuple_getitem.lookup,l.typeIs,?_⟩;refine HT.getItem_tuple_cut l p u w (by rw[i];exact hw) ?_ (by rw[i];exact m);rw[i];refine⟨.ref s.heap.objs.size,_,I.laid (t':=s.toks) (o:=.tup (JM j lo c)) (λb ob q=>aE _ q) (aN _) ?_,kA,q _ (I.hok.fresh (aN _))⟩;exact⟨bE (A5 j lo c) m,_,(r.drop (HT.sIx j.length 0 lo)).take (HT.sIx j.length j.length c-HT.sIx j.length 0 lo),FO.new _ _⟩
def Lu(K:aI):R2:=λx y H Q=>∃a b i h,x=.ref a/\y=.ref b/\oR K H a i/\oR K H b h/\i≠[]/\i.length+h.length<=bF /\
 (h=[]->Q (.ref a) H)/\(h≠[]->∀p,H p=none->Q (.ref p) (fG H p (.tup (i++h))))
def fQ.nil_iff(r:fQ xs us):us=[]↔xs=[]:=by
 cases r with
 |nil=>simp
 |cons _ _=>simp
def Xk:nW X (j1 .Add) (Lu X.K):=by
 intro m s G H x y v u Q I B C h;obtain⟨a,b,E,F,rfl,rfl,n,p,r,k,q1,A⟩:=h;cases B;cases C;obtain⟨t,j,p1,_⟩:=I.tuple n;obtain⟨l,i,f,_⟩:=I.tuple p;refine HT.cat_tup p1 f (λz=>r (j.nil_iff.mp z)) (λz=>⟨.ref a,H,I,kA,q1 (i.nil_iff.mp z)⟩) (λz=>?_) (by rw[<- j.length,<- i.length];exact k);refine⟨.ref s.heap.objs.size,_,I.laid (t':=s.toks) (o:=.tup (E++F)) (λb ob q=>aE _ q) (aN _) ?_,kA,A (λw=>z (i.nil_iff.mpr w)) _ (I.hok.fresh (aN _))⟩;exact⟨by rw[aZ];exact k,_,j.append i,FO.new _ _⟩
end
noncomputable def OC(n:Nat)(i:Int):Option Nat:=if 0<=i then(if i<n then some i.toNat else none)else if -(n:Int)<=i then some (i+n).toNat else none
noncomputable def atI{b:Type}(a:List b)(i:Int):Option b:=(OC a.length i).bind λj=>a[j]?
def QE{n:Nat}{i:Int}{j:Nat}(h:OC n i=some j):seqIndex? i n=some j/\j<n/\-(n:Int)<=i/\i<n:=by
 unfold OC at h;by_cases b:0<=i
 ·rw[a9 b]at h;by_cases a:i<n
  ·rw[a9 a]at h;have e:i.toNat=j:=c5 h;exact⟨by rw[gc b a,e],hG,hG,a⟩
  ·rw[a8 a]at h;cases h
 ·rw[a8 b]at h;by_cases a:-(n:Int)<=i
  ·rw[a9 a]at h;have e:(i+n).toNat=j:=c5 h;exact⟨by rw[fj hG a,e],hG,a,hG⟩
  ·rw[a8 a]at h;cases h
def JW{g:Type}{a:List g}{i:Int}{v}(h:atI a i=some v):∃j,seqIndex? i a.length=some j/\a[j]?=some v/\j<a.length/\-(a.length:Int)<=i/\i<a.length:=by
 unfold atI at h
 cases e:OC a.length i with
 |none=>rw[e]at h;cases h
 |some j=>
  rw[e]at h;obtain⟨b,c,d,f⟩:=QE e;exact⟨j,b,h,c,d,f⟩
def eK{a:Type}{xs:List a}{j:Nat}{v:a}(h:xs[j]?=some v):atI xs (j:Int)=some v:=by
 have b:j<xs.length:=(aG.mp h).1
 have e:OC xs.length (j:Int)=some j:=by
  unfold OC;rw[a9 hG,a9 hG];simp
 unfold atI;rw[e];exact h
def MT{b:Type}(a:List b)(v:b):atI (a++[v]) (-1)=some v:=by
 have c:(a++[v]).length=a.length+1:=by simp
 have e:OC (a++[v]).length (-1)=some a.length:=by
  unfold OC;rw[c,a8 gV,a9 hG];congr 1;lia
 unfold atI;rw[e];show(a++[v])[a.length]?=some v;simp
def CL(b:Expr):Prop:=∀o i,cm b false o i=operate [o,i] (v7 o i)
def ZN(X:Cx)(r:R2):Prop:=
 ∀(b a:Expr)pins s σ H(x y:V)(v u:Value)Q,dJ X pins σ H s->fS x v->fS y u->r x y H Q ->
  cm a false v u=operate [v,u] (v7 v u)->wpAny (model X.prog X.w) X.A (eg b a v u) (EP X pins σ Q) X.xe s
def Q9(X:Cx)(id:String)(r:V->List V->Hp->VK->Prop):Prop:=
 ∀pins s σ H(x:V)(b:List V)(v:Value)(a:List Value)Q,dJ X pins σ H s->fS x v->fQ b a->r x b H Q ->
  wpAny (model X.prog X.w) X.A (call (.builtin id) (v::a)) (EP X pins σ Q) X.xe s
section
variable{X:Cx}{a b:Expr}{B C:TE}{pos:Pos}
def ZN.or{r g:R2}(h:ZN X r)(l:ZN X g):ZN X (λx y H Q=>r x y H Q\/g x y H Q):=by
 intro d c e s k H x y v u Q I i j q f;rcases q with q | q
 ·exact h d c e s k H x y v u Q I i j q f
 ·exact l d c e s k H x y v u Q I i j q f
def sL(i:ZN X r)(f:PE X a B)(g:PE X b C)(j:CL b):PE X (.Subscript a b pos) (wm r B C):=by
 intro c s n H Q I h;exact gl (za f g I h λv u m x y d e k l q=>i a b c m n d x y v u Q e k l q (j _ _))
def Bj(K:aI):R2:=λx y H Q=>∃p c i v,x=.ref p/\y=.int i/\mK K H p c/\atI c i=some v/\Q v H
def Bm(K:aI):R2:=λx y H Q=>∃p c i v,x=.ref p/\y=.int i/\oR K H p c/\atI c i=some v/\Q v H
def Bl:R2:=λx y H Q=>∃z i c,x=.str z/\y=.int i/\z.length<=bF/\atI z.cps.toList i=some c/\Q (.str ⟨#[c]⟩) H
def XP:ZN X (Bj X.K):=by
 intro m l c s E H x y v u Q I O P h A;obtain⟨p,W,i,z,rfl,rfl,N,L,q⟩:=h;cases O;obtain⟨t,rfl⟩:=P;obtain⟨f,r,g,U⟩:=I.list N;obtain⟨j,d,F,S,G,J⟩:=JW L;obtain⟨w,n,k⟩:=r.get F;have M:=r.length;have T:=wU;have fin:EP X c E Q w s:=⟨z,H,I,k,q⟩;by_cases o:0<=i
 ·have e:i.toNat=j:=by
   rw[gc o J]at d;exact c5 d
  exact item_listR g.isList o hG (by rw[e];simpa using n) fin A
 ·have e:(i+(f.toArray.size:Int)).toNat=j:=by
   rw[fj hG G]at d;rw[bA,<- M];exact c5 d
  exact fk (x:=w) g.isList.typeIs slot_list_getitem.lookup
   (wpAny_getItem_list_neg (Q:=λr R=>r=w/\EP X c E Q r R) g.isList hG (by rw[bA]<;>lia) hG (by rw[e];simpa using n) ⟨kA,fin⟩) A
def Up:ZN X (Bm X.K):=by
 intro f e c s k H x y v u Q I J L h F;obtain⟨p,T,i,z,rfl,rfl,E,o,q⟩:=h;cases J;obtain⟨t,rfl⟩:=L;obtain⟨G,r,g,S⟩:=I.tuple E;obtain⟨j,m,n,N,O,P⟩:=JW o;obtain⟨w,l,d⟩:=r.get n;have A:=r.length;have R:=wU;have fin:EP X c k Q w s:=⟨z,H,I,d,q⟩
 exact fk (x:=w) g.typeIs slot_tuple_getitem.lookup
  (getItem_tuple (j:=j) (Q:=λr M=>r=w/\EP X c k Q r M) g hG hG (by rw[bA,<- A];exact m) (by simpa using l) ⟨kA,fin⟩) F
def Uo:ZN X Bl:=by
 intro e d g s L H x y v u Q I A E h w;obtain⟨z,i,c,rfl,rfl,J,p,q⟩:=h;obtain⟨t,rfl⟩:=A;obtain⟨K,rfl⟩:=E;obtain⟨j,f,m,F,n,o⟩:=JW p;have r:z.cps.toList.length=z.length:=by simp[q9]
 rw[r]at f n o;have G:=wU
 exact tail_any (y0 s z t) slot_str_getitem.lookup (getItem_str (c:=c) (by
  have k:decide (i < -(2^63:Int))=false:=b7 hG;have l:decide (i>=2^63)=false:=b7 hG;rw[k,l,KR]) (by rw[f];simpa using m) ⟨.str ⟨#[c]⟩,H,I.tok _,⟨_,kA⟩,q⟩) w
def xo(K:aI):R2:=λx y H Q=>Bj K x y H Q\/Bm K x y H Q\/Bl x y H Q
def aW:ZN X (xo X.K):=XP.or (Up.or Uo)
def N4(c:List Value)(n j:Nat)(u:Value):d6 (·.setIfInBounds j u) { cls:=.type "list",data:=.seq c.toArray n }={ cls:=.type "list",data:=.seq (c.set j u).toArray n }:=by
 simp[d6]
theorem dJ.lst{pins σ H}{s:Shared}{p:Addr}{d:List V}(I:dJ X pins σ H s)(h:H p=some (.lst d)) :
  ∃(c:List Value)(n:Nat),fQ d c/\s.heap.get? p=some { cls:=.type "list",data:=.seq c.toArray n }/\d.length<=bF:=by
 obtain⟨z,c,n,r,e⟩:=I.hok p _ h;exact⟨c,n,r,e,z⟩
def dJ.lstUpd{s:Shared}{p:Addr}{o i:List V}{d c:List Value}{n g:Nat}{f:Obj->Obj}(I:dJ X pins σ H s)(h:H p=some (.lst o))
  (l:s.heap.get? p=some { cls:=.type "list",data:=.seq d.toArray n }) (j:f { cls:=.type "list",data:=.seq d.toArray n }={ cls:=.type "list",data:=.seq c.toArray g }) (r:fQ i c) (m:i.length<=bF) (t:Nat) :
  dJ X pins σ (fG H p (.lst i)) { s with heap:=s.heap.update p f,toks:=t }:=by
 have e:(s.heap.update p f).get? p=some { cls:=.type "list",data:=.seq c.toArray g }:=by
  rw[O5 f l (by rw[j]<;>rfl),j]
 refine I.write (x:=p) (e:=p) (by rw[h];trivial) (.inl kA) (λb u k q=>(M4 _ _ (k6 k)).trans q) ⟨_,e⟩ ?_;exact⟨m,c,g,r,e⟩
def VX:V->V->V->Hp->(Hp->Prop)->Prop:=λo i v H Q=>∃p c k j,o=.ref p/\i=.int k/\H p=some (.lst c)/\OC c.length k=some j/\Q (fG H p (.lst (c.set j v)))
def xR:Ba X VX:=by
 intro d s J H o i v N M u Q I ro E F h;obtain⟨p,G,k,j,rfl,rfl,y,z,q⟩:=h;cases ro;obtain⟨t,rfl⟩:=E;obtain⟨c,n,r,g,A⟩:=I.lst y;obtain⟨e,K,w,x⟩:=QE z;have f:=r.length;have L:=wU
 have l:dJ X d J (fG H p (.lst (G.set j v))) { s with heap:=s.heap.update p (d6 (·.setIfInBounds j u)) }:=
  I.lstUpd y g (N4 c n j u) (r.set F j) (by rw[List.length_set];exact A) s.toks
 by_cases m:0<=k
 ·have hk:k.toNat=j:=by
   rw[gc m x]at e;exact c5 e
  exact PySem.W.ki_setAt g m hG (by rw[bA,<- f];exact x) (by rw[hk];exact⟨_,l,q⟩)
 ·have hk:(k+(c.toArray.size:Int)).toNat=j:=by
   rw[fj hG w]at e;rw[bA,<- f];exact c5 e
  exact PySem.W.ki_setBack g hG (by rw[bA,<- f];exact w) hG (by rw[hk];exact⟨_,l,q⟩)
def HQ(lo c:Option Int)(n:Nat):(u0 lo c none n).1=((HT.sIx n 0 lo:Nat):Int)/\(u0 lo c none n).2.1=((HT.sIx n n c:Nat):Int)/\(u0 lo c none n).2.2=1:=by
 refine⟨?_,?_,kA⟩
 ·cases lo with
  |none=>simp[u0,HT.sIx]
  |some i=>
   simp only[u0,HT.sIx,UP,show(1:Int)>0 by decide,l7];by_cases h:i<0
   ·simp only[h,l7]<;>lia
   ·simp only[h,m5]<;>lia
 ·cases c with
  |none=>simp[u0,HT.sIx]
  |some i=>
   simp only[u0,HT.sIx,UP,show(1:Int)>0 by decide,l7];by_cases h:i<0
   ·simp only[h,l7]<;>lia
   ·simp only[h,m5]<;>lia
def FJ(c:List Value)(lo d:Option Int):slicePick c.toArray lo d none=((c.drop (HT.sIx c.length 0 lo)).take (HT.sIx c.length c.length d-HT.sIx c.length 0 lo)).toArray:=by
 obtain⟨e,f,g⟩:=HQ lo d c.toArray.size;unfold slicePick;rw[e,f,g];simp only[sliceRange_one,pick_run,bA]<;>rfl
def Bn(K:aI):V->Option Int->Option Int->Hp->VK->Prop:=λx lo d H Q=>∃a c,x=.ref a/\mK K H a c/\∀p,H p=none->Q (.ref p) (fG H p (.lst (JM c lo d)))
def Zj:ZL X (Bn X.K):=by
 intro g s y H x v u w lo e t Q I p i m n h;obtain⟨a,c,rfl,j,q⟩:=h;cases p;obtain⟨l,r,f,k⟩:=I.list j;have d:=r.length;refine⟨"list",_,slot_list_getitem.lookup,f.isList.typeIs,?_⟩;refine wpAny_getItem_list_slice f.isList i m n .none hH ?_ (by rw[bA]<;>lia);rw[FJ,<- d];refine⟨.ref s.heap.objs.size,_,I.laid (t':=s.toks) (o:=.lst (JM c lo e)) (λb ob q=>aE _ q) (aN _) ?_,kA,q _ (I.hok.fresh (aN _))⟩;exact⟨bE (A5 c lo e) k,_,0,(r.drop (HT.sIx c.length 0 lo)).take (HT.sIx c.length c.length e-HT.sIx c.length 0 lo),aY _ kA⟩
noncomputable def yH:V->Bool
|.non=>true
|.bl _=>true
|.int _=>true
|.str _=>true
|_=>false
noncomputable def rB:V->V->Bool
|.non,.non=>true
|.bl a,.bl b=>a==b
|.bl a,.int b=>(if a then 1 else 0)==b
|.int a,.bl b=>a==(if b then 1 else 0)
|.int a,.int b=>a==b
|.str a,.str b=>a==b
|_,_=>false
def Sz(f:fS y u)(c:fS x v)(g:yH y=true)(e:yH x=true):SeqAt.EqAt A s u v (rB y x):=by
 cases y with
 |non=>
  cases f
  cases x with
  |non=>cases c;exact SeqAt.EqAt.same _
  |bl b=>cases c;exact SeqAt.EqAt.none_bool b
  |int b=>obtain⟨t,rfl⟩:=c;exact SeqAt.EqAt.none_int b t
  |str b=>obtain⟨t,rfl⟩:=c;exact SeqAt.EqAt.none_str b t
  |_=>exact b9 (show false=true from e) bQ
 |bl a=>
  cases f
  cases x with
  |non=>cases c;exact SeqAt.EqAt.bool_none a
  |bl b=>cases c;exact SeqAt.EqAt.bool_bool a b
  |int b=>obtain⟨t,rfl⟩:=c;exact SeqAt.EqAt.bool_int a b t
  |str b=>obtain⟨t,rfl⟩:=c;exact SeqAt.EqAt.bool_str a b t
  |_=>exact b9 (show false=true from e) bQ
 |int a=>
  obtain⟨d,rfl⟩:=f
  cases x with
  |non=>cases c;exact SeqAt.EqAt.int_none a d
  |bl b=>cases c;exact SeqAt.EqAt.int_bool a d b
  |int b=>obtain⟨t,rfl⟩:=c;exact SeqAt.EqAt.int_int a d b t
  |str b=>obtain⟨t,rfl⟩:=c;exact cg a d b t
  |_=>exact b9 (show false=true from e) bQ
 |str a=>
  obtain⟨d,rfl⟩:=f
  cases x with
  |non=>cases c;exact SeqAt.EqAt.str_none a d
  |bl b=>cases c;exact SeqAt.EqAt.str_bool a d b
  |int b=>obtain⟨t,rfl⟩:=c;exact ci a d b t
  |str b=>obtain⟨t,rfl⟩:=c;exact SeqAt.EqAt.str_str a d b t
  |_=>exact b9 (show false=true from e) bQ
 |_=>exact b9 (show false=true from g) bQ
noncomputable def tA(x:V)(u:Value):Bool:=match u with
|.none=>rB .non x
|.bool b=>rB (.bl b) x
|.int i _=>rB (.int i) x
|.str z _=>rB (.str z) x
|_=>false
def Y0(r:fS y u)(f:yH y=true):tA x u=rB y x:=by
 cases y with
 |non=>cases r;rfl
 |bl b=>cases r;rfl
 |int i=>obtain⟨t,rfl⟩:=r;rfl
 |str z=>obtain⟨t,rfl⟩:=r;rfl
 |_=>exact b9 (show false=true from f) bQ
theorem JX:∀{c:List V}{d:List Value},fQ c d->c.all yH=true->d.any (tA x)=c.any λy=>rB y x
|_,_,.nil,_=>rfl
|y::c,u::d,.cons r t,f=>by
 rw[KQ,cS]at f;rw[jL,jL,Y0 r f.1,JX t f.2]
theorem DN(e:fS x v)(d:yH x=true):∀{c:List V}{us},fQ c us->c.all yH=true->∀u∈us,SeqAt.EqAt A s u v (tA x u)
|_,_,.nil,_=>λu hu=>by cases hu
|y::c,u::us,.cons r t,f=>λg hu=>by
 rw[KQ,cS]at f;rcases aR.mp hu with rfl | hu
 ·rw[Y0 r f.1];exact Sz r e f.1 d
 ·exact DN e d t f.2 g hu
noncomputable def xr(x:V)(c:List V):Bool:=c.any λy=>rB y x
def Ap(K:aI)(d:Bool):R2:=λx y H Q=>∃p c,y=.ref p/\(mK K H p c\/oR K H p c)/\yH x=true/\c.all yH=true/\Q (.bl (if d then !xr x c else xr x c)) H
def SA:nW X (c8 .In) (Ap X.K false):=by
 intro f s l H x y v u Q I g j h;obtain⟨p,k,rfl,hq,e,fs,q⟩:=h;cases j;rcases hq with hq | hq
 ·obtain⟨c,r,d,i⟩:=I.list hq;refine SeqAt.in_listAt (tA x) d.isList (λw hw=>DN g e r fs w (by simpa using hw)) ⟨.bl _,H,I,kA,?_⟩;rw[show c.toArray.any (tA x)=c.any (tA x) by simp,JX r fs];exact q
 ·obtain⟨c,r,d,i⟩:=I.tuple hq;refine SeqAt.in_tupleAt (tA x) d (λw hw=>DN g e r fs w (by simpa using hw)) ⟨.bl _,H,I,kA,?_⟩;rw[show c.toArray.any (tA x)=c.any (tA x) by simp,JX r fs];exact q
def JS:lR X (.builtin "len") (λj H Q=>∃p d,j=[.ref p]/\(mK X.K H p d\/oR X.K H p d)/\Q (.int d.length) H):=by
 intro i s o H j n Q I r h;obtain⟨p,d,rfl,hq,q⟩:=h;obtain⟨u,rfl,l⟩:=nI r;cases l;have m:=wU;rcases hq with hq | hq
 ·obtain⟨e,g,f,k⟩:=I.list hq;have c:=g.length;exact Calls.call_len_list f.isList (by simp only[bA]<;>lia) ⟨.int d.length,H,I.tok _,⟨s.toks+1,by rw[bA,c]⟩,q⟩
 ·obtain⟨e,g,f,k⟩:=I.tuple hq;have c:=g.length;exact len_tuple f (by simp only[bA]<;>lia) ⟨.int d.length,H,I.tok _,⟨s.toks+1,by rw[bA,c]⟩,q⟩
def JR:lR X (.builtin "len") (λd H Q=>∃z,d=[.str z]/\z.length<=bF/\Q (.int z.length) H):=by
 intro c s i H d g Q I r h;obtain⟨z,rfl,f,q⟩:=h;obtain⟨u,rfl,t,rfl⟩:=nI r;have e:=wU;exact len_str hG ⟨.int z.length,H,I.tok _,⟨_,kA⟩,q⟩
def lR.or{r e:List V->Hp->VK->Prop}(h:lR X f r)(k:lR X f e):lR X f (λd H Q=>r d H Q\/e d H Q):=by
 intro c s j H d i Q I g q;rcases q with q | q
 ·exact h c s j H d i Q I g q
 ·exact k c s j H d i Q I g q
def JQ:lR X (.type "list") (λz H Q=>∃p i,z=[.ref p]/\(mK X.K H p i\/oR X.K H p i)/\∀l,H l=none->Q (.ref l) (fG H l (.lst i))):=by
 intro m s E H z F Q I r h;obtain⟨p,i,rfl,hq,q⟩:=h;obtain⟨u,rfl,A⟩:=nI r;cases A
 have fin:∀(c:List Value),fQ i c->i.length<=bF->∀(d:Heap)(f:Nat),(∀b y,s.heap.get? b=some y->d.get? b=some y) ->
   d.get? s.heap.objs.size=some { cls:=.type "list",dict:=none,data:=.seq c.toArray f,slots:=#[] }->EP X m E Q (.ref s.heap.objs.size) { s with heap:=d }:=λc g k d f kp e=>
  ⟨.ref s.heap.objs.size,_,I.laid (t':=s.toks) kp (aN _) (show jG X.prog X.w _ d _ (.lst i)from⟨k,c,f,g,e⟩),kA,q _ (I.hok.fresh (aN _))⟩
 rcases hq with hq | hq
 ·obtain⟨c,g,x,k⟩:=I.list hq;have j:=g.length;obtain⟨o,v,t,n,hd⟩:=x.isList;exact call_list_seq p (.inl kA) v t hd (λd f kp e=>fin c g k d f kp e) (by simp only[bA]<;>lia)
 ·obtain⟨c,g,x,k⟩:=I.tuple hq;have j:=g.length;obtain⟨o,v,t,n,hd⟩:=x;exact call_list_seq p (.inr kA) v t hd (λd f kp e=>fin c g k d f kp e) (by simp only[bA]<;>lia)
def gI:lR X (.type "tuple") (λv H Q=>∃p f,v=[.ref p]/\((mK X.K H p f/\∀l,H l=none->Q (.ref l) (fG H l (.tup f)))\/(oR X.K H p f/\Q (.ref p) H))):=by
 intro c s x H v A Q I r h;obtain⟨p,f,rfl,h⟩:=h;obtain⟨u,rfl,z⟩:=nI r;cases z;rcases h with⟨i,q⟩ | ⟨i,q⟩
 ·obtain⟨d,k,j,t⟩:=I.list i;have n:=k.length;refine call_tuple_list j.isList (λg kp=>?_) (by simp only[bA]<;>lia);have m:dJ X c x H { s with heap:=g }:=I.kept (t':=s.toks) kp
  have y:dJ X c x (fG H g.objs.size (.tup f)) { s with heap:=g.push { cls:=.type "tuple",data:=.seq d.toArray } }:=
   m.laid (t':=s.toks) (λb o e=>aE _ e) (aN _) (show jG X.prog X.w _ _ _ (.tup f)from⟨t,d,k,FO.new _ _⟩)
  exact⟨.ref g.objs.size,_,y,kA,q _ (m.hok.fresh (aN _))⟩
 ·obtain⟨d,k,j,t⟩:=I.tuple i;exact call_tuple_same j ⟨.ref p,H,I,kA,q⟩
def yn(K:aI)(T:String)(x:V)(H:Hp):Prop:=match x with
|.str _=>T="str"
|.int _=>T="int"
|.ref p=>(T="list"/\∃c,mK K H p c)\/(T="tuple"/\((∃o,K.lookup p=some o/\o.cls=.type "tuple"/\o.dict=none)\/∃c,oR K H p c)) \/
  (T="dict"/\((∃kvs,H p=some (.dK kvs))\/∃kvs,H p=some (.dT kvs)))\/(T="set"/\∃S n,H p=some (.set S n))
|_=>False
def U4{s:Shared}(I:dJ X pins σ H s)(r:fS x v)(ty:yn X.K T x H) :
  s.TypeIs v T/\∀a,v=.ref a->∃ob,s.heap.get? a=some ob/\ob.dict=none:=by
 cases x with
 |str z=>
  obtain⟨t,rfl⟩:=r;cases (show T="str" from ty);exact⟨y0 s z t,λ_ e=>nomatch e⟩
 |int i=>
  obtain⟨t,rfl⟩:=r;cases (show T="int" from ty);exact⟨typeIs_int s i t,λ_ e=>nomatch e⟩
 |ref p=>
  cases r;rcases ty with⟨rfl,k,g⟩ | ⟨rfl,⟨o,hk,f,hd⟩ | ⟨k,g⟩⟩ | ⟨rfl,hk⟩ | ⟨rfl,S,n,hk⟩
  ·obtain⟨j,_,h,_⟩:=I.list g;refine⟨h.isList.typeIs,λa e=>?_⟩;cases e;obtain⟨o,n,e,c,hd,_⟩:=h;exact⟨o,e,hd⟩
  ·refine⟨⟨o,I.kIn p o hk,f⟩,λa e=>?_⟩;cases e;exact⟨o,I.kIn _ o hk,hd⟩
  ·obtain⟨o,e,f,hd⟩:=I.tupleN g;refine⟨⟨o,e,f⟩,λa d=>?_⟩;cases d;exact⟨o,e,hd⟩
  ·have z:∃o,s.heap.get? p=some o/\o.ExactDict:=by
    rcases hk with⟨kvs,hk⟩ | ⟨kvs,hk⟩
    ·obtain⟨_,_,_,_,o,_,_,e,ex,_⟩:=I.hok p _ hk;exact⟨o,e,ex⟩
    ·obtain⟨_,_,_,_,o,_,_,e,ex,_⟩:=I.hok p _ hk;exact⟨o,e,ex⟩
   obtain⟨o,e,ex⟩:=z;refine⟨⟨o,e,ex.1⟩,λa d=>?_⟩;cases d;exact⟨o,e,ex.2.1⟩
  ·obtain⟨o,_,_,_,e,ex,_⟩:=I.hok p _ hk;refine⟨⟨o,e,ex.1⟩,λa d=>?_⟩;cases d;exact⟨o,e,ex.2.1⟩
 |_=>exact i0 ty
def zu(K:aI)(T:String)(r:V->List V->Hp->VK->Prop)(to:TE):TE:=λd H Q=>to d H λx c=>yn K T x c/\r x [] c Q
def ZV(K:aI)(T:String)(r:V->List V->Hp->VK->Prop)(to:TE)(t:TA):TE:=λd H Q=>to d H λx c=>yn K T x c/\t d c λf e=>r x f e Q
variable{o e:Expr}{m:List Expr}{to:TE}{t:TA}{name:Str}{g d:Pos}{T id:String}{r:V->List V->Hp->VK->Prop}
def WK(z:PlainAttrs T)(slot:Slot T name id)(j:typeOf (.builtin id)=pure (.type "method_descriptor"))(w:Q9 X id r)(y:PE X o to)
  (f:autoParam (g4 o name X.env (eval o X.env)=eval o X.env) zzz._auto_1) (i:autoParam ((g.endLine==d.line)=true) zzz._auto_1):PE X (.Call (.Attribute o name g) [] [] d) (zu X.K T r to):=by
 intro c s n H Q I h;refine wpAny_Call_method0_late f i (iW (y c s n H _ I h) λv A E=>?_);obtain⟨x,p,k,l,ty,q1⟩:=E;obtain⟨q,u⟩:=U4 k l ty;exact⟨T,id,z,slot,j,q,u,cq kA (PySem.evalArgs_none (w c A n p x [] v [] Q k l .nil q1))⟩
def iJ(M:PlainAttrs T)(slot:Slot T name id)(l:typeOf (.builtin id)=pure (.type "method_descriptor"))(G:Q9 X id r)(J:PE X o to)(F:PA X (e::m) t)
  (i:autoParam (g4 o name X.env (eval o X.env)=eval o X.env) zzz._auto_1)
  (k:((j2 d (bY (e::m) X.env)).all (λx=>!x.1)&&(backToKw d (fz [] X.env)).all (λx=>x.1.isSome)
  &&decide ((e::m).length+([]:List Keyword).length+(if([]:List Keyword).isEmpty then 0 else 1)<30))=true:=by rfl)
  (j:autoParam ((g.endLine==d.line)=true) zzz._auto_1) (L:autoParam (bY (e::m) X.env=(false,eval e X.env)::bY m X.env) zzz._auto_1) (f:autoParam ((j2 d (bY m X.env)).any (·.1)=false) zzz._auto_1) :
  PE X (.Call (.Attribute o name g) (e::m) [] d) (ZV X.K T r to t):=by
 intro c s n H Q I h;refine wpAny_Call_method_late i k j kA (iW (J c s n H _ I h) λv P U=>?_);obtain⟨x,w,p,u,ty,q1⟩:=U;obtain⟨A,E⟩:=U4 p u ty;refine⟨T,id,M,slot,l,A,E,?_⟩;have q:=F d c P n w _ p q1;rw[L]at q |-
 refine cq (by show(false||(j2 d (bY m X.env)).any (·.1))=false;rw[f]<;>rfl) (Calls.evalArgs_plain ?_);exact iW q λS R ⟨vs,y,z,O,N⟩=>G c R n y x vs v S Q z u O N
end
def Ey(X:Cx)(id:String)(r:V->List V->Hp->VK->Prop):Prop:=
 ∀pins s σ H(x:V)(b:List V)(v:Value)(a:List Value)Q,dJ X pins σ H s->fS x v->fQ b a->r x b H Q ->
  wpAny (model X.prog X.w) X.A (call (.builtin id) (v::a)) (EP X pins σ Q) X.xe s
def fQ.one:∀{x us},fQ [x] us->∃u,us=[u]/\fS x u
|_,_,.cons r .nil=>⟨_,kA,r⟩
section
variable{X:Cx}{a:List (Addr×Obj)}{c:St}{H:Hp}{s:Shared}{l:Addr}{d b:List V}
def dJ.lset{g its':List Value}{n:Nat}{f:Array Value->Array Value}{p:Nat}(I:dJ X a c H s)(h:H l=some (.lst d))
  (e:s.heap.get? l=some { cls:=.type "list",data:=.seq g.toArray n }) (j:f g.toArray=its'.toArray) (m:fQ b its') (o:b.length<=bF) :
  dJ X a c (fG H l (.lst b)) { s with heap:=s.heap.update l (d6 f),toks:=p }:=by
 have q:=PySem.IsL.update e f;rw[j]at q;refine I.write (x:=l) (e:=l) (by rw[h];exact trivial) (.inl kA) (λr u i k=>(M4 s.heap (d6 f) (k6 i)).trans k) ⟨_,q⟩ ?_;exact⟨o,its',_,m,q⟩
def dJ.lnew{e:List Value}{t':Nat}(I:dJ X a c H s)(f:fQ b e)(g:b.length<=bF) :
  dJ X a c (fG H s.heap.objs.size (.lst b)) { s with heap:=s.heap.push { cls:=.type "list",data:=.seq e.toArray },toks:=t' }:=
 I.laid (λ_ _ q=>aE _ q) (aN _) ⟨g,e,0,f,aY _ kA⟩
theorem dJ.fresh(I:dJ X a c H s):H s.heap.objs.size=none:=I.hok.fresh (aN _)
def dJ.lstM(I:dJ X a c H s)(g:H l=some (.lst d)):d.length<=bF/\∃(f:List Value)(n:Nat),fQ d f/\d.length=f.length/\s.heap.get? l=some { cls:=.type "list",data:=.seq f.toArray n }:=by
 obtain⟨z,f,n,r,e⟩:=I.hok l _ g;exact⟨z,f,n,r,r.length,e⟩
def W0{n:Nat}(h:n<=bF):k4 n=false:=by
 unfold k4;exact b7 hG
end
section
variable{X:Cx}
def PM:V->List V->Hp->VK->Prop:=λx vs H Q=>∃l a y,x=.ref l/\vs=[y]/\H l=some (.lst a)/\a.length<bF/\Q .non (fG H l (.lst (a++[y])))
def kE:Ey X "list.append" PM:=by
 intro c s o H x vs v k Q I g f h;obtain⟨l,m,y,rfl,rfl,b,j,q⟩:=h;cases g;obtain⟨u,rfl,d⟩:=f.one;obtain⟨z,a,n,r,i,e⟩:=I.lstM b;refine t5 F.slot_list_append ⟨_,e,kA⟩ F.entry_list_append (F.args_list_append_2 _ _) (PySem.list_append l a.toArray n u (by rw[bA];lia)) ⟨e,?_⟩;refine⟨.non,_,I.lset (its':=a++[u]) b e hH (r.append (.cons d .nil)) ?_,kA,q⟩;rw[aZ,oQ];lia
end
end L2
namespace Att
open PySem.W PySem.Calls
def BH{h}:∀(ns:List Int)(vs:List Value),WellAll P h vs (ns.map WData.int)->IntsAre vs ns:=by
 intro ns
 induction ns with
 |nil=>
  intro vs w;rw[pP]at w;cases w;exact .nil
 |cons n ns c=>
  intro vs w;rw[bI]at w
  cases w with
  |cons a b=>
   cases a;exact .cons _ _ (c _ b)
def RZ{l:OpenLaw}{n:Nat}(s:l.most=some n){h:Heap}{vals}
  (b:l.row.toRowW.claim.pre args=true) (j:WellAll P h vals args) :
  ∃a vs ns,vals=[d5 a]/\args=[WData.list (ns.map WData.int)]/\h.get? a=some { cls:=.type "list",data:=.seq vs.toArray }/\IntsAre vs ns/\ns.length<=n:=by
 have i:WShape.hasAll [] args [.list .int]=true:=(pre_splitW b).1;have k:l.pre.holds [] { args:=args }=true:=(pre_splitW b).2;obtain⟨d,r,rfl,m,o⟩:=hasAllW_cons i;obtain rfl:=hasAllW_nil o;obtain⟨x,rfl,p⟩:=hasW_list m;obtain⟨ns,rfl⟩:=items_int p
 have e:ns.length<=n:=by
  unfold OpenLaw.pre at k
  have f:(WTm.not (.lt (.lit (.int (n:Int))) (.len (.arg 0)))).holds [] { args:=[.list (ns.map .int)] }=true:=by
   have f:=(holds_andW k).1;rw[s]at f;exact f
  have g:=condW_of f (w_not (w_lt w_lit (w_len_list (w_arg kA))));rw[aA]at g;refine aDo λq=>?_;have u:(n:Int)<((ns.length:Nat):Int):=by lia
  first
   | (rw[b0 u]at g;exact b9 g gV)
   | (simp at g;lia)
 cases j with
 |cons v w=>
  cases w
  cases v with
  |list t c=>exact⟨_,_,ns,kA,kA,t,BH ns _ c,e⟩
def R4(l:OpenLaw)(args:List WData):l.row.toRowW.claim.post args (.bool true) args=true:=
 postW_of (r:=l.row.toRowW) (X:=(true==true))
  (show WShape.has [] (.bool true) .bool=true by first | rfl | decide | simp[WShape.has,WShape.arms,WShape.armsAll])
  (show(WTm.eq .res (.lit (.bool true))).value [] { args:=args,res:=some (.bool true),after:=args }=some (.bool (true==true))from w_eq_bool (w_res kA) w_lit) kA
def attach_call{l:OpenLaw}{n:Nat}{v:(Str->Option Value)->Heap->Prop}{x:e6->Heap->Prop}{d:DefRec}
  (K:l.most=some n) (m:d.params.defaults=[])
  (call:∀(w:e6)(s₀ b:Shared)(mg t:Str->Option Value)(fa:Addr)(o:Obj)(u cd c:Value)(a:Addr)(vs:List Value)(ns:List Int),
   Ground q loose [] v w s₀ mg t b.heap->x w b.heap ->
   b.heap.get? fa=some o->o.data=.func (docDef d.name d.params d.body d.scope u cd c)->b.heap.CodeRec cd d.name->mg d.name=some (.ref fa) ->
   b.heap.get? a=some { cls:=.type "list",data:=.seq vs.toArray }->IntsAre vs ns->ns.length<=n->b.gens=#[] ->
   u6 (model l.prog w) bh (.call (.ref fa) ⟨[.ref a],[]⟩) (λr j=>r=.ok (.ret (.bool true))/\OldK b.heap j.heap/\j.os=b.os/\v4 j.gens) b) :
  WalkO q loose v x l.row.toRowW d [] (λf vs=>ec f vs):=by
 intro w s₀ b mg t G Y fa o u cd c B kV L hd k z p H y vals O i A N s I;obtain rfl:B=.none:=Dflts.none z m;obtain rfl:kV=.none:=Dflts.noKw z;obtain⟨a,vs,ns,rfl,rfl,h,e,g⟩:=RZ K i s;refine enter_call (bi (call w s₀ b mg t fa o u cd c a vs ns G Y L (fd_plain hd) k p h e g H) λr j M=>?_);obtain⟨rfl,C,E,F⟩:=M;exact⟨.inl ⟨.bool true,.bool true,[],kA,λ_=>rfl,.bool true,R4 l _,λ_=>⟨aJe.nil,λ_ J=>(nomatch J)⟩⟩,C,E,F⟩
end Att
namespace L2
theorem F0:∀{vs}{ns:List Int},IntsAre vs ns->fQ (ns.map V.int) vs
|_,_,.nil=>.nil
|_,_,.cons n t h=>.cons ⟨t,kA⟩ (F0 h)
def zj(H:Hp):Prop:=∀b,H b=none\/(∃o c,H b=some (.frz o (.lst c)))\/(tabA=some b/\∃a,H b=some (.tbl a))
def XW{K:aI}{mg mb:Str->Option Value}{CX:UN}{k:Nat}{fa a:Addr}{x:Str}{sp:Sp}{f:Shared}{vs:List Value}{ns:List Int}
  (KX:K.In f.heap) (T:f.heap.Ns gQ mg) (i:f.heap.Ns m9 mb) (oo:∀x:Str,x≠"__name__"->mb x=d7 x) (S:f.heap.NoLimit) (hg:f.gens=#[])
  (O:f.heap.get? a=some { cls:=.type "list",data:=.seq vs.toArray }) (hi:IntsAre vs ns) (hl:ns.length<=bF) (hr:hW k bh)
  (oq:∃Q o,mg "__builtins__"=some (.ref Q)/\Q≠m9/\f.heap.get? Q=some o/\o.cls=.type "module"/\o.dict=some m9/\o.data=.plain)
  (I:∀P,tabA=some P->f.heap.get? P=some { cls:=.none,data:=.fields #[] }/\K.lookup P=none/\z9 f.heap P)
  (F:∀base:Heap,K.In base->base.Ns gQ mg->mB P w K mg base CX k fa fd [x] sp) (J:∀s(u:Value),BindsTo s fd ⟨[u],[]⟩ [(x,u)])
  (se:∀H:Hp,zj H->mK K H a (ns.map V.int)->sp [.ref a] H (λv _=>v=.bl true) λ_ _ _=>False)
  (Y:∀H e y,CX [] H f (λ_ _ _=>False) e y->False) :
  u6 (model P w) bh (.call (.ref fa) ⟨[.ref a],[]⟩) (λr y=>r=.ok (.ret (.bool true))/\OldK f.heap y.heap/\y.os=f.os/\v4 y.gens) f:=by
 have rv:=F0 hi;have U:=hi.length
 have aT:∀P,tabA=some P->P≠a:=λP e z=>by
  have l:=(I P e).1;rw[z,O]at l;cases l
 have C:∀H:Hp,zj H->mK K H a (ns.map V.int)->sO P w H f.heap->(∀b,H b≠none->b=a\/tabA=some b)->(H a≠none->K.lookup a=none)->Tb H ->
   u6 (model P w) bh (.call (.ref fa) ⟨[.ref a],[]⟩) (λr y=>r=.ok (.ret (.bool true))/\OldK f.heap y.heap/\y.os=f.os/\v4 y.gens) f:=by
  intro H hO hS hok X hK Z;have j:∀{b:Addr}{o:Obj},f.heap.get? b=some o->H b=none->(JD f.heap H).get? b=some o:=λe n=>YB e n
  have ua:∀{b:Addr}{o:Obj}{M:Array DictEntry}{L:Nat},f.heap.get? b=some o->o.data=.dict M L->H b=none:=λ{b o M L} e d=>by
   cases q:H b with
   |none=>rfl
   |some u=>
    rcases X b (by rw[q];simp)with e' | e'
    ·subst e';rw[O]at e;cases e;have G:Data.seq vs.toArray _=Data.dict M L:=d;cases G
    ·rw[(I b e').1]at e;cases e;have G:dy #[]=Data.dict M L:=d;cases G
  have uc:∀{b:Addr}{o:Obj},f.heap.get? b=some o->o.data=.plain->H b=none:=λ{b o} e d=>by
   cases q:H b with
   |none=>rfl
   |some u=>
    rcases X b (by rw[q];simp)with e' | e'
    ·subst e';rw[O]at e;cases e;have G:Data.seq vs.toArray _=Data.plain:=d;cases G
    ·rw[(I b e').1]at e;cases e;have G:dy #[]=Data.plain:=d;cases G
  have A:∀{b:Addr}{m:Str->Option Value},f.heap.Ns b m->(JD f.heap H).Ns b m:=λ{b m} ⟨o,M,L,e,d,r⟩=>⟨o,M,L,j e (ua e d),d,r⟩
  have R:K.In (JD f.heap H):=λb o e=>j (KX b o e) (by
   cases q:H b with
   |none=>rfl
   |some u=>
    rcases X b (by rw[q];simp)with e' | e'
    ·subst e';rw[hK (by rw[q];simp)]at e;cases e
    ·rw[(I b e').2.1]at e;cases e)
  have hM:Mod K mg (JD f.heap H):=⟨R,A T,⟨mb,A i,oo⟩,let ⟨mc,l,N⟩:=S;⟨mc,A l,N⟩,let ⟨Q,o,b1,b2,b3,b4,b5,b6⟩:=oq;⟨Q,o,b1,b2,j b3 (uc b3 b6),b4,b5,b6⟩⟩;have e0:OZ P w K mg (JD f.heap H) bh [] f H:=⟨kA,hM,λb o e=>Xh e,mS (S6 _ _),trivial,λb i=>b9 (show b∈([]:List Addr)from i) hH,hok,.of_eq hg,Z⟩;refine bi ((F _ R (A T)).run bh [] f H ⟨[.ref a],[]⟩ [.ref a] [.ref a] _ _ hr e0 (J f (.ref a)) (.cons kA .nil) (se H hO hS)) λr y h=>?_
  cases r with
  |error e=>exact(Y H e y h).elim
  |ok fl=>
   cases fl with
   |next=>exact i0 h
   |brk=>exact i0 h
   |cont=>exact i0 h
   |ret u=>
    obtain⟨v,H',os,bare,un,E,r',q⟩:=h;have q':v=.bl true:=q;subst q';obtain rfl:u=z0 true:=r'
    have old:∀b o,f.heap.get? b=some o->y.heap.get? b=some o\/(z9 f.heap b/\o={ cls:=.none,data:=.fields #[] }/\∃qs:Array Value,y.heap.get? b=some { cls:=.none,data:=.fields qs }):=λb o e=>by
     cases q:H b with
     |none=>exact .inl (un.keep b o e q (by intro z;exact b9 (show b∈([]:List Addr)from z) hH) hH)
     |some u=>
      rcases hO b with z | ⟨ob,xs,z⟩ | ⟨t,ps,z⟩
      ·rw[q]at z;cases z
      ·have z2:=un.frzs b ob _ z;obtain⟨e1,_⟩:=hok b _ z;obtain⟨W,_⟩:=E b _ z2;rw[e]at e1;cases e1;exact .inl W
      ·obtain⟨l,N,h3⟩:=I b t;obtain⟨m,z2⟩:=un.tbls b ps z;obtain⟨qs,W,_⟩:=E b _ z2;rw[e]at l;cases l;exact .inr ⟨h3,kA,qs,W⟩
    refine⟨kA,⟨λb o e=>?_,λb o e=>?_⟩,os,bare⟩
    ·rcases old b o e with l | ⟨l,rfl,qs,N⟩
     ·exact .inl l
     ·exact .inr (.inl ⟨l,kA,#[],qs,kA,by rw[N];simp⟩)
    ·rcases old b o e with l | ⟨l,rfl,qs,N⟩
     ·exact⟨_,l⟩
     ·exact⟨_,N⟩
 have dT:∀b,Decidable (tabA=some b):=λb=>inferInstance
 cases hk:K.lookup a with
 |some o=>
  have e:=KX a o hk;rw[O]at e;cases e;refine C (λb=>if tabA=some b then some (.tbl #[])else none) (λb=>?_) (.inr ⟨_,vs.toArray,_,hk,kA,kA,kA,by rw[bA,U];exact hl,by simpa using rv⟩) (λb u z=>?_) (λb z=>?_) (λz=>?_) λP e=>⟨#[],a9 e⟩
  ·by_cases i:tabA=some b
   ·exact .inr (.inr ⟨i,#[],a9 i⟩)
   ·exact .inl (a8 i)
  ·by_cases i:tabA=some b
   ·have B:=(a9 i).symm.trans z;cases B;exact⟨#[],(I b i).1,trivial,λp c q=>by cases q⟩
   ·have B:=(a8 i).symm.trans z;cases B
  ·by_cases i:tabA=some b
   ·exact .inr i
   ·exact b9 (a8 i) z
  ·exact b9 (a8 λe=>aT a e kA) z
 |none=>
  refine C (λb=>if tabA=some b then some (.tbl #[])else if b=a then some (.frz { cls:=.type "list",data:=.seq vs.toArray } (.lst (ns.map V.int)))else none) (λb=>?_) (.inl (.inr ⟨{ cls:=.type "list",data:=.seq vs.toArray },(a8 λe=>aT a e kA).trans (a9 kA)⟩)) (λb u z=>?_) (λb z=>?_) (λ_=>hk) λP e=>⟨#[],a9 e⟩
  ·by_cases g:tabA=some b
   ·exact .inr (.inr ⟨g,#[],a9 g⟩)
   ·by_cases i:b=a
    ·exact .inr (.inl ⟨_,_,(a8 g).trans (a9 i)⟩)
    ·exact .inl ((a8 g).trans (a8 i))
  ·by_cases g:tabA=some b
   ·have B:=(a9 g).symm.trans z;cases B;exact⟨#[],(I b g).1,trivial,λp c q=>by cases q⟩
   ·by_cases i:b=a
    ·have B:=((a8 g).trans (a9 i)).symm.trans z;cases B;subst i;exact⟨O,by rw[aA];exact hl,vs,_,rv,O⟩
    ·have B:=((a8 g).trans (a8 i)).symm.trans z;cases B
  ·by_cases g:tabA=some b
   ·exact .inr g
   ·by_cases i:b=a
    ·exact .inl i
    ·exact b9 ((a8 g).trans (a8 i)) z
def Z7{l:ao}{n k:Nat}{I:(Str->Option Value)->Heap->Prop}{p:e6->Heap->Prop}{d:DefRec}{K:Params->aI}{CX:e6->UN}{sp:e6->Sp}
  (X:l.most=some n) (A:n<=bF) (y:d.params.defaults=[]) (Z:hW k bh)
  (Q:∀(w:e6)(h:Heap),p w h->(K w.params).In h) (O:∀(w:e6)(h:Heap),p w h->∀P,tabA=some P->h.get? P=some { cls:=.none,data:=.fields #[] }/\(K w.params).lookup P=none/\z9 h P)
  (F:∀(w:e6)(mg:Str->Option Value)(fa:Addr)(h:Heap),(K w.params).In h->h.Ns gQ mg->mg d.name=some (.ref fa) ->
   ∃r:hX,(∀s(u:Value),BindsTo s r ⟨[u],[]⟩ [(x,u)]) /\
    ∀base:Heap,(K w.params).In base->base.Ns gQ mg->mB l.prog w (K w.params) mg base (CX w) k fa r [x] (sp w))
  (B:∀(w:e6)H(a:Addr)(ns:List Int),ns.length<=n->zj H->mK (K w.params) H a (ns.map V.int)->sp w [.ref a] H (λv _=>v=.bl true) λ_ _ _=>False)
  (t:∀(w:e6)H s(e:Value)C,CX w [] H s (λ_ _ _=>False) e C->False) :
  ZZ q loose I p l.row.toRowW d [] (λf vs=>ec f vs):=by
 refine Att.attach_call X y λw s₀ m mg mb fa o pm cd J a vs ns G Y ho hd S z j i c U=>?_;have E:=Q w _ Y;obtain⟨r,R,L⟩:=F w mg fa _ E G.T.g z;exact XW E G.T.g G.T.b G.T.builtins G.T.nolimit U j i (bE c A) Z G.T.bmain (O w _ Y) L R (λH M N=>B w H a ns c M N) λH e C=>t w H m e C
noncomputable def yP(s:Stmt):Arguments:=match s with
|.FunctionDef _ a _ _ _ _ _ _ _ _=>a
|_=>{ posonlyargs:=[],args:=[],vararg:=none,kwonlyargs:=[],kw_defaults:=[],kwarg:=none,defaults:=[] }
noncomputable def lF(s:Stmt):List Stmt:=match s with
|.FunctionDef _ _ b _ _ _ _ _ _ _=>b
|_=>[]
noncomputable def aU(s:Stmt):Scope:=match s with
|.FunctionDef _ _ _ _ _ _ sc _ _ _=>sc
|_=>{ kind:=.function,names:=[],isGenerator:=false,isCoroutine:=false }
abbrev pK:UN:=λ_ _ _ _ _ _=>False
abbrev E0:XK:=λ_ _ _=>False
def kW:xD pK X E0:=λ_ _ _ _ _ _ _ h=>h.elim
structure OY(K:aI)(x qual:Str)(st:Stmt)(f:Addr)(fd:hX):Prop where
 ex:∃(oc:Value)(od:Option Addr)(kV gg pm:Value)(an:Option Addr)(bu ct:Value)(il:Array (Option Value)),
  fd=nT x qual (yP st) (lF st) (aU st) .none kV gg pm an bu ct/\K.lookup f=some ⟨oc,od,.func fd,il⟩/\pM K bu qual=true
 kp:gK K (.ref f)=true
section
variable{P:cK}{w:e6}{K:aI}{mg:Str->Option Value}{base:Heap}
def OY.ok{st}{f:Addr}{N e:List Str}{k:Nat}{g:Sp}(F:OY K x qual st f fd)(S:bL N e (aU st))(len:∀vs H Q E,g vs H Q E->vs.length=e.length)
  (b:∀(a:Value)(A:d8)outer(s:Shared)H(vs:List V)Q E,hW k (A.deeper (n4 qual (aU st) s.heap.objs.size f a))->g vs H Q E ->
   ∃t,FP (vQ pK P w K mg base N qual (aU st) f a A outer s H E).nox (lF st) t/\t { nx:=λ_ i=>Q .non i,rt:=Q } (lM N vs) H):mB P w K mg base pK (k+1) f fd e g:=by
 obtain⟨o,p,kV,j,r,an,a,ct,n,rfl,m,c⟩:=F.ex;refine Cr m c S len λA outer s H vs Q E l d=>?_;obtain⟨t,h,q⟩:=b a A outer s H vs Q E l d;exact⟨t,h.nox,q⟩
def OY.binds{st}{f:Addr}{d:List Str}(F:OY K x qual st f fd)
  (h:∀(kV b c:Value)(an:Option Addr)(a ct:Value)(e:List Value),e.length=d.length->bindArgs (nT x qual (yP st) (lF st) (aU st) .none kV b c an a ct) ⟨e,[]⟩=pure (d.zip e)):pX K fd d []:=by
 obtain⟨k,l,kV,b,c,an,a,ct,i,rfl,j,g⟩:=F.ex;exact .all (h kV b c an a ct)
def YI{st}{f:Addr}{kV}(l:K.lookup f=some ⟨oc,od,.func (nT x qual (yP st) (lF st) (aU st) .none kV gg pm an bu ct),il⟩)
  (c:pM K bu qual=true) (k:gK K (.ref f)=true):OY K x qual st f (nT x qual (yP st) (lF st) (aU st) .none kV gg pm an bu ct):=⟨⟨oc,od,kV,gg,pm,an,bu,ct,il,kA,l,c⟩,k⟩
end
def RV{n:Nat}(h:n<=1000):n<bF:=qK h gV
section
variable{X:Cx}
def pv(i:Nat){x:Str}(b:autoParam (X.N[i]?=some x) zzz._auto_1)(c:autoParam (yg X.env.scope x) zzn._auto_1)(hd:autoParam ((x==("__debug__":Str))=false) zzy._auto_1)
  (a:autoParam ((x==("__classdict__":Str))=false) zzy._auto_1):PE X (.Name x pos) (nV i):=WC b c hd a
end
def bB(H a:Hp):Prop:=∀b o,H b=some o->a b=some o
def bB.refl(H:Hp):bB H H:=λ_ _ h=>h
def bB.trans(a:bB H H1)(b:bB H1 H2):bB H H2:=λc o h=>b c o (a c o h)
def bB.seq{K}{a:Addr}(e:bB H H')(h:mK K H a xs):mK K H' a xs:=by
 rcases h with(h | ⟨o,h⟩) | h
 ·exact .inl (.inl (e _ _ h))
 ·exact .inl (.inr ⟨o,e _ _ h⟩)
 ·exact .inr h
def Wm{E:Value->Shared->Prop}{Q:Unit->Shared->Prop}(a:Q () s) :
  wpAny M A (m8 tg it (.str z t)) Q E s:=by
 unfold m8
 cases tg<;>first
  |exact bC a
  | (cases it<;>exact bC a)
noncomputable def yk(z:Str):It:=⟨λi _=>i<z.cps.size,λi H x a=>a=H/\∃c,z.cps[i]?=some c/\x=.str ⟨#[c]⟩,λi _=>z.cps.size<=i⟩
def RL{K}(it:Addr)(z:Str)(t:Tok)
  (W:∀A:d8,A.handled=none->Walks P w A it [it] [it] z.cps.size (SignAt z) (λi h=>h.IsStrIter it ty z t i))
  (S:∀A(i:Nat)(s:Shared)Q E,s.heap.IsStrIter it ty z t i->Q (.ref it) s->wpAny (model P w) A (gu (.ref it)) Q E s) :
  J0 P w K tg (yk z) [it] it (λi h=>i<=z.cps.size/\h.IsStrIter it ty z t i) where
 mem:=by simp
 obj:=λi h st b hb=>by
  obtain rfl:b=it:=by simpa using hb
  obtain⟨_,o,e,c,d⟩:=st;exact⟨o,e,λv q=>by rw[d]at q;cases q⟩
 keep:=λi h h' st k=>by
  obtain⟨l,o,e,r⟩:=st;exact⟨l,o,k it hH o e,r⟩
 item:=by
  intro X hP hw hK hc i pins s σ H E I hf st hg;subst hP hw hK;obtain⟨f0,f1,f2,f3,f4,f5⟩:=hf it hH;refine(W X.A (I.ok.hd hc)).item i s _ _ hg st.2 λv h' tk hv fv kk=>?_;obtain⟨c,u,hx,rfl⟩:=hv;have I1:dJ X pins σ H { s with heap:=h',toks:=tk }:=I.turned (λb o hb e=>kk b o (by simpa using hb) e) f0 f1 f3 f4 f5;exact⟨_,kA,Wm ⟨.str ⟨#[c]⟩,H,I1,⟨u,kA⟩,⟨kA,c,hx,kA⟩,⟨hg,fv⟩,λb hb=>(hf b hb).1⟩⟩
 done:=by
  intro X hP hw hK hc i pins s σ H E I hf st hg;subst hP hw hK;obtain⟨f0,f1,f2,f3,f4,f5⟩:=hf it hH;have e:i=z.cps.size:=Nat.le_antisymm st.1 hg;subst e;exact(W X.A (I.ok.hd hc)).done s _ _ st.2 λh' tk kk=>⟨kA,I.turned (λb o hb e=>kk b o (by simpa using hb) e) f0 f1 f3 f4 f5⟩
 self:=λA i s Q E st h=>S A i s Q E st.2 h
def Gn(K:aI)(d:TE):TI:=λe H R=>d e H λx b=>(∃a,x=.ref a/\(∃c,mK K b a c)/\R (Ak K a) b)\/(∃a,x=.ref a/\(∃c,oR K b a c)/\R (Ai K a) b)\/∃z,x=.str z/\R (yk z) b
def WB{X:Cx}(B:PE X l tl):PI X tg l (Gn X.K tl):=by
 intro f s y H R I h;refine iW (B f s y H _ I h) λv c J=>?_;obtain⟨x,k,d,r,q1⟩:=J;rcases q1 with⟨a,rfl,⟨G,n⟩,q⟩ | ⟨a,rfl,⟨G,n⟩,q⟩ | ⟨z,rfl,q⟩
 ·cases r;obtain⟨j,F,p,C⟩:=d.list n;refine g9 p.isList ⟨c.heap.objs.size,[c.heap.objs.size],_,_,k,kA,d.kept (t':=c.toks) λb o e=>aE _ e,RM a _,⟨_,aY _ kA,kA,kA⟩,λb g=>?_,q⟩;obtain rfl:b=c.heap.objs.size:=by simpa using g
  exact d.fpOk (aN _) (d.hok.fresh (aN _))
 ·cases r;obtain⟨j,F,p,C⟩:=d.tuple n;refine j8 (show c.heap.IsTuple a j.toArray from p) ⟨c.heap.objs.size,[c.heap.objs.size],_,_,k,kA,d.kept (t':=c.toks) λb o e=>aE _ e,NC a _,⟨_,aY _ kA,kA,kA⟩,λb g=>?_,q⟩;obtain rfl:b=c.heap.objs.size:=by simpa using g
  exact d.fpOk (aN _) (d.hok.fresh (aN _))
 ·obtain⟨t,rfl⟩:=r
  have fin:∀(o:Obj)(ty:String),(∀A:d8,A.handled=none->Walks X.prog X.w A c.heap.objs.size [c.heap.objs.size] [c.heap.objs.size] z.cps.size (SignAt z) (λi h=>h.IsStrIter c.heap.objs.size ty z t i)) ->
    (∀A(i:Nat)(s:Shared)Q E,s.heap.IsStrIter c.heap.objs.size ty z t i->Q (.ref c.heap.objs.size) s->wpAny (model X.prog X.w) A (gu (.ref c.heap.objs.size)) Q E s) ->
    (c.heap.push o).IsStrIter c.heap.objs.size ty z t 0->Ah X f y tg R (.ref c.heap.objs.size) { c with heap:=c.heap.push o }:=λo ty W S st=>by
   refine⟨c.heap.objs.size,[c.heap.objs.size],_,yk z,k,kA,d.kept (t':=c.toks) λb o e=>aE _ e,RL _ z t W S,⟨cJ _,st⟩,λb g=>?_,q⟩;obtain rfl:b=c.heap.objs.size:=by simpa using g
   exact d.fpOk (aN _) (d.hok.fresh (aN _))
  cases u:z.cps.all (·<128)
  ·exact wpAny_pyIter_wide u (fin _ "str_iterator" (λA m=>Walks.strWide m _ z t) (λ_ _ _ _ _ st h=>wpAny_pyIter_striter_wide st h) ⟨_,aY _ kA,kA,kA⟩)
  ·exact wpAny_pyIter_ascii u (fin _ "str_ascii_iterator" (λA m=>Walks.strAscii m _ z t) (λ_ _ _ _ _ st h=>wpAny_pyIter_striter_ascii st h) ⟨_,aY _ kA,kA,kA⟩)
set_option genInjectivity false in
structure BP where
 cl:List (Str×Addr)
 C:Addr
 s3:Shared
 H3:Hp
 ex:List Addr
 pn:List (Addr×Obj)
noncomputable def blk(X:Cx)(scope:Scope)(N':List Str)(b:BP):Cx where
 prog:=X.prog
 w:=X.w
 K:=X.K
 mg:=X.mg
 base:=X.base
 A:=X.A
 N:=N'
 s₀:=b.s3
 H₀:=b.H3
 env:=compEnvC scope b.cl b.C X.env
 outer:=X.stack
 stack:=X.stack
 ex:=b.ex
 fn:=λx=>scope.names.lookup x==some .cell
 calm:=X.calm
 pn:=b.pn
 xe:=λ_ _=>False
theorem xA{env:Env}:∀(f:List (Str×k5))(b:List (Str×Addr)),(∀x∈f,x.2=.free->∃c,env.cells.lookup x.1=some c) ->
 (∀n c,b.lookup n=some c->env.cells.lookup n=some c) ->
 ∃cl:List (Str×Addr),(fy f b (λx o=>match x with | (name,kind)=>if kind==.free then do let a <- cellOf env name;pure (f6 ((name,a)::o))else pure (f6 o)):Sem (List (Str×Addr)))=pure cl /\
  (∀n c,cl.lookup n=some c->env.cells.lookup n=some c)/\(∀n,((∃c,b.lookup n=some c)\/(n,e4)∈f)->∃c,cl.lookup n=some c)
|[],b,_,ha=>⟨b,kA,ha,λn h=>h.elim id λz=>b9 z hH⟩
| (n,k)::r,b,h,ha=>by
 by_cases hk:k=.free
 ·subst hk;obtain⟨c,p⟩:=h (n,.free) (aO ..) kA
  obtain⟨cl,e,i,j⟩:=xA r ((n,c)::b) (λx l=>h x (aJ _ l)) (λm d hm=>by
   rw[dR]at hm
   cases g:m==n with
   |true=>
    rw[g]at hm;obtain rfl:m=n:=by simpa using g
    cases hm;exact p
   |false=>rw[g]at hm;exact ha m d hm)
  refine⟨cl,?_,i,λm hm=>j m ?_⟩
  ·rw[pE];have s:cellOf env n=pure c:=by unfold cellOf;rw[p]
   simp only[beq_self_eq_true,l7,s];exact e
  ·rcases hm with⟨d,hd⟩ | hm
   ·left
    rw[dR]
    cases g:m==n with
    |true=>exact⟨c,kA⟩
    |false=>exact⟨d,hd⟩
   ·rcases aR.mp hm with z | z
    ·left
     cases z;exact⟨c,by simp[dR]⟩
    ·exact .inr z
 ·obtain⟨cl,e,i,j⟩:=xA r b (λx l=>h x (aJ _ l)) ha;refine⟨cl,?_,i,λm hm=>j m (hm.imp id λz=>?_)⟩
  ·rw[pE];have q:(k==e4)=false:=by simpa using hk
   simp only[q,gB,m5];exact e
  ·rcases aR.mp z with z | z
   ·cases z;exact b9 kA hk
   ·exact z
def wZ{env:Env}{scope:Scope}(h:∀x∈scope.names,x.2=.free->∃c,env.cells.lookup x.1=some c) :
  ∃cl,closureFor scope env=pure cl/\(∀n c,cl.lookup n=some c->env.cells.lookup n=some c)/\∀n,(n,e4)∈scope.names->∃c,cl.lookup n=some c:=by
 obtain⟨cl,e,a,b⟩:=xA (env:=env) scope.names [] h (λn c z=>by simp at z);refine⟨cl,?_,a,λn z=>b n (.inr z)⟩;unfold closureFor;refine Eq.trans ?_ (e5 (λm=>m >>= λr=>(pure r:Sem (List (Str×Addr)))) e)
 rfl
theorem rO{env:Env}{k}:∀{names:List (Str×k5)},
 (names.map λ(n,k)=>if(k==e4&&env.scope.kind==.function&&env.kindOf n==some .cell)then(n,d0)else(n,k)).lookup x=some k ->
 ∃b,(x,b)∈names/\(b=k\/(b=.free/\k=.cell))
|[],h=>by simp at h
| (n,j)::r,h=>by
 rw[bI,dR]at h;dsimp only at h;by_cases c:(j==e4&&env.scope.kind==.function&&env.kindOf n==some .cell)=true
 ·rw[a9 c]at h;dsimp only at h
  cases a:x==n with
  |true=>
   rw[a]at h;obtain rfl:x=n:=by simpa using a
   cases h;have f:j=.free:=by simp only[cS,af]at c;exact c.1.1
   exact⟨j,aO ..,.inr ⟨f,kA⟩⟩
  |false=>
   rw[a]at h;obtain⟨b,d,e⟩:=rO (names:=r) h;exact⟨b,aJ _ d,e⟩
 ·rw[a8 c]at h;dsimp only at h
  cases a:x==n with
  |true=>
   rw[a]at h;obtain rfl:x=n:=by simpa using a
   cases h;exact⟨_,aO ..,.inl kA⟩
  |false=>
   rw[a]at h;obtain⟨b,d,e⟩:=rO (names:=r) h;exact⟨b,aJ _ d,e⟩
theorem xU{env:Env}:∀{names:List (Str×k5)},names.lookup x=some .free ->
 (names.map λ(n,k)=>if(k==e4&&env.scope.kind==.function&&env.kindOf n==some .cell)then(n,d0)else(n,k)).lookup x=some .cell \/
 (names.map λ(n,k)=>if(k==e4&&env.scope.kind==.function&&env.kindOf n==some .cell)then(n,d0)else(n,k)).lookup x=some .free
|[],h=>by simp at h
| (n,j)::r,h=>by
 rw[dR]at h;rw[bI,dR];dsimp only
 cases a:x==n with
 |true=>
  rw[a]at h;cases h;by_cases b:(e4==e4&&env.scope.kind==.function&&env.kindOf n==some .cell)=true
  ·rw[a9 b];dsimp only;rw[a];exact .inl kA
  ·rw[a8 b];dsimp only;rw[a];exact .inr kA
 |false=>
  rw[a]at h;have c:=xU (env:=env) (names:=r) h;by_cases b:(j==e4&&env.scope.kind==.function&&env.kindOf n==some .cell)=true
  ·rw[a9 b];dsimp only;rw[a];exact c
  ·rw[a8 b];dsimp only;rw[a];exact c
noncomputable def tZ(a outer:List (Str×k5))(b:List Str):List Str->List (Option Nat)->Bool
|[],[]=>true
|x::r,none::f=>tZ a outer b r f
|x::r,some j::f=>(a.lookup x==some .free)&&(b[j]?==some x)&&(outer.lookup x==some .cell)&&tZ a outer b r f
|_,_=>false
theorem zX{a outer:List (Str×k5)}:∀{N':List Str}{fr:List (Option Nat)},tZ a outer Nx N' fr=true ->
 N'.length=fr.length/\∀(i:Nat)(x:Str)(j:Nat),N'[i]?=some x->fr[i]?=some (some j)->a.lookup x=some .free/\Nx[j]?=some x/\outer.lookup x=some .cell
|[],[],_=>⟨kA,λi x j h=>by simp at h⟩
|x::r,none::f,h=>by
 obtain⟨d,e⟩:=zX (N':=r) (fr:=f) h;refine⟨by simp[d],λi y j c b=>?_⟩
 cases i with
 |zero=>simp at b
 |succ i=>exact e i y j (by simpa using c) (by simpa using b)
|x::r,some k::f,h=>by
 simp only[tZ,cS,af]at h;obtain⟨⟨⟨g,a2⟩,l⟩,h⟩:=h;obtain⟨d,e⟩:=zX (N':=r) (fr:=f) h;refine⟨by simp[d],λi y j c b=>?_⟩
 cases i with
 |zero=>
  simp at c b;subst c;subst b;exact⟨g,a2,l⟩
 |succ i=>exact e i y j (by simpa using c) (by simpa using b)
|[],_::_,h=>by simp[tZ]at h
|_::_,[],h=>by simp[tZ]at h
noncomputable def yG(a:List (Option Nat))(b:St):St:=a.map λo=>o.bind λj=>(b[j]?).join
def sO.but{h}{a:Addr}(ok:sO P w H h)(n:H a=none)(sb:fV a h h'):sO P w H h':=λb ob e=>by
 refine(ok b ob e).stay (λc u hc q=>(sb.2 c ?_).trans q) (λ_ q=>q) λ_ _ q=>q;rintro rfl;rcases hc with rfl | hc
 ·rw[n]at e;cases e
 ·rw[n]at hc;cases hc
def OU(X:Cx)(a:List Expr)(b:TT):Prop:=
 ∀pins s σ H(Q:Bool->Hp->Prop),dJ X pins σ H s->b σ H Q ->
  wpAny (model X.prog X.w) X.A (fy a true λc r=>if r=true then do let ok <- isTrue c X.env (eval c X.env);pure (f6 ok)else pure (f6 r)) (TP X pins σ Q) X.xe s
def Zc:TT:=λ_ H Q=>Q true H
def Xs:OU X [] Zc:=λ_ _ _ H _ I h=>wpAny_tests_nil ⟨H,I,h⟩
def Xt(h:PT X c tt):OU X [c] tt:=λa s b H Q I q=>wpAny_tests_one (h a s b H Q I q)
def VC(q:List (Option Nat))(t:TI)(g:BP->TG)(s:BP->TT)(r:BP->TE):TE:=λp H Q=>t p H λJ k=>∀(h:BP)(a:Addr),k a=none->∃W:Nat->Nat->St->Hp->Prop,
 (∃m,W 0 m (yG q p) (fG k a (.lst [])))/\∀i m f d,W i m f d ->
  (J.stop i d/\Q (.ref a) d)\/(J.go i d/\∀x l,J.yld i d x l->g h x f l λc H3=>s h c H3 λb n=>
   if b=true then r h c n λy o=>∃j,o a=some (.lst j)/\j.length<bF/\∃e,e<m/\W (i+1) e c (fG o a (.lst (j++[y])))
   else∃e,e<m/\W (i+1) e c n)
theorem sA:∀{a:List (Str×k5)},a.filter (λy=>y.2==d0)=[]->∀(n:Nat)(b:List (Str×Addr))h,u8 n a b=b/\bx h a=h
|[],_,_,_,_=>⟨kA,kA⟩
| (x,k)::r,e,n,b,h=>by
 rw[cR]at e
 cases hk:(k==d0)with
 |true=>dsimp only at e;rw[hk,a9 rfl]at e;cases e
 |false=>
  dsimp only at e;rw[hk,a8 bQ]at e;unfold u8 bx;rw[hk,a8 bQ,a8 bQ];exact sA e n b h
theorem AD{z:Str}:∀{a:List (Str×k5)},a.filter (λy=>y.2==d0)=[(z,.cell)]->∀(n:Nat)(b:List (Str×Addr))(h:Heap),u8 n a b=(z,n)::b/\bx h a=h.push { cls:=.type "cell",data:=.cell none }
|[],e,_,_,_=>by cases e
| (x,k)::r,e,n,b,h=>by
 rw[cR]at e
 cases hk:(k==d0)with
 |true=>
  dsimp only at e;rw[hk,a9 rfl]at e;injection e with c d
  injection c with c _
  subst c;unfold u8 bx;rw[hk,a9 kA,a9 rfl];exact sA d (n+1) ((x,n)::b) _
 |false=>
  dsimp only at e;rw[hk,a8 bQ]at e;unfold u8 bx;rw[hk,a8 bQ,a8 bQ];exact AD e n b h
def vI(a:List (Str×k5)):Prop:=a.filter (λy=>y.2==d0)=[]\/∃z,a.filter (λy=>y.2==d0)=[(z,.cell)]/\a.lookup z=some .cell
structure aUp(names:List (Str×k5))(cl ij:List (Str×Addr))(h:Heap)(C:Addr):Prop where
 get:∀x c,ij.lookup x=some c->(C<c/\(x,d0)∈names/\h.IsCell c none)\/(cl.lookup x=some c/\(x,d0)∉names)
 old:∀x c,names.lookup x=some .free->cl.lookup x=some c->ij.lookup x=some c
 has:∀x,(x,d0)∈names->∃c,ij.lookup x=some c
 keep:∀x c,cl.lookup x=some c->∃c',ij.lookup x=some c'
 inj:∀x y c,ij.lookup x=some c->ij.lookup y=some c->C<c->x=y
def Xc{E:Value->Shared->Prop}{s:Shared}{d:Scope}{globals:Addr}{a:List (Str×Addr)}{Q:Env->Shared->Prop}(i:vI d.names)(j:∀x c,a.lookup x=some c->c<s.heap.objs.size)
  (B:∀r k,r.Ns s.heap.objs.size (λ_=>none)->(∀b o,s.heap.get? b=some o->r.get? b=some o)->aUp d.names a k r s.heap.objs.size->Q (newEnv d s.heap.objs.size globals k qual none .none (some outer) m9) { s with heap:=r }) :
  wpAny M A (dt d globals a [] qual none .none (some outer)) Q E s:=by
 simp only[dt,RE,l7];refine aK (wpAny_alloc ?_);refine aK (wpAny_layCells _ (λname kind u=>by cases v:kind==d0<;>simp[v]) _ _ _ _ ?_);have mem:∀x,(x,d0)∈d.names->(x,d0)∈d.names.filter (λy=>y.2==d0):=λx f=>cW.mpr ⟨f,kA⟩;rcases i with i | ⟨z,i,m⟩
 ·rw[(sA i _ _ s.heap).1,(sA i 0 [] _).2]
  have C:∀x,(x,d0)∉d.names:=λx f=>by
   have:=mem x f;rw[i]at this;cases this
  exact aK (bC (bC (B _ _ (Heap.Ns.new s.heap (.type "dict")) (λb o e=>aE _ e) ⟨λx c h=>.inr ⟨h,C x⟩,λx c _ h=>h,λx h=>b9 h (C x),λx c h=>⟨c,h⟩,λx y c h _ l=>b9 (j x c h) (uN l)⟩)))
 ·rw[(AD i _ _ s.heap).1,(AD i 0 [] _).2,show({ s with heap:=s.heap.push { cls:=.type "dict",data:=.dict #[] } }:Shared).heap.objs.size=s.heap.objs.size+1 from dX ..]
  have p:∀x,(x,d0)∈d.names->x=z:=λx f=>by
   have:=mem x f;rw[i]at this;exact e5 Prod.fst (bP.mp this)
  have w:∀x c,((z,s.heap.objs.size+1)::a).lookup x=some c->(x=z/\c=s.heap.objs.size+1)\/(x≠z/\a.lookup x=some c):=λx c h=>by
   rw[dR]at h
   cases t:x==z with
   |true=>rw[t]at h;cases h;exact .inl ⟨ah t,kA⟩
   |false=>rw[t]at h;exact .inr ⟨ne_of_beq_false t,h⟩
  have q:∀x c,x≠z->a.lookup x=some c->((z,s.heap.objs.size+1)::a).lookup x=some c:=λx c f h=>by
   rw[dR,beq_eq_false_iff_ne.mpr f];exact h
  have g:((s.heap.push { cls:=.type "dict",data:=.dict #[] }).push { cls:=.type "cell",data:=.cell none }).get? (s.heap.objs.size+1)=some { cls:=.type "cell",data:=.cell none }:=by
   have:=aY (s.heap.push { cls:=.type "dict",data:=.dict #[] }) (o:={ cls:=.type "cell",data:=.cell none }) kA
   rwa [dX]at this
  refine aK (bC (bC (B _ _ ((Heap.Ns.new s.heap (.type "dict")).keeps λb o e=>aE _ e) (λb o e=>aE _ (aE _ e)) ⟨λx c h=>?_,λx c f h=>q x c (λe=>by rw[e,m]at f;cases f) h,λx f=>⟨s.heap.objs.size+1,by rw[p x f];simp⟩,λx c h=>?_,λx y c J K l=>?_⟩)))
  ·rcases w x c h with⟨rfl,rfl⟩ | ⟨n,h⟩
   ·exact .inl ⟨mR _,g5 m,_,g,kA⟩
   ·exact .inr ⟨h,λf=>n (p x f)⟩
  ·by_cases e:x=z
   ·exact⟨s.heap.objs.size+1,by rw[e];simp⟩
   ·exact⟨c,q x c e h⟩
  ·rcases w x c J with⟨F,_⟩ | ⟨_,H⟩
   ·rcases w y c K with⟨G,_⟩ | ⟨_,I⟩
    ·exact F.trans G.symm
    ·exact b9 (j y c I) (uN l)
   ·exact b9 (j x c H) (uN l)
section
variable{X:Cx}
def TQ{R:Result->Shared->Prop}{iter}(I:Nat->Shared->Prop)
  (turn:∀n s,I n s->wpAny (model prog w) A (du it) (λr a=>match r with
   |none=>R (.ok .next) a
   |some v=>wpAny (model prog w) A (m8 target it v) (λ_ u=>wpAny (model prog w) A (ax target env v) (λ_ i=>
     wpAny (model prog w) A (fy t true λc r=>if r=true then do let ok <- isTrue c env (eval c env);pure (f6 ok)else pure (f6 r)) (λok b=>
      if ok=true then wpAny (model prog w) A (eval f env) (λx j=>wpAny (model prog w) A (call (.builtin "list.append") [acc,x]) (λ_ k=>∃m,m<n/\I m k) (λ_ _=>False) j) (λ_ _=>False) b
      else∃m,m<n/\I m b) (λ_ _=>False) i) (λ_ _=>False) u) (λ_ _=>False) a) (λ_ _=>False) s)
  (n:Nat) (h:I n s):u6 (model prog w) A (.compLoop (.ListComp f [⟨target,iter,t,0⟩] scope pos) 0 it acc env) R s:=by
 refine codeAny_loop kA I (λn s B=>?_) n h;show wpAny _ A ((compTurn (.ListComp f [⟨target,iter,t,0⟩] scope pos) 0 it acc env).onRaise (λx=>do noteFrame x env;theTreesLotGoes x)) _ _ s;refine wpAny_noted ?_;rw[compTurn_list];have l:∀{E:Value->Shared->Prop}(e:Value)(s:Shared),False->E e s:=λ_ _ z=>z.elim;refine aK (er (aK (hU (turn n s B) (λr a d=>?_) l)))
 cases r with
 |none=>exact bC d
 |some v=>
  refine aK (hU d (λ_ u y=>aK (hU y (λ_ i o=>aK (hU o (λok b g=>?_) l)) l)) l)
  cases ok with
  |false=>exact bC ⟨kA,g⟩
  |true=>exact aK (aK (hU g (λx j p=>aK (hU p (λ_ k q=>bC (bC ⟨kA,q⟩)) l)) l))
variable{f iter F:Expr}{t:List Expr}{scope:Scope}{pos:Pos}{B:List Str}{G:List (Option Nat)}{O:TI}{g:BP->TG}{M:BP->TT}{L:BP->TE}
def LX{H2:Hp}{s2:Shared}{it:Addr}{tn:Nat->Heap->Prop}{J:It}{Q:VK}{RR:Value->Addr->Result->Shared->Prop}{cl:List (Str×Addr)}{E:Value->Shared->Prop}
  (Y:X.calm=true) (jo:scope.kind=.function) (hz:vI scope.names) (qe:tZ scope.names X.env.scope.names X.N B G=true)
  (H:∀n c,cl.lookup n=some c->X.env.cells.lookup n=some c) (jm:∀n,(n,e4)∈scope.names->∃c,cl.lookup n=some c)
  (hY:∀b:BP,PG (blk X scope B b) F (g b)/\OU (blk X scope B b) t (M b)/\PE (blk X scope B b) f (L b))
  (I2:dJ X pins σ H2 s2) (T:J0 X.prog X.w X.K F J fp it tn) (gk:tn 0 s2.heap) (f2:∀b∈fp,BO X pins H2 b)
  (q:∀(bp:BP)(P:Addr),H2 P=none->∃W:Nat->Nat->St->Hp->Prop,(∃m,W 0 m (yG G σ) (fG H2 P (.lst [])))/\∀i m U S,W i m U S ->
   (J.stop i S/\Q (.ref P) S)\/(J.go i S/\∀x H2,J.yld i S x H2->g bp x U H2 λjz H3=>M bp jz H3 λb H4=>
    if b=true then L bp jz H4 λy H5=>∃ys,H5 P=some (.lst ys)/\ys.length<bF/\∃m',m'<m/\W (i+1) m' jz (fG H5 P (.lst (ys++[y])))
    else∃m',m'<m/\W (i+1) m' jz H4))
  (ol:∀P C s' HY m,dJ X pins σ HY s'->BO X pins HY C->s'.heap.Ns C m->Q (.ref P) HY->RR (.ref P) C (.ok .next) s') :
  wpAny (model X.prog X.w) X.A (newList []) (λP lz=>wpAny (model X.prog X.w) X.A (dt scope X.env.globals cl [] X.env.qual none .none (some X.env)) (λjh ma=>
   u6 (model X.prog X.w) X.A (.compStart (.ListComp f [⟨F,iter,t,0⟩] scope pos) 0 (.ref it) P { jh with scope:=relabel scope X.env }) (RR P jh.locals) ma) E lz) E s2:=by
 obtain⟨qc,qb⟩:=zX qe;have ki:H2 s2.heap.objs.size=none:=I2.hok.fresh (aN _);refine kI ?_ (by show 0<=bF;exact cJ _)
 generalize lg:({ s2 with heap:=s2.heap.push { cls:=.type "list",dict:=none,data:=.seq ([]:List Value).toArray } }:Shared)=s3
 have s:dJ X pins σ (fG H2 s2.heap.objs.size (.lst [])) s3:=by
  rw[<- lg];exact I2.laid (t':=s2.toks) (λb u e=>aE _ e) (aN _) ⟨cJ _,[],0,.nil,aY _ kA⟩
 have ko:∀b∈fp,b<s3.heap.objs.size:=λb a=>by
  obtain⟨o,e,_⟩:=T.obj 0 _ gk b a;rw[<- lg];exact bG (aE _ e)
 have nq:tn 0 s3.heap:=T.keep 0 _ _ gk λb _ o e=>by rw[<- lg];exact aE _ e
 have f3:∀b∈fp,BO X pins (fG H2 s2.heap.objs.size (.lst [])) b:=λb a=>⟨by
  obtain⟨o,e,_⟩:=T.obj 0 _ gk b a;rw[cC (dD (bG e))];exact(f2 b a).1,(f2 b a).2⟩
 refine Xc hz (λx c e=>by obtain⟨v,o,ho,_⟩:=s.cell x c (H x c e);exact bG ho) λjr I kt keep R=>?_
 generalize oi:fG H2 s2.heap.objs.size (.lst [])=H3 at *
 generalize ut:s2.heap.objs.size=ac at *
 generalize hC:s3.heap.objs.size=C at *
 obtain⟨W,⟨m0,w0⟩,turn⟩:=q ⟨I,C,s3,H3,fp,X.pn++pins⟩ ac ki;rw[oi]at w0
 have Z:∀x c,X.env.cells.lookup x=some c->c<C:=λx c e=>by
  obtain⟨v,o,ho,_⟩:=s.cell x c e;rw[<- hC];exact bG ho
 have jj:∀b∈fp,b≠C:=λb a=>by exact dD (ko b a)
 have mh:X.env.locals<C:=by rw[<- hC];exact s.lt
 have li:∀b∈L7 X.stack,b≠C/\H3 b=none:=λb a=>⟨by
  rintro rfl;rcases aR.mp (s.stkSub b a)with z | z
  ·rw[z]at mh;exact b9 mh (hZ _)
  ·exact s.nofs (by rw[hC];exact aN _) z,s.stkFree b a⟩
 have kc:∀x c,X.env.cells.lookup x=some c->c≠C:=λx c e z=>by
  obtain⟨v,o,ho,_⟩:=s.cell x c e;have:=bG ho;rw[z,hC]at this;exact b9 this (hZ _)
 -- the block's context
 have ue:(blk X scope B ⟨I,C,s3,H3,fp,X.pn++pins⟩).Ok:=by
  refine⟨s.ok.mod,jo,s.ok.glob,s.ok.blt,mS hC,λx y c h1 h2=>by
   rcases R.get x c h1 with⟨l1,_⟩ | ⟨g1,_⟩<;>rcases R.get y c h2 with⟨l2,_⟩ | ⟨g2,_⟩
   ·exact R.inj x y c h1 h2 l1
   ·exact b9 (Z y _ (H y _ g2)) (uN l1)
   ·exact b9 (Z x _ (H x _ g1)) (uN l2)
   ·exact s.ok.inj x y c (H x c g1) (H y c g2),λx hx=>?_,λx c hf h=>by
   rcases R.get x c h with⟨l,_⟩ | ⟨_,n⟩
   ·exact bE (mS hC) (iB l)
   ·exact b9 (g5 (beq_iff_eq.mp hf)) n,λ_=>s.ok.hd Y,s.ok.frames,.inl kA,
   λb a=>⟨jj b a,λx c h=>by
    rcases R.get x c h with⟨l,_⟩ | ⟨h,_⟩
    ·exact jJ (uM (ko b a) l)
    ·exact(f3 b a).2.2.2.2.1 x c (H x c h)⟩,λb o e=>s.bs b o e,?_,λb o e a=>?_,λb a hs=>?_,s.stack,λb a=>(li b a).2,s.env0.tab⟩
  ·have jg:∀k,(relabel scope X.env).names.lookup x=some k->(k=.cell\/k=.free)->∃c,(I).lookup x=some c:=λk h hk=>by
    obtain⟨k0,h1,h2⟩:=rO h;rcases(show k0=.cell\/k0=.free from h2.elim (λe=>by rw[e];exact hk) λe=>.inr e.1)with rfl | rfl
    ·exact R.has x h1
    ·obtain⟨c,hc⟩:=jm x h1;exact R.keep x c hc
   rcases hx with hx | hx
   ·exact jg _ hx (.inl kA)
   ·exact jg _ hx (.inr kA)
  ·exact bE s.ok.bsz (bE s.sz (aN _))
  ·rcases(f3 b a).2.2.2.1 with z | z
   ·exact s.ok.noex b o e z
   ·exact b9 (cU (bG (s.ok.bs b o e).1) z) (hZ _)
  ·rcases aR.mp (s.stkSub b hs)with z | z
   ·exact(f3 b a).2.1 z
   ·exact(f3 b a).2.2.1 z
 have kh:H3 C=none:=s.hok.fresh (mS hC)
 have IY:dJ (blk X scope B ⟨I,C,s3,H3,fp,X.pn++pins⟩) [] (yG G σ) H3 { s3 with heap:=jr }:=by
  refine⟨ue,kA,s.bare,Un.kept keep,⟨_,kt,λi x v h1 h2 _=>?_⟩,λx c e=>?_,kh,λx c e=>(by
   rcases R.get x c e with⟨l,_⟩ | ⟨e,_⟩
   ·exact s.hok.fresh (by rw[hC];exact iB l)
   ·exact s.freeC x c (H x c e)),λp hp=>?_,s.hok.kept keep,?_⟩
  ·have e:∃j,G[i]?=some (some j)/\σ[j]?=some (some v):=by
    unfold yG at h2;rw[aM]at h2
    cases hf:G[i]? with
    |none=>rw[hf]at h2;cases h2
    |some o=>
     rw[hf]at h2
     cases o with
     |none=>cases h2
     |some j=>
      refine⟨j,kA,?_⟩;have gi:(σ[j]?).join=some v:=by simpa using h2
      cases hj:σ[j]? with
      |none=>rw[hj]at gi;cases gi
      |some o=>rw[hj]at gi;rw[show o=some v from gi]
   obtain⟨j,e1,e2⟩:=e;obtain⟨a1,a2,a3⟩:=qb i x j h1 e1;obtain⟨m,hn,hl⟩:=s.loc;obtain⟨u,r,l⟩:=hl j x v a2 e2 (.inr (.inl a3));refine⟨u,r,.inr ⟨xU a1,?_⟩⟩;rcases l with⟨k,_⟩ | ⟨_,c,hc,o,ho,hd⟩
   ·have k':X.env.scope.names.lookup x=some .local:=k;rw[a3]at k';cases k'
   ·obtain⟨c',u4⟩:=jm x (g5 a1);have z:=H x c' u4;rw[hc]at z;cases z;exact⟨c,R.old x c a1 u4,o,keep c o ho,hd⟩
  ·rcases R.get x c e with⟨_,_,qz⟩ | ⟨e,_⟩
   ·exact⟨none,qz⟩
   ·obtain⟨v,o,ho,hd⟩:=s.cell x c (H x c e);exact⟨v,o,keep c o ho,hd⟩
  ·obtain⟨e,n,ne,nf,d⟩:=s.pin p (by have hp':p∈(X.pn++pins)++[]:=hp;simpa using hp');refine⟨keep _ _ e,n,?_,λz=>?_,d⟩
   ·have:=bG e;rw[hC]at this;exact dD this
   ·rcases aR.mp (s.stkSub p.1 z)with z | z
    ·exact ne z
    ·exact nf z
  ·unfold yG;rw[aA];exact qc.symm
 have gy:∀{S:Hp},(∀b∈fp,S b=none)->∀b∈fp,BO (blk X scope B ⟨I,C,s3,H3,fp,X.pn++pins⟩) [] S b:=λ{S} hn b a=>
  ⟨hn b a,jj b a,λz=>by
   rcases aR.mp (s.stkSub b z)with z | z
   ·exact(f3 b a).2.1 z
   ·exact(f3 b a).2.2.1 z,  .inl a,λx c e=>(by
   rcases R.get x c e with⟨l,_⟩ | ⟨e,_⟩
   ·exact jJ (uM (ko b a) l)
   ·exact(f3 b a).2.2.2.2.1 x c (H x c e)),λp hp=>(f3 b a).2.2.2.2.2 p (by have hp':p∈(X.pn++pins)++[]:=hp;simpa using hp')⟩
 obtain⟨hg,ht,he⟩:=hY ⟨I,C,s3,H3,fp,X.pn++pins⟩
 have gb:u6 (model X.prog X.w) X.A (.compLoop (.ListComp f [⟨F,iter,t,0⟩] scope pos) 0 (.ref it) (.ref ac) (compEnvC scope I C X.env)) (RR (.ref ac) C) { s3 with heap:=jr }:=by
  refine TQ (λn s'=>∃i U S,dJ (blk X scope B ⟨I,C,s3,H3,fp,X.pn++pins⟩) [] U S s'/\tn i s'.heap/\(∀b∈fp,S b=none)/\W i n U S) ?_ m0
   ⟨0,yG G σ,H3,IY,T.keep 0 _ _ nq λb _ o e=>keep b o e,λb a=>(f3 b a).1,w0⟩
  rintro n s4 ⟨i,ka,H4,I4,nr,mf,w4⟩;rcases turn i n ka H4 w4 with⟨stop,qn⟩ | ⟨go,step⟩
  ·refine iW (T.done (blk X scope B ⟨I,C,s3,H3,fp,X.pn++pins⟩) kA kA kA Y i [] s4 ka H4 _ I4 (gy mf) nr stop) λr s5 zq=>?_;obtain⟨hr,I5⟩:=zq;subst hr;obtain⟨m,hn,_⟩:=I5.loc;have IX:dJ X pins σ H4 s5:=s.call' I5.os I5.base I5.hok I5.bare λb a=>⟨(f3 b a).2.2.2.1,(f3 b a).2.1,(f3 b a).2.2.2.2.1,(f3 b a).2.2.2.2.2⟩;exact ol ac C s5 H4 m IX (s.fpOk (mS hC) I5.free) hn qn
  ·refine iW (T.item (blk X scope B ⟨I,C,s3,H3,fp,X.pn++pins⟩) kA kA kA Y i [] s4 ka H4 (λ_ _=>False) I4 (gy mf) nr go) λr s5 zq=>?_;obtain⟨u,hr,h5⟩:=zq;subst hr;refine iW h5 λ_ s6 zq=>?_;obtain⟨x,H6,I6,r6,y6,lx,oe⟩:=zq;have nv:=I6.pinned (gy oe) (T.obj _ _ lx);refine iW (hg _ s6 ka H6 x u _ nv r6 (step x H6 y6)) λ_ s7 zq=>?_;obtain⟨md,H7,I7,q7⟩:=zq;refine iW (ht _ s7 md H7 _ I7 q7) λok s8 zq=>?_;obtain⟨H8,I8,q8⟩:=zq
   have ii:∀{s9:Shared}{kb:St}{H9:Hp}{m':Nat},dJ (blk X scope B ⟨I,C,s3,H3,fp,X.pn++pins⟩) ([]++DE fp s6.heap) kb H9 s9->m'<n->W (i+1) m' kb H9 ->
     ∃m,m<n/\∃i U S,dJ (blk X scope B ⟨I,C,s3,H3,fp,X.pn++pins⟩) [] U S s9/\tn i s9.heap/\(∀b∈fp,S b=none)/\W i m U S:=λ{s9 kb H9 m'} I9 hm w9=>by
    refine⟨m',hm,i+1,kb,H9,I9.unpinned,T.keep _ _ _ lx λb a o e=>(I9.pin (b,o) (cZ _ (cZ _ (rV a e)))).1,λb a=>?_,w9⟩;obtain⟨o,e,d⟩:=T.obj _ _ lx b a;exact(I9.pin (b,o) (cZ _ (cZ _ (rV a e)))).2.1
   cases ok with
   |false=>
    obtain⟨m',hm,w8⟩:=q8;exact ii I8 hm w8
   |true=>
    refine iW (he _ s8 md H8 _ I8 q8) λy s9 zq=>?_;obtain⟨yv,H9,I9,r9,ys,tj,hz,m',hm,w9⟩:=zq;refine iW (kE (X:=blk X scope B ⟨I,C,s3,H3,fp,X.pn++pins⟩) _ s9 md H9 (.ref ac) [yv] (.ref ac) [y] (λ_ S=>S=fG H9 ac (.lst (ys++[yv]))) I9 kA (.cons r9 .nil) ⟨ac,ys,yv,kA,kA,tj,hz,kA⟩) λ_ vw zq=>?_;obtain⟨_,ul,nu,_,nz⟩:=zq;subst nz;exact ii nu hm w9
 exact codeAny_compStart_list gb (T.self _ 0 _ _ _ (T.keep 0 _ _ nq λb _ o e=>keep b o e) gb)
def Lo(j:X.calm=true)(a:scope.kind=.function)(hz:vI scope.names)(u:tZ scope.names X.env.scope.names X.N B G=true)
  (l:∀y∈scope.names,y.2=.free->X.env.scope.names.lookup y.1=some .cell) (c:∀x∈scope.names,x.2=.local->scope.names.lookup x.1=some .local) (Z:PI X F iter O)
  (W:∀b:BP,PG (blk X scope B b) F (g b)/\OU (blk X scope B b) t (M b)/\PE (blk X scope B b) f (L b))
  (hs:autoParam (∀x,i6 iter X.env x=pure x) zzx._auto_1):PE X (.ListComp f [⟨F,iter,t,0⟩] scope pos) (VC G O g M L):=by
 intro d s E H Q I h;obtain⟨cl,k,p,r⟩:=wZ (env:=X.env) (scope:=scope) λy hy hk=>I.ok.has y.1 (.inl (l y hy hk));rw[eval_ListComp];refine eo (use:=none) kA hs k a c (iW (Z d s E H _ I h) λv s1 S=>iW S λnc s2 U=>?_);obtain⟨it,fp,tn,J,H2,rfl,R,T,z,f2,q⟩:=U;refine LX (RR:=λi C=>compPost (model X.prog X.w) X.A X.xe none (EP X d E Q) i C) j a hz u p r W R T z f2 q λi C s' K m P n hn q'=>?_;exact⟨m,hn,λh' sb=>⟨.ref i,K,P.turned (t':=s'.toks) (λb o Y e=>(sb.2 b Y).trans e) n.1 n.2.1 n.2.2.2.1 n.2.2.2.2.1 n.2.2.2.2.2,kA,q'⟩⟩
def V5{i:Nat}{x:Str}{E l:Pos}(hN:X.N.Nodup)(Z:X.N[i]?=some x)(hx:UM X.env.scope x)(p:X.calm=true)(c:scope.kind=.function)(hz:vI scope.names)(Y:tZ scope.names X.env.scope.names X.N B G=true)
  (u:∀y∈scope.names,y.2=.free->X.env.scope.names.lookup y.1=some .cell) (k:∀x∈scope.names,x.2=.local->scope.names.lookup x.1=some .local) (hi:PI X F iter O)
  (hY:∀b:BP,PG (blk X scope B b) F (g b)/\OU (blk X scope B b) t (M b)/\PE (blk X scope B b) f (L b))
  (sh:mF (.ListComp f [⟨F,iter,t,0⟩] scope pos) (some (.Name x E)) l.line X.env=pure true)
  (hs:autoParam (∀x,i6 iter X.env x=pure x) zzx._auto_1) (hf:autoParam (X.fn x=true\/X.env.scope.names.lookup x=some .local) zzw._auto_1) :
  PS X (.Assign [.Name x E] (.ListComp f [⟨F,iter,t,0⟩] scope pos) l) (vN (VC G O g M L) (lP i)):=by
 intro d s σ H D I h;obtain⟨cl,r,K,P⟩:=wZ (env:=X.env) (scope:=scope) λy hy hk=>I.ok.has y.1 (.inl (u y hy hk));rw[exec_Assign_Name_used _ _ _ _ sh];refine aK (er (aK ?_));show wpAny _ _ (do let _ <- comprehension (.ListComp f [⟨F,iter,t,0⟩] scope pos) scope X.env _ (newList []) false (eval iter X.env) (some (ax (.Name x E) X.env))) _ _ s
 refine aK (hU (eo (use:=some (ax (.Name x E) X.env)) (Q:=λ_ R=>SP X d D .next R) kA hs r c k
  (iW (hi d s σ H _ I h) λv s1 h1=>iW h1 λnc s2 h2=>?_)) (λ_ R hq=>bC (bC hq)) λ_ _ e=>e)
 obtain⟨it,fp,tn,J,H2,rfl,I2,T,gk,f2,q⟩:=h2;refine LX (RR:=λj C=>compPost (model X.prog X.w) X.A X.xe (some (ax (.Name x E) X.env)) (λ_ R=>SP X d D .next R) j C) (Q:=λx H1=>lP i x σ H1 D.nx) p c hz Y K P hY I2 T gk f2 q λj C R HY m I' n hn q'=>?_;show wpAny _ _ (ax (.Name x E) X.env (.ref j)) _ _ _;refine im (F9 I' hN Z hx (v:=.ref j) kA (λug S W=>?_) hf);obtain⟨a,sb,ha⟩:=W
 have U:C≠a:=by
  rcases ha with z | z
  ·rw[z];exact n.2.1
  ·exactλe=>n.2.2.2.2.1 x a z e.symm
 exact⟨m,hn.sameBut sb U,λh' uh=>⟨_,HY,S.turned (t':=ug.toks) (λb o hb e=>(uh.2 b hb).trans e) n.1 n.2.1 n.2.2.2.1 n.2.2.2.2.1 n.2.2.2.2.2,q'⟩⟩
end
section
variable{prog:cK}{w:e6}{A:d8}{E:Value->Shared->Prop}{h:Heap}{g:Array GenState}{d:Drawn}{t:Nat}{os:OsState}{a C:Addr}{f:Obj}{b:Option Obj}{K:aI}
structure JZ(K:aI)(C:Addr):Prop where
 ga:fH K (.ref C) "__getattribute__"=some (some (.builtin "BaseException.__getattribute__"))
 gt:fH K (.ref C) "__getattr__"=some none
 cl:fH K (.ref C) "__class__"=some (some (.builtin "object.__class__"))
 ob:FS K C (.type "object")=some true
 be:FS K C (.type "BaseException")=some true
def Ad(K:aI)(C:Addr):Prop:=JZ K C/\∀T∈["int","str","list","tuple","bool"],lS K (.ref C) (.type T)=some false
def TU{Q:Unit->Shared->Prop}(X:K.In h)(c:JZ K C)(I:lT h a f C b)(k:Q () ⟨h,g,d,t,os⟩):wpAny M A (checkBuiltinCall "BaseException.__getattribute__" ⟨[.ref a,nameV],[]⟩) Q E ⟨h,g,d,t,os⟩:=by
 have hk:builtinKind "BaseException.__getattribute__"=some .slot:=by decide +kernel
 have e:splitId "BaseException.__getattribute__"=some ("BaseException","__getattribute__"):=by decide +kernel
 have l:=F.args_bexc_ga (.ref a) nameV;have i:=I.type (M:=M);have j:=PySem.W.looks_mroIn (M:=M) X c.be;simp only[checkBuiltinCall,hk,e];refine aK ?_;unfold isInstance;refine aK (i.at (j.at ?_))
 repeat (first | exact k | wp_step)
def JN{Q:Fin->Shared->Prop}(X:K.In h)(c:JZ K C)(I:lT h a f C b)(n:Q (.done (.ret (.ref C))) ⟨h,g,d,t,os⟩) :
  wpAny (model prog w) A (t7.«object.__getattribute__» ⟨[.ref a,.str "__class__" tk],[]⟩) Q E ⟨h,g,d,t,os⟩:=by
 have j:(⟨h,g,d,t,os⟩:Shared).TypeIs (.builtin "object.__class__") "getset_descriptor":=ew;have k:=ew;have l:=F.slot_gs_get.lookup;have m:=F.slot_gs_set.lookup;have e:=I.type (M:=model prog w);have i:=oP (M:=model prog w) X c.cl
 repeat (any_goals (first | assumption | with_reducible refine e.at ?_ | with_reducible refine i.at ?_ | wp_step))
 refine PySem.W.class_get (s:=⟨h,g,d,t,os⟩) X I c.ob ?_
 repeat (any_goals (first | assumption | wp_step))
def MH{R:Result->Shared->Prop}(X:K.In h)(c:JZ K C)(I:lT h a f C b)(e:R (.ok (.ret (.ref C))) ⟨h,g,d,t,os⟩) :
  u6 (model prog w) A (.call (.builtin "BaseException.__getattribute__") ⟨[.ref a,.str "__class__" tk],[]⟩) R ⟨h,g,d,t,os⟩:=
 codeAny_call_builtin F.excAttr_ValueError.ga.plain F.entry_bexc_ga (TU X c I (JN X c I e))
def TR{Q:Value->Shared->Prop}(X:K.In h)(c:JZ K C)(I:lT h a f C b)(n:Q (.ref C) ⟨h,g,d,t,os⟩):wpAny (model prog w) A (getAttrBy (.ref a) (.str "__class__" tk) false) Q E ⟨h,g,d,t,os⟩:=by
 have m:=F.excAttr_ValueError.ga.bind (.ref a);have i:(y2 "BaseException.__getattribute__"==y2 "object.__getattribute__")=false:=by decide +kernel
 have l:(onTheHeap (d5 C)&&y2 "BaseException.__getattribute__"==y2 "object.__getattribute__")=false:=by rw[i];rfl
 have j:=I.type (M:=model prog w);have k:=oP (M:=model prog w) X c.ga;have e:=oP (M:=model prog w) X c.gt
 repeat (any_goals (first | assumption | with_reducible refine j.at ?_ | with_reducible refine k.at ?_ | with_reducible refine e.at ?_ | wp_step))
 refine MH X c I ?_
 repeat (any_goals (first | assumption | wp_step))
def MI{Q:Option Value->Shared->Prop}(X:K.In h)(c:JZ K C)(I:lT h a f C b)(e:Q (some (.ref C)) ⟨h,g,d,t+1,os⟩):wpAny (model prog w) A (getAttr? (.ref a) "__class__") Q E ⟨h,g,d,t,os⟩:=by
 unfold getAttr? getAttrBy?
 repeat (any_goals (first | assumption | with_reducible apply TR X c I | wp_step))
def X1(c:JZ K C):PySem.W.KitX K (.ref a) (.ref C) (λh=>∃f b,lT h a f C b) where
 ty:=λ_ _ _ ⟨_,_,I⟩=>I.type
 it:=λ_ _ X _=>by
  obtain⟨cd,hc,_⟩:=J8.mp c.ob;unfold ZY at hc;split at hc
  ·rename_i c' d' ny lu ho;intro A' Q' E' s' k q;unfold isType loadHead;exact aK (wpAny_loadPart (k _ _ (X _ _ ho)) (bC q))
  ·cases hc
 ne:=λh tp dd w5 n sl X su=>by
  obtain⟨cd,hc,_⟩:=J8.mp c.ob;refine Bool.eq_false_iff.mpr λq=>?_;have e:C=tp:=Value.ref.inj (beq_iff_eq.mp q);subst e;unfold ZY at hc;split at hc
  ·rename_i c' d' ny lu ho;have z:=(X _ _ ho).symm.trans su;cases z
  ·cases hc
 ca:=λ{_ _ _ _ _ s} X ⟨_,_,I⟩ k=>by
  obtain⟨hh,g,d,t,os⟩:=s;exact MI X c I k
end
structure aQ9(k:Nat)(A:d8):Prop where
 dp:A.depth+3*k+5<aa
 un:A.units+16*k+200<x0
 gd:A.guards=some []
def hW.h{k:Nat}(r:hW k A):aQ9 k A:=⟨r.dp,r.un,r.gd⟩
end L2
namespace TL
open L2
abbrev D:=PySem.PyData
def TC(p:Addr)(h:Heap):Prop:=∃(a:List Value)(n:Nat),h.get? p=some { cls:=.type "list",data:=.seq a.toArray n }/\a.length<=1000/\∀v∈a,∃(i:Int)(t:Tok),v=.int i t/\0<=i/\i<4096
def L9(p C:Addr)(dx:Option Addr)(h:Heap):Prop:=∃o vs,h.get? p=some o/\o.cls=.ref C/\o.dict=dx/\o.data=.fields vs
def rK(p q:Addr)(h:Heap):Prop:=∃(a b c:Int)(d e f:Tok)(n:Nat),h.get? p=some { cls:=.type "list",data:=.seq [d5 q,.int a d,.int b e,.int c f].toArray n }/\0<=a/\(c=0\/c=1)
def Ax(e:Int×Addr×V)(x:DictEntry):Prop:=x.hash=e.1/\x.key=.ref e.2.1/\fS e.2.2 x.val
def Jd(p:Addr)(a:List (Int×Addr×V))(h:Heap):Prop:=(p==j3)=false/\a.length<=bF/\∃o b c,h.get? p=some o/\o.ExactDict/\o.data=.dict b c/\Paired Ax a b.toList
noncomputable def Gi(p:Addr)(a:List (Int×Addr×V)):HO:=.ext (Jd p a)
def Tn(p:Addr)(a:List (Int×Addr×V))(c:Nat)(h:Heap):Prop:=(p==j3)=false/\a.length<=bF/\∃o b,h.get? p=some o/\o.ExactDict/\o.data=.dict b c/\Paired Ax a b.toList
noncomputable def Gh(p:Addr)(b:List (Int×Addr×V))(a:Nat):HO:=.ext (Tn p b a)
mutual
inductive gO(K:aI)(H:Hp):D->V->Prop
|none:gO K H .none .non
|bool (b:Bool):gO K H (.bool b) (.bl b)
|int (i:Int):gO K H (.int i) (.int i)
|str (x:Str):gO K H (.str x) (.str x)
|list {p:Addr} {xs:List V} {ts:List D}:mK K H p xs->Reps K H ts xs->gO K H (.list ts) (.ref p)
|tuple {p:Addr} {xs:List V} {ts:List D}:oR K H p xs->Reps K H ts xs->gO K H (.tuple ts) (.ref p)
|wild {p:Addr}:H p=some (.ext (TC p))->gO K H (.dict []) (.ref p)
|exc {p C:Addr}:Ad K C->H p=some (.ext (L9 p C Option.none))->gO K H (.dict [(.int (C:Nat),.none)]) (.ref p)
|excA {p C dx:Addr} {n:Int}:Ad K C->H p=some (.ext (L9 p C (some dx)))->H dx=some (.xd [("at",.int n)])->gO K H (.dict [(.int (C:Nat),.int n)]) (.ref p)
|excD {p C dx:Addr} {v:V} {cs:List D}:Ad K C->H p=some (.ext (L9 p C (some dx)))->H dx=some (.xd [("case",v)])->gO K H (.tuple cs) v->gO K H (.dict [(.int (C:Nat),.tuple cs)]) (.ref p)
|tape {p q:Addr} {ns:List Int}:H p=some (.ext (rK p q))->mK K H q (ns.map V.int)->gO K H (.dict [(.none,.list (ns.map bO))]) (.ref p)
|dct {p:Addr} {es:List (Int×Addr×V)} {ep:Nat} {kvs:List (D×D)}:H p=some (Gh p es ep)->(kvs.map (·.1)).Nodup->Reps K H (kvs.map (·.1)) (es.map λe=>.ref e.2.1)->Reps K H (kvs.map (·.2)) (es.map λe=>e.2.2)->gO K H (.dict ((.str "{}",.list ((es.map (·.1)).map bO))::kvs)) (.ref p)
|addr {p:Addr} (z:List D):gO K H (.dict [(.str "@",.list (.int (p:Nat)::z))]) (.ref p)
|ins {p C dx:Addr} {fs:List (Str×V)} {ds:List D}:H p=some (.ins C dx fs)->Reps K H ds (fs.map (·.2))->gO K H (.dict [(.str "obj",.tuple [.int (C:Nat),.list ((fs.map (·.1)).map aL),.list ds])]) (.ref p)
inductive Reps(K:aI)(H:Hp):List D->List V->Prop
|nil:Reps K H [] []
|cons {t:D} {ts:List D} {x:V} {xs:List V}:gO K H t x->Reps K H ts xs->Reps K H (t::ts) (x::xs)
end
variable{K:aI}{H E I J:Hp}
def bB.seqT{a:Addr}(e:bB H E)(h:oR K H a xs):oR K E a xs:=by
 rcases h with(h | ⟨o,h⟩) | h
 ·exact .inl (.inl (e _ _ h))
 ·exact .inl (.inr ⟨o,e _ _ h⟩)
 ·exact .inr h
def gO.same(e:bB H E){d:D}{v:V}(r:gO K H d v):gO K E d v:=
 gO.rec (motive_1:=λd v _=>gO K E d v) (motive_2:=λc vs _=>Reps K E c vs) .none .bool .int .str (λq _ a=>.list (L2.bB.seq e q) a) (λq _ a=>.tuple (bB.seqT e q) a) (λh=>.wild (e _ _ h)) (λx h=>.exc x (e _ _ h)) (λx h g=>.excA x (e _ _ h) (e _ _ g))
  (λx h g _ a=>.excD x (e _ _ h) (e _ _ g) a) (λh g=>.tape (e _ _ h) (L2.bB.seq e g)) (λh n _ _ a b=>.dct (e _ _ h) n a b) .addr (λh _ a=>.ins (e _ _ h) a) .nil (λ_ _ a b=>.cons a b) r
theorem Reps.same(e:bB H E){c:List D}:∀{vs:List V},Reps K H c vs->Reps K E c vs:=by
 induction c with
 |nil=>intro vs r;cases r;exact .nil
 |cons d c f=>
  intro vs r
  cases r with
  |cons a b=>exact .cons (a.same e) (f b)
theorem Reps.length:∀{a:List D}{vs:List V},Reps K H a vs->a.length=vs.length
|_,_,.nil=>rfl
|_,_,.cons _ s=>by simp[Reps.length s]
theorem Reps.get:∀{ds vs}{i:Nat}{d},Reps K H ds vs->ds[i]?=some d->∃v,vs[i]?=some v/\gO K H d v
|_,_,_,_,.nil,e=>by simp at e
|_,_,0,_,.cons r _,e=>by simp at e;subst e;exact⟨_,kA,r⟩
|_,_,i+1,d,.cons _ s,e=>by
 obtain⟨v,a,b⟩:=Reps.get (i:=i) (d:=d) s (by simpa using e);exact⟨v,by simpa using a,b⟩
theorem Reps.get':∀{ds vs}{i:Nat}{v},Reps K H ds vs->vs[i]?=some v->∃d,ds[i]?=some d/\gO K H d v
|_,_,_,_,.nil,e=>by simp at e
|_,_,0,_,.cons r _,e=>by simp at e;subst e;exact⟨_,kA,r⟩
|_,_,i+1,d,.cons _ s,e=>by
 obtain⟨v,a,b⟩:=Reps.get' (i:=i) (v:=d) s (by simpa using e);exact⟨v,by simpa using a,b⟩
theorem Reps.append:∀{ds es vs us},Reps K H ds vs->Reps K H es us->Reps K H (ds++es) (vs++us)
|_,_,_,_,.nil,s=>s
|_,_,_,_,.cons r t,s=>.cons r (Reps.append t s)
theorem Reps.take:∀{a:List D}{vs:List V}(n:Nat),Reps K H a vs->Reps K H (a.take n) (vs.take n)
|_,_,0,_=>.nil
|_,_,_+1,.nil=>.nil
|_,_,n+1,.cons r t=>.cons r (Reps.take n t)
theorem Reps.drop:∀{a:List D}{vs:List V}(n:Nat),Reps K H a vs->Reps K H (a.drop n) (vs.drop n)
|_,_,0,r=>r
|_,_,_+1,.nil=>.nil
|_,_,n+1,.cons _ t=>Reps.drop n t
noncomputable def mask(H:Hp)(a:List Addr):Hp:=λb=>if b∈a then none else H b
def bR(e:bB H E):bB (mask H ps) (mask E ps):=λb o h=>by
 unfold mask at h |-
 by_cases a:b∈ps
 ·rw[a9 a]at h;cases h
 ·rw[a8 a]at h |-;exact e b o h
def jI(h:∀p∈v0,p∈ps):bB (mask H ps) (mask H v0):=λb o e=>by
 unfold mask at e |-
 by_cases a:b∈ps
 ·rw[a9 a]at e;cases e
 ·rw[a8 a]at e;rw[a8 λz=>a (h b z)];exact e
def bW:bB (mask H ps) H:=λb o e=>by
 unfold mask at e;by_cases a:b∈ps
 ·rw[a9 a]at e;cases e
 ·rw[a8 a]at e;exact e
def nN{p:Addr}(h:H p=none):mask (fG H p o) (p::ps)=mask H ps:=by
 funext b;unfold mask;by_cases a:b=p
 ·subst a;rw[a9 (aO ..),h];by_cases z:b∈ps<;>simp[z]
 ·rw[cC a];by_cases z:b∈ps
  ·rw[a9 (aJ _ z),a9 z]
  ·rw[a8 (λq=>(aR.mp q).elim a z),a8 z]
def gZ{p:Addr}(h:p∈ps):mask (fG H p o) ps=mask H ps:=by
 funext b;unfold mask;by_cases a:b=p
 ·subst a;rw[a9 h,a9 h]
 ·rw[cC a]
def dM{p:Addr}(h:H p=none):bB H (fG H p o):=λb u q=>by rw[cC (gM q h)];exact q
def mU{p:Addr}(h:p∉ps)(e:H p=some o):mask H ps p=some o:=by
 unfold mask;rw[a8 h];exact e
noncomputable def xy:HO->Bool
|.tup _=>true
|.frz _ (.tup _)=>true
|_=>false
def AJ(u:Option HO):Prop:=∃v,u=some v/\xy v=false
def AJ.ne(h:AJ u):u≠none:=λz=>by obtain⟨v,e,_⟩:=h;rw[z]at e;cases e
theorem AJ.lst{xs}:AJ (some (.lst xs)):=⟨_,kA,kA⟩
def jF{a:List Addr}{p:Addr}(live:∀q∈a,AJ (H q))(h:H p=none):p∉a:=λz=>(live p z).ne h
inductive Sl where
|un | val (d:D) | own (ts:List D) | dic (hs:List Int) (kvs:List (D×D))
def qX(K:aI)(B:Hp)(G:List Addr)(H:Hp)(d:List Addr)(m:List Sl)(C:L2.St):Prop:=∀(i:Nat)(f:List Int)(kvs:List (D×D)),m[i]?=some (.dic f kvs) ->
 (∃(p:Addr)(a:List (Int×Addr×V)),C[i]?=some (some (.ref p))/\p∈d/\B p=none/\p∉G/\H p=some (Gi p a)/\f=a.map (·.1)/\(kvs.map (·.1)).Nodup/\Reps K (mask H d) (kvs.map (·.1)) (a.map λe=>.ref e.2.1)/\Reps K (mask H d) (kvs.map (·.2)) (a.map λe=>e.2.2)) /\
 ∀(j:Nat)(b:List Int)(c:List (D×D)),m[j]?=some (.dic b c)->i=j
def qX.to{B g:Hp}(o:qX K B G H ps m C)(c:∀(i:Nat)(a:List Int)(kvs:List (D×D)),n9[i]?=some (.dic a kvs)->m[i]?=some (.dic a kvs)/\t6[i]?=C[i]?)
  (M:∀(p:Addr)(f:Heap->Prop),p∈ps->H p=some (.ext f)->p∉G->p∈v0/\E p=H p) (F:∀(p:Addr)(f:Heap->Prop),p∈ps->H p=some (.ext f)->B p=none->p∉G->g p=none/\p∉p0') (k:bB (mask H ps) (mask E v0)):qX K g p0' E v0 n9 t6:=λi a kvs h=>by
 obtain⟨z,A⟩:=c i a kvs h;obtain⟨⟨p,y,l,a2,n,a4,e,q,r,s,t⟩,u⟩:=o i a kvs z;obtain⟨v,w⟩:=M p _ a2 e a4;obtain⟨c1,x⟩:=F p _ a2 e n a4;exact⟨⟨p,y,A.trans l,v,c1,x,w.trans e,q,r,s.same k,t.same k⟩,λj b d L=>u j b d (c j b d L).1⟩
def QT{m:List Sl}{i j:Nat}(c:∀a kvs,s≠.dic a kvs)(h:(m.set i s)[j]?=some (.dic a kvs)):i≠j/\m[j]?=some (.dic a kvs):=by
 by_cases e:i=j
 ·subst e;have b:i<m.length:=by simpa using(aG.mp h).1
  rw[bV b]at h;exact b9 (c5 h) (c a kvs)
 ·rw[bU e]at h;exact⟨e,h⟩
def qX.setS{m:List Sl}{C:L2.St}(o:qX K B G H ps m C){i:Nat}(d:∀c kvs,s≠.dic c kvs):qX K B G H ps (m.set i s) (C.set i v):=
 o.to (λj c kvs h=>let ⟨e,h'⟩:=QT d h;⟨h',bU e⟩) (λp f a b _=>⟨a,kA⟩) (λp f _ _ a b=>⟨a,b⟩) (L2.bB.refl _)
def qX.setT{m:List Sl}(o:qX K B G H ps m C){i:Nat}(d:∀c kvs,s≠.dic c kvs):qX K B G H ps (m.set i s) C:=
 o.to (λj c kvs h=>⟨(QT d h).2,kA⟩) (λp e a b _=>⟨a,kA⟩) (λp e _ _ a b=>⟨a,b⟩) (L2.bB.refl _)
def qX.grow(o:qX K B G H ps m C)(e:bB H E):qX K B G E ps m C:=
 o.to (λj d kvs h=>⟨h,kA⟩) (λp c a b _=>⟨a,(e p _ b).trans b.symm⟩) (λp c _ _ a b=>⟨a,b⟩) (bR e)
structure Ok(K:aI)(B:Hp)(G:List Addr)(H:Hp)(ps:List Addr)(m:List Sl)(C:L2.St):Prop where
 base:bB B H
 sub:∀p∈G,p∈ps
 live:∀p∈ps,AJ (H p)
 len:m.length=C.length
 val:∀(i:Nat)(d:D),m[i]?=some (.val d)->∃v,C[i]?=some (some v)/\gO K (mask H ps) d v
 own:∀(i:Nat)(ts:List D),m[i]?=some (.own ts)->∃p xs,C[i]?=some (some (.ref p))/\p∈ps/\B p=none/\p∉G/\H p=some (.lst xs)/\Reps K (mask H ps) ts xs
 dis:∀(i j:Nat)(ts us:List D)(p:Addr),m[i]?=some (.own ts)->m[j]?=some (.own us)->C[i]?=some (some (.ref p))->C[j]?=some (some (.ref p))->i=j
 dc:qX K B G H ps m C
variable{B:Hp}{G ps:List Addr}{m:List Sl}{C:L2.St}
theorem Ok.grow(o:Ok K B G H ps m C)(e:bB H E):Ok K B G E ps m C where
 base:=o.base.trans e
 sub:=o.sub
 live:=λp hp=>let ⟨u,h1,h2⟩:=o.live p hp;⟨u,e p u h1,h2⟩
 len:=o.len
 val:=λi d h=>let ⟨v,h1,h2⟩:=o.val i d h;⟨v,h1,h2.same (bR e)⟩
 own:=λi ts h=>let ⟨p,xs,h1,h2,h3,h4,h5,h6⟩:=o.own i ts h;⟨p,xs,h1,h2,h3,h4,e _ _ h5,h6.same (bR e)⟩
 dis:=o.dis
 dc:=o.dc.grow e
theorem Ok.set(o:Ok K B G H ps m C){i:Nat}(r:gO K (mask H ps) d v):Ok K B G H ps (m.set i (.val d)) (C.set i (some v)) where
 base:=o.base
 sub:=o.sub
 live:=o.live
 len:=by simpa using o.len
 val:=λj d' h=>by
  by_cases e:i=j
  ·subst e
   have hi:i<m.length:=by
    have:=(aG.mp h).1;simpa using this
   rw[bV hi]at h;cases h;exact⟨v,by rw[bV (by rw[<- o.len];exact hi)],r⟩
  ·rw[bU e]at h |-
   exact o.val j d' h
 own:=λj ts h=>by
  by_cases e:i=j
  ·subst e
   have hi:i<m.length:=by
    have:=(aG.mp h).1;simpa using this
   rw[bV hi]at h;cases h
  ·rw[bU e]at h |-
   exact o.own j ts h
 dis:=λj k ts us p h1 h2 h3 h4=>by
  have ne:∀{l:Nat}{ts:List D},(m.set i (.val d))[l]?=some (.own ts)->i≠l:=λ{l ts} h e=>by
   subst e
   have hi:i<m.length:=by
    have:=(aG.mp h).1;simpa using this
   rw[bV hi]at h;cases h
  have e1:=ne h1;have e2:=ne h2;rw[bU e1]at h1 h3;rw[bU e2]at h2 h4;exact o.dis j k ts us p h1 h2 h3 h4
 dc:=o.dc.setS λ_ _ z=>nomatch z
def Ok.setOwn(o:Ok K B G H ps m C){i:Nat}{ts:List D}{xs:List V}{p:Addr}(A:H p=none)(r:Reps K (mask H ps) ts xs):Ok K B G (fG H p (.lst xs)) (p::ps) (m.set i (.own ts)) (C.set i (some (.ref p))):=by
 have L:mask (fG H p (.lst xs)) (p::ps)=mask H ps:=nN A;have w:p∉ps:=jF o.live A
 have N:∀{l:Nat}{x:List D},i≠l->m[l]?=some (.own x)->C[l]?≠some (some (.ref p)):=λ{l x} _ h z=>by
  obtain⟨q,_,c,f,_⟩:=o.own l x h;rw[z]at c;cases c;exact w f
 refine⟨o.base.trans (dM A),λq M=>aJ _ (o.sub q M),λq M=>?_,by simpa using o.len,λj d h=>?_,λj x h=>?_,λj k x Q q c f g n=>?_,?_⟩
 ·by_cases e:q=p
  ·subst e;rw[cD];exact .lst
  ·rw[cC e];rcases aR.mp M with z | z
   ·exact b9 z e
   ·exact o.live q z
 ·rw[L];by_cases e:i=j
  ·subst e;have t:i<m.length:=by simpa using(aG.mp h).1
   rw[bV t]at h;cases h
  ·rw[bU e]at h |-
   exact o.val j d h
 ·rw[L];by_cases e:i=j
  ·subst e;have t:i<m.length:=by simpa using(aG.mp h).1
   rw[bV t]at h;cases h;refine⟨p,xs,by rw[bV (by rw[<- o.len];exact t)],aO ..,?_,λz=>w (o.sub p z),cD,r⟩
   cases q:B p with
   |none=>rfl
   |some u=>rw[o.base p u q]at A;cases A
  ·rw[bU e]at h |-
   obtain⟨q,R,c,f,g,n,O,P⟩:=o.own j x h;refine⟨q,R,c,aJ _ f,g,n,?_,P⟩;rw[cC (λz:q=p=>w (z▸f))];exact O
 ·by_cases F:i=j
  ·by_cases y:i=k
   ·exact F.symm.trans y
   ·subst F;have t:i<m.length:=by simpa using(aG.mp c).1
    rw[bV (by rw[<- o.len];exact t)]at g;cases g;rw[bU y]at f n;exact b9 n (N y f)
  ·by_cases y:i=k
   ·subst y;have t:i<m.length:=by simpa using(aG.mp f).1
    rw[bV (by rw[<- o.len];exact t)]at n;cases n;rw[bU F]at c g;exact b9 g (N F c)
   ·rw[bU F]at c g;rw[bU y]at f n;exact o.dis j k x Q q c f g n
 ·exact(o.dc.setS (i:=i) (s:=.own ts) (v:=some (.ref p)) λ_ _ z=>nomatch z).to (λj T kvs h=>⟨h,kA⟩) (λq S a b _=>⟨aJ _ a,cC λz=>by rw[z,A]at b;cases b⟩) (λq S _ _ a b=>⟨a,b⟩) (by rw[L];exact L2.bB.refl _)
def Ok.write(o:Ok K B G H ps m C){i:Nat}{p:Addr}(w:m[i]?=some (.own ts))(f:C[i]?=some (some (.ref p)))(r:Reps K (mask H ps) us ys) :
  Ok K B G (fG H p (.lst ys)) ps (m.set i (.own us)) C:=by
 obtain⟨q,Y,M,N,O,P,Q,W⟩:=o.own i ts w;rw[f]at M;cases M;have x:mask (fG H p (.lst ys)) ps=mask H ps:=gZ N;have t:i<m.length:=(aG.mp w).1;refine⟨λb u e=>?_,o.sub,λq R=>?_,by simpa using o.len,λj d h=>?_,λj F h=>?_,λj k vs F q n v y A=>?_,?_⟩
 ·have ne:b≠p:=λz=>by rw[z,O]at e;cases e
  rw[cC ne];exact o.base b u e
 ·by_cases e:q=p
  ·subst e;rw[cD];exact .lst
  ·rw[cC e];exact o.live q R
 ·rw[x];by_cases e:i=j
  ·subst e;rw[bV t]at h;cases h
  ·rw[bU e]at h;exact o.val j d h
 ·rw[x];by_cases e:i=j
  ·subst e;rw[bV t]at h;cases h;exact⟨p,ys,f,N,O,P,cD,r⟩
  ·rw[bU e]at h;obtain⟨q,vs,n,v,y,A,S,T⟩:=o.own j F h;refine⟨q,vs,n,v,y,A,?_,T⟩;rw[cC (λz:q=p=>e (o.dis i j ts F p w h f (z▸n)))];exact S
 ·have c:∀{l:Nat}{vs:List D},(m.set i (.own us))[l]?=some (.own vs)->∃g,m[l]?=some (.own g):=λ{l vs} h=>by
   by_cases e:i=l
   ·subst e;exact⟨ts,w⟩
   ·rw[bU e]at h;exact⟨vs,h⟩
  obtain⟨g,n⟩:=c n;obtain⟨L,v⟩:=c v;exact o.dis j k g L q n v y A
 ·exact(o.dc.setT (i:=i) (s:=.own us) λ_ _ z=>nomatch z).to (λj X kvs h=>⟨h,kA⟩) (λq U a b _=>⟨a,cC λz=>by rw[z,Q]at b;cases b⟩) (λq U _ _ a b=>⟨a,b⟩) (by rw[x];exact L2.bB.refl _)
def Ok.shareP(o:Ok K B G H ps m C){i:Nat}(x:m[i]?=some (.own ts)):∃(p:Addr)(L:List V),H p=some (.lst L)/\p∉G/\Ok K B G H (ps.filter λq=>decide (q≠p)) (m.set i (.val (.list ts))) C/\bB (mask H ps) (mask H (ps.filter λq=>decide (q≠p))):=by
 obtain⟨p,L,M,U,W,N,w,O⟩:=o.own i ts x;have g:i<m.length:=(aG.mp x).1;have c:bB (mask H ps) (mask H (ps.filter λq=>decide (q≠p))):=jI λq n=>(cW.mp n).1;have y:p∉ps.filter λq=>decide (q≠p):=λz=>(b8 (cW.mp z).2) kA;refine⟨p,L,w,N,⟨o.base,λq n=>cW.mpr ⟨o.sub q n,b0 λz=>N (z▸n)⟩,λq n=>o.live q (cW.mp n).1,by simpa using o.len,λj d h=>?_,λj u h=>?_,λj k u R q r t A F=>?_,?_⟩,c⟩
 ·by_cases e:i=j
  ·subst e;rw[bV g]at h;cases h;exact⟨_,M,.list (mK.of (mU y w)) (O.same c)⟩
  ·rw[bU e]at h;obtain⟨v,r,t⟩:=o.val j d h;exact⟨v,r,t.same c⟩
 ·by_cases e:i=j
  ·subst e;rw[bV g]at h;cases h
  ·rw[bU e]at h;obtain⟨q,S,r,t,A,F,P,Q⟩:=o.own j u h;exact⟨q,S,r,cW.mpr ⟨t,b0 λz=>e (o.dis i j ts u p x h M (z▸r))⟩,A,F,P,Q.same c⟩
 ·have f:∀{l:Nat}{vs:List D},(m.set i (.val (.list ts)))[l]?=some (.own vs)->m[l]?=some (.own vs):=λ{l vs} h=>by
   by_cases e:i=l
   ·subst e;rw[bV g]at h;cases h
   ·rw[bU e]at h;exact h
  exact o.dis j k u R q (f r) (f t) A F
 ·exact(o.dc.setT (i:=i) (s:=.val (.list ts)) λ_ _ z=>nomatch z).to (λj X kvs h=>⟨h,kA⟩) (λq T a b _=>⟨cW.mpr ⟨a,b0 λz=>by rw[z,w]at b;cases b⟩,kA⟩) (λq T _ _ a b=>⟨a,b⟩) c
def Ok.share(o:Ok K B G H ps m C){i:Nat}(b:m[i]?=some (.own ts)):∃a,Ok K B G H a (m.set i (.val (.list ts))) C/\bB (mask H ps) (mask H a):=by
 obtain⟨_,_,_,_,h⟩:=o.shareP b;exact⟨_,h⟩
abbrev ET:=List Sl->(D->Prop)->Prop
abbrev wF:=List Sl->(Bool->Prop)->Prop
abbrev AT:=List Sl->(List D->Prop)->Prop
def gR(X:Cx)(e:Expr)(t:ET):Prop:=∃b:TE,PE X e b/\∀B G H ps m C (Q:D->Prop)(a:VK),Ok X.K B G H ps m C->t m Q ->
 (∀d v E,bB H E->gO X.K (mask E ps) d v->Q d->a v E)->b C H a
def J1(X:Cx)(e:Expr)(t:wF):Prop:=∃c:TT,PT X e c/\∀B G H ps m C (Q:Bool->Prop)(a:Bool->Hp->Prop),Ok X.K B G H ps m C->t m Q ->
 (∀b E,bB H E->Q b->a b E)->c C H a
def wq(X:Cx)(e:Expr)(t:wF):Prop:=∃c:TT,PW X e c/\∀B G H ps m C (Q:Bool->Prop)(a:Bool->Hp->Prop),Ok X.K B G H ps m C->t m Q ->
 (∀b E,bB H E->Q b->a b E)->c C H a
def vW(X:Cx)(d:List Expr)(t:AT):Prop:=∃c:TA,PA X d c/\∀B G H ps m C (Q:List D->Prop)(a:List V->Hp->Prop),Ok X.K B G H ps m C->t m Q ->
 (∀b vs E,bB H E->Reps X.K (mask E ps) b vs->Q b->a vs E)->c C H a
set_option genInjectivity false in
structure wH where
 nx:List Sl->Prop
 rt:D->Prop
 bk:List Sl->Prop:=λ_=>False
 ct:List Sl->Prop:=λ_=>False
 ro:List D->Prop:=λ_=>False
 rp:List D->List D->Prop:=λ_ _=>False
 rq:D->List D->Prop:=λ_ _=>False
 xB:Hp->Prop:=λ_=>True
abbrev wG:=wH->List Sl->Prop
structure J4(K:aI)(B:Hp)(G:List Addr)(H:Hp)(ps:List Addr)(DT:wH)(DV:E3):Prop where
 nx:∀E v0 n9 t6,Ok K B G E v0 n9 t6->bB (mask H ps) (mask E v0)->DT.nx n9->DV.nx t6 E
 bk:∀E v0 n9 t6,Ok K B G E v0 n9 t6->bB (mask H ps) (mask E v0)->DT.bk n9->DV.bk t6 E
 ct:∀E v0 n9 t6,Ok K B G E v0 n9 t6->bB (mask H ps) (mask E v0)->DT.ct n9->DV.ct t6 E
 rt:∀d v E,bB B E->gO K (mask E G) d v->DT.rt d->DV.rt v E
 ro:∀ts p xs E,bB B E->B p=none->p∉G->E p=some (.lst xs)->Reps K (mask E (p::G)) ts xs->DT.ro ts->DV.rt (.ref p) E
 rp:∀as bs r p q xs ys E,bB B E->B r=none->B p=none->B q=none->p≠q->E r=some (.tup [.ref p,.ref q])->E p=some (.lst xs)->E q=some (.lst ys)->Reps K (mask E (p::q::G)) as xs->Reps K (mask E (p::q::G)) bs ys->DT.rp as bs->DV.rt (.ref r) E
 rq:∀a ts r p x xs E,bB B E->B r=none->B p=none->E r=some (.tup [x,.ref p])->E p=some (.lst xs)->gO K (mask E (p::G)) a x->Reps K (mask E (p::G)) ts xs->DT.rq a ts->DV.rt (.ref r) E
 xb:DT.xB B
def J4.later(f:J4 K B G H ps DT DV)(e:bB (mask H ps) (mask E v0)):J4 K B G E v0 DT DV:=
 ⟨λ_ _ _ _ o s q=>f.nx _ _ _ _ o (e.trans s) q,λ_ _ _ _ o s q=>f.bk _ _ _ _ o (e.trans s) q,λ_ _ _ _ o s q=>f.ct _ _ _ _ o (e.trans s) q,f.rt,f.ro,f.rp,f.rq,f.xb⟩
def BN(X:Cx)(st:Stmt)(t:wG):Prop:=∃c:TS,PS X st c/\∀B G H ps m C (a:wH)(b:E3),Ok X.K B G H ps m C->t a m->J4 X.K B G H ps a b->c b C H
def vU(X:Cx)(st:List Stmt)(t:wG):Prop:=∃c:TS,FP X st c/\∀B G H ps m C (a:wH)(b:E3),Ok X.K B G H ps m C->t a m->J4 X.K B G H ps a b->c b C H
def zD(X:Cx)(r:R2)(f:D->D->(D->Prop)->Prop):Prop:=∀H ps(a b:D)(x y:V)(Q:D->Prop)QV,(∀p∈ps,AJ (H p))->gO X.K (mask H ps) a x->gO X.K (mask H ps) b y->f a b Q ->
 (∀d v E,bB H E->gO X.K (mask E ps) d v->Q d->QV v E)->r x y H QV
def pW(X:Cx)(r:List V->Hp->VK->Prop)(f:List D->(D->Prop)->Prop):Prop:=∀H ps(a:List D)(b:List V)(Q:D->Prop)QV,(∀p∈ps,AJ (H p))->Reps X.K (mask H ps) a b->f a Q ->
 (∀d v E,bB H E->gO X.K (mask E ps) d v->Q d->QV v E)->r b H QV
section
variable{X:Cx}{a b e:Expr}{L:List Expr}{l s P:ET}{pos:Pos}
inductive aFw(C:List Sl)(i:Nat)(Q:D->Prop):Prop
|mk (d:D) (h:C[i]?=some (.val d)) (k:Q d):aFw C i Q
def Ho(i:Nat):ET:=λC Q=>aFw C i Q
def eC(d:D):ET:=λ_ Q=>Q d
def aF(i:Nat){x:Str}{pos}(g:autoParam (X.N[i]?=some x) zzz._auto_1)(j:autoParam (yg X.env.scope x) zzn._auto_1)(hd:autoParam ((x==("__debug__":Str))=false) zzy._auto_1)
  (c:autoParam ((x==("__classdict__":Str))=false) zzy._auto_1):gR X (.Name x pos) (Ho i):=
 ⟨_,WC g j hd c,λB G H ps m C Q n o h k=>by
  obtain⟨d,e,q⟩:=h;obtain⟨v,f,r⟩:=o.val i d e;exact⟨v,f,k d v H (L2.bB.refl H) r q⟩⟩
def aP{pos}:gR X (.Constant (.int i) j pos) (eC (.int i)):=⟨_,nL,λ_ _ H _ _ _ _ _ _ h k=>k _ _ H (L2.bB.refl H) (.int i) h⟩
def EB{b pos}:gR X (.Constant (.bool b) j pos) (eC (.bool b)):=⟨_,Mn,λ_ _ H _ _ _ _ _ _ h k=>k _ _ H (L2.bB.refl H) (.bool b) h⟩
def oB{pos}:gR X (.Constant .none j pos) (eC .none):=⟨_,Uf,λ_ _ H _ _ _ _ _ _ h k=>k _ _ H (L2.bB.refl H) .none h⟩
def cN{pos}:gR X (.Constant (.str x) j pos) (eC (.str x)):=⟨_,Uh,λ_ _ H _ _ _ _ _ _ h k=>k _ _ H (L2.bB.refl H) (.str x) h⟩
def JK{x:Str}{i:Int}{pos}(c:Gl X x)(d:X.mg x=some (.int i t))(hd:autoParam ((x==("__debug__":Str))=false) zzy._auto_1):gR X (.Name x pos) (eC (.int i)):=⟨_,IC (v:=.int i) c d ⟨t,kA⟩ hd,λ_ _ H _ _ _ _ _ _ h k=>k _ _ H (L2.bB.refl H) (.int i) h⟩
def JJ{x:Str}{z:Str}{pos}(c:Gl X x)(d:X.mg x=some (.str z t))(hd:autoParam ((x==("__debug__":Str))=false) zzy._auto_1):gR X (.Name x pos) (eC (.str z)):=⟨_,IC (v:=.str z) c d ⟨t,kA⟩ hd,λ_ _ H _ _ _ _ _ _ h k=>k _ _ H (L2.bB.refl H) (.str z) h⟩
def wz(f:D->D->(D->Prop)->Prop)(l s:ET):ET:=λC Q=>l C λx=>s C λy=>f x y Q
def B4{f:D->D->(D->Prop)->Prop}(t:zD X r f){j n:TE}
  (u:∀B G H ps m C (Q:D->Prop)(c:VK),Ok X.K B G H ps m C->l m Q->(∀d v E,bB H E->gO X.K (mask E ps) d v->Q d->c v E)->j C H c)
  (w:∀B G H ps m C (Q:D->Prop)(c:VK),Ok X.K B G H ps m C->s m Q->(∀d v E,bB H E->gO X.K (mask E ps) d v->Q d->c v E)->n C H c)
  (B:Hp) (G:List Addr) (H:Hp) (ps:List Addr) (m:List Sl) (C:L2.St) (Q:D->Prop) (c:VK) (o:Ok X.K B G H ps m C) (h:wz f l s m Q) (k:∀d v E,bB H E->gO X.K (mask E ps) d v->Q d->c v E):wm r j n C H c:=by
 refine u B G H ps m C _ _ o h λp x I g M q1=>?_;refine w B G I ps m C _ _ (o.grow g) q1 λq y J i N A=>?_;exact t J ps p q x y Q c ((o.grow g).grow i).live (M.same (bR i)) N A λd v E O F z=>k d v E (g.trans (i.trans O)) F z
def cE{f:D->D->(D->Prop)->Prop}(h:nW X (j1 op) r)(c:zD X r f)(d:gR X a l)(g:gR X b s):gR X (.BinOp a op b pos) (wz f l s):=by
 obtain⟨n,i,j⟩:=d;obtain⟨o,pb,k⟩:=g;exact⟨_,LI h i pb,B4 c j k⟩
def oC{f:D->D->(D->Prop)->Prop}(i:nW X (c8 op) r)(c:zD X r f)(d:gR X a l)(g:gR X b s)(h:autoParam (g7 op b=false) zzq._auto_1):gR X (.Compare a [op] [b] pos) (wz f l s):=by
 obtain⟨o,j,k⟩:=d;obtain⟨p,pb,n⟩:=g;exact⟨_,PX i j pb h,B4 c k n⟩
def bJ{f:D->D->(D->Prop)->Prop}(h:ZN X r)(c:zD X r f)(d:gR X a l)(g:gR X b s)(i:autoParam (CL b) zzp._auto_1):gR X (.Subscript a b pos) (wz f l s):=by
 obtain⟨o,j,k⟩:=d;obtain⟨p,pb,n⟩:=g;exact⟨_,sL h j pb i,B4 c k n⟩
def Hm(l:ET):ET:=λC Q=>l C λx=>match x with | .int i=>Q (.int (-i)) | _=>False
def JI(c:gR X a l):gR X (.UnaryOp .USub a pos) (Hm l):=by
 obtain⟨q,f,j⟩:=c;refine⟨_,Lq Vk f,λB G H ps m C Q p o h k=>j B G H ps m C _ _ o h λd x I n g q1=>?_⟩
 cases g with
 |int i=>exact⟨i,kA,k _ _ I n (.int _) q1⟩
 |_=>exact q1.elim
def vS:AT:=λ_ Q=>Q []
def pA(t:ET)(r:AT):AT:=λC Q=>t C λx=>r C λc=>Q (x::c)
def aH:vW X [] vS:=⟨_,qC,λ_ _ H _ _ _ _ _ _ h k=>k _ _ H (L2.bB.refl H) .nil h⟩
def aB{tr}(g:gR X e P)(i:vW X L tr)(j:autoParam (bY (e::L) X.env=(false,eval e X.env)::bY L X.env) zzz._auto_1):vW X (e::L) (pA P tr):=by
 obtain⟨z,n,u⟩:=g;obtain⟨A,p,v⟩:=i;refine⟨_,lE n p j,λB G H ps m C Q w o h k=>u B G H ps m C _ _ o h λd x I c r q1=>?_⟩;refine v B G I ps m C _ _ (o.grow c) q1 λy F J f t q=>?_;exact k _ _ J (c.trans f) (.cons (r.same (bR f)) t) q
def Hn(t:AT):ET:=λC Q=>t C λc=>c.length<=1000/\Q (.tuple c)
def Hl(t:AT):ET:=λC Q=>t C λc=>c.length<=1000/\Q (.list c)
def oG{ps:List Addr}{p:Addr}{c:List D}{f:List V}(live:∀q∈ps,AJ (H q))(d:H p=none)(r:Reps K (mask H ps) c f):gO K (mask (fG H p (.tup f)) ps) (.tuple c) (.ref p):=
 .tuple (oR.of (mU (jF live d) cD)) (r.same (bR (dM d)))
def uT{ps:List Addr}{p:Addr}{c:List D}{f:List V}(live:∀q∈ps,AJ (H q))(d:H p=none)(r:Reps K (mask H ps) c f):gO K (mask (fG H p (.lst f)) ps) (.list c) (.ref p):=
 .list (mK.of (mU (jF live d) cD)) (r.same (bR (dM d)))
def yC{n:Nat}(h:n<=1000):n<=bF:=iB (RV h)
def dZ(h:vW X L t):gR X (.Tuple L x1 pos) (Hn t):=by
 obtain⟨v,p,r⟩:=h;refine⟨_,NS p,λB G H ps m C Q g o h k=>r B G H ps m C _ _ o h λi j I f d q1=>⟨yC (by rw[<- d.length];exact q1.1),λq c=>?_⟩⟩;exact k _ _ _ (f.trans (dM c)) (oG (o.grow f).live c d) q1.2
def mJ(h:vW X L t):gR X (.List L pos) (Hl t):=by
 obtain⟨v,p,r⟩:=h;refine⟨_,NU p,λB G H ps m C Q g o h k=>r B G H ps m C _ _ o h λi j I f d q1=>⟨yC (by rw[<- d.length];exact q1.1),λq c=>?_⟩⟩;exact k _ _ _ (f.trans (dM c)) (uT (o.grow f).live c d) q1.2
def kG(f:List D->(D->Prop)->Prop)(t:AT):ET:=λC Q=>t C λc=>f c Q
abbrev kH:=List D->(D->Prop)->Prop
def jO(K:aI)(g:kH):Sp:=λvs H Q _=>∃(ps:List Addr)(f:List D)(c:D->Prop),(∀p∈ps,AJ (H p))/\Reps K (mask H ps) f vs/\g f c/\∀d v E,bB H E->gO K (mask E ps) d v->c d->Q v E
def Wb{k:Nat}{f:Addr}{pn}(F:mB X.prog X.w X.K X.mg X.base pK k f fd pn (jO X.K sp))(R:X.mg x=some (.ref f))(hk:gK X.K (.ref f)=true)(O:pX X.K fd pn [])
  (S:hW k X.A) (j:vW X (e::L) t) (q:∀{l},PA X (e::L) l->PE X (.Call (.Name x p) (e::L) [] pos) (F6 (jO X.K sp) [] E0 l)):gR X (.Call (.Name x p) (e::L) [] pos) (kG sp t):=by
 obtain⟨v,n,z⟩:=j;refine⟨_,q n,λB G H ps m C Q g o h k=>z B G H ps m C _ _ o h λi N I c y q1=>?_⟩;show jO X.K sp (N++[]) I g E0;rw[dH];exact⟨ps,i,Q,(o.grow c).live,y,q1,λd v E M u r=>k d v E (c.trans M) u r⟩
def MM(t:ET):wF:=λC Q=>t C λx=>match x with | .bool b=>Q b | _=>False
def Vh(h:gR X e P)(pt:∀{t},PE X e t->PT X e (tB t)):J1 X e (MM P):=by
 obtain⟨v,p,r⟩:=h;refine⟨_,pt p,λB G H ps m C Q i o h k=>r B G H ps m C _ _ o h λd x I g f q1=>?_⟩
 cases f with
 |bool c=>exact⟨c,kA,k c I g q1⟩
 |_=>exact q1.elim
def dE{f:D->D->(D->Prop)->Prop}(q:nW X (c8 op) r)(i:zD X r f)(j:gR X a l)(n:gR X b s)(p:autoParam (g7 op b=false) zzq._auto_1):J1 X (.Compare a [op] [b] pos) (MM (wz f l s)):=by
 obtain⟨M,t,y⟩:=j;obtain⟨N,u,z⟩:=n;refine⟨_,PP q t u p,λB G H ps m C Q F o h k=>?_⟩;refine B4 i y z B G H ps m C (λx=>match x with | .bool b=>Q b | _=>False) _ o h λd v E A w g=>?_
 cases w with
 |bool c=>exact⟨c,kA,k c E A g⟩
 |_=>exact g.elim
def Bh(t:wF):wF:=λC Q=>t C λb=>Q (!b)
def Gf(t u:wF):wF:=λC Q=>t C λb=>if b=true then u C Q else Q false
def F2(t u:wF):wF:=λC Q=>t C λb=>if b=true then Q true else u C Q
variable{M O:wF}{jN:List Expr}
def wL(h:J1 X a M):J1 X (.UnaryOp .Not a pos) (Bh M):=by
 obtain⟨v,p,r⟩:=h;exact⟨_,V3 p,λB G H ps m C Q f o h k=>r B G H ps m C _ _ o h λb E d c=>k _ E d c⟩
def xN(h:wq X e M):J1 X e M:=by
 obtain⟨v,p,r⟩:=h;exact⟨_,p.pt,r⟩
def HN(h:J1 X a M):wq X (.BoolOp .And [a] pos) M:=by
 obtain⟨v,p,r⟩:=h;exact⟨_,Zd p,r⟩
def zJ(h:J1 X a M):wq X (.BoolOp .Or [a] pos) M:=by
 obtain⟨v,p,r⟩:=h;exact⟨_,Vn p,r⟩
def NB(f:J1 X a M)(g:wq X (.BoolOp .And (b::jN) pos) O):wq X (.BoolOp .And (a::b::jN) pos) (Gf M O):=by
 obtain⟨u,i,p⟩:=f;obtain⟨v,j,q⟩:=g;refine⟨_,Vm i j,λB G H ps m C Q t o h k=>p B G H ps m C _ _ o h λc I d q1=>?_⟩
 cases c with
 |true=>exact q B G I ps m C Q _ (o.grow d) q1 λb E r n=>k b E (d.trans r) n
 |false=>exact k _ I d q1
def CS(f:J1 X a M)(g:wq X (.BoolOp .Or (b::jN) pos) O):wq X (.BoolOp .Or (a::b::jN) pos) (F2 M O):=by
 obtain⟨u,i,p⟩:=f;obtain⟨v,j,q⟩:=g;refine⟨_,Lr i j,λB G H ps m C Q t o h k=>p B G H ps m C _ _ o h λc I d q1=>?_⟩
 cases c with
 |true=>exact k _ I d q1
 |false=>exact q B G I ps m C Q _ (o.grow d) q1 λb E r n=>k b E (d.trans r) n
def Gj(l s:ET):ET:=λC Q=>l C λx=>match x with | .bool c=>if c=true then s C Q else Q (.bool false) | _=>False
def Fy(l s:ET):ET:=λC Q=>l C λx=>match x with | .bool c=>if c=true then Q (.bool true)else s C Q | _=>False
def AA(h:gR X a l):gR X (.BoolOp op [a] pos) l:=by
 obtain⟨v,p,r⟩:=h;exact⟨_,WF p,r⟩
def EE(g:gR X a l)(i:gR X (.BoolOp .And (b::jN) pos) s):gR X (.BoolOp .And (a::b::jN) pos) (Gj l s):=by
 obtain⟨z,j,t⟩:=g;obtain⟨A,n,u⟩:=i;refine⟨_,WL j n,λB G H ps m C Q y o h k=>t B G H ps m C _ _ o h λd x I f r q1=>?_⟩
 cases r with
 |bool c=>
  refine⟨c,kA,?_⟩
  cases c with
  |true=>exact u B G I ps m C Q _ (o.grow f) q1 λd v E w q p=>k d v E (f.trans w) q p
  |false=>exact k _ _ I f (.bool false) q1
 |_=>exact q1.elim
def Jh(g:gR X a l)(i:gR X (.BoolOp .Or (b::jN) pos) s):gR X (.BoolOp .Or (a::b::jN) pos) (Fy l s):=by
 obtain⟨z,j,t⟩:=g;obtain⟨A,n,u⟩:=i;refine⟨_,Lp j n,λB G H ps m C Q y o h k=>t B G H ps m C _ _ o h λd x I f r q1=>?_⟩
 cases r with
 |bool c=>
  refine⟨c,kA,?_⟩
  cases c with
  |false=>exact u B G I ps m C Q _ (o.grow f) q1 λd v E w q p=>k d v E (f.trans w) q p
  |true=>exact k _ _ I f (.bool true) q1
 |_=>exact q1.elim
def OL(f g:D->D->(D->Prop)->Prop)(l s d:ET):ET:=λC Q=>l C λx=>s C λy=>f x y λz=>match z with | .bool c=>if c=true then d C λw=>g y w Q else Q (.bool false) | _=>False
end
end TL
set_option maxHeartbeats 1000000
namespace L2
def OR{a b:Int}:∀(l:List Value),TriplesOk l->∀y,codeAmong p (l++[u5 a,u5 b,x])=some y->codeAmong p l=some y\/y=x:=by
 intro l h
 fun_induction TriplesOk l with
 |case1=>
  intro y e;have c:(if(a==p.line&&b==p.col)=true then some x else codeAmong p [])=some y:=e;split at c
  ·exact .inr (c5 c).symm
  ·cases c
 |case2 u t v w z r f=>
  intro y e;simp only[List.cons_append,codeAmong]at e |-
  split at e
  ·rename_i d;rw[a9 d];exact .inl e
  ·rename_i d;rw[a8 d];exact f h y e
 |case3=>exact h.elim
section
variable{X:Cx}{a:List (Addr×Obj)}{d:St}{H:Hp}{s:Shared}
structure Lam(X:Cx)(H:Hp)(h:Heap)(f c:Addr)(fd:hX):Prop where
 obj:h.get? f=some { cls:=.type "function",data:=.func fd }
 free:H f=none
 code:fd.code=.ref c
 trk:∃oc P,H c=some (.frz oc (.own P))/\ZP oc
 nfr:f∉L7 X.stack
def dJ.builtinsAt(I:dJ X a d H s){P:Addr}{qs}(e:s.heap.get? P=some { cls:=.none,data:=.fields qs }):s.heap.BuiltinsAt X.mg P/\gQ≠P:=by
 obtain⟨l,o,h,i,b,j,k,c⟩:=I.mod.bmod;have m:=I.mod.glob;obtain⟨q,p,n,f,g,_⟩:=m;refine⟨⟨l,o,h,i,λz=>?_,λz=>?_,I.bk _ _ b,j,k,c⟩,λz=>?_⟩
 ·rw[z,f]at b;cases b;rw[g]at c;cases c
 ·have:=I.bk _ _ b;rw[z,e]at this;cases this;cases c
 ·have:=I.bk _ _ f;rw[z,e]at this;cases this;cases g
def XY{g:Scope}{c P:Addr}{Q:Value->Shared->Prop}{E:Value->Shared->Prop}{name}{line:Nat}(I:dJ X a d H s)(hT:tabA=some P)(hc:X.env.code=.ref c)(C:ZR X.base c P)(Y:∀x∈g.names,x.2=.free->∃c,X.env.cells.lookup x.1=some c)
  (h:∀H'(s':Shared)(f j:Addr)(cl:List (Str×Addr))(pm i:Value),dJ X a d H' s'->(∀b u,H b=some u->H' b=some u)->Lam X H' s'.heap f j (PySem.W.kla_fn name qual params body g cl pm (.ref j) i)->(∀n c,cl.lookup n=some c->X.env.cells.lookup n=some c)->(∀n,(n,e4)∈g.names->∃c,cl.lookup n=some c)->Q (.ref f) s') :
  wpAny (model X.prog X.w) X.A (makeFunction name qual params (.expr body) g X.env [] [] [] pos line) Q E s:=by
 obtain⟨cl,M,K,L⟩:=wZ Y;obtain⟨ps,J⟩:=I.env0.tab P hT;obtain⟨qs,T,S,e3⟩:=I.hok P _ J;obtain⟨G,Z⟩:=I.builtinsAt T;have hg:=I.mod.glob.keeps I.bk;have C':=C.keeps I.bk
 have nofr:∀b,s.heap.objs.size<=b->b∉L7 X.stack:=λb G z=>by
  rcases aR.mp (I.stkSub b z)with y | y
  ·rw[y]at G;exact b9 I.lt (J9.mpr G)
  ·exact I.nofs G y
 cases hm:codeAmong pos qs.toList with
 |none=>
  refine PySem.W.kla_makeFunction (mg:=X.mg) M I.ok.glob hg hc C' T S hm Z G λj i m tk hx k B N R=>?_;obtain⟨c2,F,vs,t,q1,q2,q3,q4⟩:=N;cases q1;have q:H j=none:=I.hok.fresh k;have U:H m.objs.size=none:=I.hok.fresh (bE k (iB B));have cP:j≠P:=λz=>by rw[z,J]at q;cases q
  have kp:∀b o,b≠P->s.heap.get? b=some o->(m.push (BR name qual params body g cl ((X.mg "__name__").getD .none) j i)).get? b=some o:=λb o z e=>aE _ (hx b o z e);have nP:∀b,H b=none->b≠P:=λb e z=>by rw[z,J]at e;cases e
  have l:∀b u,H b=some u->fG H j (.frz F (.own P)) b=some u:=λb u e=>by rw[cC (gM e q)];exact e
  have un:Un X.fs [] H (fG H j (.frz F (.own P))) s.heap (m.push (BR name qual params body g cl ((X.mg "__name__").getD .none) j i)):=
   ⟨λb o e n _ _=>kp b o (nP b n) e,λb o e n _ _=>⟨o.slots,kp b o (nP b n) e⟩,λb o e n _=>by rw[cC (dD (cU (bG e) k))];exact n,λb o e _=>by
    by_cases z:b=P
    ·exact⟨_,by rw[z];exact aE _ R⟩
    ·exact⟨o,kp b o z e⟩,λb xs e=>l _ _ e,λb o u e=>l _ _ e,λb ps e=>⟨#[],by rw[l _ _ e];simp⟩⟩
  have hok:sO X.prog X.w (fG H j (.frz F (.own P))) (m.push (BR name qual params body g cl ((X.mg "__name__").getD .none) j i)):=λb u e=>by
   by_cases z:b=j
   ·subst z;rw[cD]at e;cases e;exact⟨aE _ q2,_,aE _ q2⟩
   ·rw[cC z]at e;by_cases z2:b=P
    ·subst z2;rw[J]at e;cases e;refine⟨_,aE _ R,?_,λp x hp=>?_⟩
     ·rw[RH];exact TriplesOk_snoc _ _ _ _ S
     ·rw[RH]at hp;rcases OR _ S _ hp with hp | hp
      ·obtain⟨c3,o3,r1,r2,r3⟩:=e3 p x hp;exact⟨c3,o3,r1,l _ _ r2,r3⟩
      ·exact⟨j,F,hp,cD,vs,_,t,q3,q4⟩
    ·refine(I.hok b u e).stay (λy v hy r=>kp y v ?_ r) (λy r=>l _ _ r) (λy xs r=>l _ _ r) λy o v r=>l _ _ r;rcases hy with rfl | hy
     ·exact z2
     ·intro z3;rw[z3,J]at hy;cases hy
  refine h _ _ m.objs.size j cl _ i (I.un (t':=tk) un hok) l ⟨aY _ kA,by rw[cC (jJ B)];exact U,kA,⟨F,P,cD,vs,_,t,q3,q4⟩,nofr _ (bE k (iB B))⟩ K L
 |some cv=>
  obtain⟨j,F,r1,r2,r3⟩:=e3 pos cv hm;subst r1;refine PySem.W.kla_makeFunctionHit (mg:=X.mg) M I.ok.glob hg hc C' T S hm G λi m tk hx O=>?_;exact h H _ m.objs.size j cl _ i (I.kept (t':=tk) λb o e=>aE _ (hx b o e)) (λ_ _ e=>e) ⟨aY _ kA,I.hok.fresh O,kA,⟨F,P,r2,r3⟩,nofr _ O⟩ K L
end
def TY{A:d8}{R:Result->Shared->Prop}{s:Shared}{f c:Addr}{a:hX}{binds:List (Str×Value)}(i:A.depth<aa)(l:s.heap.NoLimit)
  (I:s.heap.get? f=some { cls:=.type "function",data:=.func a }) (u:a.scope.isCoroutine=false) (k:a.scope.isGenerator=false) (H:a.body=.expr body) (F:a.code=.ref c) (E:s.heap.get? c=some oc) (G:ZP oc)
  (d:bindArgs a args=pure binds) (g:∀x∈a.scope.names,x.2≠.cell) (n:∀x∈binds,a.scope.names.lookup x.1=some .local) (hk:a.scope.kind=.function) (z:a.globals=gQ) (p:a.builtins=m9)
  (h:∀(q:Str)(j:Heap),j.Ns s.heap.objs.size (λy=>binds.reverse.lookup y)->(∀b o,s.heap.get? b=some o->j.get? b=some o) ->
   wpAny (model prog w) (A.deeper (sI q a.scope s.heap.objs.size f a.code a.closure)) (eval body (sI q a.scope s.heap.objs.size f a.code a.closure)) (λv K=>R (.ok (.ret v)) K) (λ_ _=>False) { s with heap:=j,toks:=s.toks+binds.length }) :
  u6 (model prog w) A (.call (.ref f) args) R s:=by
 obtain⟨vs,q,t,hd,J⟩:=G;refine codeAny_of_tree ?_;show wpAny _ A.in1 (callAny (.ref f) args) _ _ s;simp only[callAny];refine aK (wpAny_load I ?_);simp only[callFunction,u,k,H,F];refine aK (m:=dq (.ref c) 1) (f9 E hd J (aK (bC ?_)));rw[d,z,p];refine aK (bC (aK (wpAny_newFunctionEnv g n (λj B C=>?_) hk)));have kp:∀b o,s.heap.get? b=some o->j.get? b=some o:=λb o e=>C.extBut b o (dD (bG e)) (aE _ e);refine aK (wpAny_enterFrame (l.keeps kp) i (bC ⟨kA,?_⟩));have:=h q j B kp;rw[F]at this;exact PySem.W.kla_codeExpr (hU this (λ_ _ r=>r) λ_ _ r=>r.elim)
noncomputable abbrev yD:Scope:={ kind:=.function,names:=[(c7 "entry",.local),(c7 "bottom",.free)],isGenerator:=false,isCoroutine:=false,more:=[] }
noncomputable def LZ(X:Cx)(A':d8)(q:Str)(f:Addr)(cd:Value)(cl:List (Str×Addr))(s:Shared)(H:Hp):Cx where
 prog:=X.prog
 w:=X.w
 K:=X.K
 mg:=X.mg
 base:=X.base
 A:=A'.deeper (sI q yD s.heap.objs.size f cd cl)
 N:=["entry","bottom"]
 s₀:=s
 H₀:=H
 env:=sI q yD s.heap.objs.size f cd cl
 outer:=X.stack
 stack:=sI q yD s.heap.objs.size f cd cl::X.stack
 ex:=[]
 fn:=λ_=>false
 calm:=true
 pn:=[]
 xe:=λ_ _=>False
def Wo{X:Cx}{A':d8}{q:Str}{f w:Addr}{cd}{cl:List (Str×Addr)}{s:Shared}{m:Heap}{tk:Nat}{b:Int}(I:dJ X pins σ H s)(G:A'.frames=some X.stack)(F:A'.handled=none)
  (g:∀n c,cl.lookup n=some c->X.env.cells.lookup n=some c) (A:cl.lookup ("bottom":Str)=some w) (j:s.heap.IsCell w (some (.int b t))) (r:fS x u)
  (C:m.Ns s.heap.objs.size (λy=>[((c7 "entry":Str),u)].reverse.lookup y)) (kp:∀b o,s.heap.get? b=some o->m.get? b=some o) :
  dJ (LZ X A' q f cd cl s H) [] [some x,some (.int b)] H { s with heap:=m,toks:=tk }:=by
 have d:=I.env0;have l:∀b:Addr,b∉(LZ X A' q f cd cl s H).ex:=λb z=>b9 (show b∈([]:List Addr)from z) hH
 have L:∀y:Str,yD.names.lookup y=some .cell\/yD.names.lookup y=some .free->y="bottom":=λy k=>by
  have e:yD.names.lookup y=if y==(c7 "entry")then some .local else if y==(c7 "bottom")then some .free else none:=by
   show jW y [(c7 "entry",NameKind.local),(c7 "bottom",e4)]=_;rw[dR,dR];cases (y==c7 "entry")<;>cases (y==c7 "bottom")<;>rfl
  rw[e]at k;split at k
  ·rcases k with z | z<;>cases z
  ·split at k
   ·rename_i z;exact ah z
   ·rcases k with z | z<;>cases z
 obtain⟨M,J,B⟩:=j;have h:m.IsCell w (some (.int b t)):=⟨M,kp _ _ J,B⟩
 refine⟨⟨d.mod,kA,kA,kA,aN _,λy z c a a2=>I.ok.inj y z c (g y c a) (g z c a2),λy k=>?_,λy c z=>(nomatch (show false=true from z)),λ_=>F,cy G,.inr ⟨kA,kA⟩,λb z=>b9 z (l b),d.bs,d.bsz,λb _ _=>l b,λb z=>b9 z (l b),d.funs,d.frf,d.tab⟩,
  rfl,d.bare,Un.kept kp,⟨_,C,λi y v a a2 N=>?_⟩,λy c a=>?_,d.hok.fresh (aN _),λy c a=>I.freeC y c (g y c a),λp K=>b9 (show p∈([]:List (Addr×Obj))from K) hH,d.hok.kept kp,kA⟩
 ·have:=L y k;rw[this];exact⟨w,A⟩
 ·match i,a,a2 with
  |0,a,a2=>
   cases a;cases a2;exact⟨u,r,.inl ⟨kA,kA⟩⟩
  |1,a,a2=>
   cases a;cases a2;exact⟨.int b t,⟨t,kA⟩,.inr ⟨.inr kA,w,A,h⟩⟩
  |i+2,a,a2=>cases a
 ·obtain⟨v,o,m,E⟩:=I.cell y c (g y c a);exact⟨v,o,kp _ _ m,E⟩
def Un.butA{fs}{h c g:Heap}{a:Addr}(u:Un fs ex H H1 h c)(f:fV a c g)(i:h.objs.size<=a):Un fs ex H H1 h g:=by
 have ne:∀b o,h.get? b=some o->b≠a:=λb o e=>dD (cU (bG e) i);refine⟨λb o e n c d=>(f.2 b (ne b o e)).trans (u.keep b o e n c d),λb o e n c d=>?_,u.free,λb o e d=>?_,u.tups,u.frzs,u.tbls⟩
 ·obtain⟨k,z⟩:=u.slot b o e n c d;exact⟨k,(f.2 b (ne b o e)).trans z⟩
 ·obtain⟨j,z⟩:=u.there b o e d;exact⟨j,(f.2 b (ne b o e)).trans z⟩
def Un.new{fs}{h h1:Heap}{a:Addr}(u:Un fs ex H H1 h h1)(hn:H1 a=none)(ha:h.objs.size<=a):Un fs ex H (fG H1 a o) h h1 where
 keep:=u.keep
 slot:=u.slot
 free:=λb ob e n hx=>by rw[cC (dD (cU (bG e) ha))];exact u.free b ob e n hx
 there:=u.there
 tups:=λb xs e=>by have z:=u.tups b xs e;rw[cC (gM z hn)];exact z
 frzs:=λb ob v e=>by have z:=u.frzs b ob v e;rw[cC (gM z hn)];exact z
 tbls:=λb ps e=>by
  obtain⟨m,z⟩:=u.tbls b ps e;exact⟨m,by rw[cC (gM z hn)];exact z⟩
theorem sO.new{h}{a:Addr}(x:sO P w H h)(f:H a=none)(new:jG P w (fG H a o) h a o):sO P w (fG H a o) h:=λb u e=>by
 by_cases d:b=a
 ·subst d;rw[cD]at e;cases e;exact new
 ·rw[cC d]at e;have st:∀c v,H c=some v->fG H a o c=some v:=λc v q=>by rw[cC (gM q f)];exact q
  exact(x b u e).stay (λc v _ q=>q) (λc q=>st _ _ q) (λc g q=>st _ _ q) λc ob v q=>st _ _ q
noncomputable abbrev Cy(p:Pos):Arguments:={ posonlyargs:=[],args:=[{ arg:="entry",annotation:=none,pos:=p }],vararg:=none,kwonlyargs:=[],kw_defaults:=[],kwarg:=none,defaults:=[] }
def FQ(K:aI)(H:Hp)(b:Int)(x:V)(k:Int):Prop:=∃(q:Addr)(a c:V)(d:Addr)(top bot:Int),x=.ref q/\oR K H q [a,c,.ref d]/\oR K H d [.int top,.int bot]/\yz b bot/\O0 top (b / bot)/\k=top*(b / bot)
def FQ.same{K}{H a:Hp}{b:Int}{k:Int}(h:FQ K H b x k)(s:∀c u,H c=some u->a c=some u):FQ K a b x k:=by
 obtain⟨q,j,l,d,top,bot,e,f,g,i⟩:=h;exact⟨q,j,l,d,top,bot,e,TL.bB.seqT s f,TL.bB.seqT s g,i⟩
section
variable{p1 a g l n B E F G q1 M O R:Pos}
def Ue{X:Cx}{q:Str}{f:Addr}{cd}{pins:List (Addr×Obj)}{b k:Int}(I:dJ (LZ X A' q f cd cl s H) [] [some x,some (.int b)] H s1)(h:FQ X.K H b x k) :
  wpAny (model X.prog X.w) (LZ X A' q f cd cl s H).A (eval (.BinOp (.Subscript (.Subscript (.Name "entry" p1) (.Constant (.int 2) 0 a) g) (.Constant (.int 0) 0 l) n) .Mult (.BinOp (.Name "bottom" B) .FloorDiv (.Subscript (.Subscript (.Name "entry" E) (.Constant (.int 2) 0 F) G) (.Constant (.int 1) 0 q1) M) O) R) (LZ X A' q f cd cl s H).env)
   (EP (LZ X A' q f cd cl s H) [] [some x,some (.int b)] λv j=>v=.int k/\j=H) (λ_ _=>False) s1:=by
 have p:PE (LZ X A' q f cd cl s H) (.BinOp (.Subscript (.Subscript (.Name "entry" p1) (.Constant (.int 2) 0 a) g) (.Constant (.int 0) 0 l) n) .Mult (.BinOp (.Name "bottom" B) .FloorDiv (.Subscript (.Subscript (.Name "entry" E) (.Constant (.int 2) 0 F) G) (.Constant (.int 1) 0 q1) M) O) R) _:=
  LI WM (sL aW (sL aW (pv 0) nL (by intro _ _;rfl)) nL (by intro _ _;rfl)) (LI xX (pv 1) (sL aW (sL aW (pv 0) nL (by intro _ _;rfl)) nL (by intro _ _;rfl)))
 obtain⟨i,r,t,d,top,bot,rfl,c,e,m,o,rfl⟩:=h;refine p [] s1 _ H _ I ?_;refine⟨_,kA,.inr (.inl ⟨i,_,2,.ref d,kA,kA,c,kA,.inr (.inl ⟨d,_,0,.int top,kA,kA,e,kA,?_⟩)⟩)⟩;refine⟨_,kA,_,kA,.inr (.inl ⟨i,_,2,.ref d,kA,kA,c,kA,.inr (.inl ⟨d,_,1,.int bot,kA,kA,e,kA,?_⟩)⟩)⟩;exact⟨b,bot,kA,kA,m,top,b / bot,kA,kA,o,kA,kA⟩
def Vc(K:aI)(ib:Nat)(m:TA):TE:=λj H Q=>m j H λvs e=>∃(p:Addr)(d:List V)(b:Int)(h:List Int),vs=[.ref p]/\mK K e p d/\d.length<64/\j[ib]?=some (some (.int b))/\h.length=d.length/\(∀(i:Nat) x k,d[i]?=some x->h[i]?=some k->FQ K e b x k) /\
 ∀f,(∀c u,e c=some u->f c=some u)->∀(J:List Nat) r,SS.KN d.length (λi=>h.getD i 0) J->f r=none->Q (.ref r) (fG f r (.lst (J.map λi=>d.getD i .non)))
def WD{X:Cx}{ib:Nat}{k:Nat}{c P:Addr}(hr:hW (k+3) X.A)(hT:tabA=some P)(hc:X.env.code=.ref c)(C:AK X.K c P=true)(qf:X.N[ib]?=some "bottom")(hk:X.env.kindOf "bottom"=some .cell)
  (hg:Gl X "sorted") (hm:X.mg "sorted"=none) (hv:d7 "sorted"=some (.builtin "sorted")) (ha:PA X [e] ta)
  (he:autoParam (j2 pos (bY [e] X.env)=(false,eval e X.env)::j2 pos (bY [] X.env)) zzz._auto_1)
  (jw:autoParam ((j2 pos (bY [e] X.env)).any (·.1)=false) zzz._auto_1) :
  PE X (.Call (.Name "sorted" np) [e] [⟨some (c7 "key"),.Lambda (Cy ap) (.BinOp (.Subscript (.Subscript (.Name "entry" p1) (.Constant (.int 2) 0 a) g) (.Constant (.int 0) 0 l) n) .Mult (.BinOp (.Name "bottom" B) .FloorDiv (.Subscript (.Subscript (.Name "entry" E) (.Constant (.int 2) 0 F) G) (.Constant (.int 1) 0 q1) M) O) R) yD lp,kp⟩] pos) (Vc X.K ib ta):=by
 intro pins s σ H Q I h;refine n7 (rX I hg hm hv ?_ gV gV);refine callWith_kw (iW (ha pos pins s σ H _ I h) λus s1 zq=>?_) he jw;obtain⟨vs,H1,I1,r1,q1⟩:=zq;obtain⟨p,Z,b,kz,rfl,hS,kf,tw,qp,gn,q⟩:=q1;obtain⟨u,rfl,ru⟩:=nI r1;cases ru
 have U:∀x∈yD.names,x.2=.free->∃c,X.env.cells.lookup x.1=some c:=λx hx hf=>by
  have ll:x=(c7 "entry",NameKind.local)\/x=(c7 "bottom",e4):=by simpa using hx
  rcases ll with rfl | rfl
  ·cases hf
  ·exact I.ok.has "bottom" (.inl hk)
 refine kws_cons (PySem.W.kla_eval kA (XY I1 hT hc (PySem.W.codeHd_of_K I.mod.kin C) U λY s2 f c' cl pm um r sH L mj ot=>kws_nil ?_));obtain⟨cb,jk⟩:=ot "bottom" (aJ _ (aO ..));have om:mK X.K Y p Z:=L2.bB.seq sH hS;obtain⟨w5,rv,jw,hz⟩:=r.list om;have d:=rv.length;have hA:=r.ok.frames;have S:hW (k+1) X.A.in1.in1:=(hW.in1 (k:=k+2) hr).in1
 have nofr:∀b,s2.heap.objs.size<=b->b∉L7 X.stack:=λb hb z=>by
  rcases aR.mp (r.stkSub b z)with y | y
  ·rw[y]at hb;exact b9 r.lt (J9.mpr hb)
  ·exact r.nofs hb y
 let Tp:Shared->Prop:=λs'=>s'.os=s2.os/\v4 s'.gens/\Un (L7 X.stack) [] Y Y s2.heap s'.heap/\sO X.prog X.w Y s'.heap
 have ui:∀s',Tp s'->dJ X pins σ Y s':=λs' t=>r.call' (ch:=[]) t.1 t.2.2.1 t.2.2.2 t.2.1 (λb z=>b9 z hH)
 have T:SS.T8 Tp s2.heap.objs.size:=by
  refine⟨λs' x h' tk t hx hs=>⟨t.1,t.2.1,t.2.2.1.butA hs hx,t.2.2.2.but (r.hok.fresh hx) hs⟩,λs' o t=>⟨t.1,t.2.1,t.2.2.1.trans (Un.kept λb u e=>aE _ e),t.2.2.2.kept λb u e=>aE _ e⟩⟩
 have t0:Tp s2:=⟨kA,r.bare,Un.refl,r.hok⟩;have tz:f∉L7 X.stack:=L.nfr
 have turn:SS.mO X.prog X.w X.A.in1.in1 Tp s2.heap.objs.size f w5 kz:=λi v k0 s' hv qk t=>by
  have I':=ui s' t
  obtain⟨x,hx,rx⟩:∃x,Z[i]?=some x/\fS x v:=by
   have hi:i<Z.length:=by rw[d];exact(aG.mp hv).1
   obtain⟨u,h1,h2⟩:=rv.get (aD hi);rw[hv]at h1;cases h1;exact⟨_,aD hi,h2⟩
  have oa:=(gn i x k0 hx qk).same sH;obtain⟨m,hn,hl⟩:=I'.loc;obtain⟨ub,uf,lb⟩:=hl ib "bottom" (.int b) qf tw (.inr (.inl hk));obtain⟨tb,rfl⟩:=uf
  have cell:s'.heap.IsCell cb (some (.int b tb)):=by
   rcases lb with⟨z,_⟩ | ⟨_,c0,z1,z2⟩
   ·rw[hk]at z;cases z
   ·have:=mj _ _ jk;rw[this]at z1;cases z1;exact z2
  obtain⟨oc,P',w1,w2⟩:=L.trk;obtain⟨ud,_⟩:=I'.hok c' _ w1;refine ic (TY S.depth I'.nolimit (t.2.2.1.keep f _ L.obj L.free tz hH) kA kA kA kA ud w2 (binds:=[(c7 "entry",v)]) kA (λy hy=>?_) (λy hy=>?_) kA kA kA λqn h1 kt kp=>?_)
  ·have gq:y=(c7 "entry",NameKind.local)\/y=(c7 "bottom",e4):=by simpa using hy
   rcases gq with rfl | rfl<;>simp
  ·rw[bP.mp hy];rfl
  ·have J:=Wo (q:=qn) (f:=f) (cd:=.ref c') (tk:=s'.toks+1) (A':=X.A.in1.in1) I' hA S.hd mj jk cell rx kt kp;refine hU (Ue (pins:=pins) J oa) (λu s3 hu=>?_) λ_ _ z=>z;obtain⟨v3,H3,J3,r3,rfl,rfl⟩:=hu;obtain⟨t3,rfl⟩:=r3;exact⟨t3,kA,⟨J3.os.trans t.1,J3.bare,t.2.2.1.trans J3.base,J3.hok⟩,λb o hb e=>J3.base.keep b o e (r.hok.fresh hb) (nofr b hb) (by simp[LZ])⟩
 show wpAny (model X.prog X.w) X.A (call (.builtin "sorted") [.ref p] [(c7 "key",.ref f)]) _ _ s2;refine SS.RT T t0 jw.isList (aN _) (by rw[qp,d]) (by rw[<- d];exact kf) turn λs' D out cc J t hD ho sb ku=>?_;have kg:Y D=none:=r.hok.fresh hD;rw[<- d]at sb;have hL:(2:Nat)^24=bF:=rfl
 have vals:fQ (J.map λi=>Z.getD i .non) out.toList:=by
  rw[ku]
  have:∀J:List Nat,(∀i∈J,i<Z.length)->fQ (J.map λi=>Z.getD i .non) (J.map λi=>w5.getD i .none):=by
   intro J hJ
   induction J with
   |nil=>exact .nil
   |cons j J ih=>
    refine .cons ?_ (ih λi hi=>hJ i (aJ _ hi));have hj:=hJ j (aO ..);obtain⟨u,h1,h2⟩:=rv.get (aD hj);show fS (Z.getD j .non) (w5.getD j .none);rw[dL,dL,h1,aD hj];exact h2
  exact this J sb.lt
 refine⟨.ref D,_,r.call' (ch:=[]) (s':=s') (H':=fG Y D (.lst (J.map λi=>Z.getD i .non))) t.1 (t.2.2.1.new kg hD) (t.2.2.2.new kg ⟨?_,out.toList,cc,vals,?_⟩) t.2.1 (λb z=>b9 z hH),kA,q Y sH J D sb kg⟩
 ·rw[aA,sb.len,<- hL];lia
 ·simpa[f7]using ho
end
end L2
namespace TL
open L2
variable{K:aI}{H L T U:Hp}{B:Hp}{O I:List Addr}{C:List Sl}{G:L2.St}
section
variable{X:Cx}{a b c e:Expr}{es:List Expr}{Y Z tc W:ET}{pos:Pos}
def EN{f g:D->D->(D->Prop)->Prop}(M:zD X r f)(n:zD X m g){u A E:TE}
  (N:∀B O H I C G (Q:D->Prop)(i:VK),Ok X.K B O H I C G->Y C Q->(∀d v L,bB H L->gO X.K (mask L I) d v->Q d->i v L)->u G H i)
  (P:∀B O H I C G (Q:D->Prop)(i:VK),Ok X.K B O H I C G->Z C Q->(∀d v L,bB H L->gO X.K (mask L I) d v->Q d->i v L)->A G H i)
  (R:∀B O H I C G (Q:D->Prop)(i:VK),Ok X.K B O H I C G->tc C Q->(∀d v L,bB H L->gO X.K (mask L I) d v->Q d->i v L)->E G H i)
  (B:Hp) (O:List Addr) (H:Hp) (I:List Addr) (C:List Sl) (G:L2.St) (Q:D->Prop) (i:VK) (o:Ok X.K B O H I C G) (h:OL f g Y Z tc C Q) (k:∀d v L,bB H L->gO X.K (mask L I) d v->Q d->i v L):NH r m u A E G H i:=by
 refine N B O H I C G _ _ o h λJ x T j r1 q1=>?_;refine P B O T I C G _ _ (o.grow j) q1 λs y U l t q2=>?_;refine M U I J s x y _ _ ((o.grow j).grow l).live (r1.same (bR l)) t q2 λd3 z H3 s3 r3 p=>?_
 cases r3 with
 |bool c=>
  refine⟨c,kA,?_⟩
  cases c with
  |false=>exact k _ _ H3 (j.trans (l.trans s3)) (.bool false) p
  |true=>
   refine R B O H3 I C G _ _ (((o.grow j).grow l).grow s3) p λd4 w F q r4 q4=>?_;exact n F I s d4 y w Q i ((((o.grow j).grow l).grow s3).grow q).live ((t.same (bR s3)).same (bR q)) r4 q4 λd v L s' m S=>k d v L (j.trans (l.trans (s3.trans (q.trans s')))) m S
 |_=>exact p.elim
def YY{f g:D->D->(D->Prop)->Prop}(n:nW X (c8 op) r)(h:nW X (c8 op') r')(i:zD X r f)(d:zD X r' g)(j:gR X a Y)(k:gR X b Z)(l:gR X c tc)
  (m:autoParam (ez [op,op'] [b,c]=false) zzr._auto_1):gR X (.Compare a [op,op'] [b,c] pos) (OL f g Y Z tc):=by
 obtain⟨v,o,s⟩:=j;obtain⟨w,p,t⟩:=k;obtain⟨x,q,u⟩:=l;exact⟨_,WJ n h o p q m,EN i d s t u⟩
def U8{f g:D->D->(D->Prop)->Prop}(u:nW X (c8 op) r)(l:nW X (c8 op') i)(n:zD X r f)(j:zD X i g)(p:gR X a Y)(q:gR X b Z)(s:gR X c tc)
  (t:autoParam (ez [op,op'] [b,c]=false) zzr._auto_1):J1 X (.Compare a [op,op'] [b,c] pos) (MM (OL f g Y Z tc)):=by
 obtain⟨N,w,A⟩:=p;obtain⟨P,y,E⟩:=q;obtain⟨R,z,F⟩:=s;refine⟨_,V4 u l w y z t,λB O H I C G Q M o h k=>?_⟩;refine EN n j A E F B O H I C G (λx=>match x with | .bool b=>Q b | _=>False) _ o h λd v L J i m=>?_
 cases i with
 |bool c=>exact⟨c,kA,k c L J m⟩
 |_=>exact m.elim
abbrev OT:=List Sl->(Option Int->Prop)->Prop
def yh(X:Cx)(e:Option Expr)(t:OT):Prop:=∃to:TO,PO X e to/\∀B O H I C G (Q:Option Int->Prop)(d:Option Int->Hp->Prop),Ok X.K B O H I C G->t C Q ->
 (∀i L,bB H L->Q i->d i L)->to G H d
def Lh:OT:=λ_ Q=>Q none
def Li(t:ET):OT:=λG Q=>t G λx=>match x with | .int i=>Q (some i) | _=>False
def iK:yh X none Lh:=⟨_,Xu,λ_ _ H _ _ _ _ _ _ h k=>k _ H (L2.bB.refl H) h⟩
def gC(h:gR X e W):yh X (some e) (Li W):=by
 obtain⟨v,p,r⟩:=h;refine⟨_,Xv p,λB O H I C G Q j o h k=>r B O H I C G _ _ o h λd x T g f q1=>?_⟩
 cases f with
 |int i=>exact⟨i,kA,k _ T g q1⟩
 |_=>exact q1.elim
def Ex(X:Cx)(r:V->Option Int->Option Int->Hp->VK->Prop)(f:D->Option Int->Option Int->(D->Prop)->Prop):Prop:=∀H I(d:D)(x:V)(lo g:Option Int)(Q:D->Prop)QV,(∀p∈I,AJ (H p))->gO X.K (mask H I) d x->f d lo g Q ->
 (∀d v L,bB H L->gO X.K (mask L I) d v->Q d->QV v L)->r x lo g H QV
def Fw(f:D->Option Int->Option Int->(D->Prop)->Prop)(t:ET)(d th:OT):ET:=λG Q=>t G λx=>d G λl=>th G λu=>f x l u Q
def fP{r:V->Option Int->Option Int->Hp->VK->Prop}{f:D->Option Int->Option Int->(D->Prop)->Prop}{lo th}(q:ZL X r)(m:Ex X r f)(n:gR X e W)(p:yh X lo tl)(s:yh X hi th) :
  gR X (.Subscript e (.Slice lo hi none p2) pos) (Fw f W tl th):=by
 obtain⟨S,t,M⟩:=n;obtain⟨vl,w,N⟩:=p;obtain⟨vu,y,P⟩:=s;refine⟨_,WE q t w y,λB O H I C G Q j o h k=>M B O H I C G _ _ o h λd x T g J q1=>?_⟩;refine N B O T I C G _ _ (o.grow g) q1 λl U i A=>?_;refine P B O U I C G _ _ ((o.grow g).grow i) A λu H3 s3 E=>?_;exact m H3 I d x l u Q j (((o.grow g).grow i).grow s3).live ((J.same (bR i)).same (bR s3)) E λd v L R F z=>k d v L (g.trans (i.trans (s3.trans R))) F z
variable{st:Stmt}{jN:List Stmt}{t u:wG}
def iI:wG:=λd G=>d.nx G
def gL(t u:wG):wG:=λd G=>t { d with nx:=u d } G
def fE:vU X [] iI:=⟨_,PQ,λB O H I C G d g o h f=>f.nx H I C G o (L2.bB.refl _) h⟩
def aS(l:BN X st t)(m:vU X jN u):vU X (st::jN) (gL t u):=by
 obtain⟨x,p1,r⟩:=l;obtain⟨w,p,s⟩:=m;refine⟨_,nJ p1 p,λB O H I C G g i o h f=>r B O H I C G { g with nx:=u g } { i with nx:=w i } o h ⟨λL j d k n v q=>?_,f.bk,f.ct,f.rt,f.ro,f.rp,f.rq,f.xb⟩⟩;exact s B O L j d k g i n q (f.later v)
def bH(d:BN X st t):vU X [st] t:=by
 obtain⟨g,p1,f⟩:=d;exact⟨_,B3 p1,f⟩
def Vo(i:Nat)(t:wG):wG:=λf G=>∃d,G[i]?=some (.own d)/\t f (G.set i (.val (.list d)))
def oM(i:Nat)(h:vU X sts t):vU X sts (Vo i t):=by
 obtain⟨v,p,r⟩:=h;refine⟨_,p,λB O H I C G g j o h f=>?_⟩;obtain⟨m,e,h⟩:=h;obtain⟨d,k,l⟩:=o.share e;exact r B O H d _ G g j k h (f.later l)
def BE(W:ET):wG:=λd G=>W G d.rt
def cG(h:gR X e W):BN X (.Return (some e) pos) (BE W):=by
 obtain⟨v,p,r⟩:=h;refine⟨_,C9 p,λB O H I C G k l o h f=>r B O H I C G _ _ o h λd x L j i g=>?_⟩;exact f.rt d x L (o.base.trans j) (i.same (jI o.sub)) g
def xc(c:wF)(t u:wG):wG:=λd G=>c G λb=>if b=true then t d G else u d G
def gU{c a b tc}(m:J1 X c tc)(k:vU X a t)(l:vU X b u):BN X (.If c a b pos) (xc tc t u):=by
 obtain⟨y,q,v⟩:=m;obtain⟨w,n,r⟩:=k;obtain⟨x,p,s⟩:=l;refine⟨_,Dw q n p,λB O H I C G i j o h f=>v B O H I C G _ _ o h λd T g q1=>?_⟩
 cases d with
 |true=>exact r B O T I C G i j (o.grow g) q1 (f.later (bR g))
 |false=>exact s B O T I C G i j (o.grow g) q1 (f.later (bR g))
def LB(i:Nat)(W:ET):wG:=λf G=>W G λd=>f.nx (G.set i (.val d))
def VH{i:Nat}(h:gR X e W)(g:∀{v},PE X e v->PS X (.Assign [.Name x pos'] e pos) (vN v (lP i))):BN X (.Assign [.Name x pos'] e pos) (LB i W):=by
 obtain⟨v,p,r⟩:=h;refine⟨_,g p,λB O H I C G m n o h f=>r B O H I C G _ _ o h λd x L j l k=>?_⟩;exact f.nx L I _ _ ((o.grow j).set l) (bR j) k
def Ab(i:Nat)(t:AT):wG:=λf G=>t G λd=>d.length<=1000/\f.nx (G.set i (.own d))
def Uy{i:Nat}{t}(h:vW X es t)(d:∀{v},PE X (.List es p2) v->PS X (.Assign [.Name x pos'] (.List es p2) pos) (vN v (lP i))):BN X (.Assign [.Name x pos'] (.List es p2) pos) (Ab i t):=by
 obtain⟨v,p,r⟩:=h;refine⟨_,d (NU p),λB O H I C G l m o h f=>r B O H I C G _ _ o h λn s T k j q1=>⟨yC (by rw[<- j.length];exact q1.1),λq g=>?_⟩⟩;exact f.nx _ (q::I) _ _ ((o.grow k).setOwn g j) ((bR k).trans (by rw[nN g];exact L2.bB.refl _)) q1.2
def Aa(i:Nat)(W:ET):wG:=λg G=>∃f,G[i]?=some (.own f)/\W G λd=>f.length<=100000/\g.nx (G.set i (.own (f++[d])))
def qB{i:Nat}{e W}(Q:PE X n (nV i))(y:gR X e W)(A:autoParam (bY [e] X.env=(false,eval e X.env)::bY [] X.env) zzz._auto_1)
  (pb:∀{Y},PA X [e] Y->PS X (.Expr (.Call (.Attribute n "append" ap) [e] [] cp) pos) (O7 (ZV X.K "list" PM (nV i) Y))):BN X (.Expr (.Call (.Attribute n "append" ap) [e] [] cp) pos) (Aa i W):=by
 obtain⟨v,p,r⟩:=y;refine⟨_,pb (lE p qC A),λB O H I C G J M o h f=>?_⟩;obtain⟨s,e,h⟩:=h;obtain⟨q,j,k,w,N,P,l,m⟩:=o.own i s e;refine⟨.ref q,k,.inl ⟨kA,j,mK.of l⟩,r B O H I C G _ _ o h λd x T g F q1=>?_⟩;refine⟨q,j,x,kA,kA,g _ _ l,?_,?_⟩
 ·rw[<- m.length];have:bF=2^24:=rfl;lia
 ·have E:=o.grow g;have z:Reps X.K (mask T I) (s++[d]) (j++[x]):=(m.same (bR g)).append (.cons F .nil);exact f.nx _ I _ G (E.write (ys:=j++[x]) e k z) ((bR g).trans (by rw[gZ w];exact L2.bB.refl _)) q1.2
noncomputable def AQ(x:Str):List D:=x.cps.toList.map λc=>.str ⟨#[c]⟩
noncomputable def JA:D->Option (List D)
|.list ts=>some ts
|.tuple ts=>some ts
|.str x=>some (AQ x)
|_=>none
def tT(G:List Sl):Prop:=∀(i:Nat)(s:Sl),(∀d,s≠.val d)->s≠.un->G[i]?≠some s
def pD{G:List Sl}(h:tT G)(i:Nat)(d:D):tT (G.set i (.val d)):=λj s f k e=>by
 by_cases z:i=j
 ·subst z;have g:i<G.length:=by simpa using(aG.mp e).1
  rw[bV g]at e;exact f d (c5 e).symm
 ·rw[bU z]at e;exact h j s f k e
theorem tT.own{G}(h:tT G)(i:Nat)(d:List D):G[i]?≠some (.own d):=h i _ (λ_ z=>nomatch z) λz=>nomatch z
theorem tT.dic{G}(h:tT G)(i:Nat)(d:List Int)(kvs:List (D×D)):G[i]?≠some (.dic d kvs):=h i _ (λ_ z=>nomatch z) λz=>nomatch z
abbrev GT:=D->List Sl->(List Sl->Prop)->Prop
def M0(X:Cx)(k:Expr)(g:GT):Prop:=∃j:TG,PG X k j/\∀B O H I C G (d:D)(v:V)(Q:List Sl->Prop)(i:L2.St->Hp->Prop),Ok X.K B O H I C G->gO X.K (mask H I) d v->g d C Q ->
 (∀f h,Ok X.K B O H I f h->(tT C->tT f)->Q f->i h H)->j v G H i
def gN(i:Nat):GT:=λd G Q=>Q (G.set i (.val d))
def dF{i:Nat}(h:PG X (.Name x p) (lP i)):M0 X (.Name x p) (gN i):=
 ⟨_,h,λB O H I C G d v Q f o r h k=>k _ _ (o.set r) (λn=>pD n _ _) h⟩
def gP(i j:Nat):GT:=λd G Q=>∃a b,d=.tuple [a,b]/\Q ((G.set i (.val a)).set j (.val b))
def lV{i j:Nat}{t}(h:PG X t (zg X.K 2 (GZ (lP i) (GZ (lP j) ze)))):M0 X t (gP i j):=
 ⟨_,h,λB O H I C G d v Q l o r h k=>by
  obtain⟨a,b,rfl,h⟩:=h
  cases r with
  |@tuple p xs _ hq r=>
   cases r with
   |cons f r=>
    cases r with
    |cons g r=>
     cases r;exact⟨_,_,kA,bB.seqT bW hq,kA,_,_,kA,_,_,kA,kA,k _ _ ((o.set f).set g) (λn=>pD (pD n _ _) _ _) h⟩⟩
structure aI3(K:aI)(Hs:Hp)(ts:List D)(J:It):Prop where
 stop:∀(i:Nat)H,bB Hs H->ts.length<=i->J.stop i H
 go:∀(i:Nat)H,bB Hs H->i<ts.length->J.go i H
 yld:∀(i:Nat)H I(y:V)L,(∀p∈I,AJ (H p))->bB Hs (mask H I)->i<ts.length->J.yld i H y L->bB H L/\∃dx,ts[i]?=some dx/\gO K (mask L I) dx y
abbrev IT:=List Sl->(List D->Prop)->Prop
def MZ(X:Cx)(g iter:Expr)(t:IT):Prop:=∃f:TI,PI X g iter f/\∀B O H I C G (Q:List D->Prop)(R:It->Hp->Prop),Ok X.K B O H I C G->t C Q ->
 (∀d J L,bB H L->aI3 X.K (mask L I) d J->Q d->R J L)->f G H R
def Go(W:ET):IT:=λG Q=>W G λd=>∃f,JA d=some f/\Q f
def PJ(r:gO K Hs d x)(l:JA d=some ts){R:It->Hp->Prop}(o:bB Hs T)(h:∀J:It,aI3 K Hs ts J->R J T) :
  (∃a,x=.ref a/\(∃f,mK K T a f)/\R (Ak K a) T)\/(∃a,x=.ref a/\(∃f,oR K T a f)/\R (Ai K a) T)\/∃z,x=.str z/\R (yk z) T:=by
 cases r with
 |@list p f us q rs=>
  obtain rfl:us=ts:=c5 l;refine .inl ⟨p,kA,⟨f,L2.bB.seq o q⟩,h _ ⟨λi H e g=>⟨f,L2.bB.seq e q,by rw[<- rs.length];exact g⟩,λi H e g=>?_,λi H I y L _ e g j=>?_⟩⟩
  ·obtain⟨v,n,_⟩:=rs.get (aD g);exact⟨f,v,L2.bB.seq e q,n⟩
  ·obtain⟨rfl,j⟩:=j;obtain⟨dx,m,k⟩:=rs.get' (j f (L2.bB.seq (e.trans bW) q));exact⟨L2.bB.refl _,dx,m,k.same e⟩
 |@tuple p f us q rs=>
  obtain rfl:us=ts:=c5 l;refine .inr (.inl ⟨p,kA,⟨f,bB.seqT o q⟩,h _ ⟨λi H e g=>⟨f,bB.seqT e q,by rw[<- rs.length];exact g⟩,λi H e g=>?_,λi H I y L _ e g j=>?_⟩⟩)
  ·obtain⟨v,n,_⟩:=rs.get (aD g);exact⟨f,v,bB.seqT e q,n⟩
  ·obtain⟨rfl,j⟩:=j;obtain⟨dx,m,k⟩:=rs.get' (j f (bB.seqT (e.trans bW) q));exact⟨L2.bB.refl _,dx,m,k.same e⟩
 |str z=>
  obtain rfl:AQ z=ts:=c5 l;have g:(AQ z).length=z.cps.size:=by unfold AQ;simp
  refine .inr (.inr ⟨z,kA,h _ ⟨λi H _ e=>by rw[g]at e;exact e,λi H _ e=>by rw[g]at e;exact e,λi H I y L _ _ e j=>?_⟩⟩);obtain⟨rfl,c,k,rfl⟩:=j;refine⟨L2.bB.refl _,.str ⟨#[c]⟩,?_,.str _⟩;unfold AQ;rw[aM];have:z.cps.toList[i]?=some c:=by simpa using k
  rw[this];rfl
 |_=>cases l
def dP(f:gR X e W):MZ X tg e (Go W):=by
 obtain⟨r,i,l⟩:=f;refine⟨_,WB i,λB O H I C G Q R o h k=>l B O H I C G _ _ o h λd x T n j q1=>?_⟩;obtain⟨p,g,q⟩:=q1;exact PJ j g bW λJ m=>k p J T n m q
noncomputable def fW(n:Nat):List D:=(fZ n).map λ(k:Nat)=>bO (k:Int)
def Tl(t:AT):IT:=λG Q=>t G λd=>∃n:Int,d=[.int n]/\-(2^62)<=n/\n<2^62/\Q (fW n.toNat)
def tX{e t}(m:vW X [e] t)(v:∀{Y},PA X [e] Y->PI X tg (.Call (.Name "range" p) [e] [] p') (Ct Y)):MZ X tg (.Call (.Name "range" p) [e] [] p') (Tl t):=by
 obtain⟨E,s,x⟩:=m;refine⟨_,v s,λB O H I C G Q R o h k=>x B O H I C G _ _ o h λA F T z f q1=>?_⟩;obtain⟨n,rfl,j,l,q⟩:=q1
 cases f with
 |cons f w=>
  cases w;cases f;refine⟨n,kA,j,l,k (fW n.toNat) _ T z ?_ q⟩;have d:(fW n.toNat).length=n.toNat:=by unfold fW;simp
  refine⟨λi H _ e=>by rw[d]at e;exact e,λi H _ e=>by rw[d]at e;exact e,λi H I y L _ _ e r=>?_⟩;obtain⟨rfl,rfl⟩:=r;have g:(0:Int)+(i:Int)=(i:Int):=by lia
  rw[g];rw[d]at e;refine⟨L2.bB.refl _,.int i,?_,.int _⟩;unfold fW;rw[aM,kJ e];rfl
def VN(j:IT)(g:GT)(Z:wG):wG:=λf G=>j G λi=>∃P:Nat->List Sl->Prop,P 0 G /\
 (∀(k:Nat)(x:D)d,i[k]?=some x->P k d->g x d λh=>Z { f with nx:=P (k+1),ct:=P (k+1),bk:=f.nx } h)/\∀d,P i.length d->f.nx d
def Ux{iter Z}(he:MZ X tg iter ti)(hg:M0 X tg g)(hb:vU X body Z)
  (pf:∀{wi R bv},PI X tg iter wi->PG X tg R->FP X body bv->PS X (.For tg iter body [] pos) (zv wi R bv)):BN X (.For tg iter body [] pos) (VN ti g Z):=by
 obtain⟨ve,pe,re⟩:=he;obtain⟨R,pg,rg⟩:=hg;obtain⟨vb,pb,rb⟩:=hb;refine⟨_,pf pe pg pb,λB O H I C G DT DV o h f=>re B O H I C G _ _ o h λE J T s1 rj q1=>?_⟩;obtain⟨P,h0,hs,hd⟩:=q1;refine⟨λi m n L=>m=E.length-i/\i<=E.length/\∃j d,Ok X.K B O L j d n/\bB (mask T I) (mask L j)/\P i d,⟨_,kA,cJ _,I,C,o.grow s1,L2.bB.refl _,h0⟩,?_⟩;rintro i m n L ⟨rfl,gp,j,d,o',N,p'⟩;have sH:bB (mask T I) L:=N.trans bW;have f':J4 X.K B O L j DT DV:=f.later ((bR s1).trans N);by_cases q:i<E.length
 ·refine .inr ⟨rj.go i L sH q,λF U=>∃v p,Ok X.K B O U v p F/\bB (mask T I) (mask U v)/\P (i+1) p,λF U z=>⟨E.length-(i+1),hG,kA,q,z⟩,λy U S=>?_⟩;obtain⟨s2,dx,hx,rx⟩:=rj.yld i L j y U o'.live N q S;have f2:=f'.later (bR (ps:=j) s2);have x:bB (mask T I) (mask U j):=N.trans (bR s2);refine rg B O U j d n dx y _ _ (o'.grow s2) rx (hs i dx d hx p') λM iq o3 _ q3=>?_;exact rb B O U j M iq _ _ o3 q3 ⟨λQ l k r s A w=>⟨l,k,s,x.trans A,w⟩,λQ l k r s A w=>f2.nx Q l k r s A w,λQ l k r s A w=>⟨l,k,s,x.trans A,w⟩,f2.rt,f2.ro,f2.rp,f2.rq,f2.xb⟩
 ·obtain rfl:i=E.length:=by lia
  exact .inl ⟨rj.stop _ L sH (aN _),f'.nx L j d n o' (L2.bB.refl _) (hd d p')⟩
noncomputable def MR(G:List Sl):Option Nat->Sl
|none=>.un
|some j=>match G[j]? with | some (.val d)=>.val d | _=>.un
noncomputable def kF(d:List (Option Nat))(G:List Sl):List Sl:=d.map (MR G)
def T2{G}(h:MR G q=.val d):∃j,q=some j/\G[j]?=some (.val d):=by
 cases q with
 |none=>cases h
 |some j=>
  refine⟨j,kA,?_⟩;unfold MR at h;dsimp only at h;split at h
  ·next e=>cases h;exact e
  ·cases h
def T3{G}(g:∀d,s≠.val d)(f:s≠.un):MR G q≠s:=λh=>by
 cases q with
 |none=>exact f h.symm
 |some j=>
  unfold MR at h;dsimp only at h;split at h
  ·exact g _ h.symm
  ·exact f h.symm
def uV(d:List (Option Nat))(G:List Sl):tT (kF d G):=λi s j g h=>by
 unfold kF at h;rw[aM]at h
 cases f:d[i]? with
 |none=>rw[f]at h;cases h
 |some q=>
  rw[f]at h;exact T3 j g (c5 h)
def Ok.blk(o:Ok K B O H I C G)(fr:List (Option Nat)):Ok K B O H I (kF fr C) (yG fr G) where
 base:=o.base
 sub:=o.sub
 live:=o.live
 len:=by unfold kF yG;simp
 val:=λi d h=>by
  unfold kF at h;rw[aM]at h
  cases hf:fr[i]? with
  |none=>rw[hf]at h;cases h
  |some q=>
   rw[hf]at h;obtain⟨j,rfl,e⟩:=T2 (c5 h);obtain⟨v,h1,h2⟩:=o.val j d e;refine⟨v,?_,h2⟩;unfold yG;rw[aM,hf];simp[h1]
 own:=λi ts h=>b9 h ((uV fr C).own i ts)
 dis:=λi j ts us p h=>b9 h ((uV fr C).own i ts)
 dc:=λi hs kvs h=>b9 h ((uV fr C).dic i hs kvs)
def Ok.adopt(o:Ok K B O H I C G){p:Addr}{u}(f:H p=none)(w:autoParam (xy u=false) zzz._auto_1):Ok K B O (fG H p u) (p::I) C G:=by
 have k:mask (fG H p u) (p::I)=mask H I:=nN f;refine⟨o.base.trans (dM f),λq l=>aJ _ (o.sub q l),λq l=>?_,o.len,λi d h=>by rw[k];exact o.val i d h,λi x h=>?_,o.dis,o.dc.to (λj E kvs h=>⟨h,kA⟩) (λq A a b _=>⟨aJ _ a,cC λz=>by rw[z,f]at b;cases b⟩) (λq A _ _ a b=>⟨a,b⟩) (by rw[k];exact L2.bB.refl _)⟩
 ·by_cases e:q=p
  ·subst e;rw[cD];exact⟨_,kA,w⟩
  ·rw[cC e];rcases aR.mp l with z | z
   ·exact b9 z e
   ·exact o.live q z
 ·rw[k];obtain⟨q,y,m,n,r,s,g,v⟩:=o.own i x h;exact⟨q,y,m,aJ _ n,r,s,by rw[cC λz=>by rw[z,f]at g;cases g];exact g,v⟩
def Ok.aside(o:Ok K B O H I C G){q:Addr}{u}(hp:q∈I)(hB:B q=none)(hn:tT C)(hu:autoParam (xy u=false) zzz._auto_1):Ok K B O (fG H q u) I C G where
 base:=λb w e=>by
  rw[cC λz=>by rw[z,hB]at e;cases e];exact o.base b w e
 sub:=o.sub
 live:=λp hp'=>by
  by_cases e:p=q
  ·subst e;rw[cD];exact⟨_,kA,hu⟩
  ·rw[cC e];exact o.live p hp'
 len:=o.len
 val:=λi d h=>by rw[gZ hp];exact o.val i d h
 own:=λi ts h=>b9 h (hn.own i ts)
 dis:=λi j ts us p h=>b9 h (hn.own i ts)
 dc:=λi hs kvs h=>b9 h (hn.dic i hs kvs)
def EW(X:Cx)(d:List Expr)(t:wF):Prop:=∃g:TT,OU X d g/\∀B O H I C G (Q:Bool->Prop)(f:Bool->Hp->Prop),Ok X.K B O H I C G->t C Q ->
 (∀b L,bB H L->Q b->f b L)->g G H f
def EQ:wF:=λ_ Q=>Q true
def fR:EW X [] EQ:=⟨_,Xs,λ_ _ H _ _ _ _ _ _ h k=>k _ H (L2.bB.refl H) h⟩
def pI{t}(h:J1 X e t):EW X [e] t:=by
 obtain⟨v,p,r⟩:=h;exact⟨_,Xt p,r⟩
def Y1(j:List (Option Nat))(l:IT)(g:GT)(m:wF)(W:ET):ET:=λG Q=>l G λi=>i.length<=100000/\∃P:Nat->List Sl->List D->Prop,P 0 (kF j G) [] /\
 (∀(k:Nat)(x:D)d(h:List D),i[k]?=some x->P k d h->g x d λf=>m f λb=>if b=true then W f λy=>P (k+1) f (h++[y])else P (k+1) f h)/\∀d h,P i.length d h->Q (.list h)
def Au(j:List (Option Nat))(g:GT)(l:wF)(W:ET)(i:List D)(G:List Sl)(Q:List D->Prop):Prop:=i.length<=100000/\∃P:Nat->List Sl->List D->Prop,P 0 (kF j G) [] /\
 (∀(k:Nat)(x:D)d(h:List D),i[k]?=some x->P k d h->g x d λf=>l f λb=>if b=true then W f λy=>P (k+1) f (h++[y])else P (k+1) f h)/\∀d h,P i.length d h->Q h
def N8(N:List (Option Nat)){W}(s:∀b:BP,M0 (blk X scope N' b) tg g/\EW (blk X scope N' b) ifs tt/\gR (blk X scope N' b) elt W) :
  ∃(gv:BP->TG)(vt:BP->TT)(ve:BP->TE),(∀b:BP,PG (blk X scope N' b) tg (gv b)/\OU (blk X scope N' b) ifs (vt b)/\PE (blk X scope N' b) elt (ve b))/\∀{B O}{T:Hp}{I C G}{Q:List D->Prop}{QV:VK}{A J},Ok X.K B O T I C G->aI3 X.K (mask T I) A J->Au N g tt W A C Q ->
   (∀n p xs L,bB T L->T p=none->L p=some (.lst xs)->Reps X.K (mask L (p::I)) n xs->Q n->QV (.ref p) L)->VC N (λ_ H R=>R J H) gv vt ve G T QV:=by
 refine⟨λb=>y9 (s b).1,λb=>y9 (s b).2.1,λb=>y9 (s b).2.2,λb=>⟨(i5 (s b).1).1,(i5 (s b).2.1).1,(i5 (s b).2.2).1⟩,?_⟩;intro B O T I C G Q QV A J o rj q1 k bp f h;have rg:=(i5 (s bp).1).2;have rt:=(i5 (s bp).2.1).2;have re:=(i5 (s bp).2.2).2;obtain⟨hz,P,h0,hs,hd⟩:=q1
 have F:B f=none:=by
  cases q:B f with
  |none=>rfl
  |some u=>rw[o.base f u q]at h;cases h
 refine⟨λi m M L=>m=A.length-i/\i<=A.length/\∃j n E,Ok X.K B O L (f::I) j M/\tT j/\L f=some (.lst E)/\n.length<=i/\Reps X.K (mask L (f::I)) n E/\bB (mask T I) (mask L (f::I))/\bB T L/\P i j n,
  ⟨_,kA,cJ _,kF N C,[],[],(o.blk N).adopt h,uV N C,cD,aN _,.nil,by rw[nN h];exact L2.bB.refl _,dM h,h0⟩,?_⟩
 rintro i m M L ⟨rfl,gp,j,n,E,o',n',ha,hl,hr,S,sF,p'⟩;have hL:bF=2^24:=rfl;by_cases w:i<A.length
 ·refine .inr ⟨rj.go i L (S.trans bW) w,λy U hy=>?_⟩;obtain⟨s2,dx,hx,rx⟩:=rj.yld i L (f::I) y U o'.live S w hy;refine rg B O U (f::I) j M dx y _ _ (o'.grow s2) rx (hs i dx j n hx p') λl iq o3 n3 q3=>?_;refine rt B O U (f::I) l iq _ _ o3 q3 λb H4 s4 q4=>?_;have r:=s2.trans s4
  cases b with
  |false=>
   exact⟨A.length-(i+1),hG,kA,w,l,n,E,o3.grow s4,n3 n',r _ _ ha,hG,hr.same (bR r),S.trans (bR r),sF.trans r,q4⟩
  |true=>
   refine re B O H4 (f::I) l iq _ _ (o3.grow s4) q4 λd v H5 s5 r5 q5=>?_;have x:=r.trans s5;have hm:mask (fG H5 f (.lst (E++[v]))) (f::I)=mask H5 (f::I):=gZ (aO ..);refine⟨E,x _ _ ha,by rw[<- hr.length];lia,A.length-(i+1),hG,kA,w,l,n++[d],E++[v],((o3.grow s4).grow s5).aside (aO ..) F (n3 n'),n3 n',cD,by rw[aZ,oQ];lia,?_,?_,?_,q5⟩
   ·rw[hm];exact(hr.same (bR x)).append (.cons r5 .nil)
   ·rw[hm];exact S.trans (bR x)
   ·intro b u e;have ne:b≠f:=λz=>by rw[z,h]at e;cases e
    rw[cC ne];exact(sF.trans x) b u e
 ·obtain rfl:i=A.length:=by lia
  exact .inl ⟨rj.stop _ L (S.trans bW) (aN _),k n f E L sF h ha hr (hd j n p')⟩
def LF{K}{H L:Hp}{I}{p:Addr}(live:∀q∈I,AJ (H q))(d:H p=none)(g:L p=some (.lst xs))(h:Reps K (mask L (p::I)) ds xs):gO K (mask L I) (.list ds) (.ref p):=
 .list (mK.of (mU (jF live d) g)) (h.same (jI λq f=>aJ _ f))
def XU{iter W}(x:MZ X tg iter ti)
  (w:∀b:BP,M0 (blk X scope N' b) tg g/\EW (blk X scope N' b) ifs tt/\gR (blk X scope N' b) elt W) {M:(TE)->Prop}
  (fin:∀{n}{i:BP->TG}{m:BP->TT}{l:BP->TE},PI X tg iter n->(∀b:BP,PG (blk X scope N' b) tg (i b)/\OU (blk X scope N' b) ifs (m b)/\PE (blk X scope N' b) elt (l b))->M (VC fr n i m l)) :
  ∃v:TE,M v/\∀B O H I C G (Q:D->Prop)(f:VK),Ok X.K B O H I C G->Y1 fr ti g tt W C Q ->
   (∀d v L,bB H L->gO X.K (mask L I) d v->Q d->f v L)->v G H f:=by
 obtain⟨n,A,E⟩:=x;obtain⟨i,m,l,p,r⟩:=N8 fr w;exact⟨_,fin A p,λB O H I C G Q f o h k=>E B O H I C G _ _ o h λR J T j F q1=>r (Q:=λs=>Q (.list s)) (o.grow j) F q1 λs p S L P y z N q=>k _ _ L (j.trans P) (LF (o.grow j).live y z N) q⟩
def Jg{iter W}(j:MZ X tg iter ti)
  (i:∀b:BP,M0 (blk X scope N' b) tg g/\EW (blk X scope N' b) ifs tt/\gR (blk X scope N' b) elt W)
  (k:∀{wi}{d:BP->TG}{h:BP->TT}{f:BP->TE},PI X tg iter wi->(∀b:BP,PG (blk X scope N' b) tg (d b)/\OU (blk X scope N' b) ifs (h b)/\PE (blk X scope N' b) elt (f b))->PE X (.ListComp elt [⟨tg,iter,ifs,0⟩] scope pos) (VC fr wi d h f)) :
  gR X (.ListComp elt [⟨tg,iter,ifs,0⟩] scope pos) (Y1 fr ti g tt W):=XU j i k
def kD{i:Nat}{iter W}(q:MZ X tg iter ti)
  (n:∀b:BP,M0 (blk X scope N' b) tg g/\EW (blk X scope N' b) ifs tt/\gR (blk X scope N' b) elt W)
  (s:∀{wi}{j:BP->TG}{m:BP->TT}{l:BP->TE},PI X tg iter wi->(∀b:BP,PG (blk X scope N' b) tg (j b)/\OU (blk X scope N' b) ifs (m b)/\PE (blk X scope N' b) elt (l b)) ->
   PS X (.Assign [.Name x px] (.ListComp elt [⟨tg,iter,ifs,0⟩] scope pos) spos) (vN (VC fr wi j m l) (lP i))) :
  BN X (.Assign [.Name x px] (.ListComp elt [⟨tg,iter,ifs,0⟩] scope pos) spos) (LB i (Y1 fr ti g tt W)):=by
 obtain⟨v,p,r⟩:=XU (M:=λv=>PS X (.Assign [.Name x px] (.ListComp elt [⟨tg,iter,ifs,0⟩] scope pos) spos) (vN v (lP i))) (fr:=fr) q n s;refine⟨_,p,λB O H I C G z A o h f=>r B O H I C G _ _ o h λd x L k y w=>?_⟩;exact f.nx L I _ _ ((o.grow k).set y) (bR k) w
noncomputable def lB(N:List Str)(d:List D):List Sl:=d.map Sl.val++aF3 (N.length-d.length) .un
def qS(live:∀p∈I,AJ (H p))(r:Reps K (mask H I) ds vs):Ok K H I H I (lB N ds) (L2.lM N vs):=by
 have k:=r.length;refine⟨L2.bB.refl _,λ_ h=>h,live,?_,λi d h=>?_,λi n h=>?_,λi j n q p h=>?_,λi o kvs h=>?_⟩
 ·unfold lB L2.lM;simp[k]
 ·unfold lB at h;by_cases f:i<ds.length
  ·rw[eE (by simpa using f),aM]at h
   cases hd:ds[i]? with
   |none=>rw[hd]at h;cases h
   |some g=>
    rw[hd]at h;cases h;obtain⟨v,l,m⟩:=r.get hd;refine⟨v,?_,m⟩;unfold L2.lM;rw[eE (by rw[aA,<- k];exact f),aM,l];rfl
  ·rw[dW (by simpa using f),kO]at h;split at h<;>cases h
 ·unfold lB at h;by_cases f:i<ds.length
  ·rw[eE (by simpa using f),aM]at h
   cases hd:ds[i]? with
   |none=>rw[hd]at h;cases h
   |some g=>rw[hd]at h;cases h
  ·rw[dW (by simpa using f),kO]at h;split at h<;>cases h
 ·unfold lB at h;by_cases f:i<ds.length
  ·rw[eE (by simpa using f),aM]at h
   cases hd:ds[i]? with
   |none=>rw[hd]at h;cases h
   |some g=>rw[hd]at h;cases h
  ·rw[dW (by simpa using f),kO]at h;split at h<;>cases h
 ·unfold lB at h;by_cases f:i<ds.length
  ·rw[eE (by simpa using f),aM]at h
   cases hd:ds[i]? with
   |none=>rw[hd]at h;cases h
   |some g=>rw[hd]at h;cases h
  ·rw[dW (by simpa using f),kO]at h;split at h<;>cases h
def nA{mg:Str->Option Value}{st}{f:Addr}{N pn:List Str}{k:Nat}{n:kH}(F:OY K x qual st f fd)(S:bL N pn (aU st))
  (l:∀{j}{A:d8}{outer}{s:Shared}{H E},hW k (A.deeper (n4 qual (aU st) s.heap.objs.size f j))->N.Nodup->∀(i:List D)(Q:D->Prop),n i Q ->
   ∃t,vU (vQ pK P w K mg base N qual (aU st) f j A outer s H E).nox (lF st) t/\t { nx:=λ_=>Q .none,rt:=Q } (lB N i)) (len:∀i Q,n i Q->i.length=pn.length:=by intro i Q h;(repeat obtain⟨_,h⟩:=h)<;>subst_vars<;>rfl):mB P w K mg base pK (k+1) f fd pn (jO K n):=by
 refine F.ok S (λvs H Q E h=>?_) λj A outer s H vs Q E z h=>?_
 ·obtain⟨I,i,m,_,r,q,_⟩:=h;rw[<- r.length];exact len i m q
 ·obtain⟨I,i,m,live,r,q,k⟩:=h;obtain⟨t,⟨ts,p,rd⟩,h⟩:=l z S.nd i m q;refine⟨ts,p,rd H I H I _ _ _ _ (qS live r) h ⟨λL M y t6 J o g=>?_,λ_ _ _ _ _ _ g=>g.elim,λ_ _ _ _ _ _ g=>g.elim,λd v L o R g=>k d v L o R g,λ_ _ _ _ _ _ _ _ _ g=>g.elim,λ_ _ _ _ _ _ _ _ _ _ _ _ _ _ _ _ _ _ g=>g.elim,λ_ _ _ _ _ _ _ _ _ _ _ _ _ _ g=>g.elim,e9⟩⟩;exact k _ _ L J.base .none g
end
end TL
namespace HT
section
variable{prog:cK}{w:e6}{A:d8}{E:Value->Shared->Prop}{s:Shared}
def getItem_tuple_all{t g:Addr}{a:Array Value}{lo}{Q:Value->Shared->Prop}(b:ie s.heap t a)(i:s.heap.IsSliceOf g vl vu .none)(k:IsPart vl lo)(l:IsPart vu hi)
  (hw:sIx a.size 0 lo=0/\sIx a.size a.size hi=a.size) (h:Q (.ref t) s):wpAny (model prog w) A (v7 (.ref t) (.ref g)) Q E s:=by
 obtain⟨os,f,e,j⟩:=id i;have d:s.TypeIs (.ref g) "slice":=⟨os,f,e⟩;unfold v7
 try with_reducible refine m6 ?_
 first | refine aK (bC ?_) | skip
 refine aK (io b.typeIs gV ?_)
 refine aK (i7 (name:=c7 "__getitem__") b.typeIs i9
  (nD i9 b.typeIs gh ?_ (gm _ _)))
 show wpAny _ _ (y8 (.ref t) >>= _) _ _ s;refine aK (tupleItemsOf_ b ?_);refine aK (fo d ?_);rw[a9 gV];refine aK (qP i k l ?_)
 have c:(((sIx a.size 0 lo:Nat):Int)==0&&(1:Int)==1&&(sIx a.size a.size hi-sIx a.size 0 lo)==a.size)=true:=by
  rw[hw.1,hw.2];simp
 show wpAny _ _ (if(((sIx a.size 0 lo:Nat):Int)==0&&(1:Int)==1&&(sIx a.size a.size hi-sIx a.size 0 lo)==a.size)=true then _ else _) _ _ s;rw[a9 c];unfold Builtin.Tuple.tupleIsExact;refine aK (aK (fo b.typeIs (bC ?_)));rw[a9 gV]
 first
  |exact aK (n8 (aK (bC (bC ⟨_,kA,bC h⟩))))
  |exact aK (n8 (bC ⟨_,kA,bC h⟩))
  |exact aK (n8 (aK (bC ⟨_,kA,bC h⟩)))
end
end HT
namespace L2
section
variable{X:Cx}
def Bp:V->Option Int->Option Int->Hp->VK->Prop:=λx lo a H Q=>∃z,x=.str z/\z.length<=bF/\Q (.str (Txt.slice z lo a)) H
def Vq:ZL X Bp:=by
 intro b s p H x v w y lo a r Q I o c n f h;obtain⟨z,rfl,m,q⟩:=h;obtain⟨t,rfl⟩:=o;refine⟨"str",_,PySem.F.slot_str_getitem.lookup,y0 _ _ _,?_⟩
 have fin:∀lo a:Option Int,Q (.str (Txt.slice z lo a)) H->(Txt.slice z lo a).length<=bF/\∀(d:Tok)(k:Nat),EP X b p Q (.str (Txt.slice z lo a) d) { s with toks:=k }:=λlo a q=>
  ⟨bE (Txt.slice_le z _ _) m,λd k=>⟨.str _,H,I.tok k,⟨d,kA⟩,q⟩⟩
 cases n with
 |none=>
  cases f with
  |none=>exact o6 (l:=none) (u:=none) (st:=none) c kA (y3 (fin none none q))
  |int j e=>exact o6 (l:=none) (u:=some (j,e)) (st:=none) c kA (y3 (fin none (some j) q))
 |int i g=>
  cases f with
  |none=>exact o6 (l:=some (i,g)) (u:=none) (st:=none) c kA (y3 (fin (some i) none q))
  |int j e=>exact o6 (l:=some (i,g)) (u:=some (j,e)) (st:=none) c kA (y3 (fin (some i) (some j) q))
def Ea(K:aI):V->Option Int->Option Int->Hp->VK->Prop:=λx lo c H Q=>∃a b,x=.ref a/\oR K H a b /\
 ((HT.sIx b.length 0 lo=0/\HT.sIx b.length b.length c=b.length)->Q (.ref a) H)/\(¬(HT.sIx b.length 0 lo=0/\HT.sIx b.length b.length c=b.length)->∀p,H p=none->Q (.ref p) (fG H p (.tup (JM b lo c))))
def Zk:ZL X (Ea X.K):=by
 intro d s t H x v p q lo f o Q I m g k l h;obtain⟨a,b,rfl,j,q1,n⟩:=h;by_cases hw:HT.sIx b.length 0 lo=0/\HT.sIx b.length b.length f=b.length
 ·cases m;obtain⟨e,r,i,u⟩:=I.tuple j;have c:e.toArray.size=b.length:=by rw[bA];exact r.length.symm
  exact⟨"tuple",_,PyProof.Rows.slot_tuple_getitem.lookup,i.typeIs,HT.getItem_tuple_all i g k l (by rw[c];exact hw) ⟨.ref a,H,I,kA,q1 hw⟩⟩
 ·exact Uu d s t H (.ref a) v p q lo f o Q I m g k l ⟨a,b,kA,j,hw,n hw⟩
def VW(K:aI):V->Option Int->Option Int->Hp->VK->Prop:=λx lo a H Q=>Bn K x lo a H Q\/Ea K x lo a H Q\/Bp x lo a H Q
def jA:ZL X (VW X.K):=Zj.or (Zk.or Vq)
def V0(K:aI):R2:=λx y H Q=>∃a b c d,x=.ref a/\y=.ref b/\oR K H a c/\oR K H b d/\c.length+d.length<=bF /\
 (c=[]->Q (.ref b) H)/\(c≠[]->d=[]->Q (.ref a) H)/\(c≠[]->d≠[]->∀p,H p=none->Q (.ref p) (fG H p (.tup (c++d))))
def WN:nW X (j1 .Add) (V0 X.K):=by
 intro j s P H x y v u Q I w z h;obtain⟨a,b,A,O,rfl,rfl,p,q,F,q0,q1,L⟩:=h;by_cases f:A=[]
 ·cases w;cases z;obtain⟨g,M,p1,_⟩:=I.tuple p;obtain⟨i,R,J,_⟩:=I.tuple q;obtain⟨⟨B,C,o,N⟩,t,r,n,hd⟩:=id p1;obtain⟨⟨m,k,data2,l⟩,e,c,G,d⟩:=id J;simp only at r hd c d;subst r hd c d;have E:g=[]:=M.nil_iff.mpr f;exact bj ⟨_,t,kA⟩ ⟨_,e,kA⟩ bw ef sJ qZ (qJ _ _) (tuple_addW0 a b g.toArray i.toArray n G C k N l (by simp[E])) ⟨t,e,⟨.ref b,H,I,kA,q0 f⟩⟩
 ·exact Xk j s P H (.ref a) (.ref b) v u Q I w z ⟨a,b,A,O,kA,kA,p,q,f,F,q1 f,L f⟩
def Dx(K:aI):R2:=λx y H Q=>∃l b a c,x=.ref l/\y=.ref b/\mK K H l a/\mK K H b c/\a.length+c.length<=bF/\∀p,H p=none->Q (.ref p) (fG H p (.lst (a++c)))
def IF:nW X (j1 .Add) (Dx X.K):=by
 intro w s T H x y v u Q I N O h;obtain⟨l,b,R,S,rfl,rfl,G,J,t,q⟩:=h;cases N;cases O;obtain⟨c,z,⟨⟨B,C,m,P⟩,n,r,o,L,hd⟩,_⟩:=I.list G;obtain⟨a,A,⟨⟨k,g,data2,j⟩,M,f,d,p,e⟩,_⟩:=I.list J;simp only at o hd d e;subst o hd d e;have i:c.toArray.size+a.toArray.size<=bF:=by rw[bA,bA,<- z.length,<- A.length];exact t
 refine bj ⟨_,r,kA⟩ ⟨_,f,kA⟩ noFill_list_add seq_list_add PySem.F.slot_list_add PySem.F.entry_list_add (PySem.F.args_list_add_2 _ _) (list_addW l b c.toArray a.toArray n M C g P j i) ⟨r,f,?_⟩;have E:c.toArray++a.toArray=(c++a).toArray:=by simp
 rw[E];exact⟨.ref _,_,I.lnew (t':=s.toks) (z.append A) (by rw[aZ];exact t),kA,q _ I.fresh⟩
def PN(K:aI):R2:=λx y H Q=>(VZ λi j=>.int (i+j)) x y H Q\/(∃i j,x=.str i/\y=.str j/\i.length+j.length<=bF/\Q (.str (i++j)) H)\/V0 K x y H Q\/Dx K x y H Q
def bM:nW X (j1 .Add) (PN X.K):=Ub.or (NY.or (WN.or IF))
def PL:R2:=λx y H Q=>(rI O0 λi j=>.int (i*j)) x y H Q\/∃z n,x=.str z/\y=.int n/\z.length<=1000/\0<=n/\n<=1000/\Q (.str (Txt.mul z n)) H
def NX:nW X (j1 .Mult) (λx y H Q=>∃z n,x=.str z/\y=.int n/\z.length<=1000/\0<=n/\n<=1000/\Q (.str (Txt.mul z n)) H):=by
 intro c s o H x y v u Q I e f h;obtain⟨z,n,rfl,rfl,d,g,i,q⟩:=h;obtain⟨t,rfl⟩:=e;obtain⟨m,rfl⟩:=f;refine SB.mul ⟨by simp;lia,λa _=>?_,λ_ _=>?_⟩ λb k=>⟨.str _,H,I.tok k,⟨b,kA⟩,q⟩
 ·have l:1<=n:=by lia
  have:(1000:Int)<=(2^63-1) / n:=by
   rw[Int.le_ediv_iff_mul_le hG];lia
  lia
 ·have:z.length*n.toNat<=1000*1000:=iV d hG;unfold Builtin.Str.tooLong;have j:bF=2^24:=rfl;simp only[z7];lia
def fJ:nW X (j1 .Mult) PL:=WM.or NX
def yT(F:X.calm=true):lR X (.builtin "all") (λB H Q=>∃(p:Addr)(bs:List Bool),B=[.ref p]/\mK X.K H p (bs.map V.bl)/\Q (.bl (bs.all id)) H):=by
 intro k s M H B W Q I r h;obtain⟨p,bs,rfl,J,q⟩:=h;obtain⟨u,rfl,L⟩:=nI r;cases L;obtain⟨c,n,y,S⟩:=I.list J
 have m:p≠s.heap.objs.size:=by
  obtain⟨o,G,_⟩:=y.isList;exact dD (bG G)
 have j:=y.isList;refine call_all_walk (g9 j ?_);refine⟨_,_,_,_,_,_,λi=>(bs[i]?).getD true,kA,ee (A:=X.A.in1) (I.ok.hd F) _ p m c.toArray,⟨⟨_,aY _ kA,kA,kA⟩,j.push _⟩,λi v T P N E d=>?_,λR U hk=>?_⟩
 ·have w:c[i]?=some v:=by simpa using E
  have a:=n.length;have f:i<c.length:=(aG.mp w).1;have l:i<bs.length:=by rw[aA]at a;lia
  obtain⟨Y,t,C⟩:=n.get (i:=i) (x:=.bl bs[i]) (by rw[aM,aD l];rfl);rw[w]at t;cases t;cases C;refine e8 ?_;dsimp only at d;rw[aD l]at d;exact d
 ·have e:(fZ c.toArray.size).all (λi=>(bs[i]?).getD true)=bs.all id:=by
   have a:=n.length;rw[aA]at a;rw[bA,<- a];rw[dN,gW,gW];constructor
   ·intro h b l;obtain⟨i,f,rfl⟩:=wI.mp l;have:=h i (pZ.mpr f);rw[aD f]at this;exact this
   ·intro h i f;have g:=pZ.mp f;rw[aD g];exact h _ (fL g)
  rw[e];have O:dJ X k M H { s with heap:=s.heap.push { cls:=.type "list_iterator",data:=.fields #[.ref p,.int 0 0] } }:=I.kept (t':=s.toks) λb o e=>aE _ e;refine⟨.bl _,H,I.kept λb o e=>hk b o ?_ (aE _ e),kA,q⟩;intro z;have:b=s.heap.objs.size:=by simpa using z
  exact b9 (bG e) (by rw[this];exact hZ _)
def zy:R2:=λx y H Q=>∃b,y=.bl b/\Q (.bl (decide (x=.bl b))) H
def HZ:R2:=λx y H Q=>∃b,y=.bl b/\Q (.bl (!decide (x=.bl b))) H
def Cw{b:Bool}(r:fS x v):plainIs v (.bool b)=true/\(v==z0 b)=decide (x=.bl b):=by
 cases x with
 |non=>cases r;exact⟨kA,kA⟩
 |bl c=>cases r;cases b<;>cases c<;>exact⟨kA,kA⟩
 |int _=>obtain⟨t,rfl⟩:=r;exact⟨kA,kA⟩
 |str _=>obtain⟨t,rfl⟩:=r;exact⟨kA,kA⟩
 |byt _=>obtain⟨t,rfl⟩:=r;exact⟨kA,kA⟩
 |flt _=>obtain⟨t,rfl⟩:=r;exact⟨kA,kA⟩
 |ref _=>cases r;exact⟨kA,kA⟩
 |ty _=>cases r;exact⟨kA,kA⟩
def R8:nW X (c8 .IsNot) HZ:=by
 intro a s g H x y v u Q I e f h;obtain⟨b,rfl,q⟩:=h;cases f;obtain⟨c,d⟩:=Cw (b:=b) e;refine wpAny_isNot_plain c ?_;rw[d];exact⟨.bl _,H,I,kA,q⟩
def Uc:nW X (c8 .Is) zy:=by
 intro a s g H x y v u Q I e f h;obtain⟨b,rfl,q⟩:=h;cases f;obtain⟨c,d⟩:=Cw (b:=b) e;refine wpAny_is_plain c ?_;rw[d];exact⟨.bl _,H,I,kA,q⟩
theorem O9:∀{a:List Str}{us},fQ (a.map V.str) us->StrsAre us a
|[],_,r=>by rw[pP]at r;cases r;exact .nil
|y::a,us,r=>by
 rw[bI]at r
 cases r with
 |cons b c=>
  obtain⟨t,rfl⟩:=b;exact .cons y t (O9 c)
def oH:Q9 X "str.join" (λx c H Q=>∃z p a,x=.str z/\c=[.ref p]/\mK X.K H p (a.map V.str)/\(a.map (·.length)).sum+a.length*z.length<=16777216/\Q (.str (Txt.join z a)) H):=by
 intro b s o H x c v n Q I l r h;obtain⟨z,p,a,rfl,rfl,d,e,q⟩:=h;obtain⟨t,rfl⟩:=l;obtain⟨u,rfl,i⟩:=nI r;cases i;obtain⟨f,j,g,_⟩:=I.list d;exact PyProof.Rows.join_list g.isList (by simpa using O9 j) e λm k=>⟨.str _,H,I.tok k,⟨m,kA⟩,q⟩
def NA(K:aI)(H:Hp):V->String->Prop
|.non,T=>T="NoneType"
|.bl _,T=>T="bool"
|.int _,T=>T="int"
|.str _,T=>T="str"
|.ref p,T=>(T="list"/\∃a,mK K H p a)\/(T="tuple"/\∃a,oR K H p a)\/(T="list"/\∃P,H p=some (.ext P)/\∀h:Heap,P h->∃o,h.get? p=some o/\o.cls=.type "list")
|_,_=>False
def Wq{E:Value->Shared->Prop}{Q:Value->Shared->Prop}{b:Bool}(I:dJ X pins σ H s)(g:fS x u)(ty:NA X.K H x T)
  (e:lS X.K (.type T) c=some b) (h:∀m,Q (.bool b) { s with toks:=m }):wpAny (model X.prog X.w) A (call (.builtin "isinstance") [u,c]) Q E s:=by
 cases x with
 |non=>cases (show T="NoneType" from ty);exact vA I g .non e h
 |bl y=>cases (show T="bool" from ty);exact vA I g (.bl y) e h
 |int i=>cases (show T="int" from ty);exact vA I g (.int i) e h
 |str y=>cases (show T="str" from ty);exact vA I g (.str y) e h
 |ref p=>
  cases g;rcases ty with⟨rfl,q,f⟩ | ⟨rfl,q,f⟩ | ⟨rfl,P,f,l⟩
  ·obtain⟨j,_,k,_⟩:=I.list f;obtain⟨o,n,d,a,_⟩:=k;exact eO pY I.kIn ⟨o,d,a⟩ e (λz=>nomatch z) h
  ·obtain⟨j,_,k,_⟩:=I.tuple f;obtain⟨o,d,a,_⟩:=k;exact eO O2 I.kIn ⟨o,d,a⟩ e (λz=>nomatch z) h
  ·obtain⟨o,d,a⟩:=l _ (I.hok p _ f).1;exact eO pY I.kIn ⟨o,d,a⟩ e (λz=>nomatch z) h
 |_=>exact i0 ty
end
end L2
namespace TL
open L2
variable{K:aI}{H J L N:Hp}{B:Hp}{M m:List Addr}{G:List Sl}{F:L2.St}
section
variable{X:Cx}{a b c e:Expr}{O:List Expr}{R P:ET}{pos p:Pos}
def fI(C:Int->Int->Prop)(g:Int->Int->Int):D->D->(D->Prop)->Prop
|.int i,.int j,Q=>C i j/\Q (.int (g i j))
|_,_,_=>False
def Fu(g:Int->Int->Int):D->D->(D->Prop)->Prop
|.int i,.int j,Q=>Q (.int (g i j))
|_,_,_=>False
def Fv(g:Int->Int->Bool):D->D->(D->Prop)->Prop
|.int i,.int j,Q=>Q (.bool (g i j))
|_,_,_=>False
def KL{C:Int->Int->Prop}{g:Int->Int->Int}:zD X (rI C λi j=>.int (g i j)) (fI C g):=by
 intro H m n o x y Q l live d f h k
 cases d with
 |int i=>
  cases f with
  |int j=>exact⟨i,j,kA,kA,h.1,k _ _ H (L2.bB.refl H) (.int _) h.2⟩
  |_=>exact h.elim
 |_=>exact h.elim
def II{g:Int->Int->Int}:zD X (VZ λi j=>.int (g i j)) (Fu g):=by
 intro H m n o x y Q l live d f h k
 cases d with
 |int i=>
  cases f with
  |int j=>exact⟨i,j,kA,kA,k _ _ H (L2.bB.refl H) (.int _) h⟩
  |_=>exact h.elim
 |_=>exact h.elim
def pG{g:Int->Int->Bool}:zD X (VZ λi j=>.bl (g i j)) (Fv g):=by
 intro H m n o x y Q l live d f h k
 cases d with
 |int i=>
  cases f with
  |int j=>exact⟨i,j,kA,kA,k _ _ H (L2.bB.refl H) (.bool _) h⟩
  |_=>exact h.elim
 |_=>exact h.elim
def xu:D->D->(D->Prop)->Prop
|.int i,.int j,Q=>Q (.int (i+j))
|.str x,.str y,Q=>x.length+y.length<=100000/\Q (.str (x++y))
|.tuple x,.tuple y,Q=>x.length+y.length<=100000/\Q (.tuple (x++y))
|.list x,.list y,Q=>x.length+y.length<=100000/\Q (.list (x++y))
|_,_,_=>False
def yA{n:Nat}(h:n<=100000):n<=bF:=by have:bF=2^24:=rfl;lia
def eA:zD X (PN X.K) xu:=by
 intro H m t u x y Q s live q n h k
 cases q with
 |int i=>
  cases n with
  |int j=>exact .inl ⟨i,j,kA,kA,k _ _ H (L2.bB.refl H) (.int _) h⟩
  |_=>exact h.elim
 |str i=>
  cases n with
  |str j=>exact .inr (.inl ⟨i,j,kA,kA,yA h.1,k _ _ H (L2.bB.refl H) (.str _) h.2⟩)
  |_=>exact h.elim
 |tuple q1 d=>
  cases n with
  |tuple l f=>
   refine .inr (.inr (.inl ⟨_,_,_,_,kA,kA,bB.seqT bW q1,bB.seqT bW l,yA (by rw[<- d.length,<- f.length];exact h.1),λz=>?_,λr o=>?_,λr o p g=>?_⟩))
   ·subst z;cases d;exact k _ _ H (L2.bB.refl H) (.tuple l f) h.2
   ·subst o;cases f;have e:=h.2;rw[dH]at e;exact k _ _ H (L2.bB.refl H) (.tuple q1 d) e
   ·exact k _ _ _ (dM g) (oG live g (d.append f)) h.2
  |_=>exact h.elim
 |list q1 d=>
  cases n with
  |list l f=>
   exact .inr (.inr (.inr ⟨_,_,_,_,kA,kA,L2.bB.seq bW q1,L2.bB.seq bW l,yA (by rw[<- d.length,<- f.length];exact h.1),λp g=>k _ _ _ (dM g) (uT live g (d.append f)) h.2⟩))
  |_=>exact h.elim
 |_=>exact h.elim
def Hr:D->D->(D->Prop)->Prop
|.int i,.int j,Q=>O0 i j/\Q (.int (i*j))
|.str z,.int n,Q=>z.length<=1000/\0<=n/\n<=1000/\Q (.str (Txt.mul z n))
|_,_,_=>False
def mM:zD X PL Hr:=by
 intro H m l o x y Q g live f d h k
 cases f with
 |int i=>
  cases d with
  |int j=>exact .inl ⟨i,j,kA,kA,h.1,k _ _ H (L2.bB.refl H) (.int _) h.2⟩
  |_=>exact h.elim
 |str z=>
  cases d with
  |int n=>exact .inr ⟨z,n,kA,kA,h.1,h.2.1,h.2.2.1,k _ _ H (L2.bB.refl H) (.str _) h.2.2.2⟩
  |_=>exact h.elim
 |_=>exact h.elim
noncomputable def wy:D->D->Option Bool
|.none,.none=>some true
|.bool x,.bool y=>some (decide (x=y))
|.int x,.int y=>some (decide (x=y))
|.str x,.str y=>some (decide (x=y))
|.str _,.none | .none,.str _=>some false
|_,_=>none
def Aw(x y:D)(Q:D->Prop):Prop:=match wy x y with | some c=>Q (.bool c) | none=>False
def Av(x y:D)(Q:D->Prop):Prop:=match wy x y with | some c=>Q (.bool (!c)) | none=>False
def MB{x y:D}{u v:V}{c:Bool}(d:gO K H x u)(f:gO K H y v)(h:wy x y=some c):Ac u v=true/\decide (u=v)=c:=by
 unfold wy at h;split at h<;>cases h<;>cases d<;>cases f<;>exact⟨kA,hH⟩
def lO:zD X Aq Aw:=by
 intro H m d f x y Q n live j l h k;unfold Aw at h
 cases e:wy d f with
 |none=>rw[e]at h;exact h.elim
 |some c=>
  rw[e]at h;obtain⟨g,i⟩:=MB j l e;refine⟨g,?_⟩;rw[i];exact k _ _ H (L2.bB.refl H) (.bool c) h
def ya:zD X Ao Av:=by
 intro H m d f x y Q n live j l h k;unfold Av at h
 cases e:wy d f with
 |none=>rw[e]at h;exact h.elim
 |some c=>
  rw[e]at h;obtain⟨g,i⟩:=MB j l e;refine⟨g,?_⟩;rw[i];exact k _ _ H (L2.bB.refl H) (.bool (!c)) h
noncomputable def vB(b:Bool):D->Bool
|.bool c=>decide (c=b)
|_=>false
theorem Reps.atI{i:Int}(r:Reps K H ds vs)(h:atI ds i=some d):∃v,atI vs i=some v/\gO K H d v:=by
 unfold L2.atI at h |-
 rw[<- r.length]
 cases e:OC ds.length i with
 |none=>rw[e]at h;cases h
 |some j=>
  rw[e]at h;exact r.get h
inductive OX(ts:List D)(i:Int)(Q:D->Prop):Prop
|mk (d:D) (h:atI ts i=some d) (k:Q d):OX ts i Q
def Fl(x y:D)(Q:D->Prop):Prop:=match x,y with
|.list ts,.int i=>OX ts i Q
|.tuple ts,.int i=>OX ts i Q
|.str z,.int i=>z.length<=100000/\∃c,atI z.cps.toList i=some c/\Q (.str ⟨#[c]⟩)
|_,_=>False
def cH:zD X (xo X.K) Fl:=by
 intro H m g t x y Q o live l n h k
 cases n with
 |int i=>
  cases l with
  |list q s=>
   obtain⟨d,e,h⟩:=h;obtain⟨v,f,r⟩:=s.atI e;exact .inl ⟨_,_,i,v,kA,kA,L2.bB.seq bW q,f,k _ _ H (L2.bB.refl H) r h⟩
  |tuple q s=>
   obtain⟨d,e,h⟩:=h;obtain⟨v,f,r⟩:=s.atI e;exact .inr (.inl ⟨_,_,i,v,kA,kA,bB.seqT bW q,f,k _ _ H (L2.bB.refl H) r h⟩)
  |str z=>
   obtain⟨j,c,e,h⟩:=h;exact .inr (.inr ⟨z,i,c,kA,kA,yA j,e,k _ _ H (L2.bB.refl H) (.str _) h⟩)
  |_=>exact h.elim
 |_=>cases g<;>exact h.elim
noncomputable def iH{f:Type}(d:List f)(lo g:Option Int):List f:=(d.drop (HT.sIx d.length 0 lo)).take (HT.sIx d.length d.length g-HT.sIx d.length 0 lo)
def Fk(x:D)(lo d:Option Int)(Q:D->Prop):Prop:=match x with
|.list ts=>Q (.list (iH ts lo d))
|.tuple ts=>Q (.tuple (iH ts lo d))
|.str z=>z.length<=100000/\Q (.str (Txt.slice z lo d))
|_=>False
def Reps.cut(r:Reps K H ds vs)(lo d:Option Int):Reps K H (iH ds lo d) (JM vs lo d):=by
 unfold iH JM;rw[r.length];exact(r.drop _).take _
def pC:Ex X (VW X.K) Fk:=by
 intro H m d x lo g Q j live r h k
 cases r with
 |list q s=>exact .inl ⟨_,_,kA,L2.bB.seq bW q,λp f=>k _ _ _ (dM f) (uT live f (s.cut lo g)) h⟩
 |@tuple p xs ts q s=>
  refine .inr (.inl ⟨_,_,kA,bB.seqT bW q,λz=>?_,λ_ p f=>k _ _ _ (dM f) (oG live f (s.cut lo g)) h⟩)
  have e:iH ts lo g=ts:=by
   unfold iH;rw[s.length,z.1,z.2,uL,wJ,<- s.length,dB]
  have i:Q (.tuple (iH ts lo g)):=h;rw[e]at i;exact k _ _ H (L2.bB.refl H) (.tuple q s) i
 |str z=>exact .inr (.inr ⟨z,kA,yA h.1,k _ _ H (L2.bB.refl H) (.str _) h.2⟩)
 |_=>exact h.elim
def Fq(x y:D)(Q:D->Prop):Prop:=match x,y with
|.str z,.str y=>Q (.bool (Txt.contains y z))
|.str z,.list ts=>∃d:List Str,ts=d.map .str/\Q (.bool (decide (z∈d)))
|.str z,.tuple ts=>∃d:List Str,ts=d.map .str/\Q (.bool (decide (z∈d)))
|_,_=>False
theorem uR:∀{d:List Str}{vs},Reps K H (d.map aL) vs->vs=d.map V.str
|[],_,r=>by rw[pP]at r;cases r;rfl
|y::d,vs,r=>by
 rw[bI]at r
 cases r with
 |cons f g=>
  cases f;rw[bI,uR g]
def QI(z:Str)(d:List Str):xr (.str z) (d.map V.str)=decide (z∈d):=by
 unfold xr
 induction d with
 |nil=>simp
 |cons y d f=>
  rw[bI,jL,f,dN];simp only[rB,jT,af,c6,aR];exact⟨λh=>h.imp br id,λh=>h.imp br id⟩
def G2(d:List Str):(d.map V.str).all yH=true:=by
 induction d with
 |nil=>rfl
 |cons y d f=>rw[bI,KQ,f];rfl
def VY(K:aI):R2:=λx y H Q=>(∃i j,x=.str i/\y=.str j/\Q (.bl (!(j0 j i 0 j.length 1).isEmpty)) H)\/Ap K false x y H Q
def tQ:nW X (c8 .In) (VY X.K):=GH.or SA
def WY:zD X (VY X.K) Fq:=by
 intro H m l f x y Q j live g i h k
 cases g with
 |str z=>
  cases i with
  |str w=>exact .inl ⟨z,w,kA,kA,k _ _ H (L2.bB.refl H) (.bool _) h⟩
  |list q s=>
   obtain⟨d,rfl,h⟩:=h;have e:=uR s;subst e;refine .inr ⟨_,_,kA,.inl (L2.bB.seq bW q),kA,G2 d,?_⟩;rw[a8 gV,QI];exact k _ _ H (L2.bB.refl H) (.bool _) h
  |tuple q s=>
   obtain⟨d,rfl,h⟩:=h;have e:=uR s;subst e;refine .inr ⟨_,_,kA,.inr (bB.seqT bW q),kA,G2 d,?_⟩;rw[a8 gV,QI];exact k _ _ H (L2.bB.refl H) (.bool _) h
  |_=>exact h.elim
 |_=>cases f<;>exact h.elim
def aT3(x y:D)(Q:D->Prop):Prop:=match x,y with
|.str z,.list ts=>∃d:List Str,ts=d.map .str/\Q (.bool (!decide (z∈d)))
|.str z,.tuple ts=>∃d:List Str,ts=d.map .str/\Q (.bool (!decide (z∈d)))
|_,_=>False
def Cm{r:List V->Hp->VK->Prop}{f:List D->(D->Prop)->Prop}(q:pW X r f)(n:vW X (e::O) t)(u:∀{R},PA X (e::O) R->PE X (.Call g (e::O) [] pos) (wg r R)):gR X (.Call g (e::O) [] pos) (kG f t):=by
 obtain⟨v,s,z⟩:=n;refine⟨_,u s,λB M H m G F Q j o h k=>z B M H m G F _ _ o h λl C L i y q1=>?_⟩;exact q L m l C Q j (o.grow i).live y q1 λd v J A x w=>k d v J (i.trans A) x w
def f1(f:D->(D->Prop)->Prop):List D->(D->Prop)->Prop
|[d],Q=>f d Q
|_,_=>False
def c1{r:List V->Hp->VK->Prop}{f:D->(D->Prop)->Prop}(h:∀H m(d:D)(x:V)(Q:D->Prop)g,(∀p∈m,AJ (H p))->gO X.K (mask H m) d x->f d Q ->
  (∀d v J,bB H J->gO X.K (mask J m) d v->Q d->g v J)->r [x] H g):pW X r (f1 f):=by
 intro H m o q Q g live n i k
 cases n with
 |nil=>exact i.elim
 |cons j l=>
  cases l with
  |nil=>exact h H m _ _ Q g live j i k
  |cons _ _=>exact i.elim
def Bd(d:D)(Q:D->Prop):Prop:=match d with
|.list ts=>Q (.int ts.length)
|.tuple ts=>Q (.int ts.length)
|.str z=>z.length<=100000/\Q (.int z.length)
|_=>False
def cO:lR X (.builtin "len") (λf H Q=>(∃p d,f=[.ref p]/\(mK X.K H p d\/oR X.K H p d)/\Q (.int d.length) H)\/∃z,f=[.str z]/\z.length<=bF/\Q (.int z.length) H):=JS.or JR
def iS:pW X (λg H Q=>(∃p f,g=[.ref p]/\(mK X.K H p f\/oR X.K H p f)/\Q (.int f.length) H)\/∃z,g=[.str z]/\z.length<=bF/\Q (.int z.length) H) (f1 Bd):=c1 λH m d x Q i live r h k=>by
 cases r with
 |list q s=>
  refine .inl ⟨_,_,kA,.inl (L2.bB.seq bW q),?_⟩;rw[<- s.length];exact k _ _ H (L2.bB.refl H) (.int _) h
 |tuple q s=>
  refine .inl ⟨_,_,kA,.inr (bB.seqT bW q),?_⟩;rw[<- s.length];exact k _ _ H (L2.bB.refl H) (.int _) h
 |str z=>exact .inr ⟨z,kA,yA h.1,k _ _ H (L2.bB.refl H) (.int _) h.2⟩
 |_=>exact h.elim
def wV(d:D)(Q:D->Prop):Prop:=match d with
|.list ts=>Q (.tuple ts)
|.tuple ts=>Q (.tuple ts)
|_=>False
def nQ:pW X (λi H Q=>∃p f,i=[.ref p]/\((mK X.K H p f/\∀l,H l=none->Q (.ref l) (fG H l (.tup f)))\/(oR X.K H p f/\Q (.ref p) H))) (f1 wV):=c1 λH m d x Q j live r h k=>by
 cases r with
 |list q s=>exact⟨_,_,kA,.inl ⟨L2.bB.seq bW q,λl g=>k _ _ _ (dM g) (oG live g s) h⟩⟩
 |tuple q s=>exact⟨_,_,kA,.inr ⟨bB.seqT bW q,k _ _ H (L2.bB.refl H) (.tuple q s) h⟩⟩
 |_=>exact h.elim
def Jq(d:D)(Q:D->Prop):Prop:=match d with
|.list ts=>Q (.list ts)
|.tuple ts=>Q (.list ts)
|_=>False
def Su:pW X (λi H Q=>∃p g,i=[.ref p]/\(mK X.K H p g\/oR X.K H p g)/\∀l,H l=none->Q (.ref l) (fG H l (.lst g))) (f1 Jq):=c1 λH m d x Q j live r h k=>by
 cases r with
 |list q s=>exact⟨_,_,kA,.inl (L2.bB.seq bW q),λl f=>k _ _ _ (dM f) (uT live f s) h⟩
 |tuple q s=>exact⟨_,_,kA,.inr (bB.seqT bW q),λl f=>k _ _ _ (dM f) (uT live f s) h⟩
 |_=>exact h.elim
theorem LD:∀{d:List Bool}{vs},Reps K H (d.map aJb) vs->vs=d.map V.bl
|[],_,r=>by rw[pP]at r;cases r;rfl
|y::d,vs,r=>by
 rw[bI]at r
 cases r with
 |cons f g=>
  cases f;rw[bI,LD g]
theorem uS:∀{d:List Int}{vs},Reps K H (d.map bO) vs->vs=d.map V.int
|[],_,r=>by rw[pP]at r;cases r;rfl
|y::d,vs,r=>by
 rw[bI]at r
 cases r with
 |cons f g=>
  cases f;rw[bI,uS g]
def Bc(d:D)(Q:D->Prop):Prop:=∃bs:List Bool,d=.list (bs.map aJb)/\Q (.bool (bs.all id))
def Ce:pW X (λf H Q=>∃(p:Addr)(bs:List Bool),f=[.ref p]/\mK X.K H p (bs.map V.bl)/\Q (.bl (bs.all id)) H) (f1 Bc):=c1 λH m d x Q g live r h k=>by
 obtain⟨bs,rfl,h⟩:=h
 cases r with
 |list q s=>
  have e:=LD s;subst e;exact⟨_,bs,kA,L2.bB.seq bW q,k _ _ H (L2.bB.refl H) (.bool _) h⟩
def f2(f:D->D->(D->Prop)->Prop):List D->(D->Prop)->Prop
|[d,d'],Q=>f d d' Q
|_,_=>False
noncomputable def yo:D->String
|.none=>"NoneType"
|.bool _=>"bool"
|.int _=>"int"
|.str _=>"str"
|.list _=>"list"
|.tuple _=>"tuple"
|.dict []=>"list"
|.dict [(.none,_)]=>"list"
|.dict _=>"dict"
noncomputable def wk(T:String)(d:D):Bool:=(yo d==T)||(T=="int"&&yo d=="bool")
def JB{i:Int}(h:T∈["int","str","list","tuple","bool"]):wk T (.dict [(.int i,x)])=false:=by
 simp only[aR,cX,g8]at h;rcases h with rfl | rfl | rfl | rfl | rfl<;>rfl
def zr(T:String)(d:D)(Q:D->Prop):Prop:=match d with | .dict ((.str _,_)::_)=>False | d=>Q (.bool (wk T d))
def Wp{Q:D->Prop}(h:∀x y r,d≠.dict ((.str x,y)::r))(q:zr T d Q):Q (.bool (wk T d)):=by
 unfold zr at q;split at q
 ·exact q.elim
 ·exact q
def Gm(T:String)(P:ET):ET:=λF Q=>P F λd=>zr T d Q
def Cb(K:aI)(T:String):Prop:=∀tn∈["NoneType","bool","int","str","list","tuple"],lS K (.type tn) (.type T)=some ((tn==T)||(T=="int"&&tn=="bool"))
def zz(K:aI)(T:String):List V->Hp->VK->Prop:=λg H Q=>∃x b,g=[x,.ty T]/\((∃f,NA K H x f/\lS K (.type f) (.type T)=some b)\/(∃p C dx,x=.ref p/\H p=some (.ext (L9 p C dx))/\(∀d,dx=some d->∃fs,H d=some (.xd fs))/\JZ K C/\lS K (.ref C) (.type T)=some b))/\Q (.bl b) H
def OD{F}{H:Hp}{E:Value->Shared->Prop}{Q:Value->Shared->Prop}{p C:Addr}{c}{b:Bool}(I:dJ X pins F H s)(q:H p=some (.ext (L9 p C dx)))(hd:∀d,dx=some d->∃fs,H d=some (.xd fs))(x:JZ X.K C)
  (e:lS X.K (.ref C) c=some b) (h:∀t,Q (.bool b) { s with toks:=t }):wpAny (model X.prog X.w) A (call (.builtin "isinstance") [.ref p,c]) Q E s:=by
 refine eO (X1 x) I.kIn ?_ e (λz=>nomatch z) h;obtain⟨⟨o,vs,f,g,i,k⟩,_⟩:=I.hok p _ q;have j:ZQ o=true:=by unfold ZQ;rw[k]
 cases dx with
 |none=>exact⟨o,none,f,g,j,by rw[i];trivial⟩
 |some d=>
  obtain⟨fs,n⟩:=hd d kA;obtain⟨v,⟨r,O,u,l,_⟩,_⟩:=I.hok d _ n;exact⟨o,some r,f,g,j,by rw[i];exact l⟩
def ZA:lR X (.builtin "isinstance") (zz X.K T):=by
 intro i s F H t o Q I r h;obtain⟨x,b,rfl,⟨n,k,hk⟩ | ⟨p,C,dx,rfl,j,hd,l,hk⟩,q⟩:=h
 ·obtain⟨u,w,rfl,f,d⟩:=El r;cases d;exact Wq I f k hk λg=>⟨.bl b,H,I.tok g,kA,q⟩
 ·obtain⟨u,w,rfl,f,d⟩:=El r;cases d;cases f;exact OD I j hd l hk λg=>⟨.bl b,H,I.tok g,kA,q⟩
def Ta(hk:Cb X.K T)(A:gR X e P)
  (E:∀{v},PE X e v->PE X (.Call g1 [e,g2] [] pos) (wg (zz X.K T) (xP v (xP (tC (.ty T)) KZ))))
  (l:autoParam (T∈["int","str","list","tuple","bool"]) zzy._auto_1):gR X (.Call g1 [e,g2] [] pos) (Gm T P):=by
 obtain⟨v,I,U⟩:=A;refine⟨_,E I,λB M H m G F Q w o h k=>U B M H m G F _ _ o h λd x L n S q1=>?_⟩
 have fin:∀j,j∈["NoneType","bool","int","str","list","tuple"]->yo d=j->NA X.K L x j->zz X.K T [x,V.ty T] L w:=λj t u C=>by
  refine⟨x,_,kA,.inl ⟨j,C,hk j t⟩,?_⟩;have q:Q (.bool (wk T d)):=Wp (λx y r z=>by subst z;have W:("dict":String)=j:=u;subst W;exact b9 t gV) q1;unfold wk at q;rw[u]at q;exact k _ _ L n (.bool _) q
 cases S with
 |none=>exact fin "NoneType" hH kA kA
 |bool b=>exact fin "bool" hH kA kA
 |int i=>exact fin "int" hH kA kA
 |str z=>exact fin "str" hH kA kA
 |list q s=>exact fin "list" hH kA (.inl ⟨kA,_,L2.bB.seq bW q⟩)
 |tuple q s=>exact fin "tuple" hH kA (.inr (.inl ⟨kA,_,bB.seqT bW q⟩))
 |wild h=>exact fin "list" hH kA (.inr (.inr ⟨kA,_,bW _ _ h,λ_ ⟨_,_,e,_⟩=>⟨_,e,kA⟩⟩))
 |tape h _=>exact fin "list" hH kA (.inr (.inr ⟨kA,_,bW _ _ h,λ_ ⟨_,_,_,_,_,_,_,e,_⟩=>⟨_,e,kA⟩⟩))
 |exc x h=>
  refine⟨_,false,kA,.inr ⟨_,_,_,kA,bW _ _ h,(λ_ z=>nomatch z),x.1,x.2 T l⟩,?_⟩;have f:Q (.bool (wk T (.dict _))):=q1;rw[JB l]at f;exact k _ _ L n (.bool _) f
 |excA x h g=>
  refine⟨_,false,kA,.inr ⟨_,_,_,kA,bW _ _ h,λ_ z=>by cases z;exact⟨_,bW _ _ g⟩,x.1,x.2 T l⟩,?_⟩;have f:Q (.bool (wk T (.dict _))):=q1;rw[JB l]at f;exact k _ _ L n (.bool _) f
 |excD x h g _=>
  refine⟨_,false,kA,.inr ⟨_,_,_,kA,bW _ _ h,λ_ z=>by cases z;exact⟨_,bW _ _ g⟩,x.1,x.2 T l⟩,?_⟩;have f:Q (.bool (wk T (.dict _))):=q1;rw[JB l]at f;exact k _ _ L n (.bool _) f
 |dct _ _ _ _=>exact(show False from q1).elim
 |addr z=>exact(show False from q1).elim
 |ins _ _=>exact(show False from q1).elim
def QR(f:Str->List D->(D->Prop)->Prop)(P:ET)(t:AT):ET:=λF Q=>P F λd=>∃z,d=.str z/\t F λg=>f z g Q
def Jp(z:Str)(f:List D)(Q:D->Prop):Prop:=match f with | [.list ts]=>∃d:List Str,ts=d.map aL/\(d.map (·.length)).sum+d.length*z.length<=16777216/\Q (.str (Txt.join z d)) | _=>False
def SR{f:Str->List D->(D->Prop)->Prop}{r:V->List V->Hp->VK->Prop}(w:gR X n P)(s:vW X (e::O) t)
  (u:∀H m(z:Str)(j:List D)(l:List V)(Q:D->Prop)i,Reps X.K (mask H m) j l->f z j Q->(∀d v J,bB H J->gO X.K (mask J m) d v->Q d->i v J)->r (.str z) l H i)
  (A:∀{v R},PE X n v->PA X (e::O) R->PE X (.Call g (e::O) [] pos) (ZV X.K "str" r v R)):gR X (.Call g (e::O) [] pos) (QR f P t):=by
 obtain⟨v,C,Y⟩:=w;obtain⟨va,y,W⟩:=s;refine⟨_,A C y,λB M H m G F Q i o h k=>Y B M H m G F _ _ o h λd x L q T q1=>?_⟩;obtain⟨z,rfl,q1⟩:=q1;cases T;refine⟨kA,W B M L m G F _ _ (o.grow q) q1 λj l N s2 U I=>?_⟩;exact u N m z j l Q i U I λd v J Z S E=>k d v J (q.trans (s2.trans Z)) S E
def oI(j:gR X n P)(i:vW X (e::O) t)
  (o:∀{v R},PE X n v->PA X (e::O) R->PE X (.Call (.Attribute n "join" ap) (e::O) [] pos) (ZV X.K "str" (λx g H Q=>∃z p d,x=.str z/\g=[.ref p]/\mK X.K H p (d.map V.str)/\(d.map (·.length)).sum+d.length*z.length<=16777216/\Q (.str (Txt.join z d)) H) v R)):gR X (.Call (.Attribute n "join" ap) (e::O) [] pos) (QR Jp P t):=
 SR j i (λH m z y g Q w r h k=>by
  cases r with
  |nil=>exact h.elim
  |cons f u=>
   cases u with
   |cons _ _=>cases f<;>exact h.elim
   |nil=>
    cases f with
    |list q s=>
     obtain⟨d,rfl,l,h⟩:=h;have e:=uR s;subst e;exact⟨z,_,d,kA,kA,L2.bB.seq bW q,l,k _ _ H (L2.bB.refl H) (.str _) h⟩
    |_=>exact h.elim) o
def gO.reads{k:List (Addr×Obj)}{s:Shared}{F:L2.St}(I:dJ X k F H s){d:D}{x:V}{u:Value}(hd:d.hasDict=false)(r:gO X.K H d x)(l:fS x u):∃f,Reads s.heap u d f:=by
 refine gO.rec (motive_1:=λd x _=>∀u,d.hasDict=false->fS x u->∃f,Reads s.heap u d f) (motive_2:=λv E _=>∀w,lI v=false->fQ E w->∃f,ReadsAll s.heap w v f)
  (λu _ r=>by cases r;exact⟨_,.none⟩) (λb u _ r=>by cases r;exact⟨_,.bool b⟩) (λi u _ r=>by obtain⟨t,rfl⟩:=r;exact⟨_,.int i t⟩) (λz u _ r=>by obtain⟨t,rfl⟩:=r;exact⟨_,.str z t⟩)
  (λq _ a u hd r=>?_) (λq _ a u hd r=>?_) ?_ ?_ ?_ ?_ ?_ ?_ ?_ ?_ (λw _ r=>by cases r;exact⟨_,.nil⟩) (λ{d v x E} _ _ a b w hd r=>?_) r u hd l
 ·cases r;obtain⟨C,l,⟨o,n,h,j,_,y⟩,_⟩:=I.list q;obtain⟨f,A⟩:=a _ hd l;exact⟨_,.list h j y (by simpa using A)⟩
 ·cases r;obtain⟨C,l,⟨o,h,j,n,y⟩,_⟩:=I.tuple q;obtain⟨f,A⟩:=a _ hd l;exact⟨_,.tuple h j y (by simpa using A)⟩
 case refine_11=>
  have g:(d.hasDict||lI v)=false:=hd;rw[mH]at g
  cases r with
  |cons Q S=>
   obtain⟨f,h⟩:=a _ g.1 Q;obtain⟨bs,j⟩:=b _ g.2 S;exact⟨_,.cons h j⟩
 all_goals intros;rename_i hd _;cases hd
end
end TL
namespace TL
open L2
noncomputable def zm(a:List (Str×k5)):Bool:=match a.filter (λy=>y.2==d0)with
|[]=>true
|[x]=>a.lookup x.1==some .cell
|_=>false
def Xj(h:zm names=true):vI names:=by
 unfold zm at h;split at h
 ·rename_i e;exact .inl e
 ·rename_i x e;have a:x∈names.filter (λy=>y.2==d0):=by rw[e];exact bP.mpr kA
  have hk:x.2=.cell:=ah (cW.mp a).2;exact .inr ⟨x.1,by rw[e,<- hk],beq_iff_eq.mp h⟩
 ·cases h
noncomputable def mZ(a b:Scope)(d c:List Str)(e:List (Option Nat)):Bool:=
 decide (a.kind=.function)&&zm a.names&&a.names.all (λy=>decide (y.2≠.free)||decide (b.names.lookup y.1=some .cell))&&a.names.all (λy=>decide (y.2≠.local)||decide (a.names.lookup y.1=some .local))&&tZ a.names b.names d c e
section
variable{X:Cx}{c iter j:Expr}{d:List Expr}{a:Scope}{pos:Pos}{f:List Str}{k:List (Option Nat)}{n:TI}{g:BP->TG}{m:BP->TT}{l:BP->TE}
def GP{b:Scope}(h:mZ a b Nx f k=true):a.kind=.function/\vI a.names/\(∀y∈a.names,y.2=.free->b.names.lookup y.1=some .cell)/\(∀y∈a.names,y.2=.local->a.names.lookup y.1=some .local)/\tZ a.names b.names Nx f k=true:=by
 unfold mZ at h;simp only[cS,gW,jT,c6]at h;obtain⟨⟨⟨⟨o,p⟩,q⟩,r⟩,s⟩:=h;exact⟨o,Xj p,λy i e=>(q y i).elim (λz=>b9 e z) id,λy i e=>(r y i).elim (λz=>b9 e z) id,s⟩
def WG(h:mZ a X.env.scope X.N f k=true)(e:X.calm=true)(t:PI X j iter n)
  (s:∀b:BP,PG (blk X a f b) j (g b)/\OU (blk X a f b) d (m b)/\PE (blk X a f b) c (l b)) (u:autoParam (∀x,i6 iter X.env x=pure x) zzx._auto_1):PE X (.ListComp c [⟨j,iter,d,0⟩] a pos) (VC k n g m l):=by
 obtain⟨i,o,p,q,r⟩:=GP h;exact Lo e i o r p q t s u
def iP{i:Nat}{r e:Pos}(h:mZ a X.env.scope X.N f k=true)(y:X.N.Nodup)(p:X.N[i]?=some x)(E:UM X.env.scope x)(o:X.calm=true)(B:PI X j iter n)
  (z:∀b:BP,PG (blk X a f b) j (g b)/\OU (blk X a f b) d (m b)/\PE (blk X a f b) c (l b))
  (q:mF (.ListComp c [⟨j,iter,d,0⟩] a pos) (some (.Name x r)) e.line X.env=pure true) (C:autoParam (∀x,i6 iter X.env x=pure x) zzx._auto_1) (A:autoParam (X.fn x=true\/X.env.scope.names.lookup x=some .local) zzv._auto_1) :
  PS X (.Assign [.Name x r] (.ListComp c [⟨j,iter,d,0⟩] a pos) e) (vN (VC k n g m l) (lP i)):=by
 obtain⟨s,t,u,v,w⟩:=GP h;exact V5 y p E o s t w u v B z q C A
end
def ZG:d7 "all"=some (.builtin "all"):=by decide +kernel
def ZE:d7 "max"=some (.builtin "max"):=by decide +kernel
def FN:d7 "isinstance"=some (.builtin "isinstance"):=by decide +kernel
def fX:d7 "len"=some (.builtin "len"):=by decide +kernel
def kX:d7 "tuple"=some (.type "tuple"):=by decide +kernel
def JT:d7 "list"=some (.type "list"):=by decide +kernel
def sD:d7 "str"=some (.type "str"):=by decide +kernel
def ZF:d7 "int"=some (.type "int"):=by decide +kernel
def SX(K:aI):Cb K "tuple":=by
 intro a h;simp only[aR,cX,g8]at h;rcases h with rfl | rfl | rfl | rfl | rfl | rfl<;>first | rfl | (with_unfolding_all rfl) | decide +kernel
def HR{d:Type}(l:List d)(i:Nat)(a b:d):(l.set i a).set i b=l.set i b:=by
 apply iY;intro j;by_cases h:i=j
 ·subst h;by_cases c:i<l.length
  ·rw[bV (by simpa using c),bV c]
  ·rw[eB (by simpa using c),eB (by simpa using c)]
 ·rw[bU h,bU h,bU h]
def Cz{f:List D}{i:List Sl}{te:ET}{Q:D->Prop}(R:Nat->D->D->Prop)(w:f.length<=100000)
  (u:∀(k:Nat)(x:D)(q:D->Prop),f[k]?=some x->(∀y,R k x y->q y)->te (i.set 0 (.val x)) q)
  (t:∀m:List D,m.length=f.length->(∀(k:Nat)(x y:D),f[k]?=some x->m[k]?=some y->R k x y)->Q (.list m)) :
  f.length<=100000/\∃P:Nat->List Sl->List D->Prop,P 0 i [] /\
   (∀(k:Nat)(x:D)(a:List Sl)(c:List D),f[k]?=some x->P k a c->gN 0 x a λd=>EQ d λb=>if b=true then te d λy=>P (k+1) d (c++[y])else P (k+1) d c)/\∀a c,P f.length a c->Q (.list c):=by
 refine⟨w,λk a c=>(∀x,a.set 0 (.val x)=i.set 0 (.val x))/\c.length=k/\∀(j:Nat)(x y:D),f[j]?=some x->c[j]?=some y->R j x y,⟨λ_=>rfl,kA,λj x y _ h=>by simp at h⟩,λk x a c p h=>?_,λa c h=>t c h.2.1 h.2.2⟩;obtain⟨r,o,s⟩:=h;show te (a.set 0 (.val x)) _;rw[r x];refine u k x _ p λy v=>⟨λz=>HR _ _ _ _,by simp[o],λj A B l g=>?_⟩;by_cases C:j<k
 ·rw[eE hG]at g;exact s j A B l g
 ·rw[dW hG]at g
  have:j=k:=by
   by_cases e:j=k
   ·exact e
   ·have:j-c.length≠0:=by lia
    cases q:j-c.length with
    |zero=>exact b9 q this
    |succ n=>rw[q]at g;simp at g
  subst this;rw[p]at l;cases l;simp[o]at g;subst g;exact v
def Tu{d:List D}{l:List Sl}{te:ET}{Q:D->Prop}(f:D->D)(s:d.length<=100000)(r:∀(x:D)(q:D->Prop),x∈d->q (f x)->te (l.set 0 (.val x)) q)(p:Q (.list (d.map f))) :
  d.length<=100000/\∃P:Nat->List Sl->List D->Prop,P 0 l [] /\
   (∀(k:Nat)(x:D)a(g:List D),d[k]?=some x->P k a g->gN 0 x a λc=>EQ c λb=>if b=true then te c λy=>P (k+1) c (g++[y])else P (k+1) c g)/\∀a g,P d.length a g->Q (.list g):=by
 refine Cz (λk x y=>y=f x) s (λk x q j h=>r x q (aV j) (h _ kA)) λm o h=>?_
 have e:m=d.map f:=by
  apply iY;intro i;rw[aM]
  cases j:d[i]? with
  |none=>
   rw[eB (by rw[o];exact qL.mp j)];rfl
  |some x=>
   have n:i<m.length:=by rw[o];exact(aG.mp j).1
   have:=h i x m[i] j (aD n);rw[aD n,this];rfl
 rw[e];exact p
def Yd{c:List D}{i:List Sl}{tt:wF}{te:ET}{Q:D->Prop}(p:D->Bool)(f:D->D)(t:c.length<=100000)(o:∀(x:D)(q:Bool->Prop),x∈c->q (p x)->tt (i.set 0 (.val x)) q)
  (s:∀(x:D)(q:D->Prop),x∈c->q (f x)->te (i.set 0 (.val x)) q) (r:Q (.list ((c.filter p).map f))) :
  c.length<=100000/\∃P:Nat->List Sl->List D->Prop,P 0 i [] /\
   (∀(k:Nat)(x:D)(a:List Sl)(d:List D),c[k]?=some x->P k a d->gN 0 x a λg=>tt g λb=>if b=true then te g λy=>P (k+1) g (d++[y])else P (k+1) g d)/\∀a d,P c.length a d->Q (.list d):=by
 refine⟨t,λk a d=>(∀x,a.set 0 (.val x)=i.set 0 (.val x))/\d=((c.take k).filter p).map f,⟨λ_=>rfl,kA⟩,λk x a d m h=>?_,λa d h=>?_⟩
 ·obtain⟨n,rfl⟩:=h;have l:x∈c:=aV m;show tt (a.set 0 (.val x)) _;rw[n x];refine o x _ l ?_;have e:c.take (k+1)=c.take k++[x]:=by rw[cI,m];rfl
  cases j:p x with
  |true=>
   rw[a9 rfl];refine s x _ l ⟨λz=>HR _ _ _ _,?_⟩;rw[e,gA,bT];simp[j]
  |false=>
   rw[a8 gV];refine⟨λz=>HR _ _ _ _,?_⟩;rw[e,gA,bT];simp[j]
 ·obtain⟨_,rfl⟩:=h;rw[dB];exact r
section
variable{d:List (Option Nat)}{c:IT}{e:wF}{b:ET}{a:List Sl}{Q:D->Prop}{ts:List D}
abbrev uH(c:IT)(a:List Sl)(ts:List D):Prop:=∀R:List D->Prop,R ts->c a R
def gD(g:uH c a ts)(f:D->D)(j:ts.length<=100000)(i:∀(x:D)(q:D->Prop),x∈ts->q (f x)->b ((kF d a).set 0 (.val x)) q)(h:Q (.list (ts.map f))):Y1 d c (gN 0) EQ b a Q:=
 g _ (Tu (te:=b) (Q:=Q) f j i h)
def IW(f:uH c a ts)(R:Nat->D->D->Prop)(j:ts.length<=100000)
  (i:∀(k:Nat)(x:D)(q:D->Prop),ts[k]?=some x->(∀y,R k x y->q y)->b ((kF d a).set 0 (.val x)) q)
  (h:∀g:List D,g.length=ts.length->(∀(k:Nat)(x y:D),ts[k]?=some x->g[k]?=some y->R k x y)->Q (.list g)):Y1 d c (gN 0) EQ b a Q:=
 f _ (Cz (te:=b) (Q:=Q) R j i h)
def nO(g:uH c a ts)(p:D->Bool)(f:D->D)(k:ts.length<=100000)(h:∀(x:D)(q:Bool->Prop),x∈ts->q (p x)->e ((kF d a).set 0 (.val x)) q)
  (j:∀(x:D)(q:D->Prop),x∈ts->q (f x)->b ((kF d a).set 0 (.val x)) q) (i:Q (.list ((ts.filter p).map f))):Y1 d c (gN 0) e b a Q:=
 g _ (Yd (tt:=e) (te:=b) (Q:=Q) p f k h j i)
def Bb{g:GT}{DT:wH}(h:uH c a ts)(P:Nat->List Sl->Prop)(j:P 0 a)
  (l:∀(k:Nat)(x:D)f,ts[k]?=some x->P k f->g x f λi=>tb { DT with nx:=P (k+1),ct:=P (k+1),bk:=DT.nx } i) (hd:∀f,P ts.length f->DT.nx f):VN c g tb DT a:=h _ ⟨P,j,l,hd⟩
end
def vH(x y:Str):(x++y).cps.toList=x.cps.toList++y.cps.toList:=by
 show(x.cps++y.cps).toList=_;simp
def G4{x y:Str}(h:x.cps.toList=y.cps.toList):x=y:=by
 cases x with
 |mk a=>
  cases y with
  |mk b=>
   have:a=b:=by simpa using e5 aJr h
   rw[this]
def NR(b:Array Nat)(a k:Nat):(fZ k).filterMap (λm=>b[a+m]?)=(b.toList.drop a).take k:=by
 induction k with
 |zero=>simp
 |succ k c=>
  rw[FD,List.filterMap_append,c,cI,nH];congr 1;simp only[pO,List.filterMap_nil];rw[lK];cases b[a+k]?<;>rfl
def Q0(v:Option Int)(n d:Nat)(hd:d<=n):(match v with | none=>(d:Int) | some i=>max 0 (min (if i<0 then i+(n:Int)else i) (n:Int)))=((HT.sIx n d v:Nat):Int):=by
 cases v with
 |none=>rfl
 |some i=>
  have:=HT.clip_eq i n d;rw[<- this];dsimp only;split<;>lia
def Y7(v:Option Int)(n:Nat):(match v with | none=>(0:Int) | some i=>max 0 (min (if i<0 then i+(n:Int)else i) (n:Int)))=((HT.sIx n 0 v:Nat):Int):=Q0 v n 0 (cJ _)
def VI{a c b d:Int}(e:a=c)(f:b=d):gx a b 1=gx c d 1:=by rw[e,f]
def tL(z:Str)(lo c:Option Int):(Txt.slice z lo c).cps.toList=iH z.cps.toList lo c:=by
 have d:z.cps.toList.length=z.length:=by simp[q9]
 have j:=HT.sIx_le z.length 0 (cJ _) lo;have l:=HT.sIx_le z.length z.length (aN _) c
 have i:z6 lo c 1 z.length=(fZ (HT.sIx z.length z.length c-HT.sIx z.length 0 lo)).map (λk=>HT.sIx z.length 0 lo+k):=by
  unfold z6;simp only[show(1:Int)>0 by decide,l7];refine(VI (Y7 lo z.length) (Q0 c z.length z.length (aN _))).trans ?_;unfold gx;simp only[show(1:Int)>0 by decide,l7]
  generalize HT.sIx z.length 0 lo=a
  generalize HT.sIx z.length z.length c=b
  have e:(if(a:Int)<(b:Int)then((b:Int)-a+1-1) / 1 else 0).toNat=b-a:=by split<;>lia
  rw[e];apply iC;intro k _;lia
 unfold Txt.slice iH;rw[d,i]
 generalize HT.sIx z.length 0 lo=a at *
 generalize HT.sIx z.length z.length c=b at *
 split
 ·next h=>
  simp only[beq_self_eq_true,lJ,af,aA,nX]at h;have f:a=0:=by lia
  have g:b-a=z.cps.toList.length:=by rw[d];exact h
  rw[g,f,wJ,dB]
 ·rw[UT];exact NR z.cps a (b-a)
def OB:∀a:List Str,(Txt.join ⟨#[]⟩ a).cps.toList=(a.map (·.cps.toList)).flatten:=by
 intro a;show(t4 ⟨#[]⟩ a).cps.toList=_;rw[m7]
 induction a with
 |nil=>rfl
 |cons x a b=>
  cases a with
  |nil=>simp[ed]
  |cons y r=>
   show(x++⟨#[]⟩++ed ⟨#[]⟩ (y::r)).cps.toList=_;rw[vH,vH,b];simp
def X9(x:Str)(c:Nat):Txt.contains x ⟨#[c]⟩=decide (c∈x.cps.toList):=StrLaws.found_one x c
section
variable{f:ET}{u t e:wG}{c:wF}{d:wH}{a:List Sl}{i:Nat}
def bX(v:D)(h:∀q:D->Prop,q v->f a q)(k:u d (a.set i (.val v))):gL (LB i f) u d a:=h _ k
def fC(R:D->Prop)(h:∀q:D->Prop,(∀v,R v->q v)->f a q)(k:∀v,R v->u d (a.set i (.val v))):gL (LB i f) u d a:=h _ k
def eZ(R:Bool->Prop)(h:∀q:Bool->Prop,(∀b,R b->q b)->c a q)(k:R true->t { d with nx:=u d } a)(j:R false->e { d with nx:=u d } a):gL (xc c t e) u d a:=by
 refine h _ λb g=>?_
 cases b with
 |true=>rw[a9 rfl];exact k g
 |false=>rw[a8 gV];exact j g
def rT(R:Bool->Prop)(h:∀q:Bool->Prop,(∀b,R b->q b)->c a q)(k:R true->t d a)(j:R false->e d a):xc c t e d a:=by
 refine h _ λb g=>?_
 cases b with
 |true=>rw[a9 rfl];exact k g
 |false=>rw[a8 gV];exact j g
def jZ{ts:List D}{g:GT}(h:uH ti a ts)(P:Nat->List Sl->Prop)(l:P 0 a)
  (m:∀(k:Nat)(x:D)b,ts[k]?=some x->P k b->g x b λj=>tb { d with nx:=P (k+1),ct:=P (k+1),bk:=u d } j) (hd:∀b,P ts.length b->u d b):gL (VN ti g tb) u d a:=
 Bb (DT:={ d with nx:=u d }) h P l m hd
def lC{t:AT}(b:List D)(g:b.length<=1000)(h:∀q:List D->Prop,q b->t a q)(k:u d (a.set i (.own b))):gL (Ab i t) u d a:=h _ ⟨g,k⟩
def Zg{ts:List D}(v:D)(b:a[i]?=some (.own ts))(g:ts.length<=100000)(h:∀q:D->Prop,q v->f a q)(k:u d (a.set i (.own (ts++[v])))):gL (Aa i f) u d a:=⟨ts,b,h _ ⟨g,k⟩⟩
def pB{ts:List D}(v:D)(b:a[i]?=some (.own ts))(g:ts.length<=100000)(h:∀q:D->Prop,q v->f a q)(k:d.nx (a.set i (.own (ts++[v])))):Aa i f d a:=⟨ts,b,h _ ⟨g,k⟩⟩
def rS(v:D)(h:∀q:D->Prop,q v->f a q)(k:d.nx (a.set i (.val v))):LB i f d a:=h _ k
end
mutual
theorem mX:∀{d:D},d.canLay0=true->d.hasDict=false
|.none,_=>rfl
|.bool _,_=>rfl
|.int _,_=>rfl
|.str _,_=>rfl
|.list _,h=>noDictAll h
|.tuple _,h=>noDictAll h
|.dict _,h=>by cases h
theorem noDictAll:∀{a:List D},dI a=true->lI a=false
|[],_=>rfl
|d::a,h=>by
 have b:(d.canLay0&&dI a)=true:=h;rw[cS]at b;show(d.hasDict||lI a)=false;rw[mX b.1,noDictAll b.2];rfl
end
section
variable{X:Cx}{b e:Expr}
def AS(K:aI)(ok:D->D->Prop)(f:D->D->Bool):R2:=λx y H Q=>∃a c,gO K H a x/\gO K H c y/\ok a c/\Q (.bl (f a c)) H
def Jl(ok:D->D->Prop)(f:D->D->Bool)(x y:D)(Q:D->Prop):Prop:=ok x y/\Q (.bool (f x y))
def qE{ok:D->D->Prop}{f:D->D->Bool}:zD X (AS X.K ok f) (Jl ok f):=by
 intro H j a c x y Q i live d g h k;exact⟨a,c,d.same bW,g.same bW,h.1,k _ _ H (L2.bB.refl H) (.bool _) h.2⟩
def zl(a c:D):Prop:=a.canLay0=true/\c.canLay0=true/\min a.depth c.depth<=60
def DI{k:Nat}(g:hW k X.A):nW X (c8 .Eq) (AS X.K zl cM):=by
 intro c s t H x y v u Q I l m h;obtain⟨o,p,i,j,⟨c1,a,r⟩,q⟩:=h;obtain⟨n,d⟩:=gO.reads I (mX c1) i l;obtain⟨bs,f⟩:=gO.reads I (mX a) j m;exact SeqAt.compareEq_reads d f c1 a (by have:=g.un;lia) ⟨.bl _,H,I,kA,q⟩
def NW{k:Nat}(g:hW k X.A):nW X (c8 .NotEq) (AS X.K zl λx y=>!cM x y):=by
 intro c s t H x y v u Q I l m h;obtain⟨o,p,i,j,⟨c1,a,r⟩,q⟩:=h;obtain⟨n,d⟩:=gO.reads I (mX c1) i l;obtain⟨bs,f⟩:=gO.reads I (mX a) j m;exact SeqAt.compareNe_reads d f c1 a (by have:=g.un;lia) ⟨.bl _,H,I,kA,q⟩
def wR(x y:D):Prop:=match y with
|.list ts=>dI ts=true/\x.canLay0=true/\min (fB ts) x.depth<=60
|.tuple ts=>dI ts=true/\x.canLay0=true/\min (fB ts) x.depth<=60
|_=>False
noncomputable def FM(x y:D):Bool:=match y with
|.list ts=>ts.any λz=>cM z x
|.tuple ts=>ts.any λz=>cM z x
|_=>false
def SD{k:Nat}(i:hW k X.A):nW X (c8 .In) (AS X.K wR FM):=by
 intro j s t H x y v u Q I o p h;obtain⟨l,c,m,n,a,q⟩:=h
 have hd:l.hasDict=false/\c.hasDict=false:=by
  cases c with
  |list d=>exact⟨mX a.2.1,noDictAll a.1⟩
  |tuple d=>exact⟨mX a.2.1,noDictAll a.1⟩
  |_=>exact a.elim
 obtain⟨r,f⟩:=gO.reads I hd.1 m o;obtain⟨bs,g⟩:=gO.reads I hd.2 n p
 cases c with
 |list d=>exact SeqAt.in_list_reads g f a.1 a.2.1 (by have:=i.un;have:=a.2.2;lia) ⟨.bl _,H,I,kA,q⟩
 |tuple d=>exact SeqAt.in_tuple_reads g f a.1 a.2.1 (by have:=i.un;have:=a.2.2;lia) ⟨.bl _,H,I,kA,q⟩
 |_=>exact a.elim
def xW{k:Nat}(i:hW k X.A):nW X (c8 .NotIn) (AS X.K wR λx y=>!FM x y):=by
 intro j s t H x y v u Q I o p h;obtain⟨l,c,m,n,a,q⟩:=h
 have hd:l.hasDict=false/\c.hasDict=false:=by
  cases c with
  |list d=>exact⟨mX a.2.1,noDictAll a.1⟩
  |tuple d=>exact⟨mX a.2.1,noDictAll a.1⟩
  |_=>exact a.elim
 obtain⟨r,f⟩:=gO.reads I hd.1 m o;obtain⟨bs,g⟩:=gO.reads I hd.2 n p
 cases c with
 |list d=>exact SeqAt.notIn_list_reads g f a.1 a.2.1 (by have:=i.un;have:=a.2.2;lia) ⟨.bl _,H,I,kA,q⟩
 |tuple d=>exact SeqAt.notIn_tuple_reads g f a.1 a.2.1 (by have:=i.un;have:=a.2.2;lia) ⟨.bl _,H,I,kA,q⟩
 |_=>exact a.elim
def zc(x y:D)(Q:D->Prop):Prop:=match x,y with
|.str z,.str y=>Q (.bool (Txt.contains y z))
|x,y=>wR x y/\Q (.bool (FM x y))
def DH{k:Nat}(a:hW k X.A):nW X (c8 .In) (λx y H Q=>(∃i j,x=.str i/\y=.str j/\Q (.bl (!(j0 j i 0 j.length 1).isEmpty)) H)\/AS X.K wR FM x y H Q):=GH.or (SD a)
def LO:zD X (λx y H Q=>(∃i j,x=.str i/\y=.str j/\Q (.bl (!(j0 j i 0 j.length 1).isEmpty)) H)\/AS X.K wR FM x y H Q) zc:=by
 intro H l a c x y Q d live f g h k;have gen:wR a c/\Q (.bool (FM a c))->_:=λh=>(.inr ⟨a,c,f.same bW,g.same bW,h.1,k _ _ H (L2.bB.refl H) (.bool _) h.2⟩:(∃i j,x=.str i/\y=.str j/\d (.bl (!(j0 j i 0 j.length 1).isEmpty)) H)\/AS X.K wR FM x y H d)
 cases f with
 |str z=>
  cases g with
  |str w=>exact .inl ⟨z,w,kA,kA,k _ _ H (L2.bB.refl H) (.bool _) h⟩
  |_=>exact gen h
 |_=>exact gen h
noncomputable def rY:D->Bool
|.none=>true
|_=>false
def Fp(x y:D)(Q:D->Prop):Prop:=match y with | .bool b=>Q (.bool (vB b x)) | .none=>Q (.bool (rY x)) | _=>False
def We(x y:D)(Q:D->Prop):Prop:=match y with | .bool b=>Q (.bool (!vB b x)) | .none=>Q (.bool (!rY x)) | _=>False
def IE:nW X (c8 .Is) (λx y H Q=>zy x y H Q\/(y=.non/\Q (.bl (decide (x=.non))) H)):=Uc.or Ud
def R9:nW X (c8 .IsNot) (λx y H Q=>HZ x y H Q\/(y=.non/\Q (.bl (!decide (x=.non))) H)):=R8.or Xl
def P4:zD X (λx y H Q=>zy x y H Q\/(y=.non/\Q (.bl (decide (x=.non))) H)) Fp:=by
 intro H i a g x y Q f live c d h k
 cases d with
 |bool b=>
  refine .inl ⟨b,kA,?_⟩;have e:(decide (x=V.bl b))=vB b a:=by cases c<;>simp[vB]
  rw[e];exact k _ _ H (L2.bB.refl H) (.bool _) h
 |none=>
  refine .inr ⟨kA,?_⟩;have e:(decide (x=V.non))=rY a:=by cases c<;>simp[rY]
  rw[e];exact k _ _ H (L2.bB.refl H) (.bool _) h
 |_=>exact h.elim
def WX:zD X (λx y H Q=>HZ x y H Q\/(y=.non/\Q (.bl (!decide (x=.non))) H)) We:=by
 intro H i a g x y Q f live c d h k
 cases d with
 |bool b=>
  refine .inl ⟨b,kA,?_⟩;have e:(!decide (x=V.bl b))=!vB b a:=by cases c<;>simp[vB]
  rw[e];exact k _ _ H (L2.bB.refl H) (.bool _) h
 |none=>
  refine .inr ⟨kA,?_⟩;have e:(!decide (x=V.non))=!rY a:=by cases c<;>simp[rY]
  rw[e];exact k _ _ H (L2.bB.refl H) (.bool _) h
 |_=>exact h.elim
end
end TL
namespace L2
section
variable{P:cK}{w:e6}{A:d8}{E:Value->Shared->Prop}{s:Shared}
def DL{i t:Addr}{k:Nat}{Q:Value->Shared->Prop}(a:s.heap.IsTupleIter i t k)(h:s.heap.IsTuple t xs)(j:xs[k]?=some x)
  (f:∀c,c.IsTupleIter i t (k+1)->fV i s.heap c->Q x { s with heap:=c }):wpAny (model P w) A (c9 (.ref i)) Q E s:=by
 obtain⟨o,b,g,hd⟩:=id a;obtain⟨l,e,_,nl,d⟩:=h;unfold c9;refine aK (i7 (name:=c7 "__next__") a.typeIs l5 (nD l5 a.typeIs cf ?_ (bt _)));show wpAny _ _ (dq (.ref i) 0 >>= _) _ _ s;refine aK (f9 b hd (x:=.ref t) kA ?_);show wpAny _ _ (if(d5 t==k7)=true then _ else _) _ _ s;rw[a8 (show¬((d5 t==k7)=true)from bQ)];show wpAny _ _ (dq (.ref i) 1 >>= _) _ _ s;refine aK (f9 b hd (x:=.int k 0) kA ?_);show wpAny _ _ (seqItems? (.ref t) >>= _) _ _ s;refine aK (j5 e d ?_);simp only[BU,j];refine aK (wpAny_setField b hd hH (bC ⟨x,kA,bC (f _ ?_ (fV.update ..))⟩));exact⟨_,O5 _ b (Obj.isFreed_of_fields (fe hd _)),(Obj.cls_mapFields ..).trans g,by rw[fe hd];simp[u5]⟩
def pH{i t:Addr}{k:Nat}{Q:Value->Shared->Prop}(hh:A.handled=none)(b:s.heap.IsTupleIter i t k)(j:s.heap.IsTuple t xs)(l:xs[k]?=none)
  (h:∀c e,aRp i s.heap c->(∃o,c.get? e=some o/\o.cls=.type "StopIteration")->E (.ref e) { s with heap:=c }):wpAny (model P w) A (c9 (.ref i)) Q E s:=by
 obtain⟨o,f,n,hd⟩:=id b;obtain⟨p,g,_,nl,d⟩:=j;unfold c9;refine aK (i7 (name:=c7 "__next__") b.typeIs l5 (nD l5 b.typeIs cf ?_ (bt _)));show wpAny _ _ (dq (.ref i) 0 >>= _) _ _ s;refine aK (f9 f hd (x:=.ref t) kA ?_);show wpAny _ _ (if(d5 t==k7)=true then _ else _) _ _ s;rw[a8 (show¬((d5 t==k7)=true)from bQ)];show wpAny _ _ (dq (.ref i) 1 >>= _) _ _ s;refine aK (f9 f hd (x:=.int k 0) kA ?_);show wpAny _ _ (seqItems? (.ref t) >>= _) _ _ s;refine aK (j5 g d ?_);simp only[BU,l];refine aK (n8 (aK (wpAny_setField f hd hH ?_)));show wpAny _ _ (newExc (.type "StopIteration") [] >>= _) _ _ _;refine aK ?_;simp only[newExc,newTuple];refine aK (kI ?_ (by size_fits));refine aK (m:=firstArgMember _ _) (wpAny_of_eq (a:=k7) (by first | rfl | (simp only[firstArgMember];rfl)) ?_);refine kI ?_ (by size_fits);simp only[raiseNew];refine aK (wpAny_handled ?_)
 first | rw[show A.in1.handled=none from hh] | rw[hh]
 refine aK (bC (wpAny_throw ?_));exact h _ _ (((fV.update ..).extBut.push _).push _) ⟨_,aY _ kA,kA⟩
end
structure oX(P:cK)(w:e6)(i l:Addr)(st:Nat->Heap->Prop)(src:Array Value->Heap->Prop):Prop where
 stAt:∀k h h',st k h->(∀o,h.get? i=some o->h'.get? i=some o)->st k h'
 srcAt:∀xs h h',src xs h->(∀o,h.get? l=some o->h'.get? l=some o)->src xs h'
 has:∀k h,st k h->∃o,h.get? i=some o/\∀v,o.data≠.cell v
 item:∀(A:d8)E(s:Shared)(k:Nat)(xs:Array Value)(x:Value)Q,st k s.heap->src xs s.heap->xs[k]?=some x ->
  (∀h',st (k+1) h'->fV i s.heap h'->Q x { s with heap:=h' })->wpAny (model P w) A (c9 (.ref i)) Q E s
 fin:∀(A:d8)E(s:Shared)(k:Nat)(xs:Array Value)Q,A.handled=none->st k s.heap->src xs s.heap->xs[k]?=none ->
  (∀h' e,aRp i s.heap h'->(∃o,h'.get? e=some o/\o.cls=.type "StopIteration")->E (.ref e) { s with heap:=h' })->wpAny (model P w) A (c9 (.ref i)) Q E s
def EI(i l:Addr):oX P w i l (λk h=>h.IsListIter i l k) (λxs h=>h.IsList l xs) where
 stAt:=λ_ _ _ x e=>x.at e
 srcAt:=λ_ _ _ x e=>x.at e
 has:=λk h x=>by obtain⟨o,e,c,d⟩:=x;exact⟨o,e,λv q=>by rw[d]at q;cases q⟩
 item:=λ_ _ _ _ _ _ _ h1 h2 hx hQ=>wpAny_nextOf_list_item h1 h2 hx hQ
 fin:=λ_ _ _ _ _ _ hh h1 h2 hx hE=>wpAny_nextOf_list_end hh h1 h2 hx hE
def vE(i l:Addr):oX P w i l (λk h=>h.IsTupleIter i l k) (λxs h=>h.IsTuple l xs) where
 stAt:=λ_ _ _ x e=>x.at e
 srcAt:=λ_ _ _ x e=>x.at e
 has:=λk h x=>by obtain⟨o,e,c,d⟩:=x;exact⟨o,e,λv q=>by rw[d]at q;cases q⟩
 item:=λ_ _ _ _ _ _ _ h1 h2 hx hQ=>DL h1 h2 hx hQ
 fin:=λ_ _ _ _ _ _ hh h1 h2 hx hE=>pH hh h1 h2 hx hE
section
variable{P:cK}{w:e6}{A:d8}{E:Value->Shared->Prop}{s:Shared}{z TI TO j l p q:Addr}{g i:Nat->Heap->Prop}{d f:Array Value->Heap->Prop}{k:Nat}{m n:Array Value}{a b:Value}
def UX{Q:Value->Shared->Prop}(I:oX P w j p g d)(J:oX P w l q i f)(D:dk z TI TO j l p q)(M:u9 s.heap z TI TO .none)(ff:IsPair s.heap TI (.ref j) (.ref l))(ft:IsPair s.heap TO a b)
  (h1:g k s.heap) (h2:i k s.heap) (qq:d m s.heap) (qr:f n s.heap) (hx:m[k]?=some x) (hy:n[k]?=some y)
  (hQ:∀u,u9 u z TI TO (u5 s.heap.objs.size)->IsPair u TO x y->g (k+1) u->i (k+1) u->IsPair u s.heap.objs.size x y->u.objs.size=s.heap.objs.size+1 ->
   (∀c o,c≠z->c≠TO->c≠j->c≠l->s.heap.get? c=some o->u.get? c=some o)->Q (.ref s.heap.objs.size) { s with heap:=u }) :
  wpAny (model P w) A (t7.«zip.__next__» ⟨[.ref z],[]⟩) (λfin s'=>∃v,fin=.done (.ret v)/\Q v s') E s:=by
 show wpAny _ _ (dq (.ref z) 2 >>= _) _ _ _;refine aK (f9 M kA (x:=.bool false) kA ?_);show wpAny _ _ (dq (.ref z) 3 >>= _) _ _ _;refine aK (f9 M kA (x:=.ref TI) kA ?_);refine aK (j5 ff kA ?_);show wpAny _ _ (h7 (.ref z) >>= _) _ _ _;refine aK ?_;unfold h7;refine aK (f9 M kA (x:=.none) kA (bC ?_));simp only[l7];refine aK (n8 ?_);refine aK (f9 M kA (x:=.ref TO) kA ?_);refine aK (j9 M hH λha C sa=>?_)
 replace C:u9 ha z TI TO .ellipsis:=C
 refine aK ?_;simp only[Z1,aDs,pE,aF4];refine aK (aK (av ?_));show wpAny _ _ (c9 (.ref j) >>= _) _ _ _;refine aK (I.item _ _ _ k m x _ (I.stAt _ _ _ h1 λo e=>sa.extBut _ _ D.i1z e) (I.srcAt _ _ _ qq λo e=>sa.extBut _ _ D.l1z e) hx λhb Y sb=>bC ?_);have S:IsPair hb TO a b:=sb.extBut _ _ D.TOi1 (sa.extBut _ _ D.TOz ft);refine aK (j5 S kA ?_);refine aK (ab S λhc G H=>?_)
 replace G:IsPair hc TO x b:=G
 refine aK (cn (bC ?_));refine aK (aK (av ?_));show wpAny _ _ (c9 (.ref l) >>= _) _ _ _
 refine aK (J.item _ _ _ k n y _ (J.stAt _ _ _ h2 λo e=>H.extBut _ _ D.TOi2.symm (sb.extBut _ _ D.i12.symm (sa.extBut _ _ D.i2z e)))
  (J.srcAt _ _ _ qr λo e=>H.extBut _ _ D.l2TO (sb.extBut _ _ D.l2i1 (sa.extBut _ _ D.l2z e))) hy λhd og sd=>bC ?_)
 have T:IsPair hd TO x b:=sd.extBut _ _ D.TOi2 G;refine aK (j5 T kA ?_);refine aK (ab T λh t R=>?_)
 replace t:IsPair h TO x y:=t
 refine aK (cn (bC (bC ?_)));refine aK (j5 t kA ?_);refine aK (wpAny_newTuple ?_);have L:h.objs.size=s.heap.objs.size:=by rw[R.1,sd.1,H.1,sb.1,sa.1]
 have O:u9 h z TI TO .ellipsis:=R.extBut _ _ D.TOz.symm (sd.extBut _ _ D.i2z.symm (H.extBut _ _ D.TOz.symm (sb.extBut _ _ D.i1z.symm C)))
 have ke:∀c o,c≠z->c≠TO->c≠j->c≠l->s.heap.get? c=some o->h.get? c=some o:=λc o c1 U W X e=>
  R.extBut _ _ U (sd.extBut _ _ X (H.extBut _ _ U (sb.extBut _ _ W (sa.extBut _ _ c1 e))))
 have Z:g (k+1) h:=I.stAt _ _ _ Y λo e=>R.extBut _ _ D.TOi1.symm (sd.extBut _ _ D.i12 (H.extBut _ _ D.TOi1.symm e));have oh:i (k+1) h:=J.stAt _ _ _ og λo e=>R.extBut _ _ D.TOi2.symm e;have B:z<h.objs.size:=bG O;show wpAny _ _ (u2 (.ref z) (.ref h.objs.size) >>= _) _ _ _;refine aK ?_;unfold u2;have tu:u9 (h.push { cls:=.type "tuple",data:=.seq #[x,y] }) z TI TO .ellipsis:=aE _ O;refine aK (j9 tu hH λhg F sg=>?_)
 replace F:u9 hg z TI TO (u5 h.objs.size):=F
 refine j9 F hH λK r si=>?_
 replace r:u9 K z TI TO (u5 h.objs.size):=r
 have up:∀c o,c≠z->h.get? c=some o->K.get? c=some o:=λc o c1 e=>si.extBut _ _ c1 (sg.extBut _ _ c1 (aE _ e));have hT:IsPair K h.objs.size x y:=si.extBut _ _ (jJ B) (sg.extBut _ _ (jJ B) (aY _ kA));have N:K.objs.size=h.objs.size+1:=by rw[si.1,sg.1,dX]
 rw[L]at r hT N;refine bC ⟨_,kA,?_⟩;show Q (.ref h.objs.size) _;rw[L];exact hQ K r (up _ _ D.TOz t) (I.stAt _ _ _ Z λo e=>up _ o D.i1z e) (J.stAt _ _ _ oh λo e=>up _ o D.i2z e) hT N λc o c1 U W X e=>up c o c1 (ke c o c1 U W X e)
def UU{Q:Fin->Shared->Prop}(hh:A.handled=none)(I:oX P w j p g d)(K:oX P w l q i f)(D:dk z TI TO j l p q)(C:u9 s.heap z TI TO .none)(M:IsPair s.heap TI (.ref j) (.ref l))(N:IsPair s.heap TO a b)
  (h1:g k s.heap) (h2:i k s.heap) (T:d m s.heap) (U:f n s.heap) (B:m[k]?=none\/n[k]?=none)
  (Z:∀L e,(∀c o,c≠z->c≠TO->c≠j->c≠l->s.heap.get? c=some o->L.get? c=some o)->(∃o,L.get? e=some o/\o.cls=.type "StopIteration")->E (.ref e) { s with heap:=L }) :
  wpAny (model P w) A (t7.«zip.__next__» ⟨[.ref z],[]⟩) Q E s:=by
 show wpAny _ _ (dq (.ref z) 2 >>= _) _ _ _;refine aK (f9 C kA (x:=.bool false) kA ?_);show wpAny _ _ (dq (.ref z) 3 >>= _) _ _ _;refine aK (f9 C kA (x:=.ref TI) kA ?_);refine aK (j5 M kA ?_);show wpAny _ _ (h7 (.ref z) >>= _) _ _ _;refine aK ?_;unfold h7;refine aK (f9 C kA (x:=.none) kA (bC ?_));simp only[l7];refine aK (n8 ?_);refine aK (f9 C kA (x:=.ref TO) kA ?_);refine aK (j9 C hH λO u sa=>?_)
 replace u:u9 O z TI TO .ellipsis:=u
 refine aK ?_;simp only[Z1,aDs,pE,aF4];refine aK (aK (av ?_));show wpAny _ _ (c9 (.ref j) >>= _) _ _ _;have Y:g k O:=I.stAt _ _ _ h1 λo e=>sa.extBut _ _ D.i1z e;have q1:d m O:=I.srcAt _ _ _ T λo e=>sa.extBut _ _ D.l1z e
 cases W:m[k]? with
 |none=>
  refine aK (I.fin _ _ _ k m _ hh Y q1 W λR e sb S=>?_);obtain⟨X,r,t⟩:=S;have F:u9 R z TI TO .ellipsis:=sb _ _ D.i1z.symm u;have v:e≠z:=λx=>by subst x;rw[F]at r;cases r;simp at t
  refine j9 F hH λhc _ y=>Z hc e (λc o c1 _ J _ x=>y.extBut _ _ c1 (sb _ _ J (sa.extBut _ _ c1 x))) ⟨X,y.extBut _ _ v r,t⟩
 |some x=>
  have hy:n[k]?=none:=by rcases B with h | h;rw[W]at h;cases h;exact h
  refine aK (I.item _ _ _ k m x _ Y q1 W λR uq sb=>bC ?_);have H:IsPair R TO a b:=sb.extBut _ _ D.TOi1 (sa.extBut _ _ D.TOz N);refine aK (j5 H kA ?_);refine aK (ab H λhc vy y=>?_);refine aK (cn (bC ?_));refine aK (aK (av ?_));show wpAny _ _ (c9 (.ref l) >>= _) _ _ _
  refine aK (K.fin _ _ _ k n _ hh (K.stAt _ _ _ h2 λo e=>y.extBut _ _ D.TOi2.symm (sb.extBut _ _ D.i12.symm (sa.extBut _ _ D.i2z e)))
   (K.srcAt _ _ _ U λo e=>y.extBut _ _ D.l2TO (sb.extBut _ _ D.l2i1 (sa.extBut _ _ D.l2z e))) hy λhd e sd S=>?_)
  obtain⟨X,r,t⟩:=S;have G:u9 hd z TI TO .ellipsis:=sd _ _ D.i2z.symm (y.extBut _ _ D.TOz.symm (sb.extBut _ _ D.i1z.symm u));have v:e≠z:=λx=>by subst x;rw[G]at r;cases r;simp at t
  refine j9 G hH λhf _ sf=>Z hf e (λc o c1 c2 J c4 x=>sf.extBut _ _ c1 (sd _ _ c4 (y.extBut _ _ c2 (sb.extBut _ _ J (sa.extBut _ _ c1 x))))) ⟨X,sf.extBut _ _ v r,t⟩
def UW{Q:Option Value->Shared->Prop}(K:oX P w j p g d)(L:oX P w l q i f)(D:dk z TI TO j l p q)(B:u9 s.heap z TI TO .none)(h:IsPair s.heap TI (.ref j) (.ref l))(r:IsPair s.heap TO a b)
  (M:g k s.heap) (N:i k s.heap) (t:d m s.heap) (u:f n s.heap) (R:m[k]?=some x) (S:n[k]?=some y)
  (O:∀e,u9 e z TI TO (u5 s.heap.objs.size)->IsPair e TO x y->g (k+1) e->i (k+1) e->IsPair e s.heap.objs.size x y->e.objs.size=s.heap.objs.size+1 ->
   (∀c o,c≠z->c≠TO->c≠j->c≠l->s.heap.get? c=some o->e.get? c=some o)->Q (some (.ref s.heap.objs.size)) { s with heap:=e }):wpAny (model P w) A (du (.ref z)) Q E s:=by
 have v:s.TypeIs (.ref z) "zip":=⟨_,B,kA⟩;unfold du
 exact aK (ek (i7 (name:=c7 "__next__") v x5 (nD x5 v F.entry_zip_next
  (UX K L D B h r M N t u R S λe C a2 G a4 H I J=>bC (O e C a2 G a4 H I J)) (gf _))))
def Z5{Q:Option Value->Shared->Prop}(hh:A.handled=none)(C:oX P w j p g d)(G:oX P w l q i f)(D:dk z TI TO j l p q)(B:u9 s.heap z TI TO .none)(t:IsPair s.heap TI (.ref j) (.ref l))(u:IsPair s.heap TO a b)
  (H:g k s.heap) (I:i k s.heap) (v:d m s.heap) (x:f n s.heap) (h:m[k]?=none\/n[k]?=none)
  (J:∀r,(∀c o,c≠z->c≠TO->c≠j->c≠l->s.heap.get? c=some o->r.get? c=some o)->Q none { s with heap:=r }):wpAny (model P w) A (du (.ref z)) Q E s:=by
 have y:s.TypeIs (.ref z) "zip":=⟨_,B,kA⟩;unfold du;refine aK (ek (i7 (name:=c7 "__next__") y x5 (nD x5 y F.entry_zip_next (UU hh C G D B t u H I v x h λr e hk L=>?_) (gf _))));obtain⟨o,M,K⟩:=L;refine aK (wpAny_isInstance (T:="StopIteration") (b:=true) ⟨o,M,K⟩ isSubtype_stop ?_);exact bC (J _ hk)
end
section
variable{X:Cx}{a:List (Addr×Obj)}{f:St}{H:Hp}{s:Shared}{d:Heap}
def dJ.turnedL{t':Nat}{ch:List Addr}(I:dJ X a f H s)(i:∀b∈ch,BO X a H b)(k:∀b o,b∉ch->s.heap.get? b=some o->d.get? b=some o):dJ X a f H { s with heap:=d,toks:=t' }:=by
 have h:∀b u,H b=some u->b∉ch:=λb u e z=>by rw[(i b z).1]at e;cases e
 have x:X.env.locals∉ch:=λz=>(i _ z).2.1 kA
 refine I.step (g':=s.gens) (d':=s.drawn) (ch:=ch) (λb y=>?_) (λb o _ _ g e _=>k b o g e) (λb o _ _ g e _=>⟨o.slots,k b o g e⟩) (λ_ _ _ _ n=>n)
  (λb o g e=>⟨o,k b o g e⟩) (λ_ _ e=>e) (λ_ _ _ e=>e) (λb E e=>⟨#[],by rw[e];simp⟩) (λm A=>?_) (λb u e=>?_) I.bare
 ·obtain⟨C,f1,f2,p,t,w⟩:=i b y;exact⟨p,f1,t,w⟩
 ·obtain⟨o,l,j,B,r⟩:=A;exact⟨o,l,j,k _ o x B,r⟩
 ·refine(I.hok b u e).stay (λc v g q=>k c v ?_ q) (λ_ q=>q) λ_ _ q=>q;rcases g with z | z
  ·rw[z];exact h b u e
  ·exact h c _ z
def dJ.turnedNew{t':Nat}{ch:List Addr}{T:Addr}{o:HO}(I:dJ X a f H s)(j:∀b∈ch,BO X a H b)(k:∀b u,b∉ch->s.heap.get? b=some u->d.get? b=some u)(p:s.heap.objs.size<=T)(new:jG X.prog X.w (fG H T o) d T o) :
  dJ X a f (fG H T o) { s with heap:=d,toks:=t' }:=by
 have h:∀b u,H b=some u->b∉ch:=λb u e z=>by rw[(j b z).1]at e;cases e
 have C:X.env.locals∉ch:=λz=>(j _ z).2.1 kA;have F:H T=none:=I.hok.fresh p;have ne:∀b u,H b=some u->(fG H T o) b=some u:=λb u e=>by rw[cC (gM e F)];exact e
 have l:∀b u,s.heap.get? b=some u->b≠T:=λb u e z=>by
  exact b9 (cU (bG e) p) (by rw[z];exact hZ _)
 refine I.step (g':=s.gens) (d':=s.drawn) (ch:=ch) (λb i=>?_) (λb o _ _ g e _=>k b o g e) (λb o _ _ g e _=>⟨o.slots,k b o g e⟩) (λb u _ e n=>by rw[cC (l b u e)];exact n)
  (λb o g e=>⟨o,k b o g e⟩) (λb J e=>ne _ _ e) (λb u v e=>ne _ _ e) (λb L e=>⟨#[],by rw[ne _ _ e];simp⟩) (λm E=>?_) (λb u e=>?_) I.bare
 ·obtain⟨K,f1,f2,y,A,B⟩:=j b i;exact⟨y,f1,A,B⟩
 ·obtain⟨o,x,t,G,r⟩:=E;exact⟨o,x,t,k _ o C G,r⟩
 ·by_cases i:b=T
  ·subst i;rw[cD]at e;cases e;exact new
  ·rw[cC i]at e;refine(I.hok b u e).stay (λc v g q=>k c v ?_ q) (λc q=>ne _ _ q) (λc J q=>ne _ _ q) λc ob v q=>ne _ _ q;rcases g with z | z
   ·rw[z];exact h b u e
   ·exact h c _ z
end
noncomputable def yj(c d:Hp->List V->Prop):It:=
 ⟨λi H=>∃a b x y,c H a/\d H b/\a[i]?=some x/\b[i]?=some y,
  λi H v e=>∃p x y,H p=none/\v=.ref p/\e=fG H p (.tup [x,y])/\(∀a,c H a->a[i]?=some x)/\∀b,d H b->b[i]?=some y,
  λi H=>∃a b,c H a/\d H b/\(a.length<=i\/b.length<=i)⟩
structure Src(P:cK)(w:e6)(K:aI)(S:Hp->List V->Prop)(src:Array Value->Heap->Prop):Prop where
 vals:∀(X:Cx),X.prog=P->X.w=w->X.K=K->∀{pins:List (Addr×Obj)}{σ:St}{H:Hp}{s:Shared}{xs:List V},dJ X pins σ H s->S H xs->∃w5:List Value,fQ xs w5/\src w5.toArray s.heap
 inj:∀(X:Cx),X.prog=P->X.w=w->X.K=K->∀{pins:List (Addr×Obj)}{σ:St}{H:Hp}{s:Shared}{xs ys:List V},dJ X pins σ H s->S H xs->S H ys->xs=ys
def B1{K}(a:Addr):Src P w K (λH xs=>oR K H a xs) (λw5 h=>h.IsTuple a w5) where
 vals:=λX hP hw hK _ _ _ _ _ I h=>by subst hK;obtain⟨w5,r,p,_⟩:=I.tuple h;exact⟨w5,r,p⟩
 inj:=λX hP hw hK _ _ _ _ _ _ I h h'=>by subst hK;exact I.tuple_inj h h'
def K8{K}(a:Addr):Src P w K (λH xs=>mK K H a xs) (λw5 h=>h.IsList a w5) where
 vals:=λX hP hw hK _ _ _ _ _ I h=>by subst hK;obtain⟨w5,r,p,_⟩:=I.list h;exact⟨w5,r,p.isList⟩
 inj:=λX hP hw hK _ _ _ _ _ _ I h h'=>by subst hK;exact I.list_inj h h'
def CT{P:cK}{w:e6}{K:aI}{r8:List Expr}{x1:Nat}{pos:Pos}{z TI TO i1 i2 l1 l2:Addr}{nk gk:Nat->Heap->Prop}{js jt:Array Value->Heap->Prop}{S1 S2:Hp->List V->Prop}
  (d1:oX P w i1 l1 nk js) (d2:oX P w i2 l2 gk jt) (e1:Src P w K S1 js) (e2:Src P w K S2 jt) (D:dk z TI TO i1 i2 l1 l2) :
  J0 P w K (.Tuple r8 x1 pos) (yj S1 S2) [z,TI,TO,i1,i2] z (λi h=>u9 h z TI TO .none/\IsPair h TI (.ref i1) (.ref i2)/\(∃a b,IsPair h TO a b)/\nk i h/\gk i h) where
 mem:=by simp
 obj:=λi h st b hb=>by
  obtain⟨hz,ff,⟨a,c,ft⟩,h1,h2⟩:=st;simp only[aR,cX,g8]at hb;rcases hb with rfl | rfl | rfl | rfl | rfl
  ·exact⟨_,hz,λv q=>by cases q⟩
  ·exact⟨_,ff,λv q=>by cases q⟩
  ·exact⟨_,ft,λv q=>by cases q⟩
  ·exact d1.has i h h1
  ·exact d2.has i h h2
 keep:=λi h h' st k=>by
  obtain⟨hz,ff,⟨a,b,ft⟩,h1,h2⟩:=st;exact⟨k z hH _ hz,k TI hH _ ff,⟨a,b,k TO hH _ ft⟩,d1.stAt _ _ _ h1 λo e=>k i1 hH o e,d2.stAt _ _ _ h2 λo e=>k i2 hH o e⟩
 item:=by
  intro X hP hw hK hc i pins s σ H E I hf st hg;obtain⟨hz,ff,⟨a,b,ft⟩,h1,h2⟩:=st;obtain⟨xs,ys,x,y,s1,s2,hx,hy⟩:=hg;obtain⟨us,r1,q1⟩:=e1.vals X hP hw hK I s1;obtain⟨vs,r2,q2⟩:=e2.vals X hP hw hK I s2;obtain⟨u,hu,ru⟩:=r1.get hx;obtain⟨v,hv,rv⟩:=r2.get hy;refine UW d1 d2 D hz ff ft h1 h2 q1 q2 (x:=u) (y:=v) (by simpa using hu) (by simpa using hv) λh' a1 a2 a3 a4 a5 a6 a7=>⟨_,kA,?_⟩;refine wpAny_letOwnedTupleGo_zip (s:={ s with heap:=h' }) a1 λgi tm sb=>?_;have lq:=bG hz;have neT:∀c o,s.heap.get? c=some o->c≠s.heap.objs.size:=λc o e=>dD (bG e)
  have kk:∀c o,c∉[z,TI,TO,i1,i2]->s.heap.get? c=some o->gi.get? c=some o:=λc o u4 e=>by
   simp only[aR,cX,g8,fu]at u4;exact sb.extBut _ _ u4.1 (a7 c o u4.1 u4.2.2.1 u4.2.2.2.1 u4.2.2.2.2 e)
  have hT:IsPair gi s.heap.objs.size u v:=sb.extBut _ _ (jJ lq) a5;have I1:dJ X pins σ (fG H s.heap.objs.size (.tup [x,y])) { s with heap:=gi }:=I.turnedNew (t':=s.toks) hf kk (aN _) ⟨(by show 2<=bF;decide),[u,v],.cons ru (.cons rv .nil),⟨_,hT,kA,_,kA,kA⟩⟩;refine⟨.ref s.heap.objs.size,_,I1,kA,⟨_,x,y,I.hok.fresh (aN _),kA,kA,λvz h'=>by rw[e1.inj X hP hw hK I h' s1];exact hx,λwa h'=>by rw[e2.inj X hP hw hK I h' s2];exact hy⟩,?_,λc u4=>?_⟩
  ·exact⟨tm,sb.extBut _ _ D.TIz (a7 _ _ D.TIz D.TITO D.TIi1 D.TIi2 ff),⟨_,_,sb.extBut _ _ D.TOz a2⟩,d1.stAt _ _ _ a3 λo e=>sb.extBut _ _ D.i1z e,d2.stAt _ _ _ a4 λo e=>sb.extBut _ _ D.i2z e⟩
  ·have bn:c≠s.heap.objs.size:=by
    simp only[aR,cX,g8]at u4;rcases u4 with rfl | rfl | rfl | rfl | rfl
    ·exact neT _ _ hz
    ·exact neT _ _ ff
    ·exact neT _ _ ft
    ·obtain⟨o,e,_⟩:=d1.has _ _ h1;exact neT _ _ e
    ·obtain⟨o,e,_⟩:=d2.has _ _ h2;exact neT _ _ e
   rw[cC bn];exact(hf c u4).1
 done:=by
  intro X hP hw hK hc i pins s σ H E I hf st hg;obtain⟨hz,ff,⟨a,b,ft⟩,h1,h2⟩:=st;obtain⟨xs,ys,s1,s2,gp⟩:=hg;obtain⟨us,r1,q1⟩:=e1.vals X hP hw hK I s1;obtain⟨vs,r2,q2⟩:=e2.vals X hP hw hK I s2;have n1:=r1.length;have n2:=r2.length;refine Z5 (I.ok.hd hc) d1 d2 D hz ff ft h1 h2 q1 q2 ?_ λh' a7=>⟨kA,I.turnedL (t':=s.toks) hf λc o u4 e=>?_⟩
  ·rcases gp with q | q
   ·exact .inl (kY (by rw[bA];lia))
   ·exact .inr (kY (by rw[bA];lia))
  ·simp only[aR,cX,g8,fu]at u4;exact a7 c o u4.1 u4.2.2.1 u4.2.2.2.1 u4.2.2.2.2 e
 self:=λA i s Q E st h=>x4 st.1 h
noncomputable abbrev wu(c1:String)(h:Heap)(a:Addr):Heap:=h.push { cls:=.type c1,data:=.fields #[.ref a,.int 0 0] }
noncomputable abbrev wt(c1 a:String)(h:Heap)(b c:Addr):Heap:=(wu c1 h b).push { cls:=.type a,data:=.fields #[.ref c,.int 0 0] }
noncomputable abbrev wr(c1 b:String)(h:Heap)(a c:Addr):Heap:=(wt c1 b h a c).push { cls:=.type "tuple",data:=.seq #[.ref h.objs.size,.ref (wu c1 h a).objs.size] }
noncomputable abbrev wl(c1 a:String)(h:Heap)(b c:Addr):Heap:=(wr c1 a h b c).push { cls:=.type "tuple",data:=.seq #[.none,.none] }
noncomputable abbrev UJ(c1 a:String)(h:Heap)(b c:Addr):Heap:=(wl c1 a h b c).push { cls:=.type "zip",data:=.fields #[.none,.bool false,.bool false,.ref (wt c1 a h b c).objs.size,.ref (wr c1 a h b c).objs.size] }
def M5(a b:Addr)(m n:Array Value) :
  ig (t7.«zip.__new__» ⟨[.type "zip",.ref a,.ref b],[]⟩) (λ_ R s=>s.heap.IsTuple a m/\s.heap.IsTuple b n /\
   R (.ok (.ret (.ref (wl "tuple_iterator" "tuple_iterator" s.heap a b).objs.size))) { s with heap:=UJ "tuple_iterator" "tuple_iterator" s.heap a b }):=
 .of_wp λprog w A R s h=>by
  obtain⟨j,g,d,l,os⟩:=s;obtain⟨f,i,h⟩:=h;have k:=sub_zip;have c:BC (u3 ⟨j,g,d,l,os⟩) a m:=f;have e:BC (u3 ⟨j.push { cls:=.type "tuple_iterator",data:=.fields #[.ref a,.int 0 0] },g,d,l,os⟩) b n:=BC.push i _
  wp_walk using j8 c,j8 e
  exact⟨_,kA,h⟩
section
variable{P:cK}{w:e6}{A:d8}{E:Value->Shared->Prop}{s:Shared}
def A7{a b:Addr}{Q:Value->Shared->Prop}(f:s.heap.IsTuple a xs)(g:s.heap.IsTuple b ys)
  (h:∀d,u9 d (s.heap.objs.size+4) (s.heap.objs.size+2) (s.heap.objs.size+3) .none->IsPair d (s.heap.objs.size+2) (.ref s.heap.objs.size) (.ref (s.heap.objs.size+1)) ->
   IsPair d (s.heap.objs.size+3) .none .none->d.IsTupleIter s.heap.objs.size a 0->d.IsTupleIter (s.heap.objs.size+1) b 0 ->
   (∀c o,s.heap.get? c=some o->d.get? c=some o)->Q (.ref (s.heap.objs.size+4)) { s with heap:=d }) :
  wpAny (model P w) A (call (.type "zip") [.ref a,.ref b]) Q E s:=by
 refine bg F.called_zip gV (F.typeCall_zip_2 _ _) (F.newCall_zip_2 _ _) (λobj=>fc obj _ _) F.entry_zip_new (M5 a b xs ys) ⟨f,g,?_⟩;have n1:(wu "tuple_iterator" s.heap a).objs.size=s.heap.objs.size+1:=dX ..;have i:(wt "tuple_iterator" "tuple_iterator" s.heap a b).objs.size=s.heap.objs.size+2:=by rw[dX,n1]
 have n3:(wr "tuple_iterator" "tuple_iterator" s.heap a b).objs.size=s.heap.objs.size+3:=by rw[dX,i]
 have m:(wl "tuple_iterator" "tuple_iterator" s.heap a b).objs.size=s.heap.objs.size+4:=by rw[dX,n3]
 have e:(UJ "tuple_iterator" "tuple_iterator" s.heap a b).get? (wl "tuple_iterator" "tuple_iterator" s.heap a b).objs.size=some _:=aY _ kA;have l:(UJ "tuple_iterator" "tuple_iterator" s.heap a b).get? (wr "tuple_iterator" "tuple_iterator" s.heap a b).objs.size=some _:=aE _ (aY _ kA);have k:(UJ "tuple_iterator" "tuple_iterator" s.heap a b).get? (wt "tuple_iterator" "tuple_iterator" s.heap a b).objs.size=some _:=aE _ (aE _ (aY _ kA));have j:(UJ "tuple_iterator" "tuple_iterator" s.heap a b).get? (wu "tuple_iterator" s.heap a).objs.size=some _:=aE _ (aE _ (aE _ (aY _ kA)));have n:(UJ "tuple_iterator" "tuple_iterator" s.heap a b).get? s.heap.objs.size=some _:=aE _ (aE _ (aE _ (aE _ (aY _ kA))));show _/\_;rw[i,n3,m]at e;rw[n1,i]at k;rw[n3]at l;rw[n1]at j;rw[m];exact⟨⟨_,e,kA⟩,h _ e k l ⟨_,n,kA,kA⟩ ⟨_,j,kA,kA⟩ λc o x=>aE _ (aE _ (aE _ (aE _ (aE _ x))))⟩
end
def MP:d7 "zip"=some (.type "zip"):=by decide +kernel
def Bf(K:aI)(e:TA):TI:=λg H R=>e g H λvs b=>∃c d a f,vs=[.ref c,.ref d]/\oR K b c a/\oR K b d f/\R (yj (λH a=>oR K H c a) λH a=>oR K H d a) b
section
variable{X:Cx}
def Ui{T:Nat}(G:Gl X "zip")(J:X.mg "zip"=none)(F:PA X [a,b] ta)(L:autoParam (bY [a,b] X.env=[(false,eval a X.env),(false,eval b X.env)]) zzz._auto_1)(f:autoParam (bY [b] X.env=[(false,eval b X.env)]) zzz._auto_1) :
  PI X (.Tuple r8 T tpos) (.Call (.Name "zip" p) [a,b] [] pos) (Bf X.K ta):=by
 intro g s W H R I h;refine Call_ (rX I G J MP (f8 (iW (F pos g s W H _ I h) λY d U=>?_) (by rw[L,f]) (by rw[f];rfl)));obtain⟨vs,C,e,P,q1⟩:=U;obtain⟨i,j,Z,ys,rfl,o,t,q⟩:=q1
 cases P with
 |cons r w=>
  cases w with
  |cons O w=>
   cases w;cases r;cases O;obtain⟨x,Q,p1,M⟩:=e.tuple o;obtain⟨y,S,B,N⟩:=e.tuple t;have u:i<d.heap.objs.size:=p1.lt;have v:j<d.heap.objs.size:=B.lt;refine A7 (show d.heap.IsTuple i x.toArray from p1) (show d.heap.IsTuple j y.toArray from B) λE A k l m n hk=>x4 (s:={ d with heap:=E }) A ?_;refine⟨_,[d.heap.objs.size+4,d.heap.objs.size+2,d.heap.objs.size+3,d.heap.objs.size,d.heap.objs.size+1],_,_,C,kA,e.kept (t':=d.toks) hk,CT (vE _ i) (vE _ j) (B1 i) (B1 j) (fq u v),⟨A,k,⟨_,_,l⟩,m,n⟩,λc z=>?_,q⟩;simp only[aR,cX,g8]at z;have le:d.heap.objs.size<=c:=by rcases z with rfl | rfl | rfl | rfl | rfl<;>first | exact aN _ | exact oY _ _
   exact e.fpOk le (e.hok.fresh le)
end
end L2
namespace TL
open L2
variable{K:aI}
noncomputable def sV(a bs:List D):List D:=(a.zip bs).map λp=>.tuple [p.1,p.2]
def oJ(a bs:List D):(sV a bs).length=min a.length bs.length:=by unfold sV;simp
def KS{bs}{i:Nat}(h:(sV as bs)[i]?=some x):∃a b,as[i]?=some a/\bs[i]?=some b/\x=.tuple [a,b]:=by
 unfold sV at h;rw[aM]at h
 cases e:(as.zip bs)[i]? with
 |none=>rw[e]at h;cases h
 |some p=>
  rw[e]at h;obtain⟨c,d⟩:=eD.mp e;exact⟨p.1,p.2,c,d,(c5 h).symm⟩
def Js(t:AT):IT:=λc Q=>t c λb=>∃a bs,b=[.tuple a,.tuple bs]/\Q (sV a bs)
section
variable{X:Cx}{a b:Expr}
def Um{m:Nat}(w:vW X [a,b] t)(I:∀{ta},PA X [a,b] ta->PI X (.Tuple r8 m tpos) (.Call (.Name "zip" p) [a,b] [] p') (Bf X.K ta)):MZ X (.Tuple r8 m tpos) (.Call (.Name "zip" p) [a,b] [] p') (Js t):=by
 obtain⟨va,E,N⟩:=w;refine⟨_,I E,λB C H F f T Q R o h k=>N B C H F f T _ _ o h λY xs n O d q1=>?_⟩;obtain⟨W,bs,rfl,q⟩:=q1
 cases d with
 |cons d J=>
  cases J with
  |cons L M=>
   cases M
   cases d with
   |@tuple p1 us _ ak rs1=>
    cases L with
    |@tuple p2 vs _ de rs2=>
     have n1:=rs1.length;have Z:=rs2.length;refine⟨p1,p2,us,vs,kA,bB.seqT bW ak,bB.seqT bW de,k _ _ n O ⟨λi H e c=>?_,λi H e c=>?_,λi H G y U live e c A=>?_⟩ q⟩
     ·rw[oJ]at c;exact⟨us,vs,bB.seqT e ak,bB.seqT e de,hG⟩
     ·rw[oJ]at c;exact⟨us,vs,us[i],vs[i],bB.seqT e ak,bB.seqT e de,aD hG,aD hG⟩
     ·obtain⟨p,x,y',l,rfl,rfl,u,v⟩:=A;obtain⟨g,r,P⟩:=rs1.get' (u us (bB.seqT (e.trans bW) ak));obtain⟨j,s,S⟩:=rs2.get' (v vs (bB.seqT (e.trans bW) de));refine⟨dM l,.tuple [g,j],?_,oG live l (.cons (P.same e) (.cons (S.same e) .nil))⟩;unfold sV;rw[aM,(eD (z:=(g,j))).mpr ⟨r,s⟩];rfl
end
section
variable{g:List (Option Nat)}{ti:IT}{i:ET}{e:List Sl}{Q:D->Prop}{ts:List D}
def zL{f:Type}(l:List f)(a b c d:f):(((l.set 0 a).set 1 b).set 0 c).set 1 d=(l.set 0 c).set 1 d:=by
 match l with
 |[]=>rfl
 |[_]=>rfl
 |_::_::_=>rfl
def CA(j:uH ti e ts)(f:D->D)(s:ts.length<=100000)(o:∀x∈ts,∃a b,x=.tuple [a,b])(r:∀(a b:D)(q:D->Prop),.tuple [a,b]∈ts->q (f (.tuple [a,b]))->i (((kF g e).set 0 (.val a)).set 1 (.val b)) q)(p:Q (.list (ts.map f))):Y1 g ti (gP 0 1) EQ i e Q:=by
 refine j _ ⟨s,λk c d=>(∀x y,(c.set 0 (.val x)).set 1 (.val y)=((kF g e).set 0 (.val x)).set 1 (.val y))/\d=(ts.take k).map f,⟨λ_ _=>rfl,kA⟩,λk x c d m h=>?_,λc d h=>?_⟩
 ·obtain⟨n,rfl⟩:=h;have l:x∈ts:=aV m;obtain⟨a,b,rfl⟩:=o x l;refine⟨a,b,kA,?_⟩;show i ((c.set 0 (.val a)).set 1 (.val b)) _;rw[n a b];refine r a b _ l ⟨λx y=>zL _ _ _ _ _,?_⟩;rw[cI,m,bT];rfl
 ·obtain⟨_,rfl⟩:=h;rw[dB];exact p
end
end TL
namespace L2
open PySem.SeqAt
open AutoSeq1 (wpAny_loadPart')
def FI(l:Addr)(a:Array Value)(n:Nat)(v:Option Addr)(H:Array (Option Value))(x:Value)(e:Value->Bool)(j:Nat)(J:j<a.size)(r:e a[j]=true)(t:∀m (K:m<a.size),m<j->e a[m]=false) :
  ig (t7.«tuple.index» ⟨[.ref l,x],[]⟩)
   (λA R s=>s.heap.get? l=some { cls:=.type "tuple",dict:=v,data:=.seq a n,slots:=H }/\(∀y,y∈a->EqAt A.in1 s y x (e y))/\R (.ok (.ret (.int j s.toks))) { s with toks:=s.toks+1 }):=by
 intro prog w A R s h;obtain⟨G,g,d,I,os⟩:=s;obtain⟨F,C,h⟩:=h;unfold t7.«tuple.index»;simp only[Std.Legacy.Range.forIn_eq_forIn_range']
 wp_walk using cx F
 have B:([:min a.size a.size]:Std.Legacy.Range).size=a.size:=by simp[Std.Legacy.Range.size]
 rw[B];show wpAny _ _ (fy (E5 0 a.size) (none,()) _) _ _ _;refine wpAny_forIn_list _ (λjN b u=>b=(none,())/\u=⟨G,g,d,I,os⟩/\∃k,jN=E5 k (a.size-k)/\k<=j) _ (λi jN b u p=>?_) (λb u p=>?_) _ _ ⟨kA,kA,0,hH,cJ _⟩
 ·obtain⟨rfl,rfl,k,o,hk⟩:=p;have c:k<a.size:=by lia
  have z:a.size-k=(a.size-(k+1))+1:=by lia
  rw[z,Z2]at o;obtain⟨rfl,rfl⟩:=k9 o;have E:a[i]?=some a[i]:=by simp[c]
  rw[E];refine aK (C _ (Array.getElem_mem c) prog w _ _ ?_);by_cases q:i=j
  ·subst q;rw[r,a9 rfl]
   wp_walk
   exact h
  ·have f:i<j:=by lia
   rw[t i c f,a8 gV];exact bC ⟨kA,kA,i+1,kA,f⟩
 ·obtain⟨_,_,k,o,hk⟩:=p;have:=e5 jK o;simp at this;lia
end L2
namespace TL
open L2 PySem.SeqAt
section
variable{X:Cx}{e:Expr}{a:List Expr}{b c:ET}{pos:Pos}
def SF(f:List D)(d:D)(j:Nat):Prop:=dI f=true/\d.canLay0=true/\min (fB f) d.depth<=60/\(∃t,f[j]?=some t/\cM t d=true)/\∀(m:Nat) t,m<j->f[m]?=some t->cM t d=false
def NN(K:aI):V->List V->Hp->VK->Prop:=λx g H Q=>∃(y:V)(f:List D)(d:D)(j:Nat),g=[y]/\gO K H (.tuple f) x/\gO K H d y/\SF f d j/\Q (.int j) H
def SO(P:X.A.units+200<x0):Q9 X "tuple.index" (NN X.K):=by
 intro G s σ H x xs v us Q I Z Y h;obtain⟨y,g,d,j,rfl,T,U,⟨c1,z,k,⟨t,E,N⟩,r⟩,q⟩:=h;obtain⟨u,rfl,W⟩:=Y.one;obtain⟨as,L⟩:=gO.reads I (show(bS g).hasDict=false from noDictAll c1) T Z;obtain⟨bs,M⟩:=gO.reads I (mX z) U W
 cases L with
 |@tuple l o items n _ as' h3 h4 h5 h6=>
  have f:=fi g items.toList _ c1 h6;have C:items.size=g.length:=by rw[<- f,aA,fM]
  have O:j<g.length:=(aG.mp E).1;have B:j<items.size:=by lia
  have J:∀(m:Nat)(k:m<items.size),g[m]?=some (fh s.heap items[m]):=λm k=>by
   rw[<- f,aM];simp[k]
  obtain⟨oc,R,S,w⟩:=o;cases h4;cases h5;refine t5 F.slot_tuple_index ⟨_,h3,kA⟩ F.entry_tuple_index (F.args_tuple_index_2 _ _) (FI _ items _ R w u (λy=>cM (fh s.heap y) d) j B ?_ ?_) ⟨h3,gs h6 M c1 z (by have:=P;lia),?_⟩
  ·have:=J j B;rw[E]at this;rw[<- c5 this];exact N
  ·intro m p i;exact r m _ i (J m p)
  ·exact⟨.int j,H,I.tok _,⟨_,kA⟩,q⟩
def DM{k:Nat}(d:hW k X.A):Q9 X "tuple.index" (NN X.K):=SO (by have:=d.un;lia)
def Sx(b:ET)(t:AT):ET:=λg Q=>b g λd=>∃f,d=.tuple f/\t g λh=>∃(x:D)(j:Nat),h=[x]/\SF f x j/\Q (.int j)
def EA(y:gR X n b)(w:vW X (e::a) t)
  (A:∀{v c},PE X n v->PA X (e::a) c->PE X (.Call (.Attribute n "index" ap) (e::a) [] pos) (ZV X.K "tuple" (NN X.K) v c)):gR X (.Call (.Attribute n "index" ap) (e::a) [] pos) (Sx b t):=by
 obtain⟨v,C,M⟩:=y;obtain⟨R,z,L⟩:=w;refine⟨_,A C z,λB g H i f r Q O o h k=>M B g H i f r _ _ o h λd x s l F q1=>?_⟩;obtain⟨N,rfl,q1⟩:=q1
 cases F with
 |@tuple p xs _ hq rs=>
  refine⟨.inr (.inl ⟨kA,.inr ⟨_,bB.seqT bW hq⟩⟩),L B g s i f r _ _ (o.grow l) q1 λP S u m G E=>?_⟩;obtain⟨d,j,rfl,hok,q⟩:=E
  cases G with
  |cons I J=>
   cases J;exact⟨_,N,d,j,kA,(gO.tuple hq rs).same ((bR m).trans bW),I.same bW,hok,k _ _ u (l.trans m) (.int _) q⟩
end
section
variable{K:aI}{H a:Hp}{B:Hp}{g c:List Addr}{f:List Sl}{k:L2.St}
noncomputable def Cq:D->Bool
|.none=>true
|.bool _=>true
|.int _=>true
|.str _=>true
|_=>false
def gO.flat(r:gO K H d v)(h:Cq d=true):gO K a d v:=by
 cases r with
 |none=>exact .none
 |bool b=>exact .bool b
 |int i=>exact .int i
 |str x=>exact .str x
 |_=>cases h
theorem Reps.put:∀{b:List D}{e:List V}(n:Nat){d v},Reps K H b e->gO K H d v->Reps K H (b.set n d) (e.set n v)
|_,_,_,_,_,.nil,_=>.nil
|_,_,0,_,_,.cons _ t,r=>.cons r t
|_,_,n+1,_,_,.cons s t,r=>.cons s (Reps.put n t r)
def Xz{n j:Nat}(h:j<n):OC n (j:Int)=some j:=by
 unfold OC;rw[a9 hG,a9 hG];simp
noncomputable def without(H:Hp)(p:Addr):Hp:=λb=>if b=p then none else H b
def xM{p:Addr}:mask (without H p) c=mask H (p::c):=by
 funext b;unfold mask without;by_cases d:b=p
 ·simp[d]
 ·by_cases e:b∈c<;>simp[d,e]
def rH{p:Addr}(s:bB H a)(d:H p=none):bB H (without a p):=λb o e=>by
 unfold without;rw[a8 λz=>by rw[z,d]at e;cases e];exact s b o e
def AN{p:Addr}(d:H p=some u):fG (without H p) p u=H:=by
 funext b;by_cases h:b=p
 ·subst h;rw[cD,d]
 ·rw[cC h];unfold without;rw[a8 h]
def bB.free'(s:bB H a){p:Addr}(h:a p=none):H p=none:=by
 cases q:H p with
 |none=>rfl
 |some u=>rw[s p u q]at h;cases h
def Ok.takeOwn(o:Ok K B g H c f k){i:Nat}{p:Addr}(s:bB H a)(d:H p=none)(e:a p=some (.lst xs))(r:Reps K (mask a (p::c)) ts xs) :
  Ok K B g a (p::c) (f.set i (.own ts)) (k.set i (some (.ref p))):=by
 have h:=o.grow (rH s d);have b:without a p p=none:=by unfold without;rw[a9 rfl]
 have:=h.setOwn (i:=i) (ts:=ts) (xs:=xs) b (by rw[xM];exact r)
 rwa [AN e]at this
end
section
variable{X:Cx}{a b c e:Expr}{G:List Expr}{C u l:ET}{pos:Pos}
def Wz(i:Nat)(t:ET):ET:=λg Q=>∃f,g[i]?=some (.own f)/\t (g.set i (.val (.list f))) λd=>Cq d=true/\Q d
def TF(i:Nat)(h:gR X e l):gR X e (Wz i l):=by
 obtain⟨v,p,r⟩:=h;refine⟨_,p,λB m H y t s Q w o h k=>?_⟩;obtain⟨A,e,h⟩:=h;obtain⟨f,j,z⟩:=o.share e;exact r B m H f _ s _ _ j h λd x g q n q1=>k d x g q (n.flat q1.1) q1.2
def Ws(i:Nat)(t:wF):wF:=λf Q=>∃d,f[i]?=some (.own d)/\t (f.set i (.val (.list d))) Q
def F4(i:Nat)(h:J1 X e t):J1 X e (Ws i t):=by
 obtain⟨v,p,r⟩:=h;refine⟨_,p,λB g H q m j Q n o h k=>?_⟩;obtain⟨w,e,h⟩:=h;obtain⟨d,f,s⟩:=o.share e;exact r B g H d _ j _ _ f h k
abbrev FT:=List Sl->(List D->Prop)->Prop
def OV(X:Cx)(e:Expr)(t:FT):Prop:=∃l:TE,PE X e l/\∀B p0 H ps σT σ (Q:List D->Prop)(f:VK),Ok X.K B p0 H ps σT σ->t σT Q ->
 (∀g p h d,bB H d->H p=none->d p=some (.lst h)->Reps X.K (mask d (p::ps)) g h->Q g->f (.ref p) d)->l σ H f
def F1(t:FT):ET:=λf Q=>t f λd=>Q (.list d)
def wB(h:OV X e t):gR X e (F1 t):=by
 obtain⟨v,p,r⟩:=h;refine⟨_,p,λB m H n d x Q y o h k=>r B m H n d x _ _ o h λz p A f s g j w q=>k _ _ f s ?_ q⟩;exact .list (mK.of (mU (jF o.live g) j)) (w.same (jI λq i=>aJ _ i))
def Hq(t:AT):FT:=λf Q=>t f λd=>d.length<=1000/\Q d
def YK(h:vW X G t):OV X (.List G pos) (Hq t):=by
 obtain⟨v,p,r⟩:=h;refine⟨_,NU p,λB m H n f w Q y o h k=>r B m H n f w _ _ o h λj s x i g q1=>⟨yC (by rw[<- g.length];exact q1.1),λq d=>?_⟩⟩;exact k j q s _ (i.trans (dM d)) (bB.free' i d) cD (by rw[nN d];exact g) q1.2
def Cn(C u:ET):FT:=λf Q=>C f λx=>u f λy=>∃d bs,x=.list d/\y=.list bs/\d.length+bs.length<=100000/\Q (d++bs)
def Ti(z:gR X a C)(A:gR X b u):OV X (.BinOp a .Add b pos) (Cn C u):=by
 obtain⟨U,F,M⟩:=z;obtain⟨W,I,N⟩:=A;refine⟨_,LI IF F I,λB j H m d s Q P o h k=>M B j H m d s _ _ o h λS x t i K q1=>?_⟩;refine N B j t m d s _ _ (o.grow i) q1 λT y O f L J=>?_;obtain⟨R,bs,rfl,rfl,E,q⟩:=J
 cases K with
 |list v n=>
  cases L with
  |list w r=>
   refine⟨_,_,_,_,kA,kA,L2.bB.seq ((bR f).trans bW) v,L2.bB.seq bW w,yA (by rw[<- n.length,<- r.length];exact E),λp g=>?_⟩;exact k _ p _ _ ((i.trans f).trans (dM g)) (bB.free' (i.trans f) g) cD (by rw[nN g];exact(n.same (bR f)).append r) q
def Jk(i:Nat)(u:ET):FT:=λf Q=>∃d,f[i]?=some (.own d)/\u f λy=>∃bs,y=.list bs/\d.length+bs.length<=100000/\Q (d++bs)
def QM{i:Nat}(x:PE X n (nV i))(w:gR X b u):OV X (.BinOp n .Add b pos) (Jk i u):=by
 obtain⟨T,E,J⟩:=w;refine⟨_,LI IF x E,λB A H F j L Q N o h k=>?_⟩;obtain⟨K,e,h⟩:=h;obtain⟨q,U,t,P,R,S,v,m⟩:=o.own i K e;refine⟨.ref q,t,J B A H F j L _ _ o h λO y M d I g=>?_⟩;obtain⟨bs,rfl,z,g⟩:=g
 cases I with
 |list s r=>
  refine⟨_,_,_,_,kA,kA,mK.of (d _ _ v),L2.bB.seq bW s,yA (by rw[<- m.length,<- r.length];exact z),λp f=>?_⟩;exact k _ p _ _ (d.trans (dM f)) (bB.free' d f) cD (by rw[nN f];exact(m.same (bR d)).append r) g
def xt(m:List (Option Nat))(n:IT)(g:GT)(o:wF)(l:ET):FT:=λj Q=>n j λi=>i.length<=100000/\∃P:Nat->List Sl->List D->Prop,P 0 (kF m j) [] /\
 (∀(k:Nat)(x:D)d(h:List D),i[k]?=some x->P k d h->g x d λf=>o f λb=>if b=true then l f λy=>P (k+1) f (h++[y])else P (k+1) f h)/\∀d h,P i.length d h->Q h
def Gb(Q:List D->Prop)(d:D):Prop:=match d with | .list ds=>Q ds | _=>False
def YQ{l}{Q:List D->Prop}(h:Y1 fr ti g tt l σ (Gb Q)):xt fr ti g tt l σ Q:=h
def Yc{iter l}(I:MZ X tg iter ti)
  (F:∀b:BP,M0 (blk X scope N' b) tg g/\EW (blk X scope N' b) ifs tt/\gR (blk X scope N' b) elt l) {M:(TE)->Prop}
  (fin:∀{A}{s:BP->TG}{z:BP->TT}{y:BP->TE},PI X tg iter A->(∀b:BP,PG (blk X scope N' b) tg (s b)/\OU (blk X scope N' b) ifs (z b)/\PE (blk X scope N' b) elt (y b))->M (VC fr A s z y)) :
  ∃v:TE,M v/\∀B t H i d m (Q:List D->Prop)(n:VK),Ok X.K B t H i d m->xt fr ti g tt l d Q ->
   (∀x p j f,bB H f->H p=none->f p=some (.lst j)->Reps X.K (mask f (p::i)) x j->Q x->n (.ref p) f)->v m H n:=by
 obtain⟨A,O,P⟩:=I;obtain⟨s,z,y,p,r⟩:=N8 fr F;exact⟨_,fin O p,λB t H i d m Q n o h k=>P B t H i d m _ _ o h λx J U w R q1=>r (o.grow w) R q1 λE p j f T L N S q=>k E p j f (w.trans T) (bB.free' w L) N S q⟩
def Jn{iter l}(j:MZ X tg iter ti)
  (i:∀b:BP,M0 (blk X scope N' b) tg g/\EW (blk X scope N' b) ifs tt/\gR (blk X scope N' b) elt l)
  (k:∀{wi}{d:BP->TG}{h:BP->TT}{f:BP->TE},PI X tg iter wi->(∀b:BP,PG (blk X scope N' b) tg (d b)/\OU (blk X scope N' b) ifs (h b)/\PE (blk X scope N' b) elt (f b))->PE X (.ListComp elt [⟨tg,iter,ifs,0⟩] scope pos) (VC fr wi d h f)) :
  OV X (.ListComp elt [⟨tg,iter,ifs,0⟩] scope pos) (xt fr ti g tt l):=Yc j i k
abbrev MU:=List D->(List D->Prop)->Prop
def iE(K:aI)(k:MU):Sp:=λvs H Q _=>∃(f:List Addr)(h:List D)(g:List D->Prop),(∀p∈f,AJ (H p))/\Reps K (mask H f) h vs/\k h g /\
 ∀i p j d,bB H d->H p=none->d p=some (.lst j)->Reps K (mask d (p::f)) i j->g i->Q (.ref p) d
def Co(f:MU)(t:AT):FT:=λg Q=>t g λd=>f d Q
def Wj{k:Nat}{f:Addr}{pn}(F:mB X.prog X.w X.K X.mg X.base pK k f fd pn (iE X.K sp))(W:X.mg x=some (.ref f))(hk:gK X.K (.ref f)=true)(U:pX X.K fd pn [])
  (Y:hW k X.A) (y:vW X (e::G) t) (L:∀{C},PA X (e::G) C->PE X (.Call (.Name x p) (e::G) [] pos) (F6 (iE X.K sp) [] E0 C)):OV X (.Call (.Name x p) (e::G) [] pos) (Co sp t):=by
 obtain⟨v,J,N⟩:=y;refine⟨_,L J,λB I H j i T Q r o h k=>N B I H j i T _ _ o h λs S n d M q1=>?_⟩;show iE X.K sp (S++[]) n r E0;rw[dH];exact⟨j,s,Q,(o.grow d).live,M,q1,λR p g m P z E O q=>k R p g m (d.trans P) (bB.free' d z) E O q⟩
def rA{K}{mg:Str->Option Value}{st}{f:Addr}{N pn:List Str}{k:Nat}{o:MU}(F:OY K x qual st f fd)(S:bL N pn (aU st))
  (j:∀{i}{A:d8}{outer}{s:Shared}{H E},hW k (A.deeper (n4 qual (aU st) s.heap.objs.size f i))->N.Nodup->∀(g:List D)(Q:List D->Prop),o g Q ->
   ∃t,vU (vQ pK P w K mg base N qual (aU st) f i A outer s H E).nox (lF st) t/\t { nx:=λ_=>False,rt:=λ_=>False,ro:=Q } (lB N g)) (len:autoParam (∀g Q,o g Q->g.length=pn.length) zzm._auto_1):mB P w K mg base pK (k+1) f fd pn (iE K o):=by
 refine F.ok S (λvs H Q E h=>?_) λi A outer s H vs Q E B h=>?_
 ·obtain⟨n,g,m,_,r,q,_⟩:=h;rw[<- r.length];exact len g m q
 ·obtain⟨n,g,m,live,r,q,k⟩:=h;obtain⟨t,⟨v,p,J⟩,h⟩:=j B S.nd g m q;exact⟨v,p,J H n H n _ _ _ _ (qS live r) h ⟨λ_ _ _ _ _ _ d=>d.elim,λ_ _ _ _ _ _ d=>d.elim,λ_ _ _ _ _ _ d=>d.elim,λ_ _ _ _ _ d=>d.elim,λv p O y M z R I L d=>k v p O y M z I L d,λ_ _ _ _ _ _ _ _ _ _ _ _ _ _ _ _ _ _ d=>d.elim,λ_ _ _ _ _ _ _ _ _ _ _ _ _ _ d=>d.elim,e9⟩⟩
def GE(i:Nat)(t:FT):wG:=λf d=>t d λg=>f.nx (d.set i (.own g))
def RX{i:Nat}{t:FT}{v:TE}(r:∀B m H g d k (Q:List D->Prop)(z:VK),Ok X.K B m H g d k->t d Q ->
   (∀n p w j,bB H j->H p=none->j p=some (.lst w)->Reps X.K (mask j (p::g)) n w->Q n->z (.ref p) j)->v k H z)
  (B:Hp) (m:List Addr) (H:Hp) (g:List Addr) (d:List Sl) (k:L2.St) (x:wH) (y:E3) (o:Ok X.K B m H g d k) (h:GE i t x d) (f:J4 X.K B m H g x y):vN v (lP i) y k H:=by
 refine r B m H g d k _ _ o h λn p w j s A E F q=>?_;exact f.nx j (p::g) _ _ (o.takeOwn s A E F) (by rw[<- xM];exact bR (rH s A)) q
def Yj{i:Nat}(h:OV X e t)(d:∀{v},PE X e v->PS X (.Assign [.Name x pos'] e pos) (vN v (lP i))):BN X (.Assign [.Name x pos'] e pos) (GE i t):=by
 obtain⟨v,p,r⟩:=h;exact⟨_,d p,RX r⟩
def Er(t:FT):wG:=λd f=>t f d.ro
def uQ(h:OV X e t):BN X (.Return (some e) pos) (Er t):=by
 obtain⟨v,p,r⟩:=h;refine⟨_,C9 p,λB k H m d y A E o h f=>r B k H m d y _ _ o h λw p x i s g j n q=>?_⟩;refine f.ro w p x i (o.base.trans s) (bB.free' o.base g) (λz=>jF o.live g (o.sub p z)) j (n.same (jI λq hq=>?_)) q;rcases aR.mp hq with rfl | hq
 ·exact aO ..
 ·exact aJ _ (o.sub q hq)
def Zf(i:Nat):wG:=λf g=>∃d,g[i]?=some (.own d)/\f.ro d
def qN{i:Nat}(s:PE X n (nV i)):BN X (.Return (some n) pos) (Zf i):=by
 refine⟨_,C9 s,λB y H A v E w x o h f=>?_⟩;obtain⟨d,e,h⟩:=h;obtain⟨q,t,g,j,k,m,p,r⟩:=o.own i d e;refine⟨.ref q,g,f.ro d q t H o.base k m p (r.same (jI λz hz=>?_)) h⟩;rcases aR.mp hz with rfl | hz
 ·exact j
 ·exact o.sub z hz
def VM(c:wF)(u:wG):wG:=λg h=>∃P:Nat->List Sl->Prop,(∃n,P n h)/\∀n d,P n d->c d λb=>if b=true then u { g with nx:=λf=>∃m,m<n/\P m f,ct:=λf=>∃m,m<n/\P m f,bk:=g.nx } d else g.nx d
def CZ{c u}(hc:J1 X c tc)(Z:vU X body u)(pw:∀{R Q},PT X c R->FP X body Q->PS X (.While c body [] pos) (VA R Q)):BN X (.While c body [] pos) (VM tc u):=by
 obtain⟨R,pc,rc⟩:=hc;obtain⟨Q,pb,rb⟩:=Z;refine⟨_,pw pc pb,λB t H I S σ U W o h f=>?_⟩;obtain⟨P,⟨n0,Y⟩,hs⟩:=h;refine⟨λn k E=>∃g d,Ok X.K B t E g d k/\bB (mask H I) (mask E g)/\P n d,⟨n0,I,S,o,L2.bB.refl _,Y⟩,?_⟩;rintro n k E ⟨g,d,O,T,p'⟩;refine rc B t E g d k _ _ O (hs n d p') λb F J q1=>?_;have q:J4 X.K B t F g U W:=(f.later T).later (bR J);have x:bB (mask H I) (mask F g):=T.trans (bR J)
 cases b with
 |true=>
  rw[a9 rfl]at q1 |-
  refine⟨λA L=>∃m,m<n/\∃v p,Ok X.K B t L v p A/\bB (mask H I) (mask L v)/\P m p,λA L z=>z,?_⟩;exact rb B t F g d k _ _ (O.grow J) q1 ⟨λM j i r s y ⟨m,N,w⟩=>⟨m,N,j,i,s,x.trans y,w⟩,λM j i r s y w=>q.nx M j i r s y w,λM j i r s y ⟨m,N,w⟩=>⟨m,N,j,i,s,x.trans y,w⟩,q.rt,q.ro,q.rp,q.rq,q.xb⟩
 |false=>
  rw[a8 gV]at q1 |-
  exact q.nx F g d k (O.grow J) (L2.bB.refl _) q1
def Hi(i:Nat)(j l:ET):wG:=λh f=>∃g,f[i]?=some (.own g)/\l f λd=>j f λx=>∃n:Nat,x=.int n/\n<g.length/\h.nx (f.set i (.own (g.set n d)))
def Uz{i:Nat}{e l}(hn:PE X n (nV i))(Q:gR X ix ti)(P:gR X e l)
  (U:∀{v w},PE X e v->PE X ix w->PS X (.Assign [.Subscript n ix p2] e pos) (vN v (zf (nV i) w VX))):BN X (.Assign [.Subscript n ix p2] e pos) (Hi i ti l):=by
 obtain⟨v,W,re⟩:=P;obtain⟨w,Y,ri⟩:=Q;refine⟨_,U W Y,λB F H k j z DT DV o h f=>?_⟩;obtain⟨J,e,h⟩:=h;refine re B F H k j z _ _ o h λd x L I Z q1=>?_;have s:=o.grow I;obtain⟨q,m,A,N,h3,h4,O,E⟩:=s.own i J e;refine⟨.ref q,A,ri B F L k j z _ _ s q1 λd2 y M g r2 t=>?_⟩;obtain⟨n,rfl,r,t⟩:=t;cases r2;have T:=s.grow g;have p:Reps X.K (mask M k) J m:=E.same (bR g)
 have R:OC m.length (n:Int)=some n:=by
  rw[<- E.length];exact Xz r
 refine⟨q,m,n,n,kA,kA,g _ _ O,R,?_⟩;have S:=p.put n (Z.same (bR g));exact f.nx _ k _ z (T.write (ys:=m.set n x) e A S) (((bR I).trans (bR g)).trans (by rw[gZ N];exact L2.bB.refl _)) t
def yx(i j k:Nat):GT:=λd f Q=>∃a b c,d=.tuple [a,b,c]/\Q (((f.set i (.val a)).set j (.val b)).set k (.val c))
def GY{i j k:Nat}(h:PG X t (zg X.K 3 (GZ (lP i) (GZ (lP j) (GZ (lP k) ze))))):M0 X t (yx i j k):=
 ⟨_,h,λB w H x q y d v Q s o r h k=>by
  obtain⟨a,b,c,rfl,h⟩:=h
  cases r with
  |@tuple p xs _ hq r=>
   cases r with
   |cons f r=>
    cases r with
    |cons g r=>
     cases r with
     |cons m r=>
      cases r;exact⟨_,_,kA,bB.seqT bW hq,kA,_,_,kA,_,_,kA,_,_,kA,kA,k _ _ (((o.set f).set g).set m) (λn=>pD (pD (pD n _ _) _ _) _ _) h⟩⟩
def Es(l:ET)(g:GT):wG:=λh f=>l f λd=>g d f h.nx
def Yl(s:gR X e l)(t:M0 X tg g)(y:∀{v j},PE X e v->PG X tg j->PS X (.Assign [tg] e pos) (vN v j)):BN X (.Assign [tg] e pos) (Es l g):=by
 obtain⟨v,z,F⟩:=s;obtain⟨j,pg,I⟩:=t;refine⟨_,y z pg,λB n H k i q K L o h f=>F B n H k i q _ _ o h λd x m p E q1=>?_⟩;exact I B n m k i q d x _ _ (o.grow p) E q1 λr J w _ A=>f.nx m k _ _ w (bR p) A
def Fz(c:wF)(C u:ET):ET:=λd Q=>c d λb=>if b=true then C d Q else u d Q
def uC(x:J1 X c tc)(t:gR X a C)(w:gR X b u):gR X (.IfExp c a b pos) (Fz tc C u):=by
 obtain⟨M,A,I⟩:=x;obtain⟨K,y,E⟩:=t;obtain⟨L,z,F⟩:=w;refine⟨_,WH A y z,λB j H m f r Q J o h k=>I B j H m f r _ _ o h λd s g q1=>?_⟩
 cases d with
 |true=>
  rw[a9 rfl]at q1 |-
  exact E B j s m f r Q _ (o.grow g) q1 λd v i q p n=>k d v i (g.trans q) p n
 |false=>
  rw[a8 gV]at q1 |-
  exact F B j s m f r Q _ (o.grow g) q1 λd v i q p n=>k d v i (g.trans q) p n
def Ht(d:D)(Q:D->Prop):Prop:=match d with
|.int i=>Q (.int i)
|.bool b=>Q (.int (if b then 1 else 0))
|_=>False
def Ka:pW X (λf H Q=>(∃i,f=[.int i]/\Q (.int i) H)\/∃k,f=[.bl k]/\Q (.int (if k then 1 else 0)) H) (f1 Ht):=c1 λH j d x Q g live r h k=>by
 cases r with
 |int i=>exact .inl ⟨i,kA,k _ _ H (L2.bB.refl H) (.int _) h⟩
 |bool b=>exact .inr ⟨b,kA,k _ _ H (L2.bB.refl H) (.int _) h⟩
 |_=>exact h.elim
end
end TL
namespace L2
open PySem.SeqAt
open AutoSeq1 (wpAny_loadPart')
section
variable{X:Cx}{d:List (Addr×Obj)}{f:St}{H:Hp}{s:Shared}{p:Addr}
def dJ.retold(I:dJ X d f H s)(h:H p=some u)(l:∀g,u≠.tup g)(k:∀o v,u≠.frz o v)(nb:∀j,u≠.tbl j)(x:∀a,u≠.own a)(new:jG X.prog X.w (fG H p u') s.heap p u'):dJ X d f (fG H p u') s:=by
 have ne:∀b v,H b=some v->v≠u->fG H p u' b=some v:=λb v e t=>by
  rw[cC λz=>by rw[z,h]at e;exact t (c5 e).symm];exact e
 have fin:=I.step (h':=s.heap) (H':=fG H p u') (g':=s.gens) (t':=s.toks) (d':=s.drawn) (ch:=[]) (λb i=>by cases i) (λb o _ _ _ e _=>e) (λb o _ _ _ e _=>⟨o.slots,e⟩)
  (λb o _ e n=>by rw[cC λz=>by rw[z,h]at n;cases n];exact n) (λb o _ e=>⟨o,e⟩) (λb g e=>ne _ _ e (λz=>l g z.symm)) (λb o v e=>ne _ _ e (λz=>k o v z.symm))
  (λb j e=>⟨#[],by rw[ne _ _ e (λz=>nb j z.symm)];simp⟩) (λm r=>r) (λb v e=>?_) I.bare
 ·exact fin
 ·by_cases i:b=p
  ·subst i;rw[cD]at e;cases e;exact new
  ·rw[cC i]at e;exact(I.hok b v e).stay (λc w _ q=>q) (λc q=>ne _ _ q λz=>x b z.symm) (λc g q=>ne _ _ q λz=>l g z.symm) λc ob y q=>ne _ _ q λz=>k ob y z.symm
end
def OI(l:Addr)(c:Array Value)(n:Nat)(b:Addr)(a:Array Value)(p:Nat)(k:Option Addr)(q:Array (Option Value))(o:¬(!c.isEmpty&&k4 (c.size+a.size))=true)(e:c.size<=bF)(f:c.size+a.size<=bF+1) :
  ig (t7.«list.extend» ⟨[.ref l,.ref b],[]⟩) (λ_ R s=>s.heap.get? l=some { cls:=.type "list",dict:=none,data:=.seq c n,slots:=#[] }/\s.heap.get? b=some { cls:=.type "list",dict:=k,data:=.seq a p,slots:=q }/\R (.ok (.ret k7)) { s with heap:=s.heap.update l (d6 λx=>x++a),toks:=s.toks }):=
 .of_wp λprog w A R s h=>by
  obtain⟨v,g,d,y,os⟩:=s;obtain⟨j,m,h⟩:=h;have f1:=AutoSeq1.idx_int;have f2:=AutoSeq1.sub_tuple_tuple;have r:=AutoSeq1.sub_list_list;have t:=AutoSeq1.sub_tuple_list;have u:=AutoSeq1.sub_list_tuple;have i:(c++a).size<=bF+1:=by rw[AM];exact f
  wp_walk using(wpAny_updateSeq j kA (hz:=e) (_hz':=i)),cx j,cx m
  exact⟨_,kA,h⟩
section
variable{X:Cx}
def Dy(K:aI):V->List V->Hp->VK->Prop:=λx vs H Q=>∃l b a c,x=.ref l/\vs=[.ref b]/\H l=some (.lst a)/\mK K H b c/\a.length+c.length<=bF/\Q .non (fG H l (.lst (a++c)))
def B7:Ey X "list.extend" (Dy X.K):=by
 intro j s T H x vs v O Q I J G h;obtain⟨l,b,P,S,rfl,rfl,i,p,M,q⟩:=h;cases J;obtain⟨u,rfl,E⟩:=G.one;cases E;obtain⟨z,c,n,r,L,e⟩:=I.lstM i;obtain⟨a,k,⟨o,A,m,t,w,hd⟩,R⟩:=I.list p;have y:=k.length;have f:c.toArray.size+a.toArray.size<=bF:=by rw[bA,bA];lia
 have d:¬(!c.toArray.isEmpty&&k4 (c.toArray.size+a.toArray.size))=true:=by
  rw[W0 f,Bool.and_false];exact bQ
 obtain⟨N,B,C,g⟩:=o;cases t;cases hd;refine t5 F.slot_list_extend ⟨_,e,kA⟩ F.entry_list_extend (F.args_list_extend_2 _ _) (OI l c.toArray n b a.toArray A B g d (by rw[bA];lia) hG) ⟨e,m,?_⟩;refine⟨.non,_,I.lset (its':=c++a) i e hH (r.append k) ?_,kA,q⟩;rw[aZ];lia
end
end L2
namespace TL
open L2
section
variable{X:Cx}{e:Expr}{b a:ET}{pos:Pos}
def Ep(i:Nat)(a:ET):wG:=λh g=>∃c,g[i]?=some (.own c)/\a g λd=>∃f,d=.list f/\c.length+f.length<=100000/\h.nx (g.set i (.own (c++f)))
def B0{i:Nat}{e a}(P:PE X n (nV i))(z:gR X e a)(C:autoParam (bY [e] X.env=(false,eval e X.env)::bY [] X.env) zzz._auto_1)
  (pb:∀{b},PA X [e] b->PS X (.Expr (.Call (.Attribute n "extend" ap) [e] [] cp) pos) (O7 (ZV X.K "list" (Dy X.K) (nV i) b))):BN X (.Expr (.Call (.Attribute n "extend" ap) [e] [] cp) pos) (Ep i a):=by
 obtain⟨v,p,r⟩:=z;refine⟨_,pb (lE p qC C),λB G H j k u L M o h f=>?_⟩;obtain⟨t,e,h⟩:=h;obtain⟨q,g,l,y,N,O,m,s⟩:=o.own i t e;refine⟨.ref q,l,.inl ⟨kA,g,mK.of m⟩,r B G H j k u _ _ o h λd x w c I q1=>?_⟩;obtain⟨J,rfl,E,q1⟩:=q1;have F:=o.grow c
 cases I with
 |@list p2 zs _ hq rs=>
  refine⟨q,p2,g,zs,kA,kA,c _ _ m,L2.bB.seq bW hq,yA (by rw[<- s.length,<- rs.length];exact E),?_⟩;have A:Reps X.K (mask w j) (t++J) (g++zs):=(s.same (bR c)).append rs;exact f.nx _ j _ u (F.write (ys:=g++zs) e l A) ((bR c).trans (by rw[gZ y];exact L2.bB.refl _)) q1
def oO{K}{mg:Str->Option Value}{k:Nat}{f:Addr}{pn}:mB P w K mg base pK k f fd pn (jO K λ_ _=>False):=
 ⟨λvs H Q E ⟨_,_,_,_,_,h,_⟩=>h.elim,λA outer s H c d vs Q E _ _ _ _ ⟨_,_,_,_,_,h,_⟩=>h.elim⟩
def S9{K}{mg:Str->Option Value}{k:Nat}{f:Addr}{pn}:mB P w K mg base pK k f fd pn (iE K λ_ _=>False):=
 ⟨λvs H Q E ⟨_,_,_,_,_,h,_⟩=>h.elim,λA outer s H c d vs Q E _ _ _ _ ⟨_,_,_,_,_,h,_⟩=>h.elim⟩
def uA{K}{mg:Str->Option Value}{k:Nat}{f:Addr}{pn}{i d:kH}(F:mB P w K mg base pK k f fd pn (jO K i))(h:∀c Q,d c Q->i c Q):mB P w K mg base pK k f fd pn (jO K d):=
 F.imp λvs H Q E ⟨o,c,g,j,l,m,n⟩=>⟨o,c,g,j,l,h c g m,n⟩
def Hu(d:D)(Q:D->Prop):Prop:=∃ns:List Int,d=.list (ns.map bO)/\ns≠[]/\∀m,m∈ns->(∀n∈ns,n<=m)->Q (.int m)
end
end TL
namespace L2
section
variable{X:Cx}
def wE(P:X.calm=true):lR X (.builtin "max") (λN H Q=>∃(p:Addr)(ns:List Int),N=[.ref p]/\mK X.K H p (ns.map V.int)/\ns≠[]/\∀m,m∈ns->(∀n∈ns,n<=m)->Q (.int m) H):=by
 intro J s σ H N us Q I r h;obtain⟨p,ns,rfl,T,k,q⟩:=h;obtain⟨u,rfl,W⟩:=nI r;cases W;obtain⟨a,M,L,Z⟩:=I.list T;have g:=M.length;rw[aA]at g;have F:0<ns.length:=UD.mpr k
 have B:p≠s.heap.objs.size:=by
  obtain⟨o,C,_⟩:=L.isList;exact dD (bG C)
 have f:=L.isList
 have l:p<s.heap.objs.size:=by
  obtain⟨o,C,_⟩:=f;exact bG C
 have c:∀(i:Nat)(v:Value),a.toArray[i]?=some v->∃t,v=.int ((ns[i]?).getD 0) t:=λi v w=>by
  have G:a[i]?=some v:=by simpa using w
  have y:i<a.length:=(aG.mp G).1;have d:i<ns.length:=by lia
  obtain⟨w',E,O⟩:=M.get (i:=i) (x:=.int ns[i]) (by rw[aM,aD d];rfl);rw[G]at E;cases E;rw[aD d];exact O
 refine call_max_walk (g9 f ?_);refine⟨_,_,_,_,_,_,_,kA,ee (A:=X.A.in1) (I.ok.hd P) _ p B a.toArray,⟨⟨_,aY _ kA,kA,kA⟩,f.push _⟩,λb d=>?_,by rw[bA];lia,CmpOf.ints_gt (λi=>(ns[i]?).getD 0) c,λv Y tk w hk=>?_⟩
 ·show b<(s.heap.push _).objs.size;rw[dX];have:b=s.heap.objs.size\/b=p:=by simpa using d
  rcases this with rfl | rfl
  ·exact mR _
  ·exact rE l
 ·obtain⟨t,rfl⟩:=c _ _ w;have d:=argBest_gt (λi=>(ns[i]?).getD 0) (a.toArray.size-1);have U:a.toArray.size=ns.length:=by rw[bA];lia
  have y:argBest (λi j=>decide ((ns[i]?).getD 0>(ns[j]?).getD 0)) (a.toArray.size-1)<ns.length:=by have:=d.1;lia
  refine⟨.int _,H,I.kept λb o e=>hk b o ?_ (aE _ e),⟨t,kA⟩,q _ ?_ λn S=>?_⟩
  ·intro z;have:b=s.heap.objs.size:=by simpa using z
   exact b9 (bG e) (by rw[this];exact hZ _)
  ·rw[aD y];exact fL y
  ·obtain⟨j,R,rfl⟩:=wI.mp S;have:=d.2 j hG;rw[aD R]at this;exact this
def Jc(_ j:Int):Prop:=0<j/\j<2^200
def LL:nW X (j1 .FloorDiv) (rI Jc λi j=>.int (i / j)):=xp λi j _ _ _ _ _ a q=>by
 have c:(0:Int)<j:=a.1;have d:j<2^200:=a.2;have b:j.natAbs<2^200:=by lia
 have e:j.natAbs.log2<200:=(Nat.log2_lt hG).mpr b;exact floordiv_int hG (by rw[KG i hG];exact q) (.inl (PyProof.noPylong_of_log2 hG))
end
end L2
namespace TL
open L2
section
variable{X:Cx}{e:Expr}
theorem DZ{K}:∀ns:List Int,Reps K H (ns.map bO) (ns.map V.int)
|[]=>.nil
|n::ns=>.cons (.int n) (DZ ns)
def Cf:pW X (λf H Q=>∃(p:Addr)(ns:List Int),f=[.ref p]/\mK X.K H p (ns.map V.int)/\ns≠[]/\∀m,m∈ns->(∀n∈ns,n<=m)->Q (.int m) H) (f1 Hu):=c1 λH i d x Q g live r h k=>by
 obtain⟨ns,rfl,a,h⟩:=h
 cases r with
 |list q s=>
  have e:=uS s;subst e;exact⟨_,ns,kA,L2.bB.seq bW q,a,λm b c=>k _ _ H (L2.bB.refl H) (.int _) (h m b c)⟩
end
section
variable{X:Cx}{e:Expr}{a:List Expr}{b c:ET}{pos:Pos}
abbrev Af:=List Sl->(List D->List D->Prop)->Prop
def Ag(X:Cx)(e:Expr)(t:Af):Prop:=∃c:TE,PE X e c/\∀B p0 H ps σT σ (Q:List D->List D->Prop)(f:VK),Ok X.K B p0 H ps σT σ->t σT Q ->
 (∀g bs r p q h i d,bB H d->H r=none->H p=none->H q=none->p≠q->d r=some (.tup [.ref p,.ref q])->d p=some (.lst h)->d q=some (.lst i)->Reps X.K (mask d (p::q::ps)) g h->Reps X.K (mask d (p::q::ps)) bs i->Q g bs->f (.ref r) d)->c σ H f
abbrev xj:=List D->(List D->List D->Prop)->Prop
def uY(K:aI)(l:xj):Sp:=λvs H Q _=>∃(f:List Addr)(i:List D)(g:List D->List D->Prop),(∀p∈f,AJ (H p))/\Reps K (mask H f) i vs/\l i g /\
 ∀h bs r p q j k d,bB H d->H r=none->H p=none->H q=none->p≠q->d r=some (.tup [.ref p,.ref q])->d p=some (.lst j)->d q=some (.lst k)->Reps K (mask d (p::q::f)) h j->Reps K (mask d (p::q::f)) bs k->g h bs->Q (.ref r) d
def Du(f:xj)(t:AT):Af:=λg Q=>t g λd=>f d Q
def V8{k:Nat}{f:Addr}{pn}(F:mB X.prog X.w X.K X.mg X.base pK k f fd pn (uY X.K sp))(Z:X.mg x=some (.ref f))(hk:gK X.K (.ref f)=true)(Y:pX X.K fd pn [])
  (hr:hW k X.A) (M:vW X (e::a) t) (P:∀{b},PA X (e::a) b->PE X (.Call (.Name x p) (e::a) [] pos) (F6 (uY X.K sp) [] E0 b)):Ag X (.Call (.Name x p) (e::a) [] pos) (Du sp t):=by
 obtain⟨v,O,g⟩:=M;refine⟨_,P O,λB N H l j W Q s o h k=>g B N H l j W _ _ o h λy i n d R q1=>?_⟩;show uY X.K sp (i++[]) n s E0;rw[dH];exact⟨l,y,Q,(o.grow d).live,R,q1,λu bs r p q i U m T z C E G I J L g S q=>k u bs r p _ i U m (d.trans T) (bB.free' d z) (bB.free' d C) (bB.free' d E) G I J L g S q⟩
def Ff{K}{mg:Str->Option Value}{st}{f:Addr}{N pn:List Str}{k:Nat}{n:xj}(F:OY K x qual st f fd)(S:bL N pn (aU st))
  (j:∀{i}{A:d8}{outer}{s:Shared}{H E},hW k (A.deeper (n4 qual (aU st) s.heap.objs.size f i))->N.Nodup->∀(g:List D)(Q:List D->List D->Prop),n g Q ->
   ∃t,vU (vQ pK P w K mg base N qual (aU st) f i A outer s H E).nox (lF st) t/\t { nx:=λ_=>False,rt:=λ_=>False,rp:=Q } (lB N g)) (len:autoParam (∀g Q,n g Q->g.length=pn.length) zzm._auto_1):mB P w K mg base pK (k+1) f fd pn (uY K n):=by
 refine F.ok S (λvs H Q E h=>?_) λi A outer s H vs Q E J h=>?_
 ·obtain⟨m,g,l,_,r,q,_⟩:=h;rw[<- r.length];exact len g l q
 ·obtain⟨m,g,l,live,r,q,k⟩:=h;obtain⟨t,⟨T,p,O⟩,h⟩:=j J S.nd g l q;exact⟨T,p,O H m H m _ _ _ _ (qS live r) h ⟨λ_ _ _ _ _ _ d=>d.elim,λ_ _ _ _ _ _ d=>d.elim,λ_ _ _ _ _ _ d=>d.elim,λ_ _ _ _ _ d=>d.elim,λ_ _ _ _ _ _ _ _ _ d=>d.elim,λu bs r p q U W o R v y z B C G I L M d=>k u bs r p q U W o R v y z B C G I L M d,λ_ _ _ _ _ _ _ _ _ _ _ _ _ _ d=>d.elim,e9⟩⟩
def Fx(t:Af):ET:=λf Q=>t f λd bs=>Q (.tuple [.list d,.list bs])
def YX(h:Ag X e t):gR X e (Fx t):=by
 obtain⟨v,p,r⟩:=h;refine⟨_,p,λB y H d u F Q G o h k=>r B y H d u F _ _ o h λI bs r p q J K w E m g j x n i l A C q1=>?_⟩;have f:∀{z:Addr},H z=none->z∉d:=λs=>jF o.live s;have sub:∀z∈d,z∈p::q::d:=λz s=>aJ _ (aJ _ s);exact k _ _ w E (.tuple (oR.of (mU (f m) n)) (.cons (.list (mK.of (mU (f g) i)) (A.same (jI sub))) (.cons (.list (mK.of (mU (f j) l)) (C.same (jI sub))) .nil))) q1
end
end TL
namespace L2
open PySem.SeqAt
section
variable{X:Cx}
theorem tP(ns:List Int):∀k:Nat,preSum (λi=>(ns[i]?).getD 0) k=(ns.take k).sum
|0=>rfl
|k+1=>by
 show preSum _ k+(ns[k]?).getD 0=_;rw[tP ns k,cI,List.sum_append]
 cases ns[k]? with
 |none=>simp
 |some x=>simp
theorem F7:∀ns:List Int,(∀n∈ns,0<=n/\n<2^40)->0<=ns.sum/\ns.sum<=(ns.length:Int)*2^40
|[],_=>by simp
|n::ns,h=>by
 have b:=h n (aO ..);have c:=F7 ns λx a=>h x (aJ _ a);rw[fD,bN];constructor
 ·lia
 ·have:((ns.length+1:Nat):Int)*2^40=(ns.length:Int)*2^40+2^40:=by rw[gS,UG];rfl
  lia
def wD(R:X.calm=true):lR X (.builtin "sum") (λO H Q=>∃(p:Addr)(ns:List Int),O=[.ref p]/\mK X.K H p (ns.map V.int)/\(∀n∈ns,0<=n/\n<2^40)/\ns.length<=1000/\Q (.int ns.sum) H):=by
 intro L s σ H O us Q I r h;obtain⟨p,ns,rfl,U,m,C,q⟩:=h;obtain⟨u,rfl,W⟩:=nI r;cases W;obtain⟨a,N,M,hz⟩:=I.list U;have g:=N.length;rw[aA]at g
 have E:p≠s.heap.objs.size:=by
  obtain⟨o,F,_⟩:=M.isList;exact dD (bG F)
 have c:=M.isList
 have l:p<s.heap.objs.size:=by
  obtain⟨o,F,_⟩:=c;exact bG F
 have w:∀(i:Nat)(v:Value),a.toArray[i]?=some v->∃t,v=.int ((ns[i]?).getD 0) t:=λi v P=>by
  have J:a[i]?=some v:=by simpa using P
  have hi:i<a.length:=(aG.mp J).1;have y:i<ns.length:=by lia
  obtain⟨w',B,G⟩:=N.get (i:=i) (x:=.int ns[i]) (by rw[aM,aD y];rfl);rw[J]at B;cases B;rw[aD y];exact G
 have d:∀k:Nat,0<=(ns.take k).sum/\(ns.take k).sum<2^63:=λk=>by
  have B:=F7 (ns.take k) λn T=>m n (dU T);have G:(ns.take k).length<=1000:=by rw[bD];lia
  have h3:((ns.take k).length:Int)*2^40<=1000*2^40:=Int.mul_le_mul_of_nonneg_right hG gV;lia
 refine call_sum_walk (g9 c ?_);refine⟨_,_,_,_,_,_,λi=>(ns[i]?).getD 0,kA,ee (A:=X.A.in1) (I.ok.hd R) _ p E a.toArray,⟨⟨_,aY _ kA,kA,kA⟩,c.push _⟩,λb y=>?_,w,λj S=>?_,λZ tk Y hk=>?_⟩
 ·show b<(s.heap.push _).objs.size;rw[dX];have:b=s.heap.objs.size\/b=p:=by simpa using y
  rcases this with rfl | rfl
  ·exact mR _
  ·exact rE l
 ·rw[bA]at S;have f:j<ns.length:=by lia
  refine⟨?_,?_⟩
  ·have:=m ns[j] (fL f);show InLong ((ns[j]?).getD 0);rw[aD f];show -(2^63)<=ns[j]/\ns[j]<2^63;lia
  ·rw[tP];have:=d (j+1);show -(2^63)<=_/\_<2^63;lia
 ·refine⟨.int _,H,I.kept λb o e=>hk b o ?_ (aE _ e),⟨Y,kA⟩,?_⟩
  ·intro z;have:b=s.heap.objs.size:=by simpa using z
   exact b9 (bG e) (by rw[this];exact hZ _)
  ·rw[tP,fF (by rw[bA];lia)];exact q
end
def EG(l:Addr)(a:Array Value) :
  ig (t7.«enumerate.__new__» ⟨[.type "enumerate",.ref l],[]⟩) (λ_ R s=>s.heap.IsList l a /\
   R (.ok (.ret (.ref (s.heap.push { cls:=.type "list_iterator",data:=.fields #[.ref l,.int 0 0] }).objs.size)))
    { s with heap:=(s.heap.push { cls:=.type "list_iterator",data:=.fields #[.ref l,.int 0 0] }).push { cls:=.type "enumerate",data:=.fields #[.none,.bool false,.ref s.heap.objs.size,u5 0,.none,.none] } }):=
 .of_wp λprog w A R s h=>by
  obtain⟨i,g,d,j,os⟩:=s;obtain⟨f,h⟩:=h;have e:=sub_enumerate;have b:E7 (u3 ⟨i,g,d,j,os⟩) l a:=f
  wp_walk
  refine wpAny_stack_any λst=>bC ?_;split
  ·rename_i c _ _ _ _ _;cases (c==bf "enumerate")
   ·wp_walk using g9 b
    exact⟨_,kA,h⟩
   ·wp_walk using g9 b
    exact⟨_,kA,h⟩
  ·wp_walk using g9 b
   exact⟨_,kA,h⟩
section
variable{P:cK}{w:e6}{A:d8}{E:Value->Shared->Prop}{s:Shared}
def BK{l:Addr}{Q:Value->Shared->Prop}(e:s.heap.IsList l items)
  (h:∀a,di a (s.heap.objs.size+1) s.heap.objs.size 0 .none->a.IsListIter s.heap.objs.size l 0->a.objs.size=s.heap.objs.size+2 ->
   (∀b o,s.heap.get? b=some o->a.get? b=some o)->Q (.ref (s.heap.objs.size+1)) { s with heap:=a }) :
  wpAny (model P w) A (call (.type "enumerate") [.ref l]) Q E s:=by
 refine bg fx gV (dz _) (ev _) (λobj=>fb obj _) eu
  (EG l items) ⟨e,?_⟩
 have c:(s.heap.push { cls:=.type "list_iterator",data:=.fields #[.ref l,.int 0 0] }).objs.size=s.heap.objs.size+1:=dX ..;show _/\_;rw[c]
 have d:di ((s.heap.push { cls:=.type "list_iterator",data:=.fields #[.ref l,.int 0 0] }).push
   { cls:=.type "enumerate",data:=.fields #[.none,.bool false,.ref s.heap.objs.size,u5 0,.none,.none] }) (s.heap.objs.size+1) s.heap.objs.size 0 .none:=by
  have:=aY (s.heap.push { cls:=.type "list_iterator",data:=.fields #[.ref l,.int 0 0] })
   (o:={ cls:=.type "enumerate",data:=.fields #[.none,.bool false,.ref s.heap.objs.size,u5 0,.none,.none] }) kA
  rw[c]at this;exact this
 exact⟨⟨_,d,kA⟩,h _ d ⟨_,aE _ (aY _ kA),kA,kA⟩ (by rw[dX,c]) λb o x=>aE _ (aE _ x)⟩
end
noncomputable def Ez(K:aI)(a:Addr):It:=
 ⟨λi H=>∃b x,mK K H a b/\b[i]?=some x,
  λi H v c=>∃p x,H p=none/\v=.ref p/\c=fG H p (.tup [.int (i:Int),x])/\∀b,mK K H a b->b[i]?=some x,
  λi H=>∃b,mK K H a b/\b.length<=i⟩
def RO{K}{x1:Nat}{e it l:Addr}(ik:e≠it) :
  J0 P w K (.Tuple r8 x1 pos) (Ez K l) [e,it] e (λi h=>(∃old,di h e it (i:Int) old)/\h.IsListIter it l i) where
 mem:=by simp
 obj:=λi h st b hb=>by
  obtain⟨⟨old,he⟩,cj⟩:=st;simp only[aR,cX,g8]at hb;rcases hb with rfl | rfl
  ·exact⟨_,he,λv q=>by cases q⟩
  ·obtain⟨o,e,c,d⟩:=cj;exact⟨o,e,λv z=>by rw[d]at z;cases z⟩
 keep:=λi h h' st k=>by
  obtain⟨⟨old,he⟩,cj⟩:=st;exact⟨⟨old,k e hH _ he⟩,cj.at λo x=>k it hH o x⟩
 item:=by
  intro X hP hw hK hc i pins s σ H E I hf st hg;subst hP hw hK;obtain⟨⟨old,he⟩,cj⟩:=st;obtain⟨xs,x,hq,hx⟩:=hg;obtain⟨w5,rv,p,hz⟩:=I.list hq;obtain⟨u,hu,ru⟩:=rv.get hx;refine wpAny_pyNext_enum_item he cj p.isList (x:=u) (by simpa using hu) ik λh' a1 a2 a3 a4 a5=>⟨_,kA,?_⟩;refine dv (s:={ s with heap:=h',toks:=s.toks+1 }) a1 λh2 b1 sb=>?_;have fg:e<s.heap.objs.size:=bG he
  have kk:∀c o,c∉[e,it]->s.heap.get? c=some o->h2.get? c=some o:=λc o u4 x=>by
   simp only[aR,cX,g8,fu]at u4;exact sb.extBut _ _ u4.1 (a5 c o u4.1 u4.2 x)
  have hT:=sb.extBut _ _ (jJ fg) a3;have I1:dJ X pins σ (fG H s.heap.objs.size (.tup [.int (i:Int),x])) { s with heap:=h2,toks:=s.toks+1 }:=I.turnedNew (t':=s.toks+1) hf kk (aN _) ⟨(by show 2<=bF;decide),[.int i s.toks,u],.cons ⟨_,kA⟩ (.cons ru .nil),⟨_,hT,kA,_,kA,kA⟩⟩;refine⟨.ref s.heap.objs.size,_,I1,kA,⟨_,x,I.hok.fresh (aN _),kA,kA,λys hy=>by rw[I.list_inj hy hq];exact hx⟩,?_,λc u4=>?_⟩
  ·exact⟨⟨_,by rw[gS];exact b1⟩,a2.at λo x=>sb.extBut _ _ (k6 ik) x⟩
  ·have bn:c≠s.heap.objs.size:=by
    simp only[aR,cX,g8]at u4;rcases u4 with rfl | rfl
    ·exact dD fg
    ·obtain⟨o,z,_⟩:=cj;exact dD (bG z)
   rw[cC bn];exact(hf c u4).1
 done:=by
  intro X hP hw hK hc i pins s σ H E I hf st hg;subst hP hw hK;obtain⟨⟨old,he⟩,cj⟩:=st;obtain⟨xs,hq,hx⟩:=hg;obtain⟨w5,rv,p,hz⟩:=I.list hq;have hl:=rv.length;refine wpAny_pyNext_enum_end (I.ok.hd hc) he cj p.isList (by simp;lia) λh' eb=>⟨kA,I.turnedL (t':=s.toks) hf λc o u4 x=>?_⟩;simp only[aR,cX,g8,fu]at u4;exact eb c o u4.2 x
 self:=λA i s Q E st h=>by
  obtain⟨⟨old,he⟩,_⟩:=st;exact v8 he h
def uE:d7 "enumerate"=some (.type "enumerate"):=by decide +kernel
def Cs(K:aI)(b:TA):TI:=λd H R=>b d H λvs a=>∃l c,vs=[.ref l]/\mK K a l c/\R (Ez K l) a
section
variable{X:Cx}
def Xq{C:Nat}(o:Gl X "enumerate")(t:X.mg "enumerate"=none)(n:PA X [a] ta)(v:autoParam (bY [a] X.env=[(false,eval a X.env)]) zzz._auto_1) :
  PI X (.Tuple r8 C tpos) (.Call (.Name "enumerate" p) [a] [] pos) (Cs X.K ta):=by
 intro d s F H R I h;refine Call_ (rX I o t uE (f8 (iW (n pos d s F H _ I h) λG b E=>?_) (by rw[v];rfl) (by rfl)));obtain⟨vs,k,f,y,q1⟩:=E;obtain⟨l,J,rfl,u,q⟩:=q1
 cases y with
 |cons r z=>
  cases z;cases r;obtain⟨B,A,p1,x⟩:=f.list u;refine BK p1.isList λm j g w hk=>v8 (s:={ b with heap:=m }) j ?_;refine⟨_,[b.heap.objs.size+1,b.heap.objs.size],_,_,k,kA,f.kept (t':=b.toks) hk,RO (e:=b.heap.objs.size+1) (it:=b.heap.objs.size) (l:=l) (aDn _),⟨⟨_,j⟩,g⟩,λc i=>?_,q⟩;simp only[aR,cX,g8]at i;have le:b.heap.objs.size<=c:=by rcases i with rfl | rfl<;>first | exact aN _ | exact oY _ _
  exact f.fpOk le (f.hok.fresh le)
end
end L2
namespace TL
open L2 PySem.SeqAt
variable{K:aI}
def ZM(K:aI)(a:Addr)(c:List Str):Prop:=∃(o:Obj)(b:Array Value)(n:Nat),K.lookup a=some o/\o.cls=.type "tuple"/\o.dict=none/\o.data=.seq b n/\b.size<=bF/\fQ (c.map V.str) b.toList
theorem wO:∀a:List Str,Reps K H (a.map aL) (a.map V.str)
|[]=>.nil
|y::a=>.cons (.str y) (wO a)
noncomputable def wC(a:List D):List D:=sV (fW a.length) a
def lW(a:List D):(wC a).length=a.length:=by unfold wC;rw[oJ];unfold fW;simp
def qW{i:Nat}(h:as[i]?=some a):(wC as)[i]?=some (.tuple [.int (i:Int),a]):=by
 have b:=(aG.mp h).1;unfold wC sV fW;rw[aM,(eD (z:=(bO (i:Int),a))).mpr ⟨by rw[aM,kJ b];rfl,h⟩];rfl
def Tk(t:AT):IT:=λc Q=>t c λb=>∃a,b=[.list a]/\Q (wC a)
section
variable{X:Cx}{a b e:Expr}{w:List Expr}{c C g:ET}{pos:Pos}
def CG{x:Str}{p:Addr}{d:List Str}{pos}(f:Gl X x)(i:X.mg x=some (.ref p))(hk:ZM X.K p d)(hd:autoParam ((x==("__debug__":Str))=false) zzy._auto_1):gR X (.Name x pos) (eC (.tuple (d.map aL))):=
 ⟨_,IC (v:=.ref p) f i kA hd,λ_ _ H _ _ _ _ _ _ h k=>k _ _ H (L2.bB.refl H) (.tuple (.inr hk) (wO d)) h⟩
def Wr{m:Nat}(v:vW X [a] t)(I:∀{c},PA X [a] c->PI X (.Tuple r8 m tpos) (.Call (.Name "enumerate" p) [a] [] p') (Cs X.K c)):MZ X (.Tuple r8 m tpos) (.Call (.Name "enumerate" p) [a] [] p') (Tk t):=by
 obtain⟨U,E,L⟩:=v;refine⟨_,I E,λB A H F j O Q R o h k=>L B A H F j O _ _ o h λT W n M f q1=>?_⟩;obtain⟨S,rfl,q⟩:=q1
 cases f with
 |cons f J=>
  cases J
  cases f with
  |@list p1 us _ ak rs1=>
   have n1:=rs1.length;refine⟨p1,us,kA,L2.bB.seq bW ak,k _ _ n M ⟨λi H e d=>?_,λi H e d=>?_,λi H G y P live e d z=>?_⟩ q⟩
   ·rw[lW]at d;exact⟨us,L2.bB.seq e ak,hG⟩
   ·rw[lW]at d;exact⟨us,us[i],L2.bB.seq e ak,aD hG⟩
   ·obtain⟨p,x,l,rfl,rfl,u⟩:=z;obtain⟨r,s,N⟩:=rs1.get' (u us (L2.bB.seq (e.trans bW) ak));exact⟨dM l,.tuple [.int (i:Int),r],qW s,oG live l (.cons (.int _) (.cons (N.same e) .nil))⟩
def Be(d:D)(Q:D->Prop):Prop:=∃ns:List Int,d=.list (ns.map bO)/\(∀n∈ns,0<=n/\n<2^40)/\ns.length<=1000/\Q (.int ns.sum)
def Cg:pW X (λj H Q=>∃(p:Addr)(ns:List Int),j=[.ref p]/\mK X.K H p (ns.map V.int)/\(∀n∈ns,0<=n/\n<2^40)/\ns.length<=1000/\Q (.int ns.sum) H) (f1 Be):=c1 λH m d x Q l live r h k=>by
 obtain⟨ns,rfl,i,f,h⟩:=h
 cases r with
 |list q s=>
  have e:=uS s;subst e;exact⟨_,ns,kA,L2.bB.seq bW q,i,f,k _ _ H (L2.bB.refl H) (.int _) h⟩
def HW(K:aI):V->List V->Hp->VK->Prop:=λx h H Q=>∃(y:V)(f:List D)(d:D)(j:Nat),h=[y]/\gO K H (.list f) x/\gO K H d y/\SF f d j/\j<1000000/\Q (.int j) H
def N2(U:X.A.units+200<x0):Q9 X "list.index" (HW X.K):=by
 intro M s σ H x xs v us Q I rx rv h;obtain⟨y,i,d,j,rfl,Z,r2,⟨c1,E,p,⟨t,L,R⟩,z⟩,S,q⟩:=h;obtain⟨u,rfl,ru⟩:=rv.one;obtain⟨as,O⟩:=gO.reads I (show(vJ i).hasDict=false from noDictAll c1) Z rx;obtain⟨bs,P⟩:=gO.reads I (mX E) r2 ru
 cases O with
 |@list l o items n _ as' h3 h4 h5 h6=>
  have f:=fi i items.toList _ c1 h6;have J:items.size=i.length:=by rw[<- f,aA,fM]
  have T:j<i.length:=(aG.mp L).1;have G:j<items.size:=by lia
  have N:∀(m:Nat)(p:m<items.size),i[m]?=some (fh s.heap items[m]):=λm p=>by
   rw[<- f,aM];simp[p]
  obtain⟨oc,W,Y,B⟩:=o;cases h4;cases h5;refine t5 F.slot_list_index ⟨_,h3,kA⟩ F.entry_list_index (F.args_list_index_2 _ _) (list_indexAt _ items _ W B u (λy=>cM (fh s.heap y) d) j G hG ?_ ?_) ⟨h3,gs h6 P c1 E (by have:=U;lia),?_⟩
  ·have:=N j G;rw[L]at this;rw[<- c5 this];exact R
  ·intro m r k;exact z m _ k (N m r)
  ·exact⟨.int j,H,I.tok _,⟨_,kA⟩,q⟩
def uX{k:Nat}(d:hW k X.A):Q9 X "list.index" (HW X.K):=N2 (by have:=d.un;lia)
def CH(g:ET)(t:AT):ET:=λh Q=>g h λd=>∃f,d=.list f/\t h λi=>∃(x:D)(j:Nat),i=[x]/\SF f x j/\j<1000000/\Q (.int j)
def vD(E:gR X n g)(z:vW X (e::w) t)
  (G:∀{v c},PE X n v->PA X (e::w) c->PE X (.Call (.Attribute n "index" ap) (e::w) [] pos) (ZV X.K "list" (HW X.K) v c)):gR X (.Call (.Attribute n "index" ap) (e::w) [] pos) (CH g t):=by
 obtain⟨v,I,R⟩:=E;obtain⟨W,F,P⟩:=z;refine⟨_,G I F,λB i H l f s Q T o h k=>R B i H l f s _ _ o h λd x u m L q1=>?_⟩;obtain⟨S,rfl,q1⟩:=q1
 cases L with
 |@list p xs _ hq rs=>
  refine⟨.inl ⟨kA,_,L2.bB.seq bW hq⟩,P B i u l f s _ _ (o.grow m) q1 λU Y y r M J=>?_⟩;obtain⟨d,j,rfl,hok,A,q⟩:=J
  cases M with
  |cons N O=>
   cases O;exact⟨_,S,d,j,kA,(gO.list hq rs).same ((bR r).trans bW),N.same bW,hok,A,k _ _ y (m.trans r) (.int _) q⟩
def Bi(f:List D)(d:D):Prop:=dI f=true/\d.canLay0=true/\min (fB f) d.depth<=60
def HX(K:aI):V->List V->Hp->VK->Prop:=λx h H Q=>∃(y:V)(f:List D)(d:D),h=[y]/\gO K H (.list f) x/\gO K H d y/\Bi f d/\Q (.int ((f.countP λt=>cM t d:Nat):Int)) H
def N3(z:X.A.units+200<x0):Q9 X "list.count" (HX X.K):=by
 intro m s U H x T v S Q I N M h;obtain⟨y,j,d,rfl,G,J,⟨c1,k,P⟩,q⟩:=h;obtain⟨u,rfl,L⟩:=M.one;obtain⟨O,p⟩:=gO.reads I (show(vJ j).hasDict=false from noDictAll c1) G N;obtain⟨bs,r⟩:=gO.reads I (mX k) J L
 cases p with
 |@list l o items n _ as' h3 h4 h5 h6=>
  have f:=fi j items.toList _ c1 h6;obtain⟨R,B,E,i⟩:=o;cases h4;cases h5;refine t5 F.slot_list_count ⟨_,h3,kA⟩ F.entry_list_count (F.args_list_count_2 _ _) (list_countAt _ items _ B i u (λy=>cM (fh s.heap y) d)) ⟨h3,gs h6 r c1 k (by have:=z;lia),?_⟩;refine⟨.int _,H,I.tok _,⟨_,kA⟩,?_⟩
  have e:(items.toList.countP λy=>cM (fh s.heap y) d)=j.countP λt=>cM t d:=by
   rw[<- f,FG];rfl
  rw[e];exact q
def SM{k:Nat}(d:hW k X.A):Q9 X "list.count" (HX X.K):=N3 (by have:=d.un;lia)
def Xa(g:ET)(t:AT):ET:=λh Q=>g h λd=>∃f,d=.list f/\t h λi=>∃x:D,i=[x]/\Bi f x/\Q (.int ((f.countP λt=>cM t x:Nat):Int))
def TD(z:gR X n g)(y:vW X (e::w) t)
  (E:∀{v c},PE X n v->PA X (e::w) c->PE X (.Call (.Attribute n "count" ap) (e::w) [] pos) (ZV X.K "list" (HX X.K) v c)):gR X (.Call (.Attribute n "count" ap) (e::w) [] pos) (Xa g t):=by
 obtain⟨v,F,O⟩:=z;obtain⟨T,A,N⟩:=y;refine⟨_,E F A,λB i H j f r Q R o h k=>O B i H j f r _ _ o h λd x s l I q1=>?_⟩;obtain⟨P,rfl,q1⟩:=q1
 cases I with
 |@list p xs _ hq rs=>
  refine⟨.inl ⟨kA,_,L2.bB.seq bW hq⟩,N B i s j f r _ _ (o.grow l) q1 λS U u m J G=>?_⟩;obtain⟨d,rfl,hok,q⟩:=G
  cases J with
  |cons L M=>
   cases M;exact⟨_,P,d,kA,(gO.list hq rs).same ((bR m).trans bW),L.same bW,hok,k _ _ u (l.trans m) (.int _) q⟩
def Wt(g:ET):wF:=λh Q=>g h λd=>∃f,d=.list f/\Q (!f.isEmpty)
def F3(h:gR X e g)(pt:∀{t},PE X e t->PT X e (λf H Q=>t f H λx j=>∃k,zk X.K x j k/\Q k j)):J1 X e (Wt g):=by
 obtain⟨v,p,r⟩:=h;refine⟨_,pt p,λB s H u i f Q A o h k=>r B s H u i f _ _ o h λd x m z y q1=>?_⟩;obtain⟨l,rfl,q⟩:=q1
 cases y with
 |@list p xs _ hq rs=>
  have n:=rs.length;refine⟨!xs.isEmpty,.inl ⟨xs,L2.bB.seq bW hq,kA⟩,?_⟩
  have:(!xs.isEmpty)=(!l.isEmpty):=by
   cases xs<;>cases l<;>first | rfl | (simp at n)
  rw[this];exact k _ m z q
def R1(c C:FT):wG:=λf d=>c d λh=>C d λbs=>f.rp h bs
def K6{c C}(J:OV X n c)(Z:OV X m C)(hs:autoParam (bY [n,m] X.env=(false,eval n X.env)::bY [m] X.env) zzz._auto_1)(N:autoParam (bY [m] X.env=(false,eval m X.env)::bY [] X.env) zzz._auto_1):BN X (.Return (some (.Tuple [n,m] x1 p2)) pos) (R1 c C):=by
 obtain⟨va,pa,ra⟩:=J;obtain⟨vb,pb,rb⟩:=Z;refine⟨_,C9 (NS (lE pa (lE pb qC N) hs)),λB s H t k S DT DV o h f=>?_⟩;refine ra B s H t k S _ _ o h λW p U v y T x rs q1=>?_
 have o1:Ok X.K B s v (p::t) k S:=by
  have o2:=o.grow (rH y T);have J:without v p p=none:=by unfold without;rw[a9 rfl]
  have o3:=o2.adopt (u:=.lst U) J
  rwa [AN x]at o3
 refine rb B s v (p::t) k S _ _ o1 q1 λbs q ys E A M O R q2=>?_;refine⟨aC kA,λr l=>?_⟩;have j:=A _ _ x;have L:p≠q:=λz=>by rw[z,M]at x;cases x
 have P:p≠r:=λz=>by rw[z,l]at j;cases j
 have Q:q≠r:=λz=>by rw[z,l]at O;cases O
 have Y:∀{z:Addr},H z=none->B z=none:=λhz=>bB.free' o.base hz;have live:∀z∈s,AJ (H z):=λz hz=>o.live z (o.sub z hz)
 have m1:bB (mask v (p::t)) (mask (fG E r (.tup [.ref p,.ref q])) (p::q::s)):=λb u i=>by
  unfold mask at i |-
  by_cases d:b∈p::t
  ·rw[a9 d]at i;cases i
  ·rw[a8 d]at i;have F:=A _ _ i;have I:b≠r:=λz=>by rw[z,l]at F;cases F
   have G:b≠q:=λz=>by rw[z,M]at i;cases i
   rw[a8,cC I]
   ·exact F
   ·intro z;rcases aR.mp z with z | z
    ·exact d (z▸aO ..)
    ·rcases aR.mp z with z | z
     ·exact G z
     ·exact d (aJ _ (o.sub b z))
 have m2:bB (mask E (q::p::t)) (mask (fG E r (.tup [.ref p,.ref q])) (p::q::s)):=(bR (dM l)).trans (jI λz hz=>by
  rcases aR.mp hz with rfl | hz
  ·exact aJ _ (aO ..)
  ·rcases aR.mp hz with rfl | hz
   ·exact aO ..
   ·exact aJ _ (aJ _ (o.sub z hz)))
 exact f.rp W bs r p q U ys _ (o.base.trans (y.trans (A.trans (dM l)))) (bB.free' (o.base.trans (y.trans A)) l) (Y T) (bB.free' (o.base.trans y) M) L cD (by rw[cC P];exact j) (by rw[cC Q];exact O) (rs.same m1) (R.same m2) q2
end
end TL
namespace TL
def ZD:d7 "sum"=some (.builtin "sum"):=by decide +kernel
open L2
section
variable{d:List (Option Nat)}{j:IT}{g:wF}{i:ET}{c:List Sl}{Q:D->Prop}{ts:List D}
def LW(o:uH j c ts)(p:D->Bool)(f:D->D)(A:ts.length<=100000)(u:∀x∈ts,∃a b,x=.tuple [a,b])
  (v:∀(a b:D)(q:Bool->Prop),.tuple [a,b]∈ts->q (p (.tuple [a,b]))->g (((kF d c).set 0 (.val a)).set 1 (.val b)) q)
  (z:∀(a b:D)(q:D->Prop),.tuple [a,b]∈ts->q (f (.tuple [a,b]))->i (((kF d c).set 0 (.val a)).set 1 (.val b)) q) (w:Q (.list ((ts.filter p).map f))):Y1 d j (gP 0 1) g i c Q:=by
 refine o _ ⟨A,λk l m=>(∀x y,(l.set 0 (.val x)).set 1 (.val y)=((kF d c).set 0 (.val x)).set 1 (.val y))/\m=((ts.take k).filter p).map f,⟨λ_ _=>rfl,kA⟩,λk x l m s h=>?_,λl m h=>?_⟩
 ·obtain⟨t,rfl⟩:=h;have n:x∈ts:=aV s;obtain⟨a,b,rfl⟩:=u x n;refine⟨a,b,kA,?_⟩;show g ((l.set 0 (.val a)).set 1 (.val b)) _;rw[t a b];refine v a b _ n ?_;have e:ts.take (k+1)=ts.take k++[.tuple [a,b]]:=by rw[cI,s];rfl
  cases r:p (.tuple [a,b])with
  |true=>
   rw[a9 rfl];refine z a b _ n ⟨λx y=>zL _ _ _ _ _,?_⟩;rw[e,gA,bT];simp[r]
  |false=>
   rw[a8 gV];refine⟨λx y=>zL _ _ _ _ _,?_⟩;rw[e,gA,bT];simp[r]
 ·obtain⟨_,rfl⟩:=h;rw[dB];exact w
end
open PySem.Builtin PySem.Builtin.Str PySem.StrLaws
def F8(x:Str)(c i:Nat):subAt x ⟨#[c]⟩ i=(x.cps.toList[i]?==some c):=by
 rw[subAt_eq];show(((x.cps.toList.drop i).take 1)==[c])=_
 cases h:x.cps.toList[i]? with
 |none=>
  have:x.cps.toList.drop i=[]:=sU (qL.mp h);rw[this];rfl
 |some a=>
  have b:=(aG.mp h).1
  have e:x.cps.toList.drop i=a::x.cps.toList.drop (i+1):=by
   rw[KE b];congr 1;exact(aG.mp h).2
  rw[e];show(a::List.take 0 _==[c])=(some a==some c);simp
theorem zR(x:Str)(c b:Nat):∀(n a:Nat)(st:Array Nat×Nat),st.snd<=a->st.fst.size<=a->a+n<=b ->
 (fy (E5 a n) st (occBody x ⟨#[c]⟩ x.length b)).run.fst.size=st.fst.size+(E5 a n).countP λi=>x.cps.toList[i]?==some c
|0,_,_,_,_,_=>rfl
|n+1,a,st,h1,h2,h3=>by
 rw[Z2,pE,CO];unfold occBody;by_cases d:((st.fst.size<b/\st.snd<=a)/\a+(⟨#[c]⟩:Str).length<=x.length)/\subAt x ⟨#[c]⟩ a=true
 ·rw[a9 d];have f:=zR x c b n (a+1) (st.fst.push a,a+(⟨#[c]⟩:Str).length) (aN _) (by rw[E8];lia) hG;have e:=d.2;rw[F8]at e;rw[a9 e];refine f.trans ?_;rw[E8];lia
 ·rw[a8 d];have f:=zR x c b n (a+1) (st.fst,st.snd) (by show st.snd<=a+1;lia) (by show st.fst.size<=a+1;lia) hG
  have e:¬((x.cps.toList[a]?==some c)=true):=λq=>d ⟨⟨⟨hG,h1⟩,by
   have:x.cps.toList[a]?=some c:=by simpa using q
   have g:=(aG.mp this).1;have:x.cps.toList.length=x.length:=by simp[q9]
   show a+1<=x.length;lia⟩,by rw[F8];exact q⟩
  rw[a8 e];exact f
theorem A6(c:Nat):∀L:List Nat,(fZ L.length).countP (λi=>L[i]?==some c)=L.count c
|[]=>rfl
|a::L=>by
 rw[bN,List.range_succ_eq_map,CO,FG,List.count_cons,<- A6 c L];have b:((λi=>(a::L)[i]?==some c)∘Nat.succ)=λi=>L[i]?==some c:=by funext i;rfl
 rw[b];congr 1
def P3(x:Str)(c:Nat):(occurrences x ⟨#[c]⟩ 0 x.length (x.length+1)).length=x.cps.toList.count c:=by
 rw[occ_eq,fM];have h:=zR x c (x.length+1) (x.length+1-0) 0 (#[],0) (aN _) (aN _) hG;rw[h];have a:x.cps.toList.length=x.length:=by simp[q9]
 show 0+_=_;rw[BT,uL,<- List.range_eq_range',FD,List.countP_append,<- a,A6]
 have:([x.cps.toList.length].countP λi=>x.cps.toList[i]?==some c)=0:=by
  rw[List.countP_singleton,eB (aN _)];rfl
 rw[this];rfl
noncomputable def jn(c:Nat):List (List Nat)->List Nat
|[]=>[]
|[p]=>p
|p::q::r=>p++c::jn c (q::r)
theorem yF(c:Nat):∀b:List Str,(ed ⟨#[c]⟩ b).cps.toList=jn c (b.map (·.cps.toList))
|[]=>rfl
|[p]=>rfl
|p::q::r=>by
 have d:=yF c (q::r);show(p++⟨#[c]⟩++ed ⟨#[c]⟩ (q::r)).cps.toList=_
 have a:∀x y:Str,(x++y).cps.toList=x.cps.toList++y.cps.toList:=λx y=>by
  show(x.cps++y.cps).toList=_;simp
 rw[a,a,d,iA]
 rfl
theorem L4(c:Nat):∀(p:List Nat)(r:List (List Nat)),(jn c (p::r)).count c=r.length+((p::r).map (HG c)).sum
|p,[]=>by show p.count c=0+(p.count c+0);lia
|p,q::r=>by
 have a:=L4 c q r;show(p++c::jn c (q::r)).count c=_;rw[List.count_append,List.count_cons_self,a];simp only[bN,bI,fD];lia
theorem X4(c:Nat):∀(p w:List Nat)(r s:List (List Nat)),(∀l∈p::r,c∉l)->(∀l∈w::s,c∉l)->jn c (p::r)=jn c (w::s)->p::r=w::s
|p,w,[],[],_,_,h=>by
 have:p=w:=h;rw[this]
|p,w,[],q::s,h1,_,h=>by
 have e:p=w++c::jn c (q::s):=h;exact b9 (by rw[e];simp) (h1 p (aO ..))
|p,w,q::r,[],_,h2,h=>by
 have e:p++c::jn c (q::r)=w:=h;exact b9 (by rw[<- e];simp) (h2 w (aO ..))
|p,w,q::r,t::s,h1,h2,h=>by
 have e:p++c::jn c (q::r)=w++c::jn c (t::s):=h;have d:=h1 p (aO ..);have hw:=h2 w (aO ..)
 have k:∀(p w a b:List Nat),c∉p->c∉w->p++c::a=w++c::b->p=w/\a=b:=λp=>by
  induction p with
  |nil=>
   intro w a b _ hw e
   cases w with
   |nil=>exact⟨kA,(k9 e).2⟩
   |cons y w=>exact b9 (by rw[(k9 e).1];exact aO ..) hw
  |cons x p j=>
   intro w a b d hw e
   cases w with
   |nil=>exact b9 (by rw[<- (k9 e).1];exact aO ..) d
   |cons y w=>
    obtain⟨f,g⟩:=k9 e;obtain⟨m,n⟩:=j w a b (λz=>d (aJ _ z)) (λz=>hw (aJ _ z)) g;exact⟨by rw[f,m],n⟩
 obtain⟨f,g⟩:=k p w _ _ d hw e;have j:=X4 c q t r s (λl i=>h1 l (aJ _ i)) (λl i=>h2 l (aJ _ i)) g;rw[f,j]
def rL(c:Nat)(E:c<256)(w:Str)(e:List Str)(h:∀x∈w::e,c∉x.cps.toList):Txt.split (Txt.join ⟨#[c]⟩ (w::e)) ⟨#[c]⟩=w::e:=by
 have ext:∀{x y:Str},x.cps.toList=y.cps.toList->x=y:=λ{x y} h=>by
  cases x with
  |mk a=>
   cases y with
   |mk b=>
    have:a=b:=by simpa using e5 aJr h
    rw[this]
 have inj:∀{j g:List Str},j.map (·.cps.toList)=g.map (·.cps.toList)->j=g:=λ{j}=>by
  induction j with
  |nil=>intro g h;cases g with | nil=>rfl | cons _ _=>cases h
  |cons x j A=>
   intro g h
   cases g with
   |nil=>cases h
   |cons y g=>
    rw[bI,bI]at h;obtain⟨k,p⟩:=k9 h;rw[ext k,A p]
 generalize H:Txt.join ⟨#[c]⟩ (w::e)=x
 have z:x.cps.toList=jn c ((w::e).map (·.cps.toList)):=by
  rw[<- H];show(glued _ _).cps.toList=_;rw[glued_eq_join,yF]
 have u:∀l∈(w::e).map (·.cps.toList),c∉l:=λl s=>by
  obtain⟨y,I,rfl⟩:=aQ.mp s;exact h y I
 -- any list of parts that glues to x and has as many as there are cs and one
 have fin:∀(q:Str)(qs:List Str),glued ⟨#[c]⟩ (q::qs)=x->qs.length=x.cps.toList.count c->q::qs=w::e:=λq qs o hn=>by
  have i:x.cps.toList=jn c ((q::qs).map (·.cps.toList)):=by rw[<- o,glued_eq_join,yF]
  have r:=L4 c q.cps.toList (qs.map (·.cps.toList));rw[<- bI (f:=λy:Str=>y.cps.toList),<- i,aA,hn]at r;have J:(((q::qs).map (·.cps.toList)).map (HG c)).sum=0:=by lia
  have v:∀l∈(q::qs).map (·.cps.toList),c∉l:=λl s F=>by
   have k:l.count c∈((q::qs).map (·.cps.toList)).map (HG c):=aQ.mpr ⟨l,s,kA⟩
   have p:∀(ns:List Nat),ns.sum=0->∀n∈ns,n=0:=λns=>by
    induction ns with
    |nil=>intro _ n hn;simp at hn
    |cons m ns A=>
     intro G n hn;rw[fD]at G;rcases aR.mp hn with rfl | hn
     ·lia
     ·exact A hG n hn
   have:=p _ J _ k;have:=List.count_pos_iff.mpr F;lia
  refine inj ?_;rw[bI,bI];refine X4 c _ _ _ _ v u ?_;rw[<- bI (f:=λy:Str=>y.cps.toList),<- bI (f:=λy:Str=>y.cps.toList),<- i,<- z]
 have t:x.cps.toList.length=x.length:=by simp[q9]
 unfold Txt.split;split
 ·next jv=>
  have hk:j4 ⟨#[c]⟩=1:=by
   unfold j4;rw[a9 (by simp[E])]
  rw[hk,jT,me,me]at jv
  have k:1<=j4 x:=by
   unfold j4;split
   ·lia
   ·split<;>lia
  have C:x.length=0:=by
   rcases jv with q | q
   ·have K:x.length<1:=q;lia
   ·lia
  refine fin x [] kA ?_;have:x.cps.toList=[]:=kN.mp (by rw[t];exact C);rw[this];rfl
 ·split
  ·next hem=>
   refine fin x [] kA ?_;rw[<- P3];have:occurrences x ⟨#[c]⟩ 0 x.length (x.length+1)=[]:=by simpa using hem
   rw[this]
   rfl
  ·have d:=gj x (occurrences x ⟨#[c]⟩ 0 x.length (x.length+1)) (⟨#[c]⟩:Str).length;have o:=glued_between_self x ⟨#[c]⟩ (x.length+1)
   cases B:partsBetween x (occurrences x ⟨#[c]⟩ 0 x.length (x.length+1)) (⟨#[c]⟩:Str).length with
   |nil=>rw[B]at d;cases d
   |cons q qs=>
    rw[B]at d o;refine fin q qs o ?_;rw[<- P3];rw[bN]at d;lia
end TL
namespace L2
open PySem.Builtin.Str
section
variable{X:Cx}
theorem FZ:∀(l:List (Str×Tok)),fQ ((l.map (·.1)).map V.str) (strValues l)
|[]=>.nil
|p::l=>.cons ⟨p.2,kA⟩ (FZ l)
def VV:V->List V->Hp->VK->Prop:=λx a H Q=>∃z y,x=.str z/\a=[.str y]/\(y.length==0)=false/\z.length<=100000/\∀p,H p=none->Q (.ref p) (fG H p (.lst ((Txt.split z y).map V.str)))
def XG:Q9 X "str.split" VV:=by
 intro a s j H x E v C Q I w r h;obtain⟨z,y,rfl,rfl,i,B,q⟩:=h;obtain⟨t,rfl⟩:=w;obtain⟨u,rfl,p⟩:=nI r;obtain⟨f,rfl⟩:=p;have A:bF=2^24:=rfl
 have fin:∀(l:List (Str×Tok))(k:Nat),l.map (·.1)=Txt.split z y->l.length<=bF->EP X a j Q (.ref s.heap.objs.size) { s with toks:=k,heap:=s.heap.push { cls:=.type "list",data:=.seq (strValues l).toArray } }:=λl k m n=>by
  have d:H s.heap.objs.size=none:=I.hok.fresh (aN _);refine⟨.ref s.heap.objs.size,fG H s.heap.objs.size (.lst ((Txt.split z y).map V.str)),I.laid (t':=k) (λb u e=>aE _ e) (aN _) ?_,kA,q _ d⟩;rw[<- m];exact⟨by rw[aA,aA];exact n,strValues l,0,FZ l,aY _ kA⟩
 have g:=StrLaws.occ_length_le z y 0 z.length (z.length+1);have o:=gj z (occurrences z y 0 z.length (z.length+1)) y.length;cases c:(decide (z.length<y.length)||decide (strKind z<strKind y))
 ·cases d:(occurrences z y 0 z.length (z.length+1)).isEmpty
  ·refine t5 bd (y0 _ _ _) aw (am _ _) (meets_str_split_sep z y t f c i d hG hG) ?_;show EP X a j Q _ { s with toks:=_,heap:=s.heap.push { cls:=.type "list",data:=.seq (strsFrom s.toks (partsBetween z (occurrences z y 0 z.length (z.length+1)) y.length)).toArray } };rw[strsFrom_eq];refine fin (numbered s.toks _) _ ((numbered_texts _ _).trans ((a8 (bq c)).trans (a8 (bq d))).symm) ?_;have:=e5 jK (numbered_texts s.toks (partsBetween z (occurrences z y 0 z.length (z.length+1)) y.length));rw[aA]at this;lia
  ·exact t5 bd (y0 _ _ _) aw (am _ _) (meets_str_split_not_found z y t f c i d) (fin [(z,t)] _ ((a8 (bq c)).trans (a9 d)).symm (by show 1<=bF;decide))
 ·exact t5 bd (y0 _ _ _) aw (am _ _) (meets_str_split_cannot_occur z y t f c) (fin [(z,t)] _ (a9 c).symm (by show 1<=bF;decide))
end
end L2
namespace TL
open L2
section
variable{X:Cx}{e:Expr}{a:List Expr}{b c:ET}{pos:Pos}
def vY:BN X s (λ_ _=>False):=⟨λ_ _ _=>False,λ_ _ _ _ _ _ h=>h.elim,λ_ _ _ _ _ _ _ _ _ h _=>h.elim⟩
def Tj(z:Str)(d:List D)(Q:D->Prop):Prop:=match d with | [.str y]=>(y.length==0)=false/\z.length<=100000/\Q (.list ((Txt.split z y).map aL)) | _=>False
def YW(C:gR X n c)(A:vW X (e::a) t)
  (I:∀{v b},PE X n v->PA X (e::a) b->PE X (.Call (.Attribute n "split" ap) (e::a) [] pos) (ZV X.K "str" VV v b)):gR X (.Call (.Attribute n "split" ap) (e::a) [] pos) (QR Tj c t):=by
 obtain⟨v,J,P⟩:=C;obtain⟨U,G,O⟩:=A;refine⟨_,I J G,λB l H m f u Q S o h k=>P B l H m f u _ _ o h λd x w i L q1=>?_⟩;obtain⟨z,rfl,q1⟩:=q1;cases L;refine⟨kA,O B l w m f u _ _ (o.grow i) q1 λT W R s M g=>?_⟩
 cases M with
 |nil=>exact g.elim
 |cons r N=>
  cases N with
  |cons _ _=>cases r<;>exact g.elim
  |nil=>
   cases r with
   |str y=>
    obtain⟨E,F,q⟩:=g;refine⟨z,y,kA,kA,E,F,λp j=>?_⟩;exact k _ _ _ (i.trans (s.trans (dM j))) (uT ((o.grow i).grow s).live j (wO _)) q
   |_=>exact g.elim
end
section
def T4:d7 "sorted"=some (.builtin "sorted"):=by decide +kernel
end
end TL
namespace L2
def EX(K:aI)(cd:Value):Prop:=∃c P,cd=.ref c/\tabA=some P/\AK K c P=true
def OY.okC{K}{mg:Str->Option Value}{st}{f:Addr}{c:hX}{N g:List Str}{k:Nat}{i:Sp}(F:OY K x qual st f c)(S:bL N g (aU st))(len:∀vs H Q E,i vs H Q E->vs.length=g.length)
  (b:∀(a:Value),c.code=a->∀(A:d8)outer(s:Shared)H(vs:List V)Q E,hW k (A.deeper (n4 qual (aU st) s.heap.objs.size f a))->i vs H Q E ->
   ∃t,FP (vQ pK P w K mg base N qual (aU st) f a A outer s H E).nox (lF st) t/\t { nx:=λ_ j=>Q .non j,rt:=Q } (lM N vs) H):mB P w K mg base pK (k+1) f c g i:=by
 obtain⟨p,r,kV,l,u,an,a,ct,o,rfl,n,d⟩:=F.ex;refine Cr n d S len λA outer s H vs Q E m e=>?_;obtain⟨t,h,q⟩:=b a kA A outer s H vs Q E m e;exact⟨t,h.nox,q⟩
end L2
namespace TL
open L2
def Fg{K}{mg:Str->Option Value}{st}{f:Addr}{g:hX}{N pn:List Str}{k:Nat}{l:MU}(L:EX K g.code)(F:OY K x qual st f g)(S:bL N pn (aU st))(len:∀c Q,l c Q->c.length=pn.length)
  (d:∀(b:Value),EX K b->∀(A:d8)outer(s:Shared)H E,hW k (A.deeper (n4 qual (aU st) s.heap.objs.size f b))->∀(c:List D)(Q:List D->Prop),l c Q ->
   ∃t,vU (vQ pK P w K mg base N qual (aU st) f b A outer s H E).nox (lF st) t/\t { nx:=λ_=>False,rt:=λ_=>False,ro:=Q } (lB N c)):mB P w K mg base pK (k+1) f g pn (iE K l):=by
 refine F.okC S (λvs H Q E h=>?_) λb i A outer s H vs Q E u h=>?_
 ·obtain⟨j,c,e,_,r,q,_⟩:=h;rw[<- r.length];exact len c e q
 ·obtain⟨j,c,e,live,r,q,k⟩:=h;obtain⟨t,⟨m,p,y⟩,h⟩:=d b (i▸L) A outer s H E u c e q;exact⟨m,p,y H j H j _ _ _ _ (qS live r) h ⟨λ_ _ _ _ _ _ a=>a.elim,λ_ _ _ _ _ _ a=>a.elim,λ_ _ _ _ _ _ a=>a.elim,λ_ _ _ _ _ a=>a.elim,λm p C n B o G v z a=>k m p C n B o v z a,λ_ _ _ _ _ _ _ _ _ _ _ _ _ _ _ _ _ _ a=>a.elim,λ_ _ _ _ _ _ _ _ _ _ _ _ _ _ a=>a.elim,e9⟩⟩
def zh(b:Int)(e:D)(k:Int):Prop:=∃(q st:D)(top bot:Int),e=.tuple [q,st,.tuple [.int top,.int bot]]/\yz b bot/\O0 top (b / bot)/\k=top*(b / bot)
def zh.rep{K}{b k:Int}(h:zh b e k)(r:gO K H e x):FQ K H b x k:=by
 obtain⟨q,st,top,bot,rfl,d,f,g⟩:=h
 cases r with
 |tuple m a=>
  cases a with
  |cons o a=>
   cases a with
   |cons p a=>
    cases a with
    |cons i a=>
     cases a
     cases i with
     |tuple n c=>
      cases c with
      |cons j c=>
       cases c with
       |cons l c=>
        cases c;cases j;cases l;exact⟨_,_,_,_,top,bot,kA,m,n,d,f,g⟩
theorem FQ.mask{K}{b k:Int}(h:FQ K (TL.mask H ps) b x k):FQ K H b x k:=h.same λ_ _ e=>bW _ _ e
def Tg(ib:Nat)(t:AT):FT:=λd Q=>t d λf=>∃(a:List D)(b:Int)(c:List Int),f=[.list a]/\a.length<64/\d[ib]?=some (.val (.int b))/\c.length=a.length/\(∀(i:Nat) e k,a[i]?=some e->c[i]?=some k->zh b e k) /\
 ∀J:List Nat,SS.KN a.length (λi=>c.getD i 0) J->Q (J.map λi=>a.getD i .none)
def YJ{X:Cx}{ib:Nat}{k:Nat}(g:hW (k+3) X.A)(L:EX X.K bu)(hc:X.env.code=bu)(n:X.N[ib]?=some "bottom")(hk:X.env.kindOf "bottom"=some .cell)
  (hg:Gl X "sorted") (hm:X.mg "sorted"=none) (hv:d7 "sorted"=some (.builtin "sorted")) (Z:vW X [e] t)
  (he:autoParam (j2 pos (bY [e] X.env)=(false,eval e X.env)::j2 pos (bY [] X.env)) zzz._auto_1)
  (y:autoParam ((j2 pos (bY [e] X.env)).any (·.1)=false) zzz._auto_1) :
  OV X (.Call (.Name "sorted" np) [e] [⟨some (c7 "key"),.Lambda (Cy ap) (.BinOp (.Subscript (.Subscript (.Name "entry" p1) (.Constant (.int 2) 0 p2) p3) (.Constant (.int 0) 0 p4) p5) .Mult (.BinOp (.Name "bottom" p6) .FloorDiv (.Subscript (.Subscript (.Name "entry" p7) (.Constant (.int 2) 0 p8) p9) (.Constant (.int 1) 0 q1) q2) q3) q4) yD lp,kp⟩] pos) (Tg ib t):=by
 obtain⟨c,P,rfl,Y,W⟩:=L;obtain⟨ta,pa,ra⟩:=Z;refine⟨_,WD g Y hc W n hk hg hm hv pa he y,λB p0 H E I σ Q QV o h k=>ra B p0 H E I σ _ _ o h λds vs H1 s1 F q1=>?_⟩;obtain⟨l,b,kz,rfl,a,hb,s,f,q⟩:=q1;obtain⟨v,z,C⟩:=o.val ib _ hb;cases C
 cases F with
 |cons F r2=>
  cases r2
  cases F with
  |@list pp xv _ hs rs=>
   have w:=rs.length;refine⟨_,_,b,kz,kA,L2.bB.seq bW hs,by rw[<- w];exact a,z,by rw[s,w],λi x k0 hx p=>?_,λm S J r sb g=>?_⟩
   ·obtain⟨d,hd,rd⟩:=rs.get' hx;exact FQ.mask ((f i d k0 hd p).rep rd)
   ·rw[<- w]at sb;have R:bB H m:=s1.trans S;refine k _ r _ _ (R.trans (dM g)) (bB.free' R g) cD ?_ (q J sb);rw[nN g];have G:Reps X.K (TL.mask m E) l _:=rs.same (bR S)
    have:∀J:List Nat,(∀i∈J,i<l.length)->Reps X.K (TL.mask m E) (J.map λi=>l.getD i .none) (J.map λi=>xv.getD i .non):=by
     intro J M
     induction J with
     |nil=>exact .nil
     |cons j J ih=>
      refine .cons ?_ (ih λi hi=>M i (aJ _ hi));have O:=M j (aO ..);obtain⟨u,T,U⟩:=G.get (aD O);show gO _ _ (l.getD j .none) (xv.getD j .non);rw[dL,dL,T,aD O];exact U
    exact this J sb.lt
end TL
namespace L2
noncomputable def Jw(K:aI)(cd:Value)(P:Addr):Bool:=match cd with | .ref c=>AK K c P | _=>false
def Tt{K cd}{P:Addr}(h:Jw K cd P=true)(e:tabA=some P):EX K cd:=by
 cases cd with
 |ref c=>exact⟨c,P,kA,e,h⟩
 |_=>cases h
def aGm{h:Heap}{c P:Addr}(C:ZR h c P)(e:h.get? P=some { cls:=.none,data:=.fields #[] }):z9 h P:=(C.tab e).isCodeTable
section
variable{X:Cx}{d:List (Addr×Obj)}{f:St}{H:Hp}{s:Shared}{p q:Addr}
def U0(h:H p=some u):fG H p u=H:=by
 funext b;by_cases e:b=p
 ·subst e;rw[cD,h]
 ·rw[cC e]
def KY:∀g h:Heap,TL.rK p q g->(∀o,g.get? p=some o->h.get? p=some o)->TL.rK p q h:=λg h ⟨a,b,c,i,j,l,n,e,r⟩ k=>⟨a,b,c,i,j,l,n,k _ e,r⟩
noncomputable def xO(q:Addr)(a b c:Int):HO:=.lst [.ref q,.int a,.int b,.int c]
def dJ.openTape(I:dJ X d f H s)(h:H p=some (.ext (TL.rK p q))):∃a b c:Int,0<=a/\(c=0\/c=1)/\dJ X d f (fG H p (xO q a b c)) s:=by
 obtain⟨⟨a,b,c,j,k,l,n,e,g,i⟩,_⟩:=I.hok p _ h;exact⟨a,b,c,g,i,I.retold h (λr z=>by cases z) (λo v z=>by cases z) (λm z=>by cases z) (λa z=>by cases z) ⟨aC kA,_,n,.cons kA (.cons ⟨j,kA⟩ (.cons ⟨k,kA⟩ (.cons ⟨l,kA⟩ .nil))),e⟩⟩
def dJ.closeTape{a b c:Int}(I:dJ X d f H s)(h:H p=some (xO q a b c))(g:0<=a)(i:c=0\/c=1):dJ X d f (fG H p (.ext (TL.rK p q))) s:=by
 obtain⟨z,j,n,r,e⟩:=I.hok p _ h
 cases r with
 |cons k r=>cases r with
  |cons l r=>cases r with
   |cons m r=>cases r with
    |cons t r=>
     cases r;cases k;obtain⟨u,rfl⟩:=l;obtain⟨w,rfl⟩:=m;obtain⟨x,rfl⟩:=t;exact I.retold h (λA z=>by cases z) (λo v z=>by cases z) (λy z=>by cases z) (λa z=>by cases z) ⟨⟨a,b,c,u,w,x,n,e,g,i⟩,⟨_,e⟩,KY⟩
def Xo(i:Nat)(h:PE X e te):PE X e (λf H Q=>∃p q:Addr,f[i]?=some (some (.ref p))/\H p=some (.ext (TL.rK p q))/\∀a b c:Int,0<=a->(c=0\/c=1) ->
  te f (fG H p (xO q a b c)) λv g=>g=fG H p (xO q a b c)/\Q v H):=by
 intro d s f H Q I ⟨p,q,_,m,t⟩;obtain⟨a,b,c,k,l,o⟩:=I.openTape m;refine iW (h d s f _ _ o (t a b c k l)) λu y x=>?_;obtain⟨v,g,n,r,e,w⟩:=x;subst e;have j:=n.closeTape cD k l;rw[BW,U0 m]at j;exact⟨v,H,j,r,w⟩
def Xp(i:Nat)(h:PG X tg g):PG X tg (λv f H Q=>∃p q:Addr,f[i]?=some (some (.ref p))/\H p=some (.ext (TL.rK p q))/\∀a b c:Int,0<=a->(c=0\/c=1) ->
  g v f (fG H p (xO q a b c)) λj m=>(∃a b c:Int,0<=a/\(c=0\/c=1)/\m=fG H p (xO q a b c))/\Q j H):=by
 intro d s f H v u Q I y ⟨p,q,_,o,w⟩;obtain⟨a,b,c,k,l,t⟩:=I.openTape o;refine iW (h d s f _ v u _ t y (w a b c k l)) λ_ A z=>?_;obtain⟨j,m,r,⟨a,b,c,k,l,e⟩,x⟩:=z;subst e;have n:=r.closeTape cD k l;rw[BW,U0 o]at n;exact⟨j,H,n,x⟩
def R5(h:PE X e te):PE X e (λf H Q=>te f H λv g=>∃(p q:Addr)(a b c:Int),v=.ref p/\g p=some (xO q a b c)/\0<=a/\(c=0\/c=1)/\Q (.ref p) (fG g p (.ext (TL.rK p q)))):=by
 intro d s f H Q I l;refine iW (h d s f H _ I l) λu o n=>?_;obtain⟨v,g,i,r,q⟩:=n;obtain⟨p,q,a,b,c,rfl,e,j,k,m⟩:=q;exact⟨.ref p,_,i.closeTape e j k,r,m⟩
end
end L2
namespace TL
open L2
section
variable{X:Cx}{a b c e:Expr}{j:ET}{pos:Pos}
noncomputable def kK(ns:List Int):D:=.dict [(.none,.list (ns.map bO))]
def LE{K}{H:Hp}{ns:List Int}(r:gO K H (kK ns) v):∃p q:Addr,v=.ref p/\H p=some (.ext (rK p q))/\mK K H q (ns.map V.int):=by
 unfold kK at r
 generalize f:(M1 [(.none,.list (ns.map bO))])=d at r
 cases r with
 |@tape p q ms h g=>
  injection f with f;injection f with f;injection f with _ f;injection f with f
  have e:ns=ms:=by
   have:=e5 (aVa λd:D=>match d with | .int i=>i | _=>0) f;simpa[aX,Function.comp_def]using this
  subst e;exact⟨p,q,kA,h,g⟩
 |_=>cases f
def Jf(i k:Nat):ET:=λd Q=>∃ns,d[i]?=some (.val (kK ns))/\match k with
|0=>Q (.list (ns.map bO))
|1=>∀a:Int,0<=a->Q (.int a)
|2=>∀b:Int,Q (.int b)
|3=>∀c:Int,(c=0\/c=1)->Q (.int c)
|_=>False
def yL{i:Nat}(k:Nat)(w:PE X (.Subscript n ix pos) (wm (xo X.K) (nV i) (tC (.int k)))):gR X (.Subscript n ix pos) (Jf i k):=by
 refine⟨_,Xo i w,λB G H E F I Q l o h C=>?_⟩;obtain⟨ns,e,h⟩:=h;obtain⟨v,f,r⟩:=o.val i _ e;obtain⟨p,q,rfl,m,y⟩:=LE r;refine⟨p,q,f,bW _ _ m,λa b c t u=>⟨.ref p,f,?_⟩⟩
 have fin:∀(x:V)(d:D),atI [V.ref q,.int a,.int b,.int c] (k:Int)=some x->gO X.K (mask H E) d x->Q d->xo X.K (.ref p) (.int (k:Int)) (fG H p (xO q a b c)) (λv g=>g=fG H p (xO q a b c)/\l v H):=λx d A z s=>
  .inl ⟨p,_,_,x,kA,kA,mK.of cD,A,kA,C d x H (L2.bB.refl H) z s⟩
 match k,h with
 |0,h=>exact fin _ _ kA (.list y (DZ ns)) h
 |1,h=>exact fin _ _ kA (.int a) (h a t)
 |2,h=>exact fin _ _ kA (.int b) (h b)
 |3,h=>exact fin _ _ kA (.int c) (h c u)
def xT(i k:Nat)(j:ET):wG:=λg f=>j f λd=>(∃ns,f[i]?=some (.val (kK ns)))/\(match k with | 1=>∃a:Int,d=.int a/\0<=a | 2=>∃b:Int,d=.int b | _=>False)/\g.nx f
def wM{i:Nat}{e}(k:Nat)(E:gR X e j)(F:PG X (.Subscript n ix p2) (zf (nV i) (tC (.int k)) VX))
  (I:∀{v g},PE X e v->PG X (.Subscript n ix p2) g->PS X (.Assign [.Subscript n ix p2] e pos) (vN v g)):BN X (.Assign [.Subscript n ix p2] e pos) (xT i k j):=by
 obtain⟨v,J,K⟩:=E;refine⟨_,I J (Xp i F),λB G H u l z L M o h f=>?_⟩;refine K B G H u l z _ _ o h λd x N y w q1=>?_;have t:=o.grow y;obtain⟨⟨ns,e⟩,hd,q1⟩:=q1;obtain⟨v,s,r⟩:=t.val i _ e;obtain⟨p,q,rfl,A,O⟩:=LE r;refine⟨p,q,s,bW _ _ A,λa b c C m=>⟨.ref p,s,?_⟩⟩;have nx:=f.nx _ u _ z t (bR y) q1
 match k,hd with
 |1,⟨a',hd,ha'⟩=>
  subst hd;cases w;exact⟨p,_,_,1,kA,kA,cD,kA,⟨a',b,c,ha',m,BW⟩,nx⟩
 |2,⟨b',hd⟩=>
  subst hd;cases w;exact⟨p,_,_,2,kA,kA,cD,kA,⟨a,b',c,C,m,BW⟩,nx⟩
def Vz(t:FT):ET:=λf Q=>t f λd=>∃(ns:List Int)(c:Int),d=[.list (ns.map bO),.int 0,.int 0,.int c]/\(c=0\/c=1)/\Q (kK ns)
def TB(h:OV X e t):gR X e (Vz t):=by
 obtain⟨v,p,r⟩:=h;refine⟨_,R5 p,λB y H n i I Q K o h k=>r B y H n i I _ _ o h λL p G J s m x f q=>?_⟩;obtain⟨ns,c,rfl,w,q⟩:=q
 cases f with
 |cons A f=>cases f with
  |cons C f=>cases f with
   |cons E f=>cases f with
    |cons F f=>
     cases f;cases C;cases E;cases F
     cases A with
     |@list l G _ hq hr=>
      have e:=uS hr;subst e;refine⟨p,l,0,0,c,kA,x,lA 0,w,k (kK ns) _ _ (λb u d=>?_) (.tape (mU (jF o.live m) cD) (L2.bB.seq (λb u d=>?_) hq)) q⟩
      ·rw[cC λz=>by rw[z,m]at d;cases d];exact s b u d
      ·unfold mask at d |-
       by_cases g:b∈p::n
       ·rw[a9 g]at d;cases d
       ·rw[a8 g]at d;rw[a8 λz=>g (aJ _ z),cC λz=>g (by rw[z];exact aO ..)];exact d
end
section
variable{X:Cx}{e:Expr}{a:List Expr}{b:ET}{pos:Pos}
def Wh{K}{mg:Str->Option Value}{k:Nat}{f:Addr}{pn}{i d:MU}(F:mB P w K mg base pK k f fd pn (iE K i))(h:∀c Q,d c Q->i c Q):mB P w K mg base pK k f fd pn (iE K d):=
 F.imp λvs H Q E ⟨o,c,g,j,l,m,n⟩=>⟨o,c,g,j,l,h c g m,n⟩
inductive aDl:List Expr->List Str->Prop
|nil:aDl [] []
|cons {z:Str} {x1:Nat} {p:Pos} {a:List Expr} {zs:List Str}:aDl a zs->aDl (.Constant (.str z) x1 p::a) (z::zs)
def T6{a:List Expr}{c:List Str}(h:aDl a c):vW X a (λ_ Q=>Q (c.map aL)):=by
 induction h with
 |nil=>exact aH
 |cons _ d=>exact aB cN d
def Yk{i:Nat}(c:X.N.Nodup)(g:X.N[i]?=some x)(k:UM X.env.scope x)(d:gR X e b)(j:autoParam (mF e (some (.Name x pos')) pos.line X.env=pure false) zzz._auto_1)(f:autoParam (X.fn x=true\/X.env.scope.names.lookup x=some .local) zzw._auto_1) :
  BN X (.Assign [.Name x pos'] e pos) (LB i b):=VH d λh=>rP c g k h j f
end
end TL
namespace L2
def M6(a b:Addr)(m n:Array Value) :
  ig (t7.«zip.__new__» ⟨[.type "zip",.ref a,.ref b],[]⟩) (λ_ R s=>s.heap.IsList a m/\s.heap.IsList b n /\
   R (.ok (.ret (.ref (wl "list_iterator" "list_iterator" s.heap a b).objs.size))) { s with heap:=UJ "list_iterator" "list_iterator" s.heap a b }):=
 .of_wp λprog w A R s h=>by
  obtain⟨j,g,d,l,os⟩:=s;obtain⟨f,i,h⟩:=h;have k:=sub_zip;have c:E7 (u3 ⟨j,g,d,l,os⟩) a m:=f;have e:E7 (u3 ⟨j.push { cls:=.type "list_iterator",data:=.fields #[.ref a,.int 0 0] },g,d,l,os⟩) b n:=E7.push i _
  wp_walk using g9 c,g9 e
  exact⟨_,kA,h⟩
section
variable{P:cK}{w:e6}{A:d8}{E:Value->Shared->Prop}{s:Shared}
def ML{a b:Addr}{Q:Value->Shared->Prop}(f:s.heap.IsList a xs)(g:s.heap.IsList b ys)
  (h:∀d,u9 d (s.heap.objs.size+4) (s.heap.objs.size+2) (s.heap.objs.size+3) .none->IsPair d (s.heap.objs.size+2) (.ref s.heap.objs.size) (.ref (s.heap.objs.size+1)) ->
   IsPair d (s.heap.objs.size+3) .none .none->d.IsListIter s.heap.objs.size a 0->d.IsListIter (s.heap.objs.size+1) b 0 ->
   (∀c o,s.heap.get? c=some o->d.get? c=some o)->Q (.ref (s.heap.objs.size+4)) { s with heap:=d }) :
  wpAny (model P w) A (call (.type "zip") [.ref a,.ref b]) Q E s:=by
 refine bg F.called_zip gV (F.typeCall_zip_2 _ _) (F.newCall_zip_2 _ _) (λobj=>fc obj _ _) F.entry_zip_new (M6 a b xs ys) ⟨f,g,?_⟩;have n1:(wu "list_iterator" s.heap a).objs.size=s.heap.objs.size+1:=dX ..;have i:(wt "list_iterator" "list_iterator" s.heap a b).objs.size=s.heap.objs.size+2:=by rw[dX,n1]
 have n3:(wr "list_iterator" "list_iterator" s.heap a b).objs.size=s.heap.objs.size+3:=by rw[dX,i]
 have m:(wl "list_iterator" "list_iterator" s.heap a b).objs.size=s.heap.objs.size+4:=by rw[dX,n3]
 have e:(UJ "list_iterator" "list_iterator" s.heap a b).get? (wl "list_iterator" "list_iterator" s.heap a b).objs.size=some _:=aY _ kA;have l:(UJ "list_iterator" "list_iterator" s.heap a b).get? (wr "list_iterator" "list_iterator" s.heap a b).objs.size=some _:=aE _ (aY _ kA);have k:(UJ "list_iterator" "list_iterator" s.heap a b).get? (wt "list_iterator" "list_iterator" s.heap a b).objs.size=some _:=aE _ (aE _ (aY _ kA));have j:(UJ "list_iterator" "list_iterator" s.heap a b).get? (wu "list_iterator" s.heap a).objs.size=some _:=aE _ (aE _ (aE _ (aY _ kA)));have n:(UJ "list_iterator" "list_iterator" s.heap a b).get? s.heap.objs.size=some _:=aE _ (aE _ (aE _ (aE _ (aY _ kA))));show _/\_;rw[i,n3,m]at e;rw[n1,i]at k;rw[n3]at l;rw[n1]at j;rw[m];exact⟨⟨_,e,kA⟩,h _ e k l ⟨_,n,kA,kA⟩ ⟨_,j,kA,kA⟩ λc o x=>aE _ (aE _ (aE _ (aE _ (aE _ x))))⟩
end
def Eb{h:Heap}{a:Addr}(p:h.IsList a xs):a<h.objs.size:=by
 obtain⟨o,b,_⟩:=p;exact bG b
def Cu(K:aI)(f:TA):TI:=λg H R=>f g H λvs b=>∃c d a e,vs=[.ref c,.ref d]/\((oR K b c a/\oR K b d e/\R (yj (λH a=>oR K H c a) λH a=>oR K H d a) b)\/(mK K b c a/\mK K b d e/\R (yj (λH a=>mK K H c a) λH a=>mK K H d a) b))
section
variable{X:Cx}
def Xr{T:Nat}(P:Gl X "zip")(Q:X.mg "zip"=none)(O:PA X [a,b] ta)(S:autoParam (bY [a,b] X.env=[(false,eval a X.env),(false,eval b X.env)]) zzz._auto_1)(y:autoParam (bY [b] X.env=[(false,eval b X.env)]) zzz._auto_1) :
  PI X (.Tuple r8 T tpos) (.Call (.Name "zip" p) [a,b] [] pos) (Cu X.K ta):=by
 intro B s W H R I h;refine Call_ (rX I P Q MP (f8 (iW (O pos B s W H _ I h) λY d U=>?_) (by rw[S,y]) (by rw[y];rfl)));obtain⟨vs,M,e,N,q1⟩:=U;obtain⟨f,g,Z,ys,rfl,q1⟩:=q1;rcases q1 with⟨m,n,q⟩ | ⟨m,n,q⟩
 ·cases N with
  |cons r u=>
   cases u with
   |cons G u=>
    cases u;cases r;cases G;obtain⟨v,J,p1,E⟩:=e.tuple m;obtain⟨w,L,A,F⟩:=e.tuple n;have o:f<d.heap.objs.size:=p1.lt;have t:g<d.heap.objs.size:=A.lt;refine A7 (show d.heap.IsTuple f v.toArray from p1) (show d.heap.IsTuple g w.toArray from A) λC z i j k l hk=>x4 (s:={ d with heap:=C }) z ?_;refine⟨_,[d.heap.objs.size+4,d.heap.objs.size+2,d.heap.objs.size+3,d.heap.objs.size,d.heap.objs.size+1],_,_,M,kA,e.kept (t':=d.toks) hk,CT (vE _ f) (vE _ g) (B1 f) (B1 g) (fq o t),⟨z,i,⟨_,_,j⟩,k,l⟩,λc x=>?_,q⟩;simp only[aR,cX,g8]at x;have le:d.heap.objs.size<=c:=by rcases x with rfl | rfl | rfl | rfl | rfl<;>first | exact aN _ | exact oY _ _
    exact e.fpOk le (e.hok.fresh le)
 ·cases N with
  |cons r u=>
   cases u with
   |cons G u=>
    cases u;cases r;cases G;obtain⟨v,J,p1,E⟩:=e.list m;obtain⟨w,L,A,F⟩:=e.list n;have o:f<d.heap.objs.size:=(Eb p1.isList);have t:g<d.heap.objs.size:=(Eb A.isList);refine ML (show d.heap.IsList f v.toArray from p1.isList) (show d.heap.IsList g w.toArray from A.isList) λC z i j k l hk=>x4 (s:={ d with heap:=C }) z ?_;refine⟨_,[d.heap.objs.size+4,d.heap.objs.size+2,d.heap.objs.size+3,d.heap.objs.size,d.heap.objs.size+1],_,_,M,kA,e.kept (t':=d.toks) hk,CT (EI _ f) (EI _ g) (K8 f) (K8 g) (fq o t),⟨z,i,⟨_,_,j⟩,k,l⟩,λc x=>?_,q⟩;simp only[aR,cX,g8]at x;have le:d.heap.objs.size<=c:=by rcases x with rfl | rfl | rfl | rfl | rfl<;>first | exact aN _ | exact oY _ _
    exact e.fpOk le (e.hok.fresh le)
end
end L2
namespace TL
open L2
def Uk(t:AT):IT:=λc Q=>t c λb=>∃a bs,(b=[.tuple a,.tuple bs]\/b=[.list a,.list bs])/\Q (sV a bs)
section
variable{X:Cx}{a b:Expr}
def Xy{J:Nat}(M:vW X [a,b] t)(T:∀{ta},PA X [a,b] ta->PI X (.Tuple r8 J tpos) (.Call (.Name "zip" p) [a,b] [] p') (Cu X.K ta)):MZ X (.Tuple r8 J tpos) (.Call (.Name "zip" p) [a,b] [] p') (Uk t):=by
 obtain⟨va,P,U⟩:=M;refine⟨_,T P,λB O H S F Y Q R o h k=>U B O H S F Y _ _ o h λds xs G I d q1=>?_⟩;obtain⟨Z,bs,q1,q⟩:=q1;rcases q1 with rfl | rfl
 ·cases d with
  |cons d v=>
   cases v with
   |cons w A=>
    cases A
    cases d with
    |@tuple p1 us _ ak rs1=>
     cases w with
     |@tuple p2 vs _ de rs2=>
      have n1:=rs1.length;have N:=rs2.length;refine⟨p1,p2,us,vs,kA,.inl ⟨bB.seqT bW ak,bB.seqT bW de,k _ _ G I ⟨λi H e c=>?_,λi H e c=>?_,λi H u y L live e c s=>?_⟩ q⟩⟩
      ·rw[oJ]at c;exact⟨us,vs,bB.seqT e ak,bB.seqT e de,hG⟩
      ·rw[oJ]at c;exact⟨us,vs,us[i],vs[i],bB.seqT e ak,bB.seqT e de,aD hG,aD hG⟩
      ·obtain⟨p,x,W,j,rfl,rfl,n,r⟩:=s;obtain⟨f,l,C⟩:=rs1.get' (n us (bB.seqT (e.trans bW) ak));obtain⟨g,m,E⟩:=rs2.get' (r vs (bB.seqT (e.trans bW) de));refine⟨dM j,.tuple [f,g],?_,oG live j (.cons (C.same e) (.cons (E.same e) .nil))⟩;unfold sV;rw[aM,(eD (z:=(f,g))).mpr ⟨l,m⟩];rfl
 ·cases d with
  |cons d v=>
   cases v with
   |cons w A=>
    cases A
    cases d with
    |@list p1 us _ ak rs1=>
     cases w with
     |@list p2 vs _ de rs2=>
      have n1:=rs1.length;have N:=rs2.length;refine⟨p1,p2,us,vs,kA,.inr ⟨L2.bB.seq bW ak,L2.bB.seq bW de,k _ _ G I ⟨λi H e c=>?_,λi H e c=>?_,λi H u y L live e c s=>?_⟩ q⟩⟩
      ·rw[oJ]at c;exact⟨us,vs,L2.bB.seq e ak,L2.bB.seq e de,hG⟩
      ·rw[oJ]at c;exact⟨us,vs,us[i],vs[i],L2.bB.seq e ak,L2.bB.seq e de,aD hG,aD hG⟩
      ·obtain⟨p,x,W,j,rfl,rfl,n,r⟩:=s;obtain⟨f,l,C⟩:=rs1.get' (n us (L2.bB.seq (e.trans bW) ak));obtain⟨g,m,E⟩:=rs2.get' (r vs (L2.bB.seq (e.trans bW) de));refine⟨dM j,.tuple [f,g],?_,oG live j (.cons (C.same e) (.cons (E.same e) .nil))⟩;unfold sV;rw[aM,(eD (z:=(f,g))).mpr ⟨l,m⟩];rfl
end
set_option genInjectivity false in
structure yX where
 I:Type
 S:Type
 ad:I->List Addr
 tau:I->D
 At:I->aI->Hp->List Addr->S->Prop
 to:∀{T:I}{K:aI}{H H':Hp}{ps v0:List Addr}{n:S},At T K H ps n->(∀a∈ad T,H' a=H a)->bB (mask H ps) (mask H' v0)->At T K H' v0 n
 liv:∀{T:I}{K:aI}{H:Hp}{ps:List Addr}{n:S},At T K H ps n->∀a∈ad T,AJ (H a)
 inj:∀{T T':I},tau T=tau T'->T=T'
def kM(c:List Addr)(H b:Hp):Prop:=∀a o,a∉c->H a=some o->b a=some o
section
variable{K:aI}{H k w x B:Hp}{l g m:List Addr}{f:List Sl}{p:L2.St}
def kM.of(s:bB H k):kM m H k:=λa o _ e=>s a o e
def kM.refl:kM m H H:=λ_ _ _ e=>e
def kM.trans(s:kM m H w)(t:kM m w x):kM m H x:=λa o n e=>t a o n (s a o n e)
theorem kM.mask(c:∀a∈m,a∈g)(s:kM m H k):bB (mask H g) (mask k g):=λa o e=>by
 unfold TL.mask at e |-
 by_cases b:a∈g
 ·rw[a9 b]at e;cases e
 ·rw[a8 b]at e |-
  exact s a o (λz=>b (c a z)) e
def Ok.growZ(o:Ok K B l H g f p)(hp:∀a∈m,a∈l)(hB:∀a∈m,B a=none)(s:kM m H k)(hl:∀a∈m,AJ (k a)):Ok K B l k g f p where
 base:=λa u e=>s a u (λz=>by rw[hB a z]at e;cases e) (o.base a u e)
 sub:=o.sub
 live:=λq hq=>by
  by_cases e:q∈m
  ·exact hl q e
  ·obtain⟨u,h1,h2⟩:=o.live q hq;exact⟨u,s q u e h1,h2⟩
 len:=o.len
 val:=λi d h=>let ⟨v,h1,h2⟩:=o.val i d h;⟨v,h1,h2.same (s.mask λa z=>o.sub a (hp a z))⟩
 own:=λi ts h=>let ⟨q,xs,h1,h2,h3,h4,h5,h6⟩:=o.own i ts h;⟨q,xs,h1,h2,h3,h4,s q _ (λz=>h4 (hp q z)) h5,h6.same (s.mask λa z=>o.sub a (hp a z))⟩
 dis:=o.dis
 dc:=o.dc.to (λj hs kvs h=>⟨h,kA⟩) (λq φ a b c=>⟨a,(s q _ (λz=>c (hp q z)) b).trans b.symm⟩) (λq φ _ _ a b=>⟨a,b⟩) (s.mask λa z=>o.sub a (hp a z))
variable{F:yX}{T:F.I}{n y:F.S}
def yX.At.grow(t:F.At T K H g n)(s:bB H k):F.At T K k g n:=F.to t (λa c=>by
 obtain⟨u,b,_⟩:=F.liv t a c;rw[b];exact s a u b) (bR s)
structure sE(F:yX)(K:aI)(B:Hp)(l:List Addr)(H:Hp)(g:List Addr)(f:List Sl)(p:L2.St)(T:F.I)(n:F.S):Prop where
 ok:Ok K B l H g f p
 mem:∀a∈F.ad T,a∈l
 nb:∀a∈F.ad T,B a=none
 tp:F.At T K H g n
def sE.mem'(o:sE F K B l H g f p T n):∀a∈F.ad T,a∈g:=λa h=>o.ok.sub a (o.mem a h)
theorem sE.grow(o:sE F K B l H g f p T n)(s:bB H k):sE F K B l k g f p T n:=⟨o.ok.grow s,o.mem,o.nb,o.tp.grow s⟩
def sE.growX(o:sE F K B l H g f p T n)(s:kM (F.ad T) H k)(t:F.At T K k g y):sE F K B l k g f p T y:=⟨o.ok.growZ o.mem o.nb s (F.liv t),o.mem,o.nb,t⟩
theorem sE.set(o:sE F K B l H g f p T n){i:Nat}(r:gO K (mask H g) d v):sE F K B l H g (f.set i (.val d)) (p.set i (some v)) T n:=⟨o.ok.set r,o.mem,o.nb,o.tp⟩
end
section
variable{F:yX}
abbrev EZ(F:yX):=D->F.S->List Sl->(F.S->D->Prop)->Prop
abbrev AZ(F:yX):=D->F.S->List Sl->(F.S->List D->Prop)->Prop
abbrev TZ(F:yX):=D->F.S->List Sl->(F.S->Bool->Prop)->Prop
def vV(X:Cx)(e:Expr)(t:EZ F):Prop:=∃f:TE,PE X e f/\∀B p0 H ps σT σ T n (Q:F.S->D->Prop)(b:VK),sE F X.K B p0 H ps σT σ T n->t (F.tau T) n σT Q ->
 (∀c d v a,kM (F.ad T) H a->F.At T X.K a ps c->gO X.K (mask a ps) d v->Q c d->b v a)->f σ H b
def ZW(X:Cx)(f:List Expr)(t:AZ F):Prop:=∃e:TA,PA X f e/\∀B p0 H ps σT σ T n (Q:F.S->List D->Prop)(b:List V->Hp->Prop),sE F X.K B p0 H ps σT σ T n->t (F.tau T) n σT Q ->
 (∀d c vs a,kM (F.ad T) H a->F.At T X.K a ps d->Reps X.K (mask a ps) c vs->Q d c->b vs a)->e σ H b
def we(X:Cx)(e:Expr)(t:TZ F):Prop:=∃f:TT,PT X e f/\∀B p0 H ps σT σ T n (Q:F.S->Bool->Prop)(c:Bool->Hp->Prop),sE F X.K B p0 H ps σT σ T n->t (F.tau T) n σT Q ->
 (∀d b a,kM (F.ad T) H a->F.At T X.K a ps d->Q d b->c b a)->f σ H c
section
variable{X:Cx}{a b e:Expr}{i:List Expr}{j l u:EZ F}{pos:Pos}
def zE(t:ET):EZ F:=λ_ n c Q=>t c (Q n)
def rZ(h:gR X e t):vV (F:=F) X e (zE t):=by
 obtain⟨v,p,r⟩:=h;exact⟨v,p,λB m H w c y T n Q g o h k=>r B m H w c y (Q n) g o.ok h λd v f s x q=>k n d v f (.of s) (o.tp.grow s) x q⟩
def zA(t:AT):AZ F:=λ_ n c Q=>t c (Q n)
def AG(h:vW X i t):ZW (F:=F) X i (zA t):=by
 obtain⟨v,p,r⟩:=h;exact⟨v,p,λB m H w c y T n Q g o h k=>r B m H w c y (Q n) g o.ok h λd v f s x q=>k n d v f (.of s) (o.tp.grow s) x q⟩
def zT(t:wF):TZ F:=λ_ n c Q=>t c (Q n)
def HL(h:J1 X e t):we (F:=F) X e (zT t):=by
 obtain⟨v,p,r⟩:=h;exact⟨v,p,λB g H m c w T n Q f o h k=>r B g H m c w (Q n) f o.ok h λb d s q=>k n b d (.of s) (o.tp.grow s) q⟩
def xn(f:D->D->(D->Prop)->Prop)(j l:EZ F):EZ F:=λd n c Q=>j d n c λn1 x=>l d n1 c λg y=>f x y (Q g)
def DG{f:D->D->(D->Prop)->Prop}(R:zD X r f){J L:TE}
  (U:∀B t H m c p T n (Q:F.S->D->Prop)(q:VK),sE F X.K B t H m c p T n->j (F.tau T) n c Q->(∀s d v g,kM (F.ad T) H g->F.At T X.K g m s->gO X.K (mask g m) d v->Q s d->q v g)->J p H q)
  (W:∀B t H m c p T n (Q:F.S->D->Prop)(q:VK),sE F X.K B t H m c p T n->l (F.tau T) n c Q->(∀s d v g,kM (F.ad T) H g->F.At T X.K g m s->gO X.K (mask g m) d v->Q s d->q v g)->L p H q)
  (B:Hp) (t:List Addr) (H:Hp) (m:List Addr) (c:List Sl) (p:L2.St) (T:F.I) (n:F.S) (Q:F.S->D->Prop) (q:VK) (o:sE F X.K B t H m c p T n) (h:xn f j l (F.tau T) n c Q) (k:∀s d v g,kM (F.ad T) H g->F.At T X.K g m s->gO X.K (mask g m) d v->Q s d->q v g):wm r J L p H q:=by
 refine U B t H m c p T n _ _ o h λn1 O x M E t1 r1 q1=>?_;have A:=o.growX E t1;refine W B t M m c p T n1 _ _ A q1 λz P y N w G r2 q2=>?_;have Y:=A.growX w G;exact R N m O P x y (Q z) q Y.ok.live (r1.same (w.mask o.mem')) r2 q2 λd v g C r' Z=>k z d v g ((E.trans w).trans (.of C)) (G.grow C) r' Z
def Tc{f:D->D->(D->Prop)->Prop}(k:nW X (c8 op) r)(c:zD X r f)(d:vV X a j)(g:vV X b l)(h:autoParam (g7 op b=false) zzq._auto_1):vV X (.Compare a [op] [b] pos) (xn f j l):=by
 obtain⟨q,m,o⟩:=d;obtain⟨s,n,p⟩:=g;exact⟨_,PX k m n h,DG c o p⟩
def Jj{f:D->D->(D->Prop)->Prop}(h:ZN X r)(c:zD X r f)(d:vV X a j)(g:vV X b l)(k:autoParam (CL b) zzp._auto_1):vV X (.Subscript a b pos) (xn f j l):=by
 obtain⟨q,m,o⟩:=d;obtain⟨s,n,p⟩:=g;exact⟨_,sL h m n k,DG c o p⟩
def Ca:AZ F:=λ_ n _ Q=>Q n []
def Sm(t:EZ F)(r:AZ F):AZ F:=λd n c Q=>t d n c λn1 x=>r d n1 c λf g=>Q f (x::g)
def AH:ZW (F:=F) X [] Ca:=⟨_,qC,λ_ _ H _ _ _ _ _ _ _ o h k=>k _ _ _ H .refl o.tp .nil h⟩
def lY{tr}(t:vV X e u)(v:ZW X i tr)(w:autoParam (bY (e::i) X.env=(false,eval e X.env)::bY i X.env) zzz._auto_1):ZW X (e::i) (Sm u tr):=by
 obtain⟨O,y,G⟩:=t;obtain⟨P,z,I⟩:=v;refine⟨_,lE y z w,λB f H g c q T n Q L o h k=>G B f H g c q T n _ _ o h λn1 d x r m J C q1=>?_⟩;refine I B f r g c q T n1 _ _ (o.growX m J) q1 λN M R s p K E A=>?_;exact k _ _ _ s (m.trans p) K (.cons (C.same (p.mask o.mem')) E) A
def Je(t:AZ F):EZ F:=λf n d Q=>t f n d λn1 c=>c.length<=1000/\Q n1 (.tuple c)
def YS{t:AZ F}(h:ZW X i t):vV X (.Tuple i x1 pos) (Je t):=by
 obtain⟨v,p,r⟩:=h;refine⟨_,NS p,λB s H w d x T n Q z o h k=>r B s H w d x T n _ _ o h λn1 A C y g m f q1=>⟨yC (by rw[<- f.length];exact q1.1),λq c=>?_⟩⟩;exact k _ _ _ _ (g.trans (.of (dM c))) (m.grow (dM c)) (oG (o.growX g m).ok.live c f) q1.2
def Em(f:List D->(D->Prop)->Prop)(t:AZ F):EZ F:=λg n d Q=>t g n d λn1 c=>f c (Q n1)
def Ji{r:List V->Hp->VK->Prop}{f:List D->(D->Prop)->Prop}{t:AZ F}(C:pW X r f)(A:ZW X (e::i) t)(I:∀{j:TA},PA X (e::i) j->PE X (.Call g (e::i) [] pos) (wg r j)):vV X (.Call g (e::i) [] pos) (Em f t):=by
 obtain⟨v,G,M⟩:=A;refine⟨_,I G,λB E H m c O T n Q y o h k=>M B E H m c O T n _ _ o h λn1 z N x q s L q1=>?_⟩;exact C x m z N (Q n1) y (o.growX q s).ok.live L q1 λd v w p K J=>k n1 d v w (q.trans (.of p)) (s.grow p) K J
def D9{k:Nat}{f:Addr}{pn:List Str}{c:kH}{x:Str}{t:AZ F}(F:mB X.prog X.w X.K X.mg X.base pK k f fd pn (jO X.K c))(W:X.mg x=some (.ref f))(hk:gK X.K (.ref f)=true)(U:pX X.K fd pn [])
  (Y:hW k X.A) (G:ZW X (e::i) t) (L:∀{j:TA},PA X (e::i) j->PE X (.Call (.Name x p) (e::i) [] pos) (F6 (jO X.K c) [] E0 j)):vV X (.Call (.Name x p) (e::i) [] pos) (Em c t):=by
 obtain⟨v,J,P⟩:=G;refine⟨_,L J,λB I H m g S T n Q C o h k=>P B I H m g S T n _ _ o h λn1 E R z r s O q1=>?_⟩;show jO X.K c (R++[]) z C E0;rw[dH];exact⟨m,E,Q n1,(o.growX r s).ok.live,O,q1,λd v y q N M=>k n1 d v y (r.trans (.of q)) (s.grow q) N M⟩
abbrev KO(F:yX):=D->F.S->List D->(F.S->D->Prop)->Prop
def iQ(K:aI)(m:KO F):Sp:=λvs H Q _=>∃(c:List Addr)(T:F.I)(n:F.S)(h:List D)(g:F.S->D->Prop),(∀p∈c,AJ (H p))/\(∀a∈F.ad T,a∈c)/\F.At T K H c n/\Reps K (mask H c) h vs/\m (F.tau T) n h g /\
 ∀k d v f,kM (F.ad T) H f->F.At T K f c k->gO K (mask f c) d v->g k d->Q v f
def Sn(f:KO F)(t:AZ F):EZ F:=λc n g Q=>t c n g λn1 d=>f c n1 d Q
def QO{k:Nat}{f:Addr}{fd:hX}{pn:List Str}{c:KO F}{x:Str}{t:AZ F}(A:ZW X (e::i) t)(I:∀{j:TA},PA X (e::i) j->PE X (.Call (.Name x p) (e::i) [] pos) (F6 (iQ X.K c) [] E0 j)):vV X (.Call (.Name x p) (e::i) [] pos) (Sn c t):=by
 obtain⟨v,G,N⟩:=A;refine⟨_,I G,λB E H m g S T n Q y o h k=>N B E H m g S T n _ _ o h λn1 z R w q r M q1=>?_⟩;show iQ X.K c (R++[]) w y E0;rw[dH];exact⟨m,T,n1,z,Q,(o.growX q r).ok.live,o.mem',r,M,q1,λC d v s O P L J=>k C d v s (q.trans O) P L J⟩
def Bx(t:EZ F):TZ F:=λd n c Q=>t d n c λn1 x=>match x with | .bool b=>Q n1 b | _=>False
def HM{f:D->D->(D->Prop)->Prop}(y:nW X (c8 op) r)(q:zD X r f)(s:vV X a j)(t:vV X b l)(w:autoParam (g7 op b=false) zzq._auto_1):we X (.Compare a [op] [b] pos) (Bx (xn f j l)):=by
 obtain⟨P,C,J⟩:=s;obtain⟨R,E,K⟩:=t;refine⟨_,PP y C E w,λB A H G g N T n Q O o h k=>?_⟩;refine DG q J K B A H G g N T n (λn1 x=>match x with | .bool b=>Q n1 b | _=>False) _ o h λz d v p L M I m=>?_
 cases I with
 |bool c=>exact⟨c,kA,k z c p L M m⟩
 |_=>exact m.elim
variable{m:TZ F}
def Sg(t:TZ F):TZ F:=λd n c Q=>t d n c λn1 b=>Q n1 (!b)
def U3(h:we X a m):we X (.UnaryOp .Not a pos) (Sg m):=by
 obtain⟨v,p,r⟩:=h;exact⟨_,V3 p,λB f H g c w T n Q x o h k=>r B f H g c w T n _ _ o h λn1 b d s t q=>k _ _ d s t q⟩
end
end
section
variable{F:yX}
section
variable{K:aI}{H B:Hp}{a b:List Addr}{c:List Sl}{d:L2.St}{T:F.I}{n:F.S}
def sE.with(o:sE F K B a H b c d T n)(e:Ok K B a H b n9 t6):sE F K B a H b n9 t6 T n:=⟨e,o.mem,o.nb,o.tp⟩
end
set_option genInjectivity false in
structure A8(F:yX) where
 nx:F.S->List Sl->Prop
 rt:F.S->D->Prop
 bk:F.S->List Sl->Prop:=λ_ _=>False
 ct:F.S->List Sl->Prop:=λ_ _=>False
 xB:Hp->List Addr->Prop:=λ_ _=>True
abbrev SZ(F:yX):=D->A8 F->F.S->List Sl->Prop
structure EY(F:yX)(K:aI)(B:Hp)(p0:List Addr)(H:Hp)(ps:List Addr)(T:F.I)(DC:A8 F)(DV:E3):Prop where
 nx:∀H' v0 n9 t6 n',sE F K B p0 H' v0 n9 t6 T n'->bB (mask H ps) (mask H' v0)->DC.nx n' n9->DV.nx t6 H'
 bk:∀H' v0 n9 t6 n',sE F K B p0 H' v0 n9 t6 T n'->bB (mask H ps) (mask H' v0)->DC.bk n' n9->DV.bk t6 H'
 ct:∀H' v0 n9 t6 n',sE F K B p0 H' v0 n9 t6 T n'->bB (mask H ps) (mask H' v0)->DC.ct n' n9->DV.ct t6 H'
 rt:∀n' d v H',bB B H'->F.At T K H' p0 n'->gO K (mask H' p0) d v->DC.rt n' d->DV.rt v H'
 xb:DC.xB B p0
def UL(X:Cx)(st:Stmt)(t:SZ F):Prop:=∃c:TS,PS X st c/\∀B p0 H ps σT σ T n (a:A8 F)(b:E3),sE F X.K B p0 H ps σT σ T n->t (F.tau T) a n σT->EY F X.K B p0 H ps T a b->c b σ H
def EV(X:Cx)(st:List Stmt)(t:SZ F):Prop:=∃c:TS,FP X st c/\∀B p0 H ps σT σ T n (a:A8 F)(b:E3),sE F X.K B p0 H ps σT σ T n->t (F.tau T) a n σT->EY F X.K B p0 H ps T a b->c b σ H
section
variable{K:aI}{H c B:Hp}{g k:List Addr}{l:List Sl}{m:L2.St}{T:F.I}{n:F.S}
def EY.later(f:EY F K B g H k T DC DV)(e:bB (mask H k) (mask c v0)):EY F K B g c v0 T DC DV:=
 ⟨λ_ _ _ _ _ o s q=>f.nx _ _ _ _ _ o (e.trans s) q,λ_ _ _ _ _ o s q=>f.bk _ _ _ _ _ o (e.trans s) q,λ_ _ _ _ _ o s q=>f.ct _ _ _ _ _ o (e.trans s) q,f.rt,f.xb⟩
noncomputable def GR(B:Hp)(b:List Addr)(H:Hp):Hp:=λa=>if a∈b then H a else B a
def QC{a:Addr}(h:a∈as):GR B as H a=H a:=a9 h
def yE{a:Addr}(h:a∉as):GR B as H a=B a:=a8 h
def zV(h:∀a∈as,B a=none):bB B (GR B as H):=λa u e=>by
 rw[yE λz=>by rw[h a z]at e;cases e];exact e
def sE.up(o:sE F K B g H k l m T n):Ok K (GR B (F.ad T) H) g H k l m where
 base:=λa u e=>by
  by_cases z:a∈F.ad T
  ·rw[QC z]at e;exact e
  ·rw[yE z]at e;exact o.ok.base a u e
 sub:=o.ok.sub
 live:=o.ok.live
 len:=o.ok.len
 val:=o.ok.val
 own:=λi ts h=>let ⟨q,xs,h1,h2,h3,h4,h5,h6⟩:=o.ok.own i ts h;⟨q,xs,h1,h2,by rw[yE λz=>h4 (o.mem q z)];exact h3,h4,h5,h6⟩
 dis:=o.ok.dis
 dc:=o.ok.dc.to (λj hs kvs h=>⟨h,kA⟩) (λq φ a b _=>⟨a,kA⟩) (λq φ _ _ a b=>⟨by rw[yE λz=>b (o.mem q z)];exact a,b⟩) (L2.bB.refl _)
def sE.down(o:sE F K B g H k l m T n)(o':Ok K (GR B (F.ad T) H) g c v0 n9 t6)(s:bB (mask H k) (mask c v0)):sE F K B g c v0 n9 t6 T n where
 ok:=⟨(zV o.nb).trans o'.base,o'.sub,o'.live,o'.len,o'.val,λi ts h=>let ⟨q,xs,h1,h2,h3,h4,h5,h6⟩:=o'.own i ts h;⟨q,xs,h1,h2,bB.free' (zV o.nb) h3,h4,h5,h6⟩,o'.dis,o'.dc.to (λj hs kvs h=>⟨h,kA⟩) (λq φ a b _=>⟨a,kA⟩) (λq φ _ _ a b=>⟨bB.free' (zV o.nb) a,b⟩) (L2.bB.refl _)⟩
 mem:=o.mem
 nb:=o.nb
 tp:=F.to o.tp (λa ha=>by
  obtain⟨u,e,_⟩:=F.liv o.tp a ha;rw[e];exact o'.base a u (by rw[QC ha];exact e)) s
def YN{p:A8 F}(o:sE F K B g H k l m T n)(f:EY F K B g H k T p DV):J4 K (GR B (F.ad T) H) g H k { nx:=p.nx n,rt:=λ_=>False,bk:=p.bk n,ct:=p.ct n } DV:=
 ⟨λc e a h j i b=>f.nx c e a h n (o.down j i) i b,λc e a h j i b=>f.bk c e a h n (o.down j i) i b,λc e a h j i b=>f.ct c e a h n (o.down j i) i b,
  λd v c i q b=>b.elim,
  λ_ _ _ _ _ _ _ _ _ b=>b.elim,λ_ _ _ _ _ _ _ _ _ _ _ _ _ _ _ _ _ _ b=>b.elim,λ_ _ _ _ _ _ _ _ _ _ _ _ _ _ b=>b.elim,e9⟩
end
section
variable{X:Cx}{a b c e:Expr}{l:List Expr}{j:EZ F}{pos:Pos}{st:Stmt}{jN:List Stmt}{t u:SZ F}
def zP(t:wG):SZ F:=λ_ d n f=>t { nx:=d.nx n,rt:=λ_=>False,bk:=d.bk n,ct:=d.ct n } f
def vO{t}(h:BN X st t):UL (F:=F) X st (zP t):=by
 obtain⟨m,p,r⟩:=h;refine⟨m,p,λB i H k d q T n s g o h f=>?_⟩;exact r _ i H k d q _ g o.up h (YN o f)
def O6:SZ F:=λ_ d n f=>d.nx n f
def zF(t u:SZ F):SZ F:=λf d n g=>t f { d with nx:=u f d } n g
def mV:EV (F:=F) X [] O6:=⟨_,PQ,λB p H g d i T n k m o h f=>f.nx H g d i n o (L2.bB.refl _) h⟩
def eY(s:UL X st t)(v:EV X jN u):EV X (st::jN) (zF t u):=by
 obtain⟨K,p1,C⟩:=s;obtain⟨I,y,E⟩:=v;refine⟨_,nJ p1 y,λB q H z p J T n g i o h f=>C B q H z p J T n { g with nx:=u (F.tau T) g } { i with nx:=I i } o h ⟨λr k d m w x G A=>?_,f.bk,f.ct,f.rt,f.xb⟩⟩;exact E B q r k d m T w g i x A (f.later G)
def gT(d:UL X st t):EV X [st] t:=by
 obtain⟨g,p1,f⟩:=d;exact⟨_,B3 p1,f⟩
def Vr(i:Nat)(t:SZ F):SZ F:=λh g n f=>∃d,f[i]?=some (.own d)/\t h g n (f.set i (.val (.list d)))
def K1(i:Nat)(h:EV X sts t):EV X sts (Vr i t):=by
 obtain⟨v,p,r⟩:=h;refine⟨_,p,λB s H y x w T n k m o h f=>?_⟩;obtain⟨z,e,h⟩:=h;obtain⟨d,q,g⟩:=o.ok.share e;exact r B s H d _ w T n k m ⟨q,o.mem,o.nb,F.to o.tp (λ_ _=>rfl) g⟩ h (f.later g)
def Iu(j:EZ F):SZ F:=λg d n f=>j g n f d.rt
def lL(h:vV X e j):UL X (.Return (some e) pos) (Iu j):=by
 obtain⟨v,p,r⟩:=h;refine⟨_,C9 p,λB s H w g C T n E G o h f=>r B s H w g C T n _ _ o h λm d x k A i z y=>?_⟩;have q:=o.growX A i;exact f.rt m d x k q.ok.base (F.to i (λ_ _=>rfl) (jI o.ok.sub)) (z.same (jI o.ok.sub)) y
def ym(c:TZ F)(t u:SZ F):SZ F:=λf g n d=>c f n d λn1 b=>if b=true then t f g n1 d else u f g n1 d
def oZ{c a b}(y:we X c tc)(w:EV X a t)(x:EV X b u):UL X (.If c a b pos) (ym tc t u):=by
 obtain⟨M,C,I⟩:=y;obtain⟨K,z,E⟩:=w;obtain⟨L,A,G⟩:=x;refine⟨_,Dw C z A,λB i H k g m T n p q o h f=>I B i H k g m T n _ _ o h λn1 d r v J q1=>?_⟩;have s:=o.growX v J;have f1:=f.later (v.mask o.mem')
 cases d with
 |true=>exact E B i r k g m T n1 p q s q1 f1
 |false=>exact G B i r k g m T n1 p q s q1 f1
def zx(i:Nat)(j:EZ F):SZ F:=λh g n f=>j h n f λn1 d=>g.nx n1 (f.set i (.val d))
def HP{i:Nat}(h:vV X e j)(g:∀{v},PE X e v->PS X (.Assign [.Name x pos'] e pos) (vN v (lP i))):UL X (.Assign [.Name x pos'] e pos) (zx i j):=by
 obtain⟨v,p,r⟩:=h;refine⟨_,g p,λB y H m k E T n G I o h f=>r B y H m k E T n _ _ o h λw d x s q C A z=>?_⟩;exact f.nx s m _ _ w ((o.growX q C).set A) (q.mask o.mem') z
def Il(q:IT)(g:GT)(p:SZ F):SZ F:=λr f n o=>q o λi=>∃P:Nat->F.S->List Sl->Prop,P 0 n o /\
 (∀(k:Nat)(m:F.S)(x:D)d,i[k]?=some x->P k m d->g x d λh=>p r { f with nx:=P (k+1),ct:=P (k+1),bk:=f.nx } m h)/\∀m d,P i.length m d->f.nx m d
def Va{iter}{tb:SZ F}(he:MZ X tg iter ti)(hg:M0 X tg g)(hb:EV X body tb)
  (pf:∀{wi:TI}{Z:TG}{bv:TS},PI X tg iter wi->PG X tg Z->FP X body bv->PS X (.For tg iter body [] pos) (zv wi Z bv)):UL X (.For tg iter body [] pos) (Il ti g tb):=by
 obtain⟨ve,pe,re⟩:=he;obtain⟨Z,pg,rg⟩:=hg;obtain⟨vb,pb,rb⟩:=hb;refine⟨_,pf pe pg pb,λB C H ps R σ T n DC DV o h f=>re B C H ps R σ _ _ o.ok h λO J U s1 rj q1=>?_⟩;obtain⟨P,h0,hs,hd⟩:=q1;refine⟨λi m s r=>m=O.length-i/\i<=O.length/\∃c k d,sE F X.K B C r k d s T c/\bB (mask U ps) (mask r k)/\P i c d,⟨_,kA,cJ _,n,ps,R,o.grow s1,L2.bB.refl _,h0⟩,?_⟩;rintro i m s r ⟨rfl,gp,c,k,d,o',W,p'⟩;have sH:bB (mask U ps) r:=W.trans bW;have f':EY F X.K B C r k T DC DV:=f.later ((bR s1).trans W);by_cases x:i<O.length
 ·refine .inr ⟨rj.go i r sH x,λQ v=>∃c2 I w,sE F X.K B C v I w Q T c2/\bB (mask U ps) (mask v I)/\P (i+1) c2 w,λQ v z=>⟨O.length-(i+1),hG,kA,x,z⟩,λy v gq=>?_⟩;obtain⟨s2,dx,hx,rx⟩:=rj.yld i r k y v o'.ok.live W x gq;have f2:=f'.later (bR (ps:=k) s2);have M:bB (mask U ps) (mask v k):=W.trans (bR s2);have o2:=o'.grow s2;refine rg B C v k d s dx y _ _ o2.ok rx (hs i c dx d hx p') λS iq o3 _ q3=>?_;exact rb B C v k S iq T c _ _ (o2.with o3) q3 ⟨λY q p A E G N L=>⟨E,q,p,G,M.trans N,L⟩,λY q p A E G N L=>f2.nx Y q p A E G N L,λY q p A E G N L=>⟨E,q,p,G,M.trans N,L⟩,f2.rt,f2.xb⟩
 ·obtain rfl:i=O.length:=by lia
  exact .inl ⟨rj.stop _ r sH (aN _),f'.nx r k d s c o' (L2.bB.refl _) (hd c d p')⟩
noncomputable def qM(H:Hp)(d:List Addr):Hp:=λa=>if a∈d then none else H a
def YL{mg:Str->Option Value}{K st}{f:Addr}{N pn:List Str}{k:Nat}{W:KO F}(Fn:OY K x qual st f fd)(S:bL N pn (aU st))
  (y:∀{m}{A:d8}{outer}{s:Shared}{H E},hW k (A.deeper (n4 qual (aU st) s.heap.objs.size f m))->N.Nodup->∀(Y:F.I)(n:F.S)(g:List D)(Q:F.S->D->Prop),W (F.tau Y) n g Q ->
   ∃t,EV (vQ pK P w K mg base N qual (aU st) f m A outer s H E).nox (lF st) t/\t (F.tau Y) { nx:=λn _=>Q n .none,rt:=Q } n (lB N g)) (len:∀τ n g Q,W τ n g Q->g.length=pn.length:=by intro τ n g Q h;(repeat obtain⟨_,h⟩:=h)<;>subst_vars<;>rfl):mB P w K mg base pK (k+1) f fd pn (iQ K W):=by
 refine Fn.ok S (λvs H Q E h=>?_) λm A outer s H vs Q E hr h=>?_
 ·obtain⟨z,T,n,g,L,_,_,_,r,q,_⟩:=h;rw[<- r.length];exact len _ _ g L q
 ·obtain⟨z,T,n,g,L,live,hp,tp,r,q,k⟩:=h;obtain⟨t,⟨ts,p,rd⟩,h⟩:=y hr S.nd T n g L q;have o:=qS (N:=N) live r
  have O:∀(i:Nat)(J:List D),(lB N g)[i]?≠some (.own J):=λi J e=>by
   obtain⟨q,_,_,_,M,_,G,_⟩:=o.own i J e;rw[M]at G;cases G
  have sW:bB (qM H (F.ad T)) H:=λa u e=>by
   unfold qM at e;split at e
   ·cases e
   ·exact e
  have Z:∀{C:Hp},bB (qM H (F.ad T)) C->kM (F.ad T) H C:=λs a u ne e=>s a u (by unfold qM;rw[a8 ne];exact e)
  have o2:Ok K (qM H (F.ad T)) z H z (lB N g) (L2.lM N vs):=⟨sW,o.sub,o.live,o.len,o.val,λi J e=>b9 e (O i J),o.dis,λi hs kvs e=>by
   obtain⟨⟨q,l,_,_,M,_,G,_⟩,_⟩:=o.dc i hs kvs e;rw[M]at G;cases G⟩
  have o3:sE F K (qM H (F.ad T)) z H z (lB N g) (L2.lM N vs) T n:=⟨o2,hp,λa ha=>a9 ha,tp⟩;refine⟨ts,p,rd _ z H z _ _ T n _ _ o3 h ⟨λC v0 n9 t6 R U s' B=>?_,λ_ _ _ _ _ _ _ B=>B.elim,λ_ _ _ _ _ _ _ B=>B.elim,λR d v C s' t' r' B=>k R d v C (Z s') t' r' B,e9⟩⟩;exact k R _ _ C (Z U.ok.base) (F.to U.tp (λ_ _=>rfl) (jI U.ok.sub)) .none B
end
end
end TL
namespace L2
section
variable{a:Type}[DecidableEq a]
noncomputable def wK(kvs:List (a×V))(k:a):Option V:=(kvs.find? λkv=>decide (kv.1=k)).map (·.2)
noncomputable def zO(kvs:List (a×V))(k:a)(v:V):List (a×V):=
 if(kvs.any λkv=>decide (kv.1=k))=true then kvs.map (λkv=>if kv.1=k then(kv.1,v)else kv)else kvs++[(k,v)]
def CP{p:a×V}{k}(e:p.1=k):wK (p::r) k=some p.2:=by simp[wK,jS,e]
def CQ{p:a×V}{k}(e:¬p.1=k):wK (p::r) k=wK r k:=by simp[wK,jS,e]
theorem KW(k:a):∀kvs:List (a×V),(kvs.any λkv=>decide (kv.1=k))=(wK kvs k).isSome
|[]=>rfl
|p::r=>by
 rw[jL];by_cases e:p.1=k
 ·simp only[CP e,b0 e,aJv,RE]
 ·rw[CQ e,b7 e,zB];exact KW k r
def A1(kvs:List (a×V))(k:a)(v:V):(zO kvs k v).length<=kvs.length+1:=by
 unfold zO;split
 ·rw[aA];lia
 ·rw[aZ,bN,aDt];lia
def vT.isSome_eq{o:Option V}{u:Option Value}(r:vT o u):o.isSome=u.isSome:=by
 cases o with
 |none=>cases u with
  |none=>rfl
  |some _=>exact(show False from r).elim
 |some _=>cases u with
  |none=>exact(show False from r).elim
  |some _=>rfl
def KV.val(r:KV kvs vs)(k:a):vT (wK kvs k) (bo vs k):=by
 unfold KV at r
 induction r with
 |nil=>exact e9
 |@cons p q ps qs h t ih=>
  obtain⟨d,f⟩:=h;by_cases e:p.1=k
  ·have c:q.1=k:=d.symm.trans e;have b:bo (q::qs) k=some q.2:=by simp[bo,jS,c]
   rw[CP e,b];exact f
  ·have c:¬q.1=k:=λz=>e (d.trans z);have b:bo (q::qs) k=bo qs k:=by simp[bo,jS,c]
   rw[CQ e,b];exact ih
theorem KV.any{kvs:List (a×V)}{vs:List (a×Value)}(r:KV kvs vs)(k:a):(kvs.any λkv=>decide (kv.1=k))=vs.any λkv=>decide (kv.1=k):=by
 unfold KV at r
 induction r with
 |nil=>rfl
 |cons h t b=>rw[jL,jL,b,h.1]
def KV.repl{kvs:List (a×V)}{vs:List (a×Value)}(r:KV kvs vs)(k:a)(d:fS y u) :
  KV (kvs.map λkv=>if kv.1=k then(kv.1,y)else kv) (vs.map λkv=>if kv.1=k then(kv.1,u)else kv):=by
 unfold KV at r |-
 induction r with
 |nil=>exact .nil
 |@cons p q ps qs h t ih=>
  rw[bI,bI];refine .cons ?_ ih;obtain⟨b,c⟩:=h;by_cases e:p.1=k
  ·rw[a9 e,a9 (b.symm.trans e)];exact⟨b,d⟩
  ·rw[a8 e,a8 (λz=>e (b.trans z))];exact⟨b,c⟩
def KV.put(r:KV kvs vs)(k:a)(b:fS y u):KV (zO kvs k y) (stored vs k u):=by
 unfold zO stored;rw[r.any k];by_cases e:(vs.any λkv=>decide (kv.1=k))=true
 ·rw[a9 e,a9 e];exact r.repl k b
 ·rw[a8 e,a8 e];exact Paired.snoc r ⟨kA,b⟩
theorem KV.length{kvs:List (a×V)}{vs:List (a×Value)}(r:KV kvs vs):kvs.length=vs.length:=x6 r
end
def QB{k}(r:fS (kV k) u):(jB P w).is k u=true:=by
 cases k with
 |inl i=>obtain⟨t,e⟩:=(show∃t,u=l9 i t from r);subst e;exact LU P w i t
 |inr x=>obtain⟨t,e⟩:=(show∃t,u=ar x t from r);subst e;exact LT P w x t
theorem GU:∀{a:List mO}{us},fQ (a.map kV) us->ItemsAre (jB P w) a us
|[],_,r=>by rw[pP]at r;cases r;exact .nil
|k::a,_,r=>by
 rw[bI]at r
 cases r with
 |cons h t=>exact .cons (QB h) (GU t)
abbrev KT(H:Hp):List (List mO×V)->List (List mO×Addr×Value)->Prop:=Paired λp q=>p.1=q.1/\H q.2.1=some (.tup (p.1.map kV))/\fS p.2 q.2.2
def KT.val(r:KT H kvs xs)(k:List mO):vT (wK kvs k) ((dm xs k).map (·.2)):=by
 induction r with
 |nil=>exact e9
 |@cons p q ps qs h t ih=>
  obtain⟨c,_,d⟩:=h;by_cases e:p.1=k
  ·have a:q.1=k:=c.symm.trans e;have b:dm (q::qs) k=some q.2:=by simp[dm,jS,a]
   rw[CP e,b];exact d
  ·have a:¬q.1=k:=λz=>e (c.trans z);have b:dm (q::qs) k=dm qs k:=by simp[dm,jS,a]
   rw[CQ e,b];exact ih
def KT.repl{kvs:List (List mO×V)}{c:List (List mO×Addr×Value)}(r:KT H kvs c)(k:List mO)(f:fS y u) :
  KT H (kvs.map λkv=>if kv.1=k then(kv.1,y)else kv) (c.map (putAt k u)):=by
 induction r with
 |nil=>exact .nil
 |@cons p q ps qs h t ih=>
  rw[bI,bI];refine .cons ?_ ih;obtain⟨a,b,d⟩:=h;unfold putAt;by_cases e:p.1=k
  ·rw[a9 e,a9 (a.symm.trans e)];exact⟨a,b,f⟩
  ·rw[a8 e,a8 (λz=>e (a.trans z))];exact⟨a,b,d⟩
def KT.put(r:KT H kvs xs)(k:List mO){b:Addr}(c:H b=some (.tup (k.map kV)))(a:fS y u) :
  KT H (zO kvs k y) (storedH xs k b u):=by
 have e:(kvs.any λkv=>decide (kv.1=k))=(dm xs k).isSome:=by
  rw[KW,(r.val k).isSome_eq,UA]
 unfold zO storedH;rw[e];by_cases q:(dm xs k).isSome=true
 ·rw[a9 q,a9 q];exact r.repl k a
 ·rw[a8 q,a8 q];exact Paired.snoc r ⟨kA,c,a⟩
def KT.keeps{H a:Hp}(r:KT H kvs xs)(d:∀b c,H b=some (.tup c)->a b=some (.tup c)):KT a kvs xs:=
 Paired.mapP r λ_ _ z=>⟨z.1,d _ _ z.2.1,z.2.2⟩
section
variable{P:cK}{w:e6}{H:Hp}{h:Heap}{a:Addr}
def Eo(ok:sO P w H h)(e:Rd H a u):jG P w H h a u:=e.ok ok
def MD{kvs:List (mO×V)}(ok:sO P w H h)(e:Rd H a (.dK kvs)):kvs.length<=bF/\(a==j3)=false/\∃vs,KV kvs vs/\h.DictOf (jB P w) a vs:=
 show jG P w H h a (.dK kvs)from Eo ok e
def ME{kvs:List (mO×V)}(ok:sO P w H h)(e:H a=some (.dK kvs)):kvs.length<=bF/\(a==j3)=false/\∃vs,KV kvs vs/\h.DictOf (jB P w) a vs:=MD ok (.inl e)
def DU{c:List mO}(ok:sO P w H h)(e:H a=some (.tup (c.map kV))):(ce (jB P w)).is h c a:=by
 obtain⟨_,b,r,o,d,f,n,g,_⟩:=(show jG P w H h a (.tup (c.map kV))from ok a _ e);exact⟨o,b.toArray,n,d,f,g,by simpa using GU r⟩
def QS{kvs:List (List mO×V)}(ok:sO P w H h)(e:Rd H a (.dT kvs)):kvs.length<=bF/\(a==j3)=false /\
  ∃b,KT H kvs b/\h.DictOfH (ce (jB P w)) a b:=by
 obtain⟨z,y,b,r,o,d,c,f,g,i,j,k⟩:=(show jG P w H h a (.dT kvs)from Eo ok e);refine⟨z,y,b,r,o,d,c,f,g,i,j,λx hx=>?_,k⟩
 have all:∀{l:List (List mO×V)}{m:List (List mO×Addr×Value)},KT H l m->∀x∈m,(ce (jB P w)).is h x.1 x.2.1:=by
  intro l m q
  induction q with
  |nil=>intro x hx;exact nomatch hx
  |@cons p q ps qs hq t ih=>
   intro x hx;rcases aR.mp hx with e | hx
   ·subst e;exact DU ok (by rw[<- hq.1];exact hq.2.1)
   ·exact ih x hx
 exact all r x hx
def Kd{kvs:List (List mO×V)}(ok:sO P w H h)(e:H a=some (.dT kvs)):kvs.length<=bF/\(a==j3)=false /\
  ∃b,KT H kvs b/\h.DictOfH (ce (jB P w)) a b:=QS ok (.inl e)
end
def J5(H:Hp)(a:Addr)(y:V)(r:Option V):Prop:=
 (∃kvs k,Rd H a (.dK kvs)/\y=kV k/\r=wK kvs k)\/∃kvs k b,Rd H a (.dT kvs)/\y=.ref b/\H b=some (.tup (k.map kV))/\r=wK kvs k
def ZO(H:Hp)(a:Addr)(y v:V)(c:Hp):Prop:=
 (∃kvs k,H a=some (.dK kvs)/\y=kV k/\kvs.length<bF/\c=fG H a (.dK (zO kvs k v))) \/
 ∃kvs k b,H a=some (.dT kvs)/\y=.ref b/\H b=some (.tup (k.map kV))/\kvs.length<bF/\c=fG H a (.dT (zO kvs k v))
theorem J5.k{a:Addr}{k}(e:H a=some (.dK kvs)):J5 H a (kV k) (wK kvs k):=.inl ⟨kvs,k,.inl e,kA,kA⟩
theorem ZO.k{a:Addr}{kvs:List (mO×V)}{k}(e:H a=some (.dK kvs))(b:kvs.length<bF):ZO H a (kV k) v (fG H a (.dK (zO kvs k v))):=.inl ⟨kvs,k,e,kA,b,kA⟩
section
variable{X:Cx}{d:List (Addr×Obj)}{f:St}{H:Hp}{s:Shared}{a:Addr}{y v:V}{u r:Value}{o:Option V}{A:d8}{E:Value->Shared->Prop}
def dJ.big(I:dJ X d f H s):j3<s.heap.objs.size:=by
 have h:gQ<s.heap.objs.size:=(I.mod.glob.keeps I.bk).lt;exact uM gV h
def TM{Q:Value->Shared->Prop}(F:A.units+1<x0)(I:dJ X d f H s)(g:J5 H a y (some v))(t:fS y u)(h:∀j x,dJ X d f H x->fS v j->Q j x) :
  wpAny (model X.prog X.w) A (v7 (.ref a) u) Q E s:=by
 rcases g with⟨kvs,k,e,n,l⟩ | ⟨kvs,k,b,e,n,B,l⟩
 ·subst n;obtain⟨z,hd,vs,c,m⟩:=MD I.hok e;obtain⟨j,hw,i⟩:=vT.some_of (v:=v) (o:=bo vs k) (by rw[l];exact c.val k);exact wpAny_getItem_of (QB t) m.mapOf hw (h j _ (I.tok _) i)
 ·subst n;cases (show u=d5 b from t);obtain⟨z,hd,G,c,m⟩:=QS I.hok e;obtain⟨j,hw,i⟩:=vT.some_of (v:=v) (o:=(dm G k).map (·.2)) (by rw[l];exact c.val k);obtain⟨p,C,q⟩:=bZ.mp hw;refine wpAny_getItem_heap (az F) (DU I.hok B) m C ?_;rw[q];exact h j _ (I.tok _) i
def Wy{Q:Value->Shared->Prop}(t:A.units+1<x0)(I:dJ X d f H s)(g:J5 H a y o)(m:fS y u)(h:∀n,dJ X d f H n->Q (.bool (!o.isSome)) n) :
  wpAny (model X.prog X.w) A (c8 .NotIn u (.ref a)) Q E s:=by
 rcases g with⟨kvs,k,e,j,l⟩ | ⟨kvs,k,b,e,j,p,l⟩
 ·subst j;obtain⟨z,hd,vs,c,i⟩:=MD I.hok e;refine wpAny_notIn_of (QB m) hd i.mapOf ?_;rw[<- (c.val k).isSome_eq,<- l];exact h _ (I.tok _)
 ·subst j;cases (show u=d5 b from m);obtain⟨z,hd,x,c,i⟩:=QS I.hok e;refine wpAny_notIn_heap (az t) (DU I.hok p) hd i ?_;have q:=(c.val k).isSome_eq;rw[UA]at q;rw[<- q,<- l];exact h _ (I.tok _)
def QZ{c:Heap}{k:Nat}(I:dJ X d f H s)(j:xl (H a))(i:fV a s.heap c)(h:∃q,c.get? a=some q)(new:jG X.prog X.w (fG H a ob) c a ob) :
  dJ X d f (fG H a ob) { s with heap:=c,toks:=k }:=
 I.write (x:=a) (e:=a) j (.inl kA) (λb q g z=>(i.2 b g).trans z) h new
def Sw{c:Heap}{kvs:List (mO×V)}(z:kvs.length<=bF)(hd:(a==j3)=false)(b:KV kvs vs)(e:c.DictOf (jB P w) a vs) :
  jG P w H' c a (.dK kvs):=⟨z,hd,vs,b,e⟩
def TK{Q:Unit->Shared->Prop}(W:A.units+1<x0)(I:dJ X d f H s)(g:ZO H a y v H')(L:fS y u)(K:fS v r)(h:∀M,dJ X d f H' M->Q () M) :
  wpAny (model X.prog X.w) A (setItem (.ref a) u r) Q E s:=by
 rcases g with⟨kvs,k,e,t,l,p⟩ | ⟨kvs,k,b,e,t,F,l,p⟩
 ·subst t p;obtain⟨z,hd,vs,i,n⟩:=ME I.hok e;have C:vs.length<=bF:=by rw[<- i.length];exact z
  have x:(zO kvs k v).length<=bF:=by have:=A1 kvs k v;lia
  refine wpAny_setItem_pairs (hsz:=C) (QB L) n λJ j B=>h _ ?_;have U:∃q,J.get? a=some q:=let ⟨q,_,_,m,_⟩:=j;⟨q,m⟩
  exact QZ I (by rw[e];exact e9) B U (Sw x hd (i.put k K) j)
 ·subst t p;cases (show u=d5 b from L);obtain⟨z,hd,Y,i,n⟩:=Kd I.hok e;have C:Y.length<=bF:=by rw[<- x6 i];exact z
  have x:(zO kvs k v).length<=bF:=by have:=A1 kvs k v;lia
  refine wpAny_setItem_heap (hsz:=C) (az W) (DU I.hok F) n λJ j B=>h _ ?_;obtain⟨q,O,N,m,P,R,S,_,T⟩:=j;refine QZ I (by rw[e];exact e9) B ⟨q,m⟩ ⟨x,hd,_,(i.put k F K).keeps λc Z G=>?_,q,O,N,m,P,R,S,T⟩;rw[cC (Jx G e (λz=>nomatch z))];exact G
end
section
variable{X:Cx}{b:List (Addr×Obj)}{c:St}{H:Hp}{s:Shared}{a:Addr}{kvs:List (mO×V)}{A:d8}{E:Value->Shared->Prop}
def Kc{Q:Value->Shared->Prop}(I:dJ X b c H s)(e:Rd H a (.dK kvs))(h:∀t f,dJ X b c H f->Q (.int kvs.length t) f):wpAny (model X.prog X.w) A (call (.builtin "len") [.ref a]) Q E s:=by
 obtain⟨z,hd,vs,d,g⟩:=MD I.hok e;refine call_len_dict hd g (by rw[<- d.length];rw[ck]at z;lia) ?_;rw[<- d.length];exact h _ _ (I.tok _)
end
def zi(i:Expr):Prop:=∀b a,cm i false b a=operate [b,a] (v7 b a)
def Yx{E:Value->Shared->Prop}{id}{Q:Value->Shared->Prop}
  (j:typeLookup (.type T) "__getitem__"=pure (some (.builtin id))) (k:zi slice)
  (h:wpAny (model prog w) A (eval value env) (λo c=>wpAny (model prog w) A (eval slice env) (λi a=>a.TypeIs o T/\wpAny (model prog w) A (v7 o i) Q E a) E c) E s) :
  wpAny (model prog w) A (eval (.Subscript value slice pos) env) Q E s:=by
 refine gl (hU h (λo c e=>hU e (λi a b=>?_) λ_ _ x=>x) λ_ _ x=>x);obtain⟨g,b⟩:=b;unfold eg;refine aK ?_;rw[getitemInPython_of_ne g.not_modules];refine aK (wpAny_specialOf g j ?_)
 have fin:wpAny (model prog w) A (cm slice false o i) (λr d=>wpAny (model prog w) A (letTemporaryGo value o r >>= λ_=>pure r) Q E d) E a:=by
  rw[k o i];exact wpAny_operating (hU b (λr d f=>aK (wpAny_letTemporaryGo (bC f))) λ_ _ x=>x)
 first
  |exact bC (aK fin)
  |exact aK (bC (aK fin))
  |exact aK fin
def MF{s:Shared}{a:Addr}(I:dJ X pins σ H s)(g:J5 H a y o):s.TypeIs (.ref a) "dict":=by
 rcases g with⟨kvs,k,e,_,_⟩ | ⟨kvs,k,b,e,_,_,_⟩
 ·obtain⟨_,_,vs,_,c⟩:=MD I.hok e;exact c.typeIs
 ·obtain⟨_,_,d,_,c⟩:=QS I.hok e;exact c.typeIs
def Rq(e ty:TE):TE:=λc H Q=>e c H λx d=>ty c d λy b=>∃a v,x=.ref a/\J5 b a y (some v)/\Q v b
def Z9(ty e:TE):TE:=λc H Q=>ty c H λy d=>e c d λx b=>∃a o,x=.ref a/\J5 b a y o/\Q (.bl (!o.isSome)) b
def Lv(f ty tv:TE):TS:=λD b H=>tv b H λv d=>f b d λx e=>ty b e λy H3=>∃a c,x=.ref a/\ZO H3 a y v c/\D.nx b c
section
variable{X:Cx}{o i b:Expr}{pos c:Pos}{d ty tv:TE}
def Xn(w:X.A.units+1<x0)(r:PE X o d)(q:PE X i ty)(t:zi i):PE X (.Subscript o i pos) (Rq d ty):=by
 intro e s k H Q I h;refine Yx PySem.F.slot_dict_getitem.lookup t (iW (r e s k H _ I h) λu E ⟨x,l,n,B,q1⟩=>iW (q e E k l _ n q1) λJ K G=>?_);obtain⟨y,m,j,C,a,v,ex,g,z⟩:=G;subst ex;obtain rfl:u=d5 a:=B;exact⟨MF j g,TM w j g C λL s3 p f=>⟨v,m,p,f,z⟩⟩
def R6(r:X.A.units+1<x0)(p:PE X i ty)(q:PE X o d):PC X .NotIn i o (Z9 ty d):=by
 intro e s f H Q I h;refine iW (p e s f H _ I h) λE B ⟨y,j,l,z,q1⟩=>iW (q e B f j _ l q1) λu F C=>?_;obtain⟨x,k,m,w,a,t,ex,g,v⟩:=C;subst ex;obtain rfl:u=d5 a:=w;exact Wy r m g z λs3 n=>⟨.bl (!t.isSome),k,n,kA,v⟩
def Xw(B:X.A.units+1<x0)(w:PE X o d)(t:PE X i ty)(C:PE X b tv)(z:mF b (some (.Subscript o i c)) pos.line X.env=pure false) :
  PS X (.Assign [.Subscript o i c] b pos) (Lv d ty tv):=by
 intro e s f H D I h;refine wpAny_Assign_Subscript (iW (C e s f H _ I h) λr L ⟨v,j,m,G,q1⟩=>iW (w e L f j _ m q1) λu M ⟨x,k,n,J,E⟩=>iW (t e M f k _ n E) λO s3 N=>?_) z;obtain⟨y,H3,p,K,a,l,ex,g,F⟩:=N;subst ex;obtain rfl:u=d5 a:=J;exact TK B p g K G λP q=>⟨f,l,q,F⟩
end
def Y2(h:Heap)(a:j3<h.objs.size):jG P w H (h.push { cls:=.type "dict",data:=.dict #[] }) h.objs.size (.dK []):=
 ⟨cJ _,beq_eq_false_iff_ne.mpr (k6 (dD a)),[],.nil,Heap.DictOf.new h⟩
def VD:TE:=λ_ H Q=>∀p,H p=none->Q (.ref p) (fG H p (.dK []))
section
variable{X:Cx}{pos:Pos}
def WI:PE X (.Dict [] [] pos) VD:=λb s c H Q I h=>
 wpAny_Dict_empty ⟨.ref s.heap.objs.size,_,I.laid (a:=s.heap.objs.size) (o:=.dK []) (t':=s.toks) (λ_ _ q=>aE _ q) (aN _) (Y2 s.heap I.big),kA,h _ (I.hok.fresh (aN _))⟩
end
open PyProof
def TJ{A:d8}(hh:A.handled=none)(it l:Addr)(bn:l≠it)(items:Array Value) :
  Draws prog w A it [it,l] items.size (λi v=>items[i]?=some v) (λi h=>h.IsTupleIter it l i/\h.IsTuple l items) where
 live:=λ_ _ st=>let ⟨o,ho,_⟩:=st.1;⟨o,ho⟩
 frame:=λ_ _ _ st hk=>⟨st.1.at λo e=>hk it hH o e,st.2.at λo e=>hk l hH o e⟩
 item:=λi s Q E hi st hQ=>by
  refine DL st.1 st.2 (x:=items[i]) (by simp[hi]) λh' kq mx=>?_;exact hQ _ h' s.toks (by simp[hi]) ⟨kq,st.2.at λo e=>mx.extBut _ _ bn e⟩ mx
 done:=λs Q E st hE=>pH hh st.1 st.2 hH hE
def OM{A:d8}(hh:A.handled=none)(it l:Addr){items:Array Value}{n:Nat}(hn:items.size<=n) :
  Draws prog w A it [it,l] n (λ_ _=>True) (λi h=>h.IsTupleIter it l i/\h.IsTuple l items/\i=n) where
 live:=λ_ _ st=>let ⟨o,ho,_⟩:=st.1;⟨o,ho⟩
 frame:=λ_ _ _ st hk=>⟨st.1.at λo e=>hk it hH o e,st.2.1.at λo e=>hk l hH o e,st.2.2⟩
 item:=λi s Q E hi st hQ=>b9 st.2.2 hG
 done:=λs Q E st hE=>pH hh st.1 st.2.1 (kY hn) hE
def EF(l:Addr)(a:Array Value) :
  ig (t7.«enumerate.__new__» ⟨[.type "enumerate",.ref l],[]⟩) (λ_ R s=>s.heap.IsTuple l a /\
   R (.ok (.ret (.ref (s.heap.push { cls:=.type "tuple_iterator",data:=.fields #[.ref l,.int 0 0] }).objs.size)))
    { s with heap:=(s.heap.push { cls:=.type "tuple_iterator",data:=.fields #[.ref l,.int 0 0] }).push { cls:=.type "enumerate",data:=.fields #[.none,.bool false,.ref s.heap.objs.size,u5 0,.none,.none] } }):=
 .of_wp λprog w A R s h=>by
  obtain⟨i,g,d,j,os⟩:=s;obtain⟨f,h⟩:=h;have e:=sub_enumerate;have b:BC (u3 ⟨i,g,d,j,os⟩) l a:=f
  wp_walk
  refine wpAny_stack_any λst=>bC ?_;split
  ·rename_i c _ _ _ _ _;cases (c==bf "enumerate")
   ·wp_walk using j8 b
    exact⟨_,kA,h⟩
   ·wp_walk using j8 b
    exact⟨_,kA,h⟩
  ·wp_walk using j8 b
   exact⟨_,kA,h⟩
section
variable{P:cK}{w:e6}{A:d8}{E:Value->Shared->Prop}{s:Shared}
def BJ{l:Addr}{Q:Value->Shared->Prop}(e:s.heap.IsTuple l items)
  (h:∀a,di a (s.heap.objs.size+1) s.heap.objs.size 0 .none->a.IsTupleIter s.heap.objs.size l 0->a.objs.size=s.heap.objs.size+2 ->
   (∀b o,s.heap.get? b=some o->a.get? b=some o)->Q (.ref (s.heap.objs.size+1)) { s with heap:=a }) :
  wpAny (model P w) A (call (.type "enumerate") [.ref l]) Q E s:=by
 refine bg fx gV (dz _) (ev _) (λobj=>fb obj _) eu
  (EF l items) ⟨e,?_⟩
 have c:(s.heap.push { cls:=.type "tuple_iterator",data:=.fields #[.ref l,.int 0 0] }).objs.size=s.heap.objs.size+1:=dX ..;show _/\_;rw[c]
 have d:di ((s.heap.push { cls:=.type "tuple_iterator",data:=.fields #[.ref l,.int 0 0] }).push
   { cls:=.type "enumerate",data:=.fields #[.none,.bool false,.ref s.heap.objs.size,u5 0,.none,.none] }) (s.heap.objs.size+1) s.heap.objs.size 0 .none:=by
  have:=aY (s.heap.push { cls:=.type "tuple_iterator",data:=.fields #[.ref l,.int 0 0] })
   (o:={ cls:=.type "enumerate",data:=.fields #[.none,.bool false,.ref s.heap.objs.size,u5 0,.none,.none] }) kA
  rw[c]at this;exact this
 exact⟨⟨_,d,kA⟩,h _ d ⟨_,aE _ (aY _ kA),kA,kA⟩ (by rw[dX,c]) λb o x=>aE _ (aE _ x)⟩
end
noncomputable def Az(K:aI)(a:Addr):It:=
 ⟨λi H=>∃b x,oR K H a b/\b[i]?=some x,
  λi H v c=>∃p x,H p=none/\v=.ref p/\c=fG H p (.tup [.int (i:Int),x])/\∀b,oR K H a b->b[i]?=some x,
  λi H=>∃b,oR K H a b/\b.length<=i⟩
def NE{K}{x1:Nat}{e it l:Addr}(ik:e≠it) :
  J0 P w K (.Tuple r8 x1 pos) (Az K l) [e,it] e (λi h=>(∃old,di h e it (i:Int) old)/\h.IsTupleIter it l i) where
 mem:=by simp
 obj:=λi h st b hb=>by
  obtain⟨⟨old,he⟩,cj⟩:=st;simp only[aR,cX,g8]at hb;rcases hb with rfl | rfl
  ·exact⟨_,he,λv q=>by cases q⟩
  ·obtain⟨o,e,c,d⟩:=cj;exact⟨o,e,λv z=>by rw[d]at z;cases z⟩
 keep:=λi h h' st k=>by
  obtain⟨⟨old,he⟩,cj⟩:=st;exact⟨⟨old,k e hH _ he⟩,cj.at λo x=>k it hH o x⟩
 item:=by
  intro X hP hw hK hc i pins s σ H E I hf st hg;subst hP hw hK;obtain⟨⟨old,he⟩,cj⟩:=st;obtain⟨xs,x,hq,hx⟩:=hg;obtain⟨w5,rv,p,hz⟩:=I.tuple hq;obtain⟨u,hu,ru⟩:=rv.get hx
  have ju:l≠it:=λz=>by
   subst z;obtain⟨o1,e1,c1,_⟩:=cj;obtain⟨o2,e2,c2,_⟩:=(show s.heap.IsTuple l w5.toArray from p);rw[e1]at e2;cases e2;rw[c1]at c2;simp at c2
  have gp:e≠l:=λz=>by
   subst z;obtain⟨o2,e2,c2,_⟩:=(show s.heap.IsTuple e w5.toArray from p);have mo:=he;unfold di at mo;rw[mo]at e2;cases e2;simp at c2
  have hsz:=(aG.mp hu).1;refine wpAny_pyNext_enum_itemD (TJ (A:=X.A.in1) (I.ok.hd hc) it l ju w5.toArray) he ⟨cj,p⟩ (by rw[bA];exact hsz) ik (by simp only[aR,cX,g8,fu];exact⟨ik,gp⟩) λu' h' tk sv a1 nw a3 a4 a5=>⟨_,kA,?_⟩
  obtain rfl:u'=u:=by
   have mz:w5[i]?=some u':=by simpa using sv
   rw[hu]at mz;exact(c5 mz).symm
  have a2:=nw.1;refine dv (s:={ s with heap:=h',toks:=tk+1 }) a1 λh2 b1 sb=>?_;have fg:e<s.heap.objs.size:=bG he
  have kk:∀c o,c∉[e,it]->s.heap.get? c=some o->h2.get? c=some o:=λc o u4 x=>by
   simp only[aR,cX,g8,fu]at u4;exact sb.extBut _ _ u4.1 (a5 c o u4.1 u4.2 x)
  have hT:=sb.extBut _ _ (jJ fg) a3;have I1:dJ X pins σ (fG H s.heap.objs.size (.tup [.int (i:Int),x])) { s with heap:=h2,toks:=tk+1 }:=I.turnedNew (t':=tk+1) hf kk (aN _) ⟨(by show 2<=bF;decide),[.int i tk,u'],.cons ⟨_,kA⟩ (.cons ru .nil),⟨_,hT,kA,_,kA,kA⟩⟩;refine⟨.ref s.heap.objs.size,_,I1,kA,⟨_,x,I.hok.fresh (aN _),kA,kA,λys hy=>by rw[I.tuple_inj hy hq];exact hx⟩,?_,λc u4=>?_⟩
  ·exact⟨⟨_,by rw[gS];exact b1⟩,a2.at λo x=>sb.extBut _ _ (k6 ik) x⟩
  ·have bn:c≠s.heap.objs.size:=by
    simp only[aR,cX,g8]at u4;rcases u4 with rfl | rfl
    ·exact dD fg
    ·obtain⟨o,z,_⟩:=cj;exact dD (bG z)
   rw[cC bn];exact(hf c u4).1
 done:=by
  intro X hP hw hK hc i pins s σ H E I hf st hg;subst hP hw hK;obtain⟨⟨old,he⟩,cj⟩:=st;obtain⟨xs,hq,hx⟩:=hg;obtain⟨w5,rv,p,hz⟩:=I.tuple hq;have hl:=rv.length;refine wpAny_pyNext_enum_endD (OM (A:=X.A.in1) (I.ok.hd hc) it l (items:=w5.toArray) (n:=i) (by rw[bA];lia)) he ⟨cj,p,kA⟩ λh' eb=>⟨kA,I.turnedL (t':=s.toks) hf λc o u4 x=>?_⟩;simp only[aR,cX,g8,fu]at u4;exact eb c o u4.2 x
 self:=λA i s Q E st h=>by
  obtain⟨⟨old,he⟩,_⟩:=st;exact v8 he h
def QJ(K:aI)(b:TA):TI:=λd H R=>b d H λvs a=>∃l c,vs=[.ref l]/\oR K a l c/\R (Az K l) a
section
variable{X:Cx}
def WA{C:Nat}(o:Gl X "enumerate")(t:X.mg "enumerate"=none)(n:PA X [a] ta)(v:autoParam (bY [a] X.env=[(false,eval a X.env)]) zzz._auto_1) :
  PI X (.Tuple r8 C tpos) (.Call (.Name "enumerate" p) [a] [] pos) (QJ X.K ta):=by
 intro d s F H R I h;refine Call_ (rX I o t uE (f8 (iW (n pos d s F H _ I h) λG b E=>?_) (by rw[v];rfl) (by rfl)));obtain⟨vs,k,f,y,q1⟩:=E;obtain⟨l,J,rfl,u,q⟩:=q1
 cases y with
 |cons r z=>
  cases z;cases r;obtain⟨B,A,p1,x⟩:=f.tuple u;refine BJ p1 λm j g w hk=>v8 (s:={ b with heap:=m }) j ?_;refine⟨_,[b.heap.objs.size+1,b.heap.objs.size],_,_,k,kA,f.kept (t':=b.toks) hk,NE (e:=b.heap.objs.size+1) (it:=b.heap.objs.size) (l:=l) (aDn _),⟨⟨_,j⟩,g⟩,λc i=>?_,q⟩;simp only[aR,cX,g8]at i;have le:b.heap.objs.size<=c:=by rcases i with rfl | rfl<;>first | exact aN _ | exact oY _ _
  exact f.fpOk le (f.hok.fresh le)
end
end L2
namespace TL
open L2
def Wn(t:AT):IT:=λc Q=>t c λb=>∃a,b=[.tuple a]/\Q (wC a)
section
variable{X:Cx}{a e:Expr}{b:ET}
def X5{j:Nat}(s:vW X [a] t)(C:∀{b},PA X [a] b->PI X (.Tuple r8 j tpos) (.Call (.Name "enumerate" p) [a] [] p') (QJ X.K b)):MZ X (.Tuple r8 j tpos) (.Call (.Name "enumerate" p) [a] [] p') (Wn t):=by
 obtain⟨O,w,F⟩:=s;refine⟨_,C w,λB v H z f J Q R o h k=>F B v H z f J _ _ o h λN P l G d q1=>?_⟩;obtain⟨M,rfl,q⟩:=q1
 cases d with
 |cons d E=>
  cases E
  cases d with
  |@tuple p1 us _ ak rs1=>
   have n1:=rs1.length;refine⟨p1,us,kA,bB.seqT bW ak,k _ _ l G ⟨λi H e c=>?_,λi H e c=>?_,λi H A y L live e c u=>?_⟩ q⟩
   ·rw[lW]at c;exact⟨us,bB.seqT e ak,hG⟩
   ·rw[lW]at c;exact⟨us,us[i],bB.seqT e ak,aD hG⟩
   ·obtain⟨p,x,g,rfl,rfl,r⟩:=u;obtain⟨m,n,I⟩:=rs1.get' (r us (bB.seqT (e.trans bW) ak));exact⟨dM g,.tuple [.int (i:Int),m],qW n,oG live g (.cons (.int _) (.cons (I.same e) .nil))⟩
end
noncomputable def iU(s:Stmt)(j:Nat):Stmt:=match s with
|.ClassDef _ _ _ b _ _ _ _ _ _ _=>b.getD j (.Pass ⟨0,0,0,0⟩)
|_=>.Pass ⟨0,0,0,0⟩
noncomputable def S5(C:Addr)(ns:List Str)(a:List D):D:=.dict [(.str "obj",.tuple [.int (C:Nat),.list (ns.map aL),.list a])]
theorem K2:∀{b c:List Str},b.map aL=c.map aL->b=c
|[],[],_=>rfl
|[],_::_,h=>by cases h
|_::_,[],h=>by cases h
|x::b,y::c,h=>by
 rw[bI,bI]at h;injection h with a d
 injection a with a
 rw[a,K2 d]
def PK{K}{H:Hp}{C:Addr}(r:gO K H (S5 C ns ds) v):∃(p dx:Addr)(fs:List (Str×V)),v=.ref p/\H p=some (.ins C dx fs)/\fs.map (·.1)=ns/\Reps K H ds (fs.map (·.2)):=by
 unfold S5 at r
 generalize a:(M1 [(.str "obj",.tuple [.int (C:Nat),.list (ns.map aL),.list ds])])=d at r
 cases r with
 |@ins p C' dx fs ds' h1 h2=>
  injection a with a
  injection a with a _
  injection a with _ a
  injection a with a
  injection a with b a
  injection a with c a
  injection a with e _
  injection b with b
  injection c with c
  injection e with e
  obtain rfl:C=C':=E6.inj b;subst e;exact⟨p,dx,fs,kA,h1,(K2 c).symm,h2⟩
 |@dct p es ep kvs h1 h2 h3 h4=>
  injection a with a
  injection a with a _
  injection a with a _
  injection a with a
  exact b9 a eH
 |addr z=>
  injection a with a
  injection a with a _
  injection a with a _
  injection a with a
  exact b9 a eH
 |_=>cases a
theorem DP{K}:∀{fs:List (Str×V)}{ds},Reps K H ds (fs.map (·.2))->((fs.map (·.1)).zip ds).lookup f=some x->∃v,fs.lookup f=some v/\gO K H x v
|[],_,_,h=>by cases h
| (g,u)::fs,ds,r,h=>by
 cases r with
 |@cons t ts _ _ r1 r2=>
  show∃v,(match f==g with | true=>some u | false=>fs.lookup f)=some v/\_;have a:(match f==g with | true=>some t | false=>((fs.map (·.1)).zip ts).lookup f)=some x:=h
  cases b:f==g with
  |true=>
   rw[b]at a;cases a;exact⟨u,kA,r1⟩
  |false=>
   rw[b]at a;exact DP r2 a
theorem tW:∀{fs:List (Str×V)},f∉fs.map (·.1)->fs.lookup f=none
|[],_=>rfl
| (g,u)::fs,h=>by
 have a:(f==g)=false:=beq_eq_false_iff_ne.mpr λz=>h (by rw[z];exact aO ..);show(match f==g with | true=>some u | false=>fs.lookup f)=none;rw[a];exact tW λz=>h (aJ _ z)
section
variable{X:Cx}{o e:Expr}{b:ET}{pos:Pos}
def Gk(K:aI)(f:Str)(b:ET):ET:=λc Q=>b c λd=>∃(C:Addr)(ns:List Str)(a:List D)(x:D),d=S5 C ns a/\A9 K C/\fY K C f/\(ns.zip a).lookup f=some x/\Q x
def wX{K}(m:X.K=K)(t:gR X e b)(n:autoParam (g4 e f X.env (eval e X.env)=eval e X.env) zzz._auto_1):gR X (.Attribute e f pos) (Gk K f b):=by
 subst m;obtain⟨v,p,r⟩:=t;refine⟨_,NV p n,λB A H E g I Q J o h k=>r B A H E g I _ _ o h λd x i G F q1=>?_⟩;obtain⟨C,ns,L,y,rfl,s,z,u,q⟩:=q1;obtain⟨a,dx,fs,rfl,j,rfl,l⟩:=PK F;obtain⟨w,hw,c⟩:=DP l u;exact⟨a,C,dx,fs,w,kA,bW _ _ j,s,z,hw,k _ _ i G c q⟩
end
inductive xE(K:aI)(H:Hp):List (Int×D)->List (mO×V)->Prop
|nil:xE K H [] []
|cons {i:Int} {d:D} {v:V} {a:List (Int×D)} {b:List (mO×V)} (r:gO K H d v) (t:xE K H a b):xE K H ((i,d)::a) ((.inl i,v)::b)
noncomputable def FK(kvs:List (Int×D))(i:Int)(d:D):List (Int×D):=if kvs.any (λe=>decide (e.1=i))=true then kvs.map (λe=>if e.1=i then(e.1,d)else e)else kvs++[(i,d)]
noncomputable def JF(kvs:List (Int×D))(i:Int):Option D:=(kvs.find? λe=>decide (e.1=i)).map (·.2)
section
variable{K:aI}{H c:Hp}
theorem xE.same(s:bB H c):∀{a b},xE K H a b->xE K c a b
|_,_,.nil=>.nil
|_,_,.cons r t=>.cons (r.same s) (t.same s)
theorem xE.length:∀{a:List (Int×D)}{b:List (mO×V)},xE K H a b->a.length=b.length
|_,_,.nil=>rfl
|_,_,.cons r t=>e5 (·+1) t.length
theorem xE.vals:∀{a:List (Int×D)}{b:List (mO×V)},xE K H a b->Reps K H (a.map (·.2)) (b.map (·.2))
|_,_,.nil=>.nil
|_,_,.cons r t=>.cons r t.vals
theorem xE.val(i:Int):∀{a b},xE K H a b->(JF a i=none/\wK b (.inl i)=none)\/∃d v,JF a i=some d/\wK b (.inl i)=some v/\gO K H d v
|_,_,.nil=>.inl ⟨kA,kA⟩
| (j,d)::a,(_,v)::b,.cons r t=>by
 unfold JF wK;rw[jS,jS];by_cases e:j=i
 ·subst e;refine .inr ⟨d,v,?_,?_,r⟩<;>simp
 ·have f:¬((t9 j:mO)=.inl i):=λz=>e (ae z);rw[show decide ((j,d).1=i)=false from b7 e,show decide (((t9 j:mO),v).1=.inl i)=false from b7 f];exact t.val i
theorem xE.any(i:Int):∀{a:List (Int×D)}{b:List (mO×V)},xE K H a b->(a.any λe=>decide (e.1=i))=b.any λe=>decide (e.1=.inl i)
|_,_,.nil=>rfl
| (j,d)::a,(_,v)::b,.cons r t=>by
 rw[jL,jL,t.any i];congr 1;show decide (j=i)=decide ((t9 j:mO)=.inl i);rw[dN,c6,c6];exact⟨λz=>by rw[z],λz=>ae z⟩
theorem xE.map(i:Int)(r:gO K H d v):∀{a:List (Int×D)}{b:List (mO×V)},xE K H a b->xE K H (a.map λe=>if e.1=i then(e.1,d)else e) (b.map λe=>if e.1=.inl i then(e.1,v)else e)
|_,_,.nil=>.nil
| (j,x)::a,(_,y)::b,.cons r0 t=>by
 rw[bI,bI];by_cases e:j=i
 ·subst e;rw[a9 kA,a9 rfl];exact .cons r (t.map j r)
 ·rw[a8 e,a8 λz:(t9 j:mO)=.inl i=>e (ae z)];exact .cons r0 (t.map i r)
theorem xE.snoc{i:Int}(r:gO K H d v):∀{a b},xE K H a b->xE K H (a++[(i,d)]) (b++[(.inl i,v)])
|_,_,.nil=>.cons r .nil
|_,_,.cons r0 t=>.cons r0 (t.snoc r)
def xE.put{i:Int}(r:gO K H d v)(h:xE K H a b):xE K H (FK a i d) (zO b (.inl i) v):=by
 unfold FK zO;rw[h.any i];split
 ·exact h.map i r
 ·exact h.snoc r
end
structure Bk where
 p:Addr
 q:Addr
 dx:Addr
 fm:D
 dp:Int
 ls:Int
structure O1 where
 kvs:List (Int×D)
 fol:Int
 st:D
noncomputable def pJ(T:Bk):D:=.dict [(.str "@",.list [.int (T.p:Nat),.int (T.q:Nat),.int (T.dx:Nat),T.fm,.int T.dp,.int T.ls])]
def kU(h:pJ S=pJ T):S=T:=by
 unfold pJ at h;injection h with h
 injection h with h _
 injection h with _ h
 injection h with h
 injection h with g h
 injection h with i h
 injection h with j h
 injection h with m h
 injection h with k h
 injection h with l _
 injection g with g
 injection i with i
 injection j with j
 injection k with k
 injection l with l
 obtain⟨a,b,c,d,e,f⟩:=S;obtain⟨n,o,p,q,r,s⟩:=T;simp only[Bk.mk.injEq];exact⟨E6.inj g,E6.inj i,E6.inj j,m,k,l⟩
def NL{K}(T:Bk):gO K H (pJ T) (.ref T.p):=.addr _
def VS{K}{x:Addr}(r:gO K H (.dict [(.str "@",.list (.int (x:Nat)::z))]) v):v=.ref x:=by
 generalize a:(M1 [(.str "@",.list (.int (x:Nat)::z))])=d at r
 cases r with
 |@addr p z=>
  injection a with a
  injection a with a _
  injection a with _ a
  injection a with a
  injection a with a _
  injection a with a
  rw[E6.inj a]
 |dct=>
  injection a with a
  injection a with a _
  injection a with a _
  injection a with a
  exact b9 a eH
 |_=>cases a
def NK{K}{T:Bk}(r:gO K H (pJ T) v):v=.ref T.p:=VS r
noncomputable def JU(T:Bk)(a b:V)(n:O1):List (Str×V):=[("form",a),("deep",.int T.dp),("least",.int T.ls),("numbered",.ref T.q),("following",.int n.fol),("standing",b)]
def JV(C:Addr)(T:Bk)(K:aI)(H:Hp)(a:List Addr)(n:O1):Prop:=T.p≠T.q/\∃(b c:V)(kv:List (mO×V)),H T.p=some (.ins C T.dx (JU T b c n))/\H T.q=some (.dK kv)/\gO K (mask H a) T.fm b/\gO K (mask H a) n.st c/\xE K (mask H a) n.kvs kv
noncomputable def oF(C:Addr):yX where
 I:=Bk
 S:=O1
 ad:=λT=>[T.p,T.q]
 tau:=pJ
 At:=JV C
 to:=λ{T K H H' ps v0 n} h e s=>by
  obtain⟨bn,v1,v6,kv,h1,h2,h3,h4,h5⟩:=h;exact⟨bn,v1,v6,kv,by rw[e T.p hH];exact h1,by rw[e T.q hH];exact h2,h3.same s,h4.same s,h5.same s⟩
 liv:=λ{T K H ps n} h a ha=>by
  obtain⟨bn,v1,v6,kv,h1,h2,_⟩:=h;rcases aR.mp ha with rfl | ha
  ·exact⟨_,h1,kA⟩
  ·rw[bP.mp ha];exact⟨_,h2,kA⟩
 inj:=kU
noncomputable def YM(T:Bk)(n:O1):List (Str×D):=[("form",T.fm),("deep",.int T.dp),("least",.int T.ls),("following",.int n.fol),("standing",n.st)]
def Wg{K}{T:Bk}{n:O1}(g:gO K H T.fm v1)(i:gO K H n.st v6)(h:(YM T n).lookup f=some y):∃v,(JU T v1 v6 n).lookup f=some v/\gO K H y v:=by
 by_cases a:f="form"
 ·subst a;cases h;exact⟨v1,kA,g⟩
 by_cases b:f="deep"
 ·subst b;cases h;exact⟨_,kA,.int _⟩
 by_cases c:f="least"
 ·subst c;cases h;exact⟨_,kA,.int _⟩
 by_cases d:f="following"
 ·subst d;cases h;exact⟨_,kA,.int _⟩
 by_cases e:f="standing"
 ·subst e;cases h;exact⟨_,kA,i⟩
 refine b9 h ?_;unfold YM;rw[dR,beq_eq_false_iff_ne.mpr a,dR,beq_eq_false_iff_ne.mpr b,dR,beq_eq_false_iff_ne.mpr c,dR,beq_eq_false_iff_ne.mpr d,dR,beq_eq_false_iff_ne.mpr e]
 exactλz=>nomatch z
section
variable{X:Cx}{C:Addr}{e i o b:Expr}{l E:ET}{pos m G c:Pos}{f:Str}
def nS{K}{T T':Bk}(o:sE (oF C) K B p0 H ps σT σ T n)(s:bB H H1)(r:gO K (mask H1 ps) (pJ T') v)(h:pJ T'=pJ T) :
  v=.ref T.p/\JV C T K H1 ps n:=by
 cases kU h;exact⟨NK r,(o.grow s).tp⟩
def Ik(C:Addr)(f:Str)(l:ET):EZ (oF C):=λa n g Q=>l g λd=>d=a/\∃(T:Bk)(x:D),a=pJ T/\(YM T n).lookup f=some x/\Q n x
def uB(J:A9 X.K C)(N:fY X.K C f)(L:gR X e l)(I:autoParam (g4 e f X.env (eval e X.env)=eval e X.env) zzz._auto_1):vV (F:=oF C) X (.Attribute e f pos) (Ik C f l):=by
 obtain⟨v,p,r⟩:=L;refine⟨_,NV p I,λB R H S j W T n Q Y o h k=>r B R H S j W _ _ o.ok h λd x t s U q1=>?_⟩;obtain⟨rfl,T',y,P,M,q⟩:=q1;obtain⟨rfl,a⟩:=nS (T':=T) o s U kA;cases kU P;obtain⟨O,v1,v6,kv,u,Z,z,A,h5⟩:=id a;obtain⟨w,hw,g⟩:=Wg z A M;exact⟨_,C,_,_,w,kA,u,J,N,hw,k n y w t (.of s) a g q⟩
def zQ(d:A9 X.K C)(g:fY X.K C "numbered")(p:PE X e v)(a:autoParam (g4 e "numbered" X.env (eval e X.env)=eval e X.env) zzz._auto_1):PE X (.Attribute e "numbered" pos) (Bv X.K v "numbered"):=NV p a
def Iq(C:Addr)(E l:ET):TZ (oF C):=λg n a Q=>E a λy=>∃j:Int,y=.int j/\l a λd=>d=g/\Q n (JF n.kvs j).isNone
def Vj(hu:X.A.units+1<x0)(I:A9 X.K C)(J:fY X.K C "numbered")(Z:gR X i E)(Y:gR X e l)(W:autoParam (g4 e "numbered" X.env (eval e X.env)=eval e X.env) zzz._auto_1)(hm:autoParam (g7 .NotIn (.Attribute e "numbered" c)=false) zzz._auto_1) :
  we (F:=oF C) X (.Compare i [.NotIn] [.Attribute e "numbered" c] pos) (Iq C E l):=by
 obtain⟨v,p,r⟩:=Y;obtain⟨vi,pi,ri⟩:=Z;refine⟨_,Uj (R6 hu pi (zQ (pos:=c) I J p W)) hm,λB L H M g O T n Q QV o h k=>?_⟩;refine ri B L H M g O _ _ o.ok h λy yv P z r1 q1=>?_;obtain⟨j,rfl,q1⟩:=q1;cases r1;refine r B L P M g O _ _ (o.grow z).ok q1 λd x R N r2 q2=>?_;obtain⟨rfl,q⟩:=q2;obtain⟨rfl,a⟩:=nS (T':=T) (o.grow z) N r2 kA;obtain⟨_,_,_,_,u,_⟩:=id a;refine⟨_,C,_,_,_,kA,u,I,J,kA,?_⟩;obtain⟨bn,v1,v6,kv,h1,S,h3,h4,U⟩:=id a;refine⟨T.q,wK kv (.inl j),kA,J5.k (k:=.inl j) S,_,kA,k n _ R ((kM.of z).trans (.of N)) a ?_⟩;rcases U.val j with⟨s,t⟩ | ⟨d,w,s,t,_⟩
 ·rw[s]at q;rw[t];exact q
 ·rw[s]at q;rw[t];exact q
def Im(C:Addr)(l E:ET):EZ (oF C):=λg n a Q=>l a λd=>d=g/\E a λy=>∃(j:Int)(x:D),y=.int j/\JF n.kvs j=some x/\Q n x
def Td(hu:X.A.units+1<x0)(M:A9 X.K C)(N:fY X.K C "numbered")(he:gR X e l)(hi:gR X i E)(hs:autoParam (zi i) zzp._auto_1)(hb:autoParam (g4 e "numbered" X.env (eval e X.env)=eval e X.env) zzz._auto_1) :
  vV (F:=oF C) X (.Subscript (.Attribute e "numbered" c) i pos) (Im C l E):=by
 obtain⟨v,p,r⟩:=he;obtain⟨vi,pi,ri⟩:=hi;refine⟨_,Xn hu (zQ (pos:=c) M N p hb) pi hs,λB O H P t S T n Q QV o h k=>?_⟩;refine r B O H P t S _ _ o.ok h λd x U u r1 q1=>?_;obtain⟨rfl,q1⟩:=q1;obtain⟨rfl,z⟩:=nS (T':=T) o u r1 kA;obtain⟨_,_,_,_,I,_⟩:=id z;refine⟨_,C,_,_,_,kA,I,M,N,kA,?_⟩;refine ri B O U P t S _ _ (o.grow u).ok q1 λy yv W R r2 q2=>?_;obtain⟨j,x,rfl,g,q⟩:=q2;cases r2;have a:=((o.grow u).grow R).tp;obtain⟨bn,v1,v6,kv,h1,Y,h3,h4,Z⟩:=id a;rcases Z.val j with⟨s,L⟩ | ⟨d,w,s,L,J⟩
 ·rw[g]at s;cases s
 ·rw[g]at s;cases s;refine⟨T.q,w,kA,?_,k n x w W ((kM.of u).trans (.of R)) a J q⟩;have:=J5.k (k:=.inl j) Y;rw[L]at this;exact this
def Sr{K}{T:Bk}(a:JV C T K H ps n)(g:T.q∈ps)(h:xE K (mask H ps) kvs kv):JV C T K (fG H T.q (.dK kv)) ps { n with kvs:=kvs }:=by
 obtain⟨d,s,t,r,j,u,k,p,v⟩:=a;refine⟨d,s,t,kv,by rw[cC d];exact j,cD,?_,?_,?_⟩
 ·rw[gZ g];exact k
 ·rw[gZ g];exact p
 ·rw[gZ g];exact h
def R0{p:Addr}(h:p∈as):kM as H (fG H p u):=λa o ne e=>by
 rw[cC (show a≠p fromλz=>ne (by rw[z];exact h))];exact e
def sE.there{F:yX}{K B H p0 ps σT σ T n n'}(o:sE F K B p0 H ps σT σ T n){p:Addr}{u}(a:p∈F.ad T)(t:F.At T K (fG H p u) ps n'):sE F K B p0 (fG H p u) ps σT σ T n':=o.growX (R0 a) t
def Ir(C:Addr)(l E tv:ET):SZ (oF C):=λh g n a=>tv a λx=>l a λd=>d=h/\E a λy=>∃j:Int,y=.int j/\n.kvs.length<=100000/\g.nx { n with kvs:=FK n.kvs j x } a
def VE{tv}(hu:X.A.units+1<x0)(O:A9 X.K C)(P:fY X.K C "numbered")(Y:gR X e l)(Z:gR X i E)(hv:gR X b tv)(hs:autoParam (mF b (some (.Subscript (.Attribute e "numbered" c) i m)) pos.line X.env=pure false) zzz._auto_1)(W:autoParam (g4 e "numbered" X.env (eval e X.env)=eval e X.env) zzz._auto_1) :
  UL (F:=oF C) X (.Assign [.Subscript (.Attribute e "numbered" c) i m] b pos) (Ir C l E tv):=by
 obtain⟨v,p,r⟩:=Y;obtain⟨vi,pi,ri⟩:=Z;obtain⟨vv,pv,rv⟩:=hv;refine⟨_,Xw hu (zQ (pos:=c) O P p W) pi pv hs,λB L H g a u T n DC DV o h f=>?_⟩;refine rv B L H g a u _ _ o.ok h λx xv R s r0 q0=>?_;refine r B L R g a u _ _ (o.grow s).ok q0 λd xd S t r1 q1=>?_;obtain⟨rfl,q1⟩:=q1;obtain⟨rfl,w⟩:=nS (T':=T) (o.grow s) t r1 kA;obtain⟨_,_,_,_,I,_⟩:=id w;refine⟨_,C,_,_,_,kA,I,O,P,kA,?_⟩;refine ri B L S g a u _ _ ((o.grow s).grow t).ok q1 λy yv H2 M r2 q2=>?_;obtain⟨j,rfl,hz,q⟩:=q2;cases r2;have J:=((o.grow s).grow t).grow M;obtain⟨bn,v1,v6,kv,h1,U,h3,h4,N⟩:=id J.tp;have hL:bF=2^24:=rfl;refine⟨T.q,_,kA,ZO.k (k:=.inl j) (v:=xv) U (by rw[<- N.length];lia),?_⟩;have Q:T.q∈g:=o.mem' T.q (by show T.q∈[T.p,T.q];simp);have z:=Sr J.tp Q (N.put (i:=j) (r0.same (bR (t.trans M))));exact f.nx _ g a u _ (J.there (by show T.q∈[T.p,T.q];simp) z) ((bR (s.trans (t.trans M))).trans (by rw[gZ Q];exact L2.bB.refl _)) q
def ZH{K}{T:Bk}{d:O1}(a:T.p≠T.q)(h:H T.q=some (.dK kv))(j:gO K (mask H ps) T.fm v1)(k:gO K (mask H ps) d.st v6)(n:xE K (mask H ps) d.kvs kv)(g:T.p∈ps):JV C T K (fG H T.p (.ins C T.dx (JU T v1 v6 d))) ps d:=
 ⟨a,v1,v6,kv,cD,by rw[cC (k6 a)];exact h,by rw[gZ g];exact j,by rw[gZ g];exact k,by rw[gZ g];exact n⟩
def Sk(C:Addr)(l tv:ET):SZ (oF C):=λh g n a=>l a λd=>d=h/\tv a λx=>∃j:Int,x=.int j/\g.nx { n with fol:=n.fol+j } a
def YP{tv}(S:A9 X.K C)(W:fY X.K C "following")(U:gR X e l)(Y:gR X b tv):UL (F:=oF C) X (.AugAssign (.Attribute e "following" G) .Add b pos) (Sk C l tv):=by
 obtain⟨v,p,r⟩:=U;obtain⟨vv,pv,rv⟩:=Y;refine⟨_,R3 p pv Ul,λB I H k g x T n DC DV o h f=>?_⟩;refine r B I H k g x _ _ o.ok h λd xd M s r1 q1=>?_;obtain⟨rfl,q1⟩:=q1;obtain⟨rfl,t⟩:=nS (T':=T) o s r1 kA;obtain⟨w,J,L,kv,z,O,P,Q,R⟩:=id t;refine⟨_,C,_,_,_,kA,z,S,W,kA,?_⟩;refine rv B I M k g x _ _ (o.grow s).ok q1 λy yv N a r2 q2=>?_;obtain⟨j,rfl,q⟩:=q2;cases r2;have Z:=(o.grow s).grow a;have A:T.p∈k:=o.mem' T.p (by show T.p∈[T.p,T.q];simp);refine⟨_,_,kA,kA,T.dx,JU T J L n,a _ _ z,hI,?_⟩;have u:JV C T X.K (fG N T.p (.ins C T.dx (JU T J L { n with fol:=n.fol+j }))) k { n with fol:=n.fol+j }:=ZH w (a _ _ O) (P.same (bR a)) (Q.same (bR a)) (R.same (bR a)) A;exact f.nx _ k g x _ (Z.there (by show T.p∈[T.p,T.q];simp) u) ((bR (s.trans a)).trans (by rw[gZ A];exact L2.bB.refl _)) q
def Sh(C:Addr)(l:ET)(tv:EZ (oF C)):SZ (oF C):=λg h n a=>tv g n a λn1 x=>l a λd=>d=g/\h.nx { n1 with st:=x } a
def Zb{tv}(P:A9 X.K C)(R:fY X.K C "standing")(Q:gR X e l)(U:vV X b tv)(S:autoParam (mF b (some (.Attribute e "standing" m)) pos.line X.env=pure false) zzz._auto_1):UL (F:=oF C) X (.Assign [.Attribute e "standing" m] b pos) (Sh C l tv):=by
 obtain⟨v,p,r⟩:=Q;obtain⟨vv,pv,Z⟩:=U;refine⟨_,rQ p pv S,λB z H g a w T n DC DV o h f=>?_⟩;refine Z B z H g a w T n _ _ o h λn1 x xv I A t0 W q0=>?_;have u:=o.growX A t0;refine r B z I g a w _ _ u.ok q0 λd xd J j Y q1=>?_;obtain⟨rfl,q⟩:=q1;obtain⟨rfl,k⟩:=nS (T':=T) u j Y kA;obtain⟨t,v1,v6,kv,L,M,N,h4,O⟩:=id k;have y:T.p∈g:=o.mem' T.p (by show T.p∈[T.p,T.q];simp);refine⟨_,C,_,_,kA,L,P,R,hI,?_⟩;have s:JV C T X.K (fG J T.p (.ins C T.dx (JU T v1 xv { n1 with st:=x }))) g { n1 with st:=x }:=ZH t M N (W.same (bR j)) O y;exact f.nx _ g a w _ ((u.grow j).there (by show T.p∈[T.p,T.q];simp) s) ((A.mask o.mem').trans ((bR j).trans (by rw[gZ y];exact L2.bB.refl _))) q
end
end TL
namespace L2
noncomputable instance decD:DecidableEq PyData:=λ_ _=>ba _
mutual
def hk:PyData->Bool
|.none=>true
|.int _=>true
|.str x=>(aL x).canLay0
|.tuple xs=>hkAll xs
|.bool _=>false
|.list _=>false
|.dict _=>false
def hkAll:List PyData->Bool
|[]=>true
|x::xs=>hk x&&hkAll xs
end
open TL
section
variable{X:Cx}{c:List (Addr×Obj)}{f:St}{H d:Hp}{s:Shared}
def dJ.laidM{h:Heap}{t':Nat}(I:dJ X c f H s)(k:∀b u,s.heap.get? b=some u->h.get? b=some u)(g:bB H d)(new:∀a o,d a=some o->H a=none->s.heap.objs.size<=a/\jG X.prog X.w d h a o):dJ X c f d { s with heap:=h,toks:=t' }:=by
 refine I.un ⟨λb ob q _ _ _=>k b ob q,λb ob q _ _ _=>⟨ob.slots,k b ob q⟩,λb ob q n _=>?_,λb ob q _=>⟨ob,k b ob q⟩,λb j q=>g _ _ q,λb o u q=>g _ _ q,λb l q=>⟨#[],by rw[g _ _ q];simp⟩⟩ λa o e=>?_
 ·cases e:d b with
  |none=>rfl
  |some o=>exact b9 (bG q) (J9.mpr (new b o e n).1)
 ·cases q:H a with
  |none=>exact(new a o e q).2
  |some u=>
   have i:=g _ _ q;rw[e]at i;cases i;exact(I.hok a o q).stay (λb v _ z=>k b v z) (λb z=>g _ _ z) (λb j z=>g _ _ z) λb ob v z=>g _ _ z
end
theorem LV{i:Type}{b:Addr}{y:i}:∀{c:List Addr}{f:List i}{j:Nat},c.Nodup->c[j]?=some b->f[j]?=some y->(c.zip f).lookup b=some y
|[],_,j,_,h,_=>by simp at h
|a::c,[],j,_,_,h=>by simp at h
|a::c,z::f,0,_,h1,h2=>by
 simp at h1 h2;subst h1 h2;simp[jW]
|a::c,z::f,j+1,nd,h1,h2=>by
 rw[lG]at nd;have d:c[j]?=some b:=by simpa using h1
 have g:f[j]?=some y:=by simpa using h2
 have ne:(b==a)=false:=beq_eq_false_iff_ne.mpr λe=>nd.1 (e▸aV d);rw[UQ,dR,ne];exact LV nd.2 d g
theorem DQ{f:Type}{b:Addr}{y:f}:∀{c:List Addr}{d:List f},(c.zip d).lookup b=some y->∃j:Nat,c[j]?=some b/\d[j]?=some y
|[],_,h=>by simp[jW]at h
|a::c,[],h=>by simp[jW]at h
|a::c,z::d,h=>by
 rw[UQ,dR]at h
 cases e:(b==a)with
 |true=>
  rw[e]at h;have g:b=a:=ah e;exact⟨0,by simp[g],by simpa using h⟩
 |false=>
  rw[e]at h;obtain⟨j,i,k⟩:=DQ h;exact⟨j+1,by simpa using i,by simpa using k⟩
end L2
namespace TL
open L2
theorem AR{K}:∀{a:List D}{vs:List V},a.length=vs.length->(∀(j:Nat)(d:D)(v:V),a[j]?=some d->vs[j]?=some v->gO K H d v)->Reps K H a vs
|[],[],_,_=>.nil
|[],_::_,h,_=>by simp at h
|_::_,[],h,_=>by simp at h
|d::a,v::vs,h,k=>.cons (k 0 d v kA kA) (AR (by simpa using h) λj b f c e=>k (j+1) b f (by simpa using c) (by simpa using e))
end TL
namespace L2
open TL
noncomputable def FX(v p:Addr):HO:=.ext λh=>h.IsValuesView v p
noncomputable def FY(v p:Addr):HO:=.ext λh=>h.IsItemsView v p
theorem QA{a:Type}:∀{kvs:List (a×V)}{vs:List (a×Value)},KV kvs vs->fQ (kvs.map (·.2)) (vs.map (·.2))
|_,_,.nil=>.nil
|_,_,.cons r t=>.cons r.2 (QA t)
theorem XZ{e:Type}:∀{kvs:List (e×V)}{vs:List (e×Value)}{j:Nat}{k:e}{x},KV kvs vs->vs[j]?=some (k,x)->∃v,kvs[j]?=some (k,v)/\fS v x
|_,_,_,_,_,.nil,h=>by simp at h
| (a,v)::_,(b,y)::_,0,k,x,.cons r t,h=>by
 simp at h;obtain⟨c,d⟩:=h;obtain⟨f,g⟩:=r;dsimp only at f g;subst c d f;exact⟨v,kA,g⟩
|_::_,_::_,j+1,k,x,.cons r t,h=>by
 obtain⟨v,c,d⟩:=XZ (j:=j) t (by simpa using h);exact⟨v,by simpa using c,d⟩
def Yb{k}(h:(jB P w).is k u=true):fS (kV k) u:=by
 rcases jE h with⟨i,t,rfl,rfl⟩ | ⟨x,t,rfl,rfl⟩<;>exact⟨t,kA⟩
section
variable{X:Cx}
def N1:Q9 X "dict.values" (λx c H Q=>c=[]/\∃(p:Addr)(kvs:List (mO×V)),x=.ref p/\H p=some (.dK kvs)/\∀v,H v=none->Q (.ref v) (fG H v (FX v p))):=by
 intro b s m H x c v l Q I g r h;obtain⟨rfl,p,kvs,rfl,d,q⟩:=h;cases g;cases r;obtain⟨z,hd,vs,f,a⟩:=ME I.hok d;refine call_meetsIn FU a.typeIs PySem.F.entry_dict_values (PySem.F.args_dict_values_1 _) (meets_dict_values (jB X.prog X.w) p hd) ⟨⟨vs,a⟩,?_⟩;exact⟨.ref s.heap.objs.size,_,I.laid (t':=s.toks) (o:=FX s.heap.objs.size p) (λ_ _ e=>aE _ e) (aN _) ⟨⟨_,aY _ kA,kA,kA⟩,⟨_,aY _ kA⟩,λi j ⟨o,e,r⟩ k=>⟨o,k _ e,r⟩⟩,kA,q _ (I.hok.fresh (aN _))⟩
def SN:Q9 X "dict.items" (λx c H Q=>c=[]/\∃(p:Addr)(kvs:List (mO×V)),x=.ref p/\H p=some (.dK kvs)/\∀v,H v=none->Q (.ref v) (fG H v (FY v p))):=by
 intro b s m H x c v l Q I g r h;obtain⟨rfl,p,kvs,rfl,d,q⟩:=h;cases g;cases r;obtain⟨z,hd,vs,f,a⟩:=ME I.hok d;refine call_meetsIn HD a.typeIs PySem.F.entry_dict_items (PySem.F.args_dict_items_1 _) (meets_dict_items (jB X.prog X.w) p hd) ⟨⟨vs,a⟩,?_⟩;exact⟨.ref s.heap.objs.size,_,I.laid (t':=s.toks) (o:=FY s.heap.objs.size p) (λ_ _ e=>aE _ e) (aN _) ⟨⟨_,aY _ kA,kA,kA⟩,⟨_,aY _ kA⟩,λi j ⟨o,e,r⟩ k=>⟨o,k _ e,r⟩⟩,kA,q _ (I.hok.fresh (aN _))⟩
def TV:lR X (.builtin "len") (λb H Q=>∃(p:Addr)(kvs:List (mO×V)),b=[.ref p]/\H p=some (.dK kvs)/\Q (.int kvs.length) H):=by
 intro a s i H b g Q I r h;obtain⟨p,kvs,rfl,d,q⟩:=h;obtain⟨u,rfl,e⟩:=nI r;cases e;exact Kc I (.inl d) λt f c=>⟨.int kvs.length,H,c,⟨t,kA⟩,q⟩
def BI(y:X.calm=true):lR X (.type "list") (λm H Q=>∃(v p:Addr)(kvs:List (mO×V)),m=[.ref v]/\H v=some (FX v p)/\H p=some (.dK kvs)/\∀l,H l=none->Q (.ref l) (fG H l (.lst (kvs.map (·.2))))):=by
 intro k s J H m G Q I r h;obtain⟨v,p,kvs,rfl,C,B,q⟩:=h;obtain⟨u,rfl,E⟩:=nI r;cases E;obtain⟨g,_⟩:=I.hok v _ C;obtain⟨z,hd,vs,f,o⟩:=ME I.hok B;obtain⟨ep,n⟩:=o.dictAt;have i:=f.length;refine PySem.W.kdl_call (PySem.W.kdl_values (knd:=jB X.prog X.w) (r:=v) (d:=p) (kvs:=vs) (ep:=ep)) (I.ok.hd y) ⟨g,n⟩ hG λt F b c kp x a=>?_;have A:b.toList=vs.map (·.2):=PySem.W.kdl_vals_eq _ (by rw[fM];exact a.1) λj v e=>a.2 j v (by rw[<- lK];exact e);exact⟨.ref s.heap.objs.size,_,I.laid (t':=F) kp (aN _) (show jG X.prog X.w _ t _ (.lst (kvs.map (·.2)))from⟨by rw[aA];exact z,b.toList,c,by rw[A];exact QA f,by simpa using x⟩),kA,q _ (I.hok.fresh (aN _))⟩
def AE(hc:X.calm=true):lR X (.type "list") (λZ H Q=>∃(v p:Addr)(kvs:List (mO×V)),Z=[.ref v]/\H v=some (FY v p)/\H p=some (.dK kvs) /\
  ∀(f:List Addr)(l:Addr)g,bB H g->H l=none->f.length=kvs.length->(∀(j:Nat)(a:Addr)(e:mO×V),f[j]?=some a->kvs[j]?=some e->H a=none/\g a=some (.tup [kV e.1,e.2]))->g l=some (.lst (f.map V.ref))->Q (.ref l) g):=by
 intro Y s σ H Z us Q I r h;obtain⟨v,p,kvs,rfl,hv,hp,q⟩:=h;obtain⟨u,rfl,rx⟩:=nI r;cases rx;obtain⟨P,_⟩:=I.hok v _ hv;obtain⟨z,hd,vs,L,dd⟩:=ME I.hok hp;obtain⟨ep,da⟩:=dd.dictAt;have hsz:=L.length;refine PySem.W.kdx_call (knd:=jB X.prog X.w) (r:=v) (d:=p) (kvs:=vs) (ep:=ep) (I.ok.hd hc) P da hG λh' tk M c f kk U N B A=>?_;have nd:f.Nodup:=B.rise.imp λh=>dD h
 generalize O:s.heap.objs.size=l at *
 let K:List HO:=kvs.map λe=>HO.tup [kV e.1,e.2]
 let g:Hp:=λb=>if b=l then some (.lst (f.map V.ref))else match(f.zip K).lookup b with | some o=>some o | none=>H b
 have t:∀a,l<=a->H a=none:=λa ha=>I.hok.fresh (by rw[O];exact ha)
 have i:∀(j:Nat)(a:Addr)(e:mO×V),f[j]?=some a->kvs[j]?=some e->g a=some (.tup [kV e.1,e.2]):=λj a e m F=>by
  have na:a≠l:=jJ (B.above a (aV m));show(if a=l then _ else _)=_;rw[a8 na,LV nd m (y:=HO.tup [kV e.1,e.2]) (by show(kvs.map _)[j]?=_;rw[aM,F];rfl)]
 have S:bB H g:=λb o e=>by
  have nb:¬l<=b:=λz=>by rw[t b z]at e;cases e
  show(if b=l then _ else _)=_;rw[a8 (show¬b=l fromλz=>nb (mS z.symm))]
  cases J:(f.zip K).lookup b with
  |none=>exact e
  |some y=>
   obtain⟨j,m,_⟩:=DQ J;exact b9 (iB (B.above b (aV m))) nb
 have C:g l=some (.lst (f.map V.ref)):=a9 kA;refine⟨.ref l,g,I.laidM (t':=tk) kk S λa o e n=>?_,kA,q f l g S (t l (aN _)) hG (λj a e m F=>⟨t a (iB (B.above a (aV m))),i j a e m F⟩) C⟩;have hL:bF=2^24:=rfl;by_cases T:a=l
 ·subst T;rw[C]at e;cases e;refine⟨by rw[O];exact aN _,by rw[aA];lia,M.toList,c,?_,by simpa using U⟩;rw[A];clear A B nd K g t i S C q U N
  induction f with
  |nil=>exact .nil
  |cons x f ih=>exact .cons kA ih
 ·have E:(match(f.zip K).lookup a with | some o=>some o | none=>H a)=some o:=by
   have:=e;show _=_;rw[<- this];exact(a8 T).symm
  cases J:(f.zip K).lookup a with
  |none=>rw[J]at E;rw[n]at E;cases E
  |some y=>
   rw[J]at E;cases E;obtain⟨j,m,F⟩:=DQ J;obtain⟨R,k,x,d1,d2,d3⟩:=B.pairs j a m;obtain⟨y,e1,e2⟩:=XZ L d1;have G:(kvs.map λe=>HO.tup [kV e.1,e.2])[j]?=some o:=F;rw[aM,e1]at G;cases G;exact⟨by rw[O];exact iB (B.above a (aV m)),by show 2<=bF;lia,[R,x],.cons (Yb d2) (.cons e2 .nil),⟨_,d3,kA,_,kA,kA⟩⟩
end
end L2
namespace TL
open L2
section
variable{X:Cx}{C:Addr}{e i:Expr}{z:List Expr}{u:ET}{pos s y c:Pos}
def Ip(C:Addr)(u:ET):EZ (oF C):=λb n a Q=>u a λd=>d=b/\Q n (.int n.kvs.length)
def Te(f:A9 X.K C)(j:fY X.K C "numbered")(G:gR X e u)(E:autoParam (g4 e "numbered" X.env (eval e X.env)=eval e X.env) zzz._auto_1)
  (pc:∀{v},PE X (.Attribute e "numbered" c) v->PE X (.Call g [.Attribute e "numbered" c] [] pos) (wg (λN H Q=>∃(p:Addr)(kvs:List (mO×V)),N=[.ref p]/\H p=some (.dK kvs)/\Q (.int kvs.length) H) (xP v KZ))) :
  vV (F:=oF C) X (.Call g [.Attribute e "numbered" c] [] pos) (Ip C u):=by
 obtain⟨v,p,r⟩:=G;refine⟨_,pc (zQ (pos:=c) f j p E),λB J H L b O T n Q P o h k=>r B J H L b O _ _ o.ok h λd x m l M q1=>?_⟩;obtain⟨rfl,q⟩:=q1;obtain⟨rfl,a⟩:=nS (T':=T) o l M kA;obtain⟨I,U,W,kv,t,w,R,S,A⟩:=id a;refine⟨_,C,_,_,_,kA,t,f,j,kA,T.q,kv,kA,w,?_⟩;rw[<- A.length];exact k n _ _ m (.of l) a (.int _) q
def Si(C:Addr)(u:ET):EZ (oF C):=λb n a Q=>u a λd=>d=b/\Q n (.list (n.kvs.map (·.2)))
def Wd(I:A9 X.K C)(L:fY X.K C "numbered")(R:gR X e u)(P:autoParam (g4 e "numbered" X.env (eval e X.env)=eval e X.env) zzz._auto_1)
  (pc:∀{v:TE},PE X (.Attribute e "numbered" c) v->PE X (.Call g [.Call (.Attribute (.Attribute e "numbered" c) "values" s) [] [] y] [] pos) (wg (λA H Q=>∃(v p:Addr)(kvs:List (mO×V)),A=[.ref v]/\H v=some (FX v p)/\H p=some (.dK kvs)/\∀l,H l=none->Q (.ref l) (fG H l (.lst (kvs.map (·.2)))))
   (xP (zu X.K "dict" (λx A H Q=>A=[]/\∃(p:Addr)(kvs:List (mO×V)),x=.ref p/\H p=some (.dK kvs)/\∀v,H v=none->Q (.ref v) (fG H v (FX v p))) v) KZ))) :
  vV (F:=oF C) X (.Call g [.Call (.Attribute (.Attribute e "numbered" c) "values" s) [] [] y] [] pos) (Si C u):=by
 obtain⟨v,p,r⟩:=R;refine⟨_,pc (zQ (pos:=c) I L p P),λB U H M E Y T n Q Z o h k=>r B U H M E Y _ _ o.ok h λd x G m W q1=>?_⟩;obtain⟨rfl,q⟩:=q1;obtain⟨rfl,b⟩:=nS (T':=T) o m W kA;obtain⟨S,v1,v6,kv,N,f,h3,h4,O⟩:=id b;refine⟨_,C,_,_,_,kA,N,I,L,kA,.inr (.inr (.inl ⟨kA,.inl ⟨kv,f⟩⟩)),kA,T.q,kv,kA,f,λw a=>?_⟩;refine⟨w,T.q,kv,kA,cD,by rw[cC (gM f a)];exact f,λl J=>?_⟩;have t:bB G (fG (fG G w (FX w T.q)) l (.lst (kv.map (·.2)))):=(dM a).trans (dM J);have j:l∉M:=jF (o.grow m).ok.live (bB.free' (dM a) J);exact k n _ _ _ (.of (m.trans t)) (yX.At.grow (F:=oF C) b t) (.list (mK.of (mU j cD)) (O.vals.same (bR t))) q
def Vl(C:Addr)(u:ET):EZ (oF C):=λb n a Q=>u a λd=>d=b/\Q n (.list (n.kvs.map λe=>.tuple [.int e.1,e.2]))
theorem xE.at{K}:∀{a b}{j:Nat}{e:Int×D},xE K H a b->a[j]?=some e->∃v,b[j]?=some (.inl e.1,v)/\gO K H e.2 v
|_,_,_,_,.nil,h=>by simp at h
|_,_,0,_,.cons r t,h=>by simp at h;subst h;exact⟨_,kA,r⟩
|_,_,j+1,_,.cons r t,h=>by
 obtain⟨v,d,f⟩:=t.at (j:=j) (by simpa using h);exact⟨v,by simpa using d,f⟩
def YT(U:A9 X.K C)(Y:fY X.K C "numbered")(he:gR X e u)(hb:autoParam (g4 e "numbered" X.env (eval e X.env)=eval e X.env) zzz._auto_1)
  (pc:∀{v:TE},PE X (.Attribute e "numbered" c) v->PE X (.Call g [.Call (.Attribute (.Attribute e "numbered" c) "items" s) [] [] y] [] pos) (wg (λL H Q=>∃(v p:Addr)(kvs:List (mO×V)),L=[.ref v]/\H v=some (FY v p)/\H p=some (.dK kvs) /\
  ∀(t:List Addr)(l:Addr)f,bB H f->H l=none->t.length=kvs.length->(∀(j:Nat)(a:Addr)(e:mO×V),t[j]?=some a->kvs[j]?=some e->H a=none/\f a=some (.tup [kV e.1,e.2]))->f l=some (.lst (t.map V.ref))->Q (.ref l) f)
   (xP (zu X.K "dict" (λx L H Q=>L=[]/\∃(p:Addr)(kvs:List (mO×V)),x=.ref p/\H p=some (.dK kvs)/\∀v,H v=none->Q (.ref v) (fG H v (FY v p))) v) KZ))) :
  vV (F:=oF C) X (.Call g [.Call (.Attribute (.Attribute e "numbered" c) "items" s) [] [] y] [] pos) (Vl C u):=by
 obtain⟨v,p,r⟩:=he;refine⟨_,pc (zQ (pos:=c) U Y p hb),λB p0 H Z M σ T n Q QV o h k=>r B p0 H Z M σ _ _ o.ok h λd x N G r1 q1=>?_⟩;obtain⟨rfl,q⟩:=q1;obtain⟨rfl,m⟩:=nS (T':=T) o G r1 kA;obtain⟨bn,v1,v6,kv,h1,A,h3,h4,S⟩:=id m;refine⟨_,C,_,_,_,kA,h1,U,Y,kA,.inr (.inr (.inl ⟨kA,.inl ⟨kv,A⟩⟩)),kA,T.q,kv,kA,A,λJ b=>?_⟩;refine⟨J,T.q,kv,kA,cD,by rw[cC (gM A b)];exact A,λt l f sH hl on E hL=>?_⟩;have I:bB N f:=(dM b).trans sH;have live:=(o.grow G).ok.live;have R:∀a,fG N J (FY J T.q) a=none->a∉Z:=λa ha=>jF live (bB.free' (dM b) ha);have W:=S.length;refine k n _ _ _ (.of (G.trans I)) (yX.At.grow (F:=oF C) m I) (.list (mK.of (mU (R l hl) hL)) (AR (by rw[aA,aA];lia) λj d v O P=>?_)) q;rw[aM]at O P;obtain⟨en,k1,rfl⟩:=bZ.mp O;obtain⟨a,a1,rfl⟩:=bZ.mp P;obtain⟨w,g1,g2⟩:=S.at k1;obtain⟨f1,f2⟩:=E j a _ a1 g1;exact .tuple (oR.of (mU (R a f1) f2)) (.cons (.int _) (.cons (g2.same (bR I)) .nil))
def Bz(C:Addr)(g:KO (oF C))(u:ET)(t:AZ (oF C)):EZ (oF C):=λa n b Q=>u b λd=>d=a/\t a n b λn1 f=>g a n1 (a::f) Q
noncomputable def zb:List Str:=["form","deep","least","numbered","following","standing"]
def Q2(h:m∉zb):(JU T v1 v6 n).lookup m=none:=tW h
def yK(M:m∉zb)(L:gR X e u)(J:ZW X (i::z) t)
  (R:∀{v ta},PE X e v->PA X (i::z) ta->PE X (.Call (.Attribute e m s) (i::z) [] pos) (K0 C m (iQ X.K sp) [] E0 v ta)):vV X (.Call (.Attribute e m s) (i::z) [] pos) (Bz C sp u t):=by
 obtain⟨v,S,re⟩:=L;obtain⟨va,P,ra⟩:=J;refine⟨_,R S P,λB j H g a r T n Q F o h k=>re B j H g a r _ _ o.ok h λd x A b Z q1=>?_⟩;obtain⟨rfl,q1⟩:=q1;obtain⟨rfl,f⟩:=nS (T':=T) o b Z kA;obtain⟨_,_,_,_,I,_⟩:=id f;refine⟨_,_,_,kA,I,Q2 M,ra B j A g a r T n _ _ (o.grow b) q1 λO G xs E l q r2 W=>?_⟩;show iQ X.K sp (.ref T.p::(xs++[])) E F E0;rw[dH];exact⟨g,T,O,pJ T::G,Q,((o.grow b).growX l q).ok.live,o.mem',q,.cons (NL T) r2,W,λN d v w s' t' Y U=>k N d v w (((kM.of b).trans l).trans s') t' Y U⟩
def yJ(w:m∉zb)(t:gR X e u)
  (F:∀{v},PE X e v->PE X (.Call (.Attribute e m s) [] [] pos) (K0 C m (iQ X.K sp) [] E0 v KZ)):vV X (.Call (.Attribute e m s) [] [] pos) (Bz C sp u Ca):=by
 obtain⟨v,G,M⟩:=t;refine⟨_,F G,λB E H g f P T n Q q o h k=>M B E H g f P _ _ o.ok h λd x l b L q1=>?_⟩;obtain⟨rfl,q1⟩:=q1;obtain⟨rfl,a⟩:=nS (T':=T) o b L kA;obtain⟨_,_,_,_,r,_⟩:=id a;refine⟨_,_,_,kA,r,Q2 w,?_⟩;show iQ X.K sp (.ref T.p::([]++[])) l q E0;exact⟨g,T,n,[pJ T],Q,(o.grow b).ok.live,o.mem',a,.cons (NL T) .nil,q1,λA d v j N O J I=>k A d v j ((kM.of b).trans N) O J I⟩
def So{F:yX}(u:EZ F):SZ F:=λd b n a=>u d n a λn1 _=>b.nx n1 a
def BZ{u:EZ F}(h:vV X e u)(p:∀{v:TE},PE X e v->PS X (.Expr e pos) (O7 v)):UL X (.Expr e pos) (So u):=by
 obtain⟨v,m,r⟩:=h;refine⟨_,p m,λB l H b a j T n t w o h f=>r B l H b a j T n _ _ o h λn1 d x k g q A q1=>?_⟩;exact f.nx k b a j n1 (o.growX g q) (g.mask o.mem') q1
end
section
variable{X:Cx}{e:Expr}{pos:Pos}
def Sy(i:Nat)(c:ET):ET:=λb Q=>∃a,b[i]?=some (.own a)/\c b λx=>∃(k:Int)(d:D),x=.int k/\L2.atI a k=some d/\Q d
def MA{i:Nat}(t:PE X m (nV i))(r:gR X b tb)(u:autoParam (CL b) zzp._auto_1):gR X (.Subscript m b pos) (Sy i tb):=by
 obtain⟨O,z,E⟩:=r;refine⟨_,sL aW t z u,λB x H A c J Q K o h k=>?_⟩;obtain⟨G,e,h⟩:=h;obtain⟨q,I,l,L,M,N,n,p⟩:=o.own i G e;refine⟨.ref q,l,E B x H A c J _ _ o h λd y f a C q1=>?_⟩;obtain⟨j,g,rfl,s,q1⟩:=q1;cases C;obtain⟨v,w,F⟩:=(p.same (bR a)).atI s;exact .inl ⟨q,I,j,v,kA,kA,mK.of (a _ _ n),w,k g v f a F q1⟩
end
section
variable{K:aI}{B l H:Hp}{g f:List Addr}{c:List Sl}{k:L2.St}
def Ok.less(o:Ok K B g H f c k)(hs:bB l B):Ok K l g H f c k where
 base:=hs.trans o.base
 sub:=o.sub
 live:=o.live
 len:=o.len
 val:=o.val
 own:=λi ts h=>let ⟨p,xs,h1,h2,h3,h4⟩:=o.own i ts h;⟨p,xs,h1,h2,bB.free' hs h3,h4⟩
 dis:=o.dis
 dc:=o.dc.to (λ_ _ _ h=>⟨h,kA⟩) (λ_ _ a _ _=>⟨a,kA⟩) (λ_ _ _ _ a b=>⟨bB.free' hs a,b⟩) (L2.bB.refl _)
def Ok.pokeI(o:Ok K B g H f c k){p C dx:Addr}{fs}(hp:p∈f)(hB:B p=none)(he:H p=some (.ins C dx fs))(hn:∀(j:Nat)(hs:List Int)(kvs:List (D×D)),c[j]?≠some (.dic hs kvs))(hu:autoParam (xy u=false) zzz._auto_1):Ok K B g (fG H p u) f c k where
 base:=λb w e=>by
  rw[cC λz=>by rw[z,hB]at e;cases e];exact o.base b w e
 sub:=o.sub
 live:=λq hq=>by
  by_cases e:q=p
  ·subst e;rw[cD];exact⟨_,kA,hu⟩
  ·rw[cC e];exact o.live q hq
 len:=o.len
 val:=λi d h=>by rw[gZ hp];exact o.val i d h
 own:=λi ts h=>by
  rw[gZ hp];obtain⟨q,xs,h1,h2,h3,h4,h5,h6⟩:=o.own i ts h;exact⟨q,xs,h1,h2,h3,h4,by rw[cC λz=>by rw[z,he]at h5;cases h5];exact h5,h6⟩
 dis:=o.dis
 dc:=λi hs kvs h=>b9 h (hn i hs kvs)
def K5(j:Nat)(a:List Int)(kvs:List (D×D)):(lB N ds)[j]?≠some (.dic a kvs):=λh=>by
 have hm:=aV h;unfold lB at hm;rcases cL.mp hm with hm | hm
 ·obtain⟨_,_,z⟩:=aQ.mp hm;cases z
 ·have z:=(List.mem_replicate.mp hm).2;cases z
end
def Jt(K:aI)(a:TE):TS:=NG (HU K (nV 0) (nV 1) "form") (NG (HU K (nV 0) (nV 2) "deep") (NG (HU K (nV 0) (nV 3) "least") (NG (HU K (nV 0) VD "numbered") (NG (HU K (nV 0) (tC (.int 0)) "following") (HU K (nV 0) a "standing")))))
noncomputable def yq(x:Addr):D:=.dict [(.str "@",.list [.int (x:Nat)])]
def IU(C:Addr)(K:aI)(e:kH):Sp:=λvs H Q _=>∃(x dx:Addr)(b:V)(dp ls:Int)(a:List Addr)(fm:D)(c:D->Prop),vs=[.ref x,b,.int dp,.int ls]/\x∈a/\H x=some (.ins C dx [])/\(∀p∈a,AJ (H p))/\gO K (mask H a) fm b/\e [fm,.int dp,.int ls] c /\
 ∀(q:Addr)(st:D)(d:V)H',bB (mask H [x]) H'->q≠x->H q=none->H' q=some (.dK [])->H' x=some (.ins C dx (JU ⟨x,q,dx,fm,dp,ls⟩ b d ⟨[],0,st⟩))->gO K (mask H' (q::a)) st d->c st->Q .non H'
def Fi{K}{mg:Str->Option Value}{C:Addr}{x c:Str}{st}{f:Addr}{N pn:List Str}{k:Nat}{L:kH}(O:OY K x c st f fd)(S:bL N pn (aU st))(W:pn.length=4)
  (m:A9 K C) (n1:fY K C "form") (Y:fY K C "deep") (n3:fY K C "least") (Z:fY K C "numbered") (n5:fY K C "following") (n6:fY K C "standing")
  (i:∀(d:Value)(A:d8)outer(s:Shared)H E,hW k (A.deeper (n4 c (aU st) s.heap.objs.size f d))->∀(z fm:D)(dp ls:Int)(Q:D->Prop),L [fm,.int dp,.int ls] Q ->
   ∃(e:Expr)(t:ET),gR (vQ pK P w K mg base N c (aU st) f d A outer s H E).nox e t/\(∀{v},PE (vQ pK P w K mg base N c (aU st) f d A outer s H E).nox e v->FP (vQ pK P w K mg base N c (aU st) f d A outer s H E).nox (lF st) (Jt K v))/\t (lB N [z,fm,.int dp,.int ls]) Q):mB P w K mg base pK (k+1) f fd pn (IU C K L):=by
 refine O.ok S (λvs H Q E h=>?_) λd A outer s H vs Q E X h=>?_
 ·obtain⟨x,dx,a,dp,ls,p,fm,B,rfl,_⟩:=h;exact W.symm
 ·obtain⟨x,dx,a,dp,ls,p,fm,B,rfl,r,F,live,r1,q,k⟩:=h;obtain⟨e,t,⟨vv,pe,re⟩,pp,h⟩:=i d A outer s H E X (yq x) fm dp ls B q;refine⟨_,pp pe,?_⟩;have sB:bB (mask H [x]) H:=bW;have l:mask H [x] x=none:=by unfold mask;rw[a9 (bP.mpr kA)]
  have o0:Ok K (mask H [x]) p H p (lB N [yq x,fm,.int dp,.int ls]) (L2.lM N [.ref x,a,.int dp,.int ls]):=(qS (N:=N) live (.cons (.addr _) (.cons r1 (.cons (.int _) (.cons (.int _) .nil))))).less sB;have nd:=K5 (N:=N) (ds:=[yq x,fm,.int dp,.int ls]);have j:(L2.lM N [.ref x,a,.int dp,.int ls])[0]?=some (some (.ref x)):=rfl;have R:(L2.lM N [.ref x,a,.int dp,.int ls])[1]?=some (some a):=rfl;have T:(L2.lM N [.ref x,a,.int dp,.int ls])[2]?=some (some (.int dp)):=rfl;have U:(L2.lM N [.ref x,a,.int dp,.int ls])[3]?=some (some (.int ls)):=rfl;have o1:=o0.pokeI (u:=.ins C dx [("form",a)]) r l F nd;have o2:=o1.pokeI (u:=.ins C dx [("form",a),("deep",.int dp)]) r l cD nd;have o3:=o2.pokeI (u:=.ins C dx [("form",a),("deep",.int dp),("least",.int ls)]) r l cD nd;refine⟨a,R,.ref x,j,x,C,dx,[],kA,F,m,n1,hI,?_⟩;refine⟨.int dp,T,.ref x,j,x,C,dx,_,kA,cD,m,Y,hI,?_⟩;refine⟨.int ls,U,.ref x,j,x,C,dx,_,kA,cD,m,n3,hI,?_⟩;intro q n;have b:q≠x:=λz=>by rw[z]at n;rw[cD]at n;cases n
  have o4:=o3.adopt (u:=.dK []) n;have g:x∈q::p:=aJ _ r;have G:fG (fG (fG (fG H x (.ins C dx [("form",a)])) x (.ins C dx [("form",a),("deep",.int dp)])) x (.ins C dx [("form",a),("deep",.int dp),("least",.int ls)])) q (.dK []) x=some (.ins C dx [("form",a),("deep",.int dp),("least",.int ls)]):=by rw[cC (k6 b)];exact cD
  have o5:=o4.pokeI (u:=.ins C dx [("form",a),("deep",.int dp),("least",.int ls),("numbered",.ref q)]) g l G nd;have J:=o5.pokeI (u:=.ins C dx [("form",a),("deep",.int dp),("least",.int ls),("numbered",.ref q),("following",.int 0)]) g l cD nd;refine⟨.ref x,j,x,C,dx,_,kA,G,m,Z,hI,?_⟩;refine⟨.ref x,j,x,C,dx,_,kA,cD,m,n5,hI,?_⟩;refine re _ p _ (q::p) _ _ _ _ J h λst M H6 y r6 q6=>?_;have I:=y _ _ (cD (o:=HO.ins C dx [("form",a),("deep",.int dp),("least",.int ls),("numbered",.ref q),("following",.int 0)]));have o7:=(J.grow y).pokeI (u:=.ins C dx (JU ⟨x,q,dx,fm,dp,ls⟩ a M ⟨[],0,st⟩)) g l I nd;refine⟨.ref x,j,x,C,dx,_,kA,I,m,n6,hI,?_⟩;refine k q st M _ o7.base b ?_ ?_ cD (r6.same (by rw[gZ g];exact L2.bB.refl _)) q6
  ·rw[cC b,cC b,cC b]at n;exact n
  ·rw[cC b];exact y _ _ (by rw[cC b,cC b];exact cD)
section
variable{K:aI}{B H l:Hp}{m g f:List Addr}{k:List Sl}{n:L2.St}
def Ok.wide(o:Ok K B m H g k n)(s:bB H l)(y:∀a∈f,H a=none)(G:∀a∈f,AJ (l a)):Ok K B (f++m) l (f++g) k n:=by
 have x:bB (mask H g) (mask l (f++g)):=λb u e=>by
  unfold mask at e |-
  by_cases w:b∈g
  ·rw[a9 w]at e;cases e
  ·rw[a8 w]at e;rw[a8 λz=>(cL.mp z).elim (λz=>by rw[y b z]at e;cases e) w];exact s b u e
 refine⟨o.base.trans s,λp A=>(cL.mp A).elim (λz=>jV _ z) λz=>cZ _ (o.sub p z),λp A=>?_,o.len,λi d h=>?_,λi I h=>?_,o.dis,?_⟩
 ·rcases cL.mp A with z | z
  ·exact G p z
  ·obtain⟨u,q,r⟩:=o.live p z;exact⟨u,s p u q,r⟩
 ·obtain⟨v,q,r⟩:=o.val i d h;exact⟨v,q,r.same x⟩
 ·obtain⟨p,J,q,r,C,E,t,F⟩:=o.own i I h;exact⟨p,J,q,cZ _ r,C,λz=>(cL.mp z).elim (λz=>by rw[y p z]at t;cases t) E,s _ _ t,F.same x⟩
 ·exact o.dc.to (λj M kvs h=>⟨h,kA⟩) (λp L a b _=>⟨cZ _ a,(s p _ b).trans b.symm⟩) (λp L _ b c d=>⟨c,λz=>(cL.mp z).elim (λz=>by rw[y p z]at b;cases b) d⟩) x
end
section
noncomputable def xa(b:List Addr)(r:Addr):List Addr:=b.filter λa=>decide (a≠r)
def Yf{r a:Addr}:a∈xa p0 r↔a∈p0/\a≠r:=by
 unfold xa;rw[cW,c6]
end
mutual
def nl:D->Bool
|.tuple ts=>wx ts
|.list _=>false
|.dict _=>false
|_=>true
def wx:List D->Bool
|[]=>true
|t::ts=>nl t&&wx ts
end
def RA(H b:Hp):Prop:=∀a u,H a=some u->(∀l,u≠.lst l)->b a=some u
theorem gO.nl{K:aI}{H c:Hp}(e:RA H c){d:D}{v:V}(r:gO K H d v):TL.nl d=true->gO K c d v:=by
 refine gO.rec (motive_1:=λd v _=>TL.nl d=true->gO K c d v) (motive_2:=λf vs _=>wx f=true->Reps K c f vs) (λ_=>.none) (λb _=>.bool b) (λi _=>.int i) (λx _=>.str x) ?_ (λq _ a h=>.tuple ?_ (a h)) ?_ ?_ ?_ ?_ ?_ ?_ ?_ ?_ (λ_=>.nil) (λ_ _ a b h=>.cons (a (cS _ _▸h:_/\_).1) (b (cS _ _▸h:_/\_).2)) r
 case refine_2=>
  rcases q with(q | ⟨o,q⟩) | q
  ·exact .inl (.inl (e _ _ q λl z=>by cases z))
  ·exact .inl (.inr ⟨o,e _ _ q λl z=>by cases z⟩)
  ·exact .inr q
 all_goals intros;rename_i h;cases h
def RJ{r:Addr}(d:H r=some (.lst xs)):RA (mask H (xa ps r)) (mask H ps):=λa u e c=>by
 unfold mask at e |-
 by_cases z:a∈xa ps r
 ·rw[a9 z]at e;cases e
 ·rw[a8 z]at e;by_cases b:a∈ps
  ·have:a=r:=Classical.byContradiction λy=>z (Yf.mpr ⟨b,y⟩);rw[this,d]at e;cases e;exact b9 kA (c xs)
  ·rw[a8 b];exact e
structure aDi where
 p:Addr
 q:Addr
 ns:List Int
 b:Bool
structure aFy where
 nx:Nat->List Sl->Prop
 rt:Nat->D->Prop
 bk:Nat->List Sl->Prop:=λ_ _=>False
 ct:Nat->List Sl->Prop:=λ_ _=>False
abbrev STC:=D->aFy->Nat->List Sl->Prop
section
variable{F:yX}{t:wG}{u:SZ F}{f:D}{a:A8 F}{n:F.S}{g:List Sl}{i:Nat}{j:EZ F}
def uP(h:gL t (λ_=>u f a n) { nx:=λ_=>True,rt:=λ_=>False,bk:=a.bk n,ct:=a.ct n } g):zF (zP t) u f a n g:=h
def HI(v:D)(h:∀q:F.S->D->Prop,q n v->j f n g q)(k:u f a n (g.set i (.val v))):zF (zx i j) u f a n g:=h (λn1 d=>u f a n1 (g.set i (.val d))) k
def mI{c:TZ F}{t e:SZ F}(b:Bool)(h:∀q:F.S->Bool->Prop,q n b->c f n g q)(k:b=true->t f { a with nx:=u f a } n g)(d:b=false->e f { a with nx:=u f a } n g):zF (ym c t e) u f a n g:=by
 refine h _ ?_
 cases b with
 |true=>rw[a9 rfl];exact k kA
 |false=>rw[a8 gV];exact d kA
end
end TL
namespace L2
def hW.u1{k:Nat}{A:PySem.Around}(r:hW k A):A.units+1<PySem.cLine:=by have:=r.units;lia
end L2
namespace TL
open L2
section
variable{F:yX}{X:Cx}{e:Expr}
def U2{b:EZ F}(h:vV X e b)(pt:∀{t:TE},PE X e t->PT X e (tB t)):we X e (Bx b):=by
 obtain⟨v,p,r⟩:=h;refine⟨_,pt p,λB g H i a q T n Q s o h k=>r B g H i a q T n _ _ o h λn1 d x f l m j q1=>?_⟩
 cases j with
 |bool c=>exact⟨c,kA,k n1 c f l m q1⟩
 |_=>exact q1.elim
end
section
variable{X:Cx}{e:Expr}{b:ET}{x:Str}{pos a:Pos}
def ss(i:Nat)(c:X.N.Nodup)(h:gR X e b)(f:autoParam (X.N[i]?=some x) zzz._auto_1)(j:autoParam (UM X.env.scope x) zzu._auto_1)(g:autoParam (mF e (some (.Name x a)) pos.line X.env=pure false) zzz._auto_1)
  (d:autoParam (X.fn x=true\/X.env.scope.names.lookup x=some .local) zzv._auto_1):BN X (.Assign [.Name x a] e pos) (LB i b):=VH (i:=i) h λh=>rP c f j h g d
def pn(i:Nat)(c:X.N.Nodup)(f:autoParam (X.N[i]?=some x) zzz._auto_1)(g:autoParam (UM X.env.scope x) zzu._auto_1)(d:autoParam (X.fn x=true\/X.env.scope.names.lookup x=some .local) zzv._auto_1):PG X (.Name x pos) (lP i):=PU c f g d
def jU{N P:List Str}{c:Scope}(d:autoParam (c.kind=.function) zzz._auto_1)(f:autoParam (c.isCoroutine=false) zzz._auto_1)(g:autoParam (c.isGenerator=false) zzz._auto_1)(h:autoParam (N.Nodup) zzs._auto_1)(i:autoParam (N.take P.length=P) zzz._auto_1)(j:autoParam (∀x∈P,c.names.lookup x=some .local\/c.names.lookup x=some .cell) zzs._auto_1)(k:autoParam (∀y∈c.names,y.2≠.free) zzs._auto_1):bL N P c:=⟨d,f,g,h,i,j,k⟩
end
end TL
namespace L2
noncomputable abbrev fO(x q:Str)(st:Stmt)(kV dc a:Value)(an:Option Addr)(cd ct:Value):hX:=nT x q (yP st) (lF st) (aU st) .none kV dc a an cd ct
def Gq{c:Type}{P:List c->Prop}(h:∀a,P [a]):∀b:List c,b.length=1->P b
|[a],_=>h a
def Gs{d:Type}{P:List d->Prop}(h:∀a b,P [a,b]):∀c:List d,c.length=2->P c
|[a,b],_=>h a b
def Gu{e:Type}{P:List e->Prop}(h:∀a b c,P [a,b,c]):∀d:List e,d.length=3->P d
|[a,b,c],_=>h a b c
def Gv{f:Type}{P:List f->Prop}(h:∀a b c d,P [a,b,c,d]):∀e:List f,e.length=4->P e
|[a,b,c,d],_=>h a b c d
def Gw{g:Type}{P:List g->Prop}(h:∀a b c d e,P [a,b,c,d,e]):∀f:List g,f.length=5->P f
|[a,b,c,d,e],_=>h a b c d e
abbrev pL(x q:Str)(st:Stmt)(b:List Str):Prop:=∀(kV dc c:Value)(an:Option Addr)(cd ct:Value)(a:List Value),a.length=b.length->bindArgs (fO x q st kV dc c an cd ct) ⟨a,[]⟩=pure (b.zip a)
def EU(mg:Str->Option Value)(x:Str):Addr:=cz λa:Addr=>mg x=some (.ref a)
instance fdNe:Nonempty hX:=⟨fO "" "" (.Pass ⟨0,0,0,0⟩) .none .none .none none .none .none⟩
def JH(K:aI)(a:Addr):hX:=cz λf:hX=>∃b c d,K.lookup a=some ⟨b,c,.func f,d⟩
def Cc{mg:Str->Option Value}{a:Addr}(h:mg x=some (.ref a)):EU mg x=a:=by
 have:=(bc (p:=λa:Addr=>mg x=some (.ref a)) ⟨a,h⟩).symm.trans h;injection this with this
 injection this
def YO{K:aI}{a:Addr}(h:K.lookup a=some ⟨b,c,.func f,d⟩):JH K a=f:=by
 obtain⟨_,_,_,e⟩:=bc (p:=λf:hX=>∃b c d,K.lookup a=some ⟨b,c,.func f,d⟩) ⟨f,_,_,_,h⟩;have:=e.symm.trans h;injection this with this
 injection this with _ _ this
 injection this
structure Dg(K:aI)(x q:Str)(st:Stmt)(a:Addr)(ps:List Str):Prop where
 k:gK K (.ref a)=true
 F:OY K x q st a (JH K a)
 d:pX K (JH K a) ps []
structure Df(K:aI)(mg:Str->Option Value)(x:Str)(st:Stmt)(ps:List Str):Prop extends Dg K x x st (EU mg x) ps where
 m:mg x=some (.ref (EU mg x))
abbrev Fm(P:cK)(w:e6)(K:aI)(mg:Str->Option Value)(base:Heap)(b:UN)(k:Nat)(a:Addr)(c:List Str)(d:Sp):Prop:=mB P w K mg base b k a (JH K a) c d
abbrev Fo(P:cK)(w:e6)(K:aI)(mg:Str->Option Value)(base:Heap)(a:UN)(k:Nat)(x:Str)(b:List Str)(c:Sp):Prop:=Fm P w K mg base a k (EU mg x) b c
section
variable{K:aI}{h:Heap}{mg:Str->Option Value}{x q:Str}{st:Stmt}{i:List Str}{f:Addr}{j:Value}{n an:Option Addr}{o:Array (Option Value)}{kV dc g cd ct:Value}
def dg(b:pL x q st i)(l:K.lookup f=some ⟨j,n,.func (fO x q st kV dc g an cd ct),o⟩)(c:pM K cd q=true)(k:gK K (.ref f)=true):Dg K x q st f i:=⟨k,by rw[YO l];exact YI l c k,by rw[YO l];exact(YI l c k).binds b⟩
def df(X:K.In h)(G:h.Ns gQ mg)(b:pL x x st i)(a:aDm K gQ x=some (some (.ref f)))(l:K.lookup f=some ⟨j,n,.func (fO x x st kV dc g an cd ct),o⟩)(c:pM K cd x=true)(k:gK K (.ref f)=true):Df K mg x st i:=by
 have m:=ZX X G a;have e:=Cc m;exact⟨by rw[e];exact dg b l c k,by rw[e];exact m⟩
def Ts(X:K.In h)(G:h.Ns gQ mg){b:hX}(a:aDm K gQ x=some (some (.ref f)))(l:K.lookup f=some ⟨j,n,.func b,o⟩)(y:EX K b.code):EX K (JH K (EU mg x)).code:=by rw[Cc (ZX X G a),YO l];exact y
def BL(h:autoParam (∀kV dc g an cd ct k,bindArgs (fO x q st kV dc g an cd ct) ⟨[k],[]⟩=pure ([p0].zip [k])) zzt._auto_1):pL x q st [p0]:=λa b c d e f=>Gq (h a b c d e f)
def vG(h:autoParam (∀kV dc g an cd ct k l,bindArgs (fO x q st kV dc g an cd ct) ⟨[k,l],[]⟩=pure ([p0,p1].zip [k,l])) zzt._auto_1):pL x q st [p0,p1]:=λa b c d e f=>Gs (h a b c d e f)
def MQ(h:autoParam (∀kV dc g an cd ct k l a2,bindArgs (fO x q st kV dc g an cd ct) ⟨[k,l,a2],[]⟩=pure ([p0,p1,p2].zip [k,l,a2])) zzt._auto_1):pL x q st [p0,p1,p2]:=λa b c d e f=>Gu (h a b c d e f)
def wd(h:autoParam (∀kV dc g an cd ct k l a2 m,bindArgs (fO x q st kV dc g an cd ct) ⟨[k,l,a2,m],[]⟩=pure ([p0,p1,p2,p3].zip [k,l,a2,m])) zzt._auto_1):pL x q st [p0,p1,p2,p3]:=λa b c d e f=>Gv (h a b c d e f)
def Ga(h:autoParam (∀kV dc g an cd ct k l a2 m a4,bindArgs (fO x q st kV dc g an cd ct) ⟨[k,l,a2,m,a4],[]⟩=pure ([p0,p1,p2,p3,p4].zip [k,l,a2,m,a4])) zzt._auto_1):pL x q st [p0,p1,p2,p3,p4]:=λa b c d e f=>Gw (h a b c d e f)
def na{C:Addr}{f}(h:fH K (.ref C) f=some none):fY K C f:=h
end
end L2
namespace TL
open L2
abbrev Fj(P:cK)(w:e6)(base:Heap){K:aI}{mg:Str->Option Value}{x:Str}{st:Stmt}{a:List Str}(_:Df K mg x st a)(k:Nat)(b:Sp):Prop:=Fo P w K mg base pK k x a b
abbrev Ft(P:cK)(w:e6)(base:Heap){K:aI}{mg:Str->Option Value}{x:Str}{st:Stmt}{a:List Str}(D:Df K mg x st a)(k:Nat)(b:kH):Prop:=Fj P w base D k (jO K b)
section
variable{X:Cx}{e:Expr}{c:List Expr}{o:ET}{x:Str}{pos j p:Pos}
def cd{k n:Nat}{pn:List Str}{g:kH}{t:AT}{st:Stmt}{D:Df X.K X.mg x st pn}(F:Ft X.prog X.w X.base D k g)(f:hW n X.A)(i:vW X (e::c) t)(hk:autoParam (k<=n) zzy._auto_1)
  (q:autoParam (Gl X x) zzz._auto_1) (a:autoParam ((x==("__debug__":Str))=false) zzy._auto_1) (l:autoParam (bY (e::c) X.env=(false,eval e X.env)::bY c X.env) zzz._auto_1) (b:autoParam ((j2 pos (bY c X.env)).any (·.1)=false) zzz._auto_1):gR X (.Call (.Name x p) (e::c) [] pos) (kG g t):=Wb F D.m D.k D.d (f.mono hk) i λh=>pT F (f.mono hk) q D.m D.k D.d .nil kW h a l b
def cF{k n:Nat}{pn:List Str}{g:MU}{t:AT}{st:Stmt}{D:Df X.K X.mg x st pn}(F:Fj X.prog X.w X.base D k (iE X.K g))(f:hW n X.A)(i:vW X (e::c) t)(hk:autoParam (k<=n) zzy._auto_1)
  (q:autoParam (Gl X x) zzz._auto_1) (a:autoParam ((x==("__debug__":Str))=false) zzy._auto_1) (l:autoParam (bY (e::c) X.env=(false,eval e X.env)::bY c X.env) zzz._auto_1) (b:autoParam ((j2 pos (bY c X.env)).any (·.1)=false) zzz._auto_1):OV X (.Call (.Name x p) (e::c) [] pos) (Co g t):=Wj F D.m D.k D.d (f.mono hk) i λh=>pT F (f.mono hk) q D.m D.k D.d .nil kW h a l b
def cQ{k n:Nat}{pn:List Str}{g:xj}{t:AT}{st:Stmt}{D:Df X.K X.mg x st pn}(F:Fj X.prog X.w X.base D k (uY X.K g))(f:hW n X.A)(i:vW X (e::c) t)(hk:autoParam (k<=n) zzy._auto_1)
  (q:autoParam (Gl X x) zzz._auto_1) (a:autoParam ((x==("__debug__":Str))=false) zzy._auto_1) (l:autoParam (bY (e::c) X.env=(false,eval e X.env)::bY c X.env) zzz._auto_1) (b:autoParam ((j2 pos (bY c X.env)).any (·.1)=false) zzz._auto_1):Ag X (.Call (.Name x p) (e::c) [] pos) (Du g t):=V8 F D.m D.k D.d (f.mono hk) i λh=>pT F (f.mono hk) q D.m D.k D.d .nil kW h a l b
def sf{iter}(i:MZ X tg iter ti)(k:M0 X tg g)(f:vU X body tb)(l:PassesOwn (model X.prog X.w) X.A X.env X.xe:=by exact o8)(h:autoParam (X.calm=true) zzz._auto_1)(m:autoParam (∀x,i6 iter X.env x=pure x) zzx._auto_1):BN X (.For tg iter body [] pos) (VN ti g tb):=Ux i k f λa b d=>V6 l h a b d m
def el{iter o}(i:MZ X tg iter ti)(d:∀b:BP,M0 (blk X scope N' b) tg g/\EW (blk X scope N' b) ifs tt/\gR (blk X scope N' b) elt o)(h:autoParam (mZ scope X.env.scope X.N N' fr=true) zzo._auto_1)(f:autoParam (X.calm=true) zzz._auto_1)(k:autoParam (∀x,i6 iter X.env x=pure x) zzx._auto_1):gR X (.ListComp elt [⟨tg,iter,ifs,0⟩] scope pos) (Y1 fr ti g tt o):=Jg i d λa b=>WG h f a b k
def fl{iter o}(i:MZ X tg iter ti)(d:∀b:BP,M0 (blk X scope N' b) tg g/\EW (blk X scope N' b) ifs tt/\gR (blk X scope N' b) elt o)(h:autoParam (mZ scope X.env.scope X.N N' fr=true) zzo._auto_1)(f:autoParam (X.calm=true) zzz._auto_1)(k:autoParam (∀x,i6 iter X.env x=pure x) zzx._auto_1):OV X (.ListComp elt [⟨tg,iter,ifs,0⟩] scope pos) (xt fr ti g tt o):=Jn i d λa b=>WG h f a b k
def cY{r:List V->Hp->VK->Prop}{f:List D->(D->Prop)->Prop}(k:pW X r f)(d:vW X (e::c) t)(g:lR X (.type T) r)(m:X.mg x=none)(q:d7 x=some (.type T))(l:autoParam (Gl X x) zzz._auto_1)(n:autoParam (x≠"__name__") zzy._auto_1)(a:autoParam ((x==("__debug__":Str))=false) zzy._auto_1)(i:autoParam (bY (e::c) X.env=(false,eval e X.env)::bY c X.env) zzz._auto_1)(b:autoParam ((j2 pos (bY c X.env)).any (·.1)=false) zzz._auto_1):gR X (.Call (.Name x p) (e::c) [] pos) (kG f t):=Cm k d λh=>uU g l m q h n a i b
def cB{r:List V->Hp->VK->Prop}{f:List D->(D->Prop)->Prop}(k:pW X r f)(d:vW X (e::c) t)(g:lR X (.builtin T) r)(m:X.mg x=none)(q:d7 x=some (.builtin T))(l:autoParam (Gl X x) zzz._auto_1)(n:autoParam (x≠"__name__") zzy._auto_1)(a:autoParam ((x==("__debug__":Str))=false) zzy._auto_1)(i:autoParam (bY (e::c) X.env=(false,eval e X.env)::bY c X.env) zzz._auto_1)(b:autoParam ((j2 pos (bY c X.env)).any (·.1)=false) zzz._auto_1):gR X (.Call (.Name x p) (e::c) [] pos) (kG f t):=Cm k d λh=>DF g l m q h n a i b
def so(i:Nat)(a:X.N.Nodup)(h:vW X c t)(d:autoParam (X.N[i]?=some x) zzz._auto_1)(g:autoParam (UM X.env.scope x) zzu._auto_1)(f:autoParam (mF (.List c p2) (some (.Name x j)) pos.line X.env=pure false) zzz._auto_1)(b:autoParam (X.fn x=true\/X.env.scope.names.lookup x=some .local) zzv._auto_1):BN X (.Assign [.Name x j] (.List c p2) pos) (Ab i t):=Uy (i:=i) h λh=>rP a d g h f b
def sF(i:Nat)(a:X.N.Nodup)(h:OV X e t)(d:autoParam (X.N[i]?=some x) zzz._auto_1)(g:autoParam (UM X.env.scope x) zzu._auto_1)(f:autoParam (mF e (some (.Name x j)) pos.line X.env=pure false) zzz._auto_1)(b:autoParam (X.fn x=true\/X.env.scope.names.lookup x=some .local) zzv._auto_1):BN X (.Assign [.Name x j] e pos) (GE i t):=Yj (i:=i) h λh=>rP a d g h f b
noncomputable def Fd(l:List Str):Bool:=decide l.Nodup
def pk(i:Nat)(a:autoParam (Fd X.N=true) zzo._auto_1)(d:autoParam (X.N[i]?=some x) zzz._auto_1)(f:autoParam (UM X.env.scope x) zzu._auto_1)(b:autoParam (X.fn x=true\/X.env.scope.names.lookup x=some .local) zzv._auto_1):PG X (.Name x pos) (lP i):=PU (b8 a) d f b
def tv(h:gR X e o)(a:autoParam (∀whole,isTrue e X.env whole=(do let v <- whole;dh e.pos;aj [v] (truthy v))) zzx._auto_1):J1 X e (MM o):=Vh h λh=>NO h a
end
end TL
namespace L2
section
variable{X:Cx}
def yr(f:Str->Str->Bool):V->List V->Hp->VK->Prop:=λx a H Q=>∃z y,x=.str z/\a=[.str y]/\Q (.bl (f z y)) H
def GL:Q9 X "str.startswith" (yr Txt.startswith):=by
 intro a s g H x f v e Q I c r h;obtain⟨z,y,rfl,rfl,q⟩:=h;obtain⟨t,rfl⟩:=c;obtain⟨u,rfl,b⟩:=nI r;obtain⟨d,rfl⟩:=b;exact SC.startswith ⟨.bl _,H,I,kA,q⟩
def Xb:Q9 X "str.endswith" (yr Txt.endswith):=by
 intro a s g H x f v e Q I c r h;obtain⟨z,y,rfl,rfl,q⟩:=h;obtain⟨t,rfl⟩:=c;obtain⟨u,rfl,b⟩:=nI r;obtain⟨d,rfl⟩:=b;exact SC.endswith ⟨.bl _,H,I,kA,q⟩
def En:List V->Hp->VK->Prop:=λa H Q=>∃i:Int,a=[.int i]/\i.natAbs.log2<1920/\Q (.str (c7 (toString i))) H
def lX:lR X (.type "str") En:=by
 intro a s e H d c Q I r h;obtain⟨i,rfl,b,q⟩:=h;obtain⟨u,rfl,t,rfl⟩:=nI r;exact PySem.P.str_of_int b ⟨.str _,H,I.tok _,⟨_,kA⟩,q⟩
def Dz:List V->Hp->VK->Prop:=λa H Q=>∃(z:Str)(n:Int),a=[.str z]/\intText? z=some n/\z.length<=640/\Q (.int n) H
def TW:lR X (.type "int") Dz:=by
 intro a s f H e d Q I r h;obtain⟨z,n,rfl,c,b,q⟩:=h;obtain⟨u,rfl,t,rfl⟩:=nI r;exact PySem.W.KIN.call_text c b ⟨.int n,H,I.tok _,⟨_,kA⟩,q⟩
end
end L2
namespace TL
open L2
section
variable{X:Cx}{e:Expr}{a:List Expr}{b:ET}{pos:Pos}
def Fe(f:Str->Str->Bool)(z:Str)(c:List D)(Q:D->Prop):Prop:=match c with | [.str y]=>Q (.bool (f z y)) | _=>False
def YV{f:Str->Str->Bool}{m:Str}(u:gR X n b)(s:vW X (e::a) t)
  (A:∀{v ta},PE X n v->PA X (e::a) ta->PE X (.Call (.Attribute n m ap) (e::a) [] pos) (ZV X.K "str" (yr f) v ta)):gR X (.Call (.Attribute n m ap) (e::a) [] pos) (QR (Fe f) b t):=by
 obtain⟨v,C,J⟩:=u;obtain⟨P,w,I⟩:=s;refine⟨_,A C w,λB i H j c q Q N o h k=>J B i H j c q _ _ o h λd x r p E q1=>?_⟩;obtain⟨z,rfl,q1⟩:=q1;cases E;refine⟨kA,I B i r j c q _ _ (o.grow p) q1 λO R M L F g=>?_⟩
 cases F with
 |nil=>exact g.elim
 |cons l G=>
  cases G with
  |cons _ _=>cases l<;>exact g.elim
  |nil=>
   cases l with
   |str y=>exact⟨z,y,kA,kA,k _ _ _ (p.trans L) (.bool _) g⟩
   |_=>exact g.elim
def Jr(d:D)(Q:D->Prop):Prop:=match d with
|.int i=>i.natAbs.log2<1920/\Q (.str (c7 (toString i)))
|_=>False
def sC:pW X En (f1 Jr):=c1 λH f d x Q c live r h k=>by
 cases r with
 |int i=>exact⟨i,kA,h.1,k _ _ H (L2.bB.refl H) (.str _) h.2⟩
 |_=>exact h.elim
def Jo(d:D)(Q:D->Prop):Prop:=match d with
|.str z=>∃n:Int,intText? z=some n/\z.length<=640/\Q (.int n)
|_=>False
def Ss:pW X Dz (f1 Jo):=c1 λH i d x Q g live r h k=>by
 cases r with
 |str z=>
  obtain⟨n,c,f,q⟩:=h;exact⟨z,n,kA,c,f,k _ _ H (L2.bB.refl H) (.int _) q⟩
 |_=>exact h.elim
end
section
variable{X:Cx}{F:yX}{o e:Expr}{c:List Expr}{f:ET}{pos b:Pos}
def Sq(C:Addr)(m:Str)(j:KO F)(f:ET)(t:AZ F):EZ F:=λg n a Q=>f a λd=>∃(ns:List Str)(i:List D),d=S5 C ns i/\m∉ns/\t g n a λn1 h=>j g n1 (d::h) Q
def qV{C:Addr}{m:Str}{p:KO F}{t:AZ F}(M:gR X o f)(L:ZW X (e::c) t)
  (S:∀{v:TE}{u:TA},PE X o v->PA X (e::c) u->PE X (.Call (.Attribute o m b) (e::c) [] pos) (K0 C m (iQ X.K p) [] E0 v u)):vV X (.Call (.Attribute o m b) (e::c) [] pos) (Sq C m p f t):=by
 obtain⟨v,U,re⟩:=M;obtain⟨va,R,ra⟩:=L;refine⟨_,S U R,λB q H i g w T n Q E o h k=>re B q H i g w _ _ o.ok h λd x z j r q1=>?_⟩;obtain⟨ns,I,rfl,N,q1⟩:=q1;obtain⟨a,dx,fs,rfl,J,rfl,h2⟩:=PK r;refine⟨a,dx,fs,kA,bW _ _ J,tW N,ra B q z i g w T n _ _ (o.grow j) q1 λP G xs A l s r2 Y=>?_⟩;show iQ X.K p (.ref a::(xs++[])) A E E0;rw[dH];exact⟨i,T,P,S5 C (fs.map (·.1)) I::G,Q,((o.grow j).growX l s).ok.live,o.mem',s,.cons (r.same (l.mask o.mem')) r2,Y,λO d v y s' t' Z W=>k O d v y (((kM.of j).trans l).trans s') t' Z W⟩
end
def Ju(a:Addr)(K:aI)(b:kH):TS:=NG (HU K (nV 0) (nV 1) "form") (HU K (nV 0) (VB a (IU a K b) [] E0 (xP (nV 1) (xP (nV 2) (xP (nV 3) KZ)))) "book")
def IS(c e:Addr)(K:aI)(f:kH):Sp:=λvs H Q _=>∃(x dx:Addr)(b:V)(dp ls:Int)(a:List Addr)(fm:D)(d:D->Prop),vs=[.ref x,b,.int dp,.int ls]/\x∈a/\H x=some (.ins c dx [])/\(∀p∈a,AJ (H p))/\gO K (mask H a) fm b/\f [fm,.int dp,.int ls] d /\
 ∀(T:Bk)(st:D)H',T.fm=fm->T.dp=dp->T.ls=ls->bB (mask H [x]) H'->H T.p=none->H T.q=none->H' x=some (.ins c dx [("form",b),("book",.ref T.p)])->JV e T K H' (T.p::T.q::a) ⟨[],0,st⟩->d st->Q .non H'
def Fh{K}{mg:Str->Option Value}{d F:Addr}{x j:Str}{st}{f:Addr}{N pn:List Str}{k:Nat}(Fn:OY K x j st f fd)(S:bL N pn (aU st))(hl:pn.length=4)
  (hc:A9 K d) (n1:fY K d "form") (n2:fY K d "book")
  (C:∀(m:Value)(A:d8)outer(s:Shared)H E,hW k (A.deeper (n4 j (aU st) s.heap.objs.size f m))->FP (vQ pK P w K mg base N j (aU st) f m A outer s H E).nox (lF st) (Ju F K sp)):mB P w K mg base pK (k+1) f fd pn (IS d F K sp):=by
 refine Fn.ok S (λvs H Q E h=>?_) λm A outer s H vs Q E hr h=>?_
 ·obtain⟨x,dx,b,dp,ls,i,fm,QD,rfl,_⟩:=h;exact hl.symm
 ·obtain⟨x,dx,b,dp,ls,i,fm,QD,rfl,R,hi,live,r1,q,k⟩:=h;refine⟨_,C m A outer s H E hr,?_⟩;have g0:(L2.lM N [.ref x,b,.int dp,.int ls])[0]?=some (some (.ref x)):=rfl;have g1:(L2.lM N [.ref x,b,.int dp,.int ls])[1]?=some (some b):=rfl;have g2:(L2.lM N [.ref x,b,.int dp,.int ls])[2]?=some (some (.int dp)):=rfl;have g3:(L2.lM N [.ref x,b,.int dp,.int ls])[3]?=some (some (.int ls)):=rfl;refine⟨b,g1,.ref x,g0,x,d,dx,[],kA,hi,hc,n1,hI,?_⟩;refine⟨b,g1,.int dp,g2,.int ls,g3,λy c T n bn=>?_⟩;have r:y≠x:=λz=>by rw[z,cD]at T;cases T
  have I:c≠x:=λz=>by rw[z,cD]at n;cases n
  have o:H y=none:=by rw[cC r]at T;exact T
  have g:H c=none:=by rw[cC I]at n;exact n
  have vo:x∈y::i:=aJ _ R;have O:∀a,a≠y->a≠c->a≠x->fG (fG (fG H x (.ins d dx [("form",b)])) c (.own y)) y (.ins F c []) a=H a:=λa l a2 v=>by rw[cC l,cC a2,cC v]
  have B:fG (fG (fG H x (.ins d dx [("form",b)])) c (.own y)) y (.ins F c []) x=some (.ins d dx [("form",b)]):=by rw[cC (k6 r),cC (k6 I),cD]
  have lv:∀p∈y::i,AJ (fG (fG (fG H x (.ins d dx [("form",b)])) c (.own y)) y (.ins F c []) p):=λp hp=>by
   by_cases z:p=y
   ·subst z;exact⟨_,cD,kA⟩
   ·by_cases z2:p=x
    ·subst z2;exact⟨_,B,kA⟩
    ·obtain⟨u,U,e2⟩:=live p ((aR.mp hp).resolve_left z);have z3:p≠c:=λz=>by rw[z,g]at U;cases U
     exact⟨u,(O p z z3 z2).trans U,e2⟩
  have sm:bB (mask H i) (mask (fG (fG (fG H x (.ins d dx [("form",b)])) c (.own y)) y (.ins F c [])) (y::i)):=λa u e=>by
   unfold mask at e |-
   by_cases ha:a∈i
   ·rw[a9 ha]at e;cases e
   ·rw[a8 ha]at e;have l:a≠y:=λz=>by rw[z,o]at e;cases e
    have a2:a≠c:=λz=>by rw[z,g]at e;cases e
    have v:a≠x:=λz=>ha (z▸R);rw[a8 λz=>(aR.mp z).elim l ha,O a l a2 v];exact e
  refine⟨y,c,b,dp,ls,y::i,fm,QD,kA,aO ..,cD,lv,r1.same sm,q,λt st v6 G sH M W X Z r6 q6=>⟨kA,?_⟩⟩;have L:t≠x:=λz=>by rw[z]at W;have:=B.symm.trans W;cases this
  have Y:G x=some (.ins d dx [("form",b)]):=sH x _ (by unfold mask;rw[a8 λz=>r (bP.mp z).symm];exact B);refine⟨.ref x,g0,x,d,dx,_,kA,Y,hc,n2,hI,?_⟩
  have J:H t=none:=by
   by_cases z:t=c
   ·rw[z];exact g
   ·exact(O t M z L).symm.trans W
  have sF:bB (mask H [x]) (fG G x (.ins d dx [("form",b),("book",.ref y)])):=λa u e=>by
   unfold mask at e;by_cases ha:a∈[x]
   ·rw[a9 ha]at e;cases e
   ·rw[a8 ha]at e;have v:a≠x:=λz=>ha (bP.mpr z);have l:a≠y:=λz=>by rw[z,o]at e;cases e
    have a2:a≠c:=λz=>by rw[z,g]at e;cases e
    rw[cC v];exact sH a u (by unfold mask;rw[a8 λz=>l (bP.mp z)];exact(O a l a2 v).trans e)
  have sG:bB (mask H i) (mask (fG G x (.ins d dx [("form",b),("book",.ref y)])) (y::t::i)):=λa u e=>by
   unfold mask at e |-
   by_cases ha:a∈i
   ·rw[a9 ha]at e;cases e
   ·rw[a8 ha]at e;have l:a≠y:=λz=>by rw[z,o]at e;cases e
    have a4:a≠t:=λz=>by rw[z,J]at e;cases e
    have v:a≠x:=λz=>ha (z▸R);rw[a8 λz=>(aR.mp z).elim l λz=>(aR.mp z).elim a4 ha];exact sF a u (by unfold mask;rw[a8 λz=>v (bP.mp z)];exact e)
  have sK:bB (mask G (t::y::i)) (mask (fG G x (.ins d dx [("form",b),("book",.ref y)])) (y::t::i)):=by
   rw[gZ (aJ _ (aJ _ R))]
   exact jI λa ha=>by
    rcases aR.mp ha with rfl | ha
    ·exact aJ _ (aO ..)
    ·rcases aR.mp ha with rfl | ha
     ·exact aO ..
     ·exact aJ _ (aJ _ ha)
  exact k ⟨y,t,c,fm,dp,ls⟩ st _ kA kA kA sF o J cD ⟨k6 M,b,v6,[],by rw[cC r];exact Z,by rw[cC L];exact X,r1.same sG,r6.same sK,.nil⟩ q6
section
variable{X:Cx}{c j:Addr}{e:Expr}{k:List Expr}{x y:Str}{l p pos g:Pos}{t:AT}{jN:List Stmt}{m:kH}
noncomputable def MY(c:Addr)(T:Bk):D:=S5 c ["form","book"] [T.fm,pJ T]
def Za{i:Nat}{u:SZ (oF j)}(ha:vW X (e::k) t)(pc:∀{ta},PA X (e::k) ta->PS X (.Assign [.Name y l] (.Call (.Name x p) (e::k) [] pos) g) (vN (VB c (IS c j X.K m) [] E0 ta) (lP i)))(hr:EV X jN u) :
  vU X (.Assign [.Name y l] (.Call (.Name x p) (e::k) [] pos) g::jN) (λDT M=>t M λY=>∃(fm:D)(dp ls:Int),Y=[fm,.int dp,.int ls]/\m Y λst=>∀T:Bk,T.fm=fm->T.dp=dp->T.ls=ls->u (pJ T) { nx:=λ_ _=>False,rt:=λ_=>DT.rt } ⟨[],0,st⟩ (M.set i (.val (MY c T)))):=by
 obtain⟨va,pa,ra⟩:=ha;obtain⟨vr,pr,rr⟩:=hr;refine⟨_,nJ (pc pa) pr,λB U H r L M DT DV o h f=>?_⟩;refine ra B U H r L M _ _ o h λY vs A s1 J q1=>?_;obtain⟨fm,dp,ls,rfl,q1⟩:=q1;intro x dx hx s bn
 cases J with
 |cons rf J=>
 cases J with
 |cons rd J=>
 cases J with
 |cons rl J=>
 cases J;cases rd;cases rl;rename_i v1;have S:=o.grow s1;have ll:fG A dx (.own x) x=none:=by rw[cC (k6 bn)];exact hx
 have hm:mask (fG (fG A dx (.own x)) x (.ins c dx [])) (x::r)=mask (fG A dx (.own x)) r:=nN ll
 have G:∀p∈x::r,AJ (fG (fG A dx (.own x)) x (.ins c dx []) p):=λp hp=>by
  by_cases z:p=x
  ·subst z;exact⟨_,cD,kA⟩
  ·rw[cC z];obtain⟨w,R,h2⟩:=S.live p ((aR.mp hp).resolve_left z);exact⟨w,dM s _ _ R,h2⟩
 refine⟨x,dx,v1,dp,ls,x::r,fm,_,kA,aO ..,cD,G,by rw[hm];exact rf.same (bR (dM s)),q1,λT st F e1 e2 e3 sH C E sx W q6=>⟨kA,?_⟩⟩;have P:T.p≠x:=λz=>by rw[z,cD]at C;cases C
 have Q:T.q≠x:=λz=>by rw[z,cD]at E;cases E
 have rm:A T.p=none:=by rw[cC P]at C;exact bB.free' (dM s) C
 have ak:A T.q=none:=by rw[cC Q]at E;exact bB.free' (dM s) E
 have s2:bB A F:=λa w e=>sH a w (by
  have O:a≠x:=λz=>by rw[z,hx]at e;cases e
  unfold mask;rw[a8 λz=>O (bP.mp z),cC O];exact dM s _ _ e)
 have Z:∀a∈[T.p,T.q],A a=none:=λa ha=>by
  rcases aR.mp ha with rfl | ha
  ·exact rm
  ·rw[bP.mp ha];exact ak
 have qw:bB (mask A r) (mask F ([T.p,T.q]++r)):=λb w e=>by
  unfold mask at e |-
  by_cases hb:b∈r
  ·rw[a9 hb]at e;cases e
  ·rw[a8 hb]at e;rw[a8 λz=>(cL.mp z).elim (λz=>by rw[Z b z]at e;cases e) hb];exact s2 b w e
 have N:JV j T X.K F ([T.p,T.q]++r) ⟨[],0,st⟩:=(oF j).to (T:=T) (n:=⟨[],0,st⟩) W (λ_ _=>rfl) (jI λa ha=>by
  rcases aR.mp ha with rfl | ha
  ·exact aO ..
  ·rcases aR.mp ha with rfl | ha
   ·exact aJ _ (aO ..)
   ·exact aJ _ (aJ _ (aJ _ ha)))
 have oW:Ok X.K B ([T.p,T.q]++U) F ([T.p,T.q]++r) L M:=S.wide s2 Z ((oF j).liv (T:=T) (n:=⟨[],0,st⟩) N)
 have td:x∉[T.p,T.q]++r:=λz=>by
  rcases cL.mp z with z | z
  ·rcases aR.mp z with z | z
   ·exact P z.symm
   ·exact Q (bP.mp z).symm
  ·obtain⟨w,R,_⟩:=S.live x z;rw[hx]at R;cases R
 have hB:∀a∈[T.p,T.q],B a=none:=λa ha=>bB.free' S.base (Z a ha);have rk:gO X.K (mask F ([T.p,T.q]++r)) (MY c T) (.ref x):=.ins (fs:=[("form",v1),("book",.ref T.p)]) (by unfold mask;rw[a8 td];exact sx) (.cons (by rw[e1];exact rf.same qw) (.cons (NL T) .nil))
 have oz:sE (oF j) X.K B ([T.p,T.q]++U) F ([T.p,T.q]++r) (L.set i (.val (MY c T))) (M.set i (some (.ref x))) T ⟨[],0,st⟩:=
  ⟨oW.set rk,λa ha=>jV _ ha,hB,N⟩
 exact rr B ([T.p,T.q]++U) F ([T.p,T.q]++r) _ _ T _ _ DV oz (q6 T e1 e2 e3) ⟨λ_ _ _ _ _ _ _ I=>I.elim,λ_ _ _ _ _ _ _ I=>I.elim,λ_ _ _ _ _ _ _ I=>I.elim,λn' d v H2 s' t' r' I=>f.rt d v H2 s' (r'.same (jI λa ha=>cZ _ ha)) I,e9⟩
end
section
variable{F:yX}{X:Cx}{a b:Expr}{jN:List Expr}{pos:Pos}{e f:EZ F}
def Sj(e f:EZ F):EZ F:=λg n d Q=>e g n d λn1 x=>∃c:Bool,x=.bool c/\if c=true then f g n1 d Q else Q n1 (.bool false)
def Tf(h:vV X a e):vV X (.BoolOp op [a] pos) e:=by
 obtain⟨v,p,r⟩:=h;exact⟨_,WF p,r⟩
def YU(s:vV X a e)(t:vV X (.BoolOp .And (b::jN) pos) f):vV X (.BoolOp .And (a::b::jN) pos) (Sj e f):=by
 obtain⟨L,w,E⟩:=s;obtain⟨M,y,G⟩:=t;refine⟨_,WL w y,λB l H m g q T n Q K o h k=>E B l H m g q T n _ _ o h λn1 d x j i p C q1=>?_⟩;obtain⟨c,rfl,q1⟩:=q1;cases C;refine⟨c,kA,?_⟩
 cases c with
 |true=>exact G B l j m g q T n1 Q _ (o.growX i p) q1 λu d v r I J A z=>k u d v r (i.trans I) J A z
 |false=>exact k _ _ _ j i p (.bool false) q1
end
section
variable{F:yX}{X:Cx}{c iter k:Expr}{e:List Expr}{a:Scope}{fr:List (Option Nat)}{N':List Str}{g:GT}{m:wF}{l:ET}{i:Nat}{x:Str}{s j pos:Pos}
def Io(fr:List (Option Nat))(o:EZ F)(g:GT)(m:wF)(l:ET):EZ F:=λp n f Q=>o p n f λn1 d=>∃b,JA d=some b/\Au fr g m l b f λh=>Q n1 (.list h)
def Vb{K:EZ F}(u:vV X iter K)(P:∀b:BP,M0 (blk X a N' b) k g/\EW (blk X a N' b) e m/\gR (blk X a N' b) c l)
  (W:∀{L:TI}{t:BP->TG}{z:BP->TT}{y:BP->TE},PI X k iter L->(∀b:BP,PG (blk X a N' b) k (t b)/\OU (blk X a N' b) e (z b)/\PE (blk X a N' b) c (y b)) ->
   PS X (.Assign [.Name x s] (.ListComp c [⟨k,iter,e,0⟩] a pos) j) (vN (VC fr L t z y) (lP i))) :
  UL X (.Assign [.Name x s] (.ListComp c [⟨k,iter,e,0⟩] a pos) j) (zx i (Io fr K g m l)):=by
 obtain⟨vi,U,ri⟩:=u;obtain⟨t,z,y,p,r⟩:=N8 fr P;refine⟨_,W (WB U) p,λB S H E A M T n DC N o h f=>ri B S H E A M T n _ _ o h λn1 d v C I t1 Z q1=>?_⟩;obtain⟨ts,u,q⟩:=q1;have w:=o.growX I t1;refine PJ Z u bW λJ rj=>r (QV:=λx C=>lP i x M C N.nx) w.up rj q λds p xs O G Q R rs Y=>?_;exact f.nx O E _ _ n1 ((w.grow G).set (LF w.ok.live Q R rs)) ((I.mask o.mem').trans (bR G)) Y
end
section
variable{X:Cx}{a:Expr}{pos:Pos}{c:ET}
def Ke(c:ET):ET:=λd Q=>c d λx=>match x with | .bool b=>Q (.bool (!b)) | _=>False
def Wc(g:gR X a c):gR X (.UnaryOp .Not a pos) (Ke c):=by
 obtain⟨s,j,n⟩:=g;refine⟨_,Ug j,λB i H l e q Q r o h k=>n B i H l e q _ _ o h λd x f p m q1=>?_⟩
 cases m with
 |bool b=>exact⟨b,kA,k _ _ f p (.bool _) q1⟩
 |_=>exact q1.elim
end
section
variable{C:Addr}{X:Cx}{e:Expr}
def As(a:D)(n:O1):Prop:=(∀T:Bk,a=pJ T->nl T.fm=true)/\nl n.st=true/\∀x∈n.kvs,nl x.2=true
theorem xE.nl{K}(e:RA H H'):∀{a b},xE K H a b->(∀x∈a,TL.nl x.2=true)->xE K H' a b
|_,_,.nil,_=>.nil
|_,_,.cons r t,h=>.cons (r.nl e (h _ (aO ..))) (t.nl e λx c=>h x (aJ _ c))
def Z6(i:Nat)(t:TZ (oF C)):TZ (oF C):=λd n c Q=>∃a,c[i]?=some (.own a)/\t d n (c.set i (.val (.list a))) λn1 b=>As d n1/\Q n1 b
def RK(i:Nat){t:TZ (oF C)}(h:we X e t):we X e (Z6 i t):=by
 obtain⟨v,p,r⟩:=h;refine⟨_,p,λB F H f M L T n Q N o h k=>?_⟩;obtain⟨O,e,h⟩:=h;obtain⟨q,P,A,d,E,G⟩:=o.ok.shareP e;refine r B F H _ _ L T n _ _ ⟨E,o.mem,o.nb,(oF C).to o.tp (λ_ _=>rfl) G⟩ h λn1 b a g I q1=>?_;have hk:RA (mask a (xa f q)) (mask a f):=RJ (g q _ (λz=>d (o.mem q z)) A);obtain⟨⟨w,x,y⟩,q1⟩:=q1;obtain⟨c,J,K,kv,j,l,m,s,u⟩:=I;exact k n1 b a g ⟨c,J,K,kv,j,l,m.nl hk (w T kA),s.nl hk x,u.nl hk y⟩ q1
end
end TL
namespace K74
open L2 TL
noncomputable def top(i:Nat):Stmt:=PySem.Challenge.pw_leafjudge_k74_rules_and_steps_as_texts.main.body.getD i (.Pass ⟨0,0,0,0⟩)
structure Txt(K:aI)(mg:Str->Option Value)(ir iu iy iz ja jb jc jd je jf iv iw:Addr)(l4 v9:Addr)(t_SIDES t_SINGLE_WORDS:Addr)(cw bz eh ay ei:Tok):Prop where
 x_Book:mg "Book"=some (.ref l4)
 C_Book:A9 K l4
 K_Book:Mk K l4 ja
 n_Book_form:fY K l4 "form"
 n_Book_deep:fY K l4 "deep"
 n_Book_least:fY K l4 "least"
 n_Book_numbered:fY K l4 "numbered"
 n_Book_following:fY K l4 "following"
 n_Book_standing:fY K l4 "standing"
 M_5:AI K l4 "put" jb
 M_6:AI K l4 "turn" jc
 M_7:AI K l4 "rows" jd
 M_8:AI K l4 "tree" je
 M_9:AI K l4 "refuse_no_row" jf
 M_10:AI K l4 "refuse_no_number" iv
 M_11:AI K l4 "grow_anew" iw
 x_Desk:mg "Desk"=some (.ref v9)
 C_Desk:A9 K v9
 K_Desk:Mk K v9 ir
 n_Desk_form:fY K v9 "form"
 n_Desk_book:fY K v9 "book"
 M_1:AI K v9 "say" iu
 M_2:AI K v9 "done" iy
 M_3:AI K v9 "told_of_book" iz
 D_0:Dg K "__init__" "Desk.__init__" (iU (top 75) 0) ir ["self","form","deep","least"]
 D_1:Dg K "say" "Desk.say" (iU (top 75) 1) iu ["self","text"]
 D_2:Dg K "done" "Desk.done" (iU (top 75) 2) iy ["self","words"]
 D_3:Dg K "told_of_book" "Desk.told_of_book" (iU (top 75) 3) iz ["self","word"]
 D_4:Dg K "__init__" "Book.__init__" (iU (top 49) 0) ja ["self","form","deep","least"]
 D_5:Dg K "put" "Book.put" (iU (top 49) 1) jb ["self","row"]
 D_6:Dg K "turn" "Book.turn" (iU (top 49) 3) jc ["self","number","row"]
 D_7:Dg K "rows" "Book.rows" (iU (top 49) 4) jd ["self"]
 D_8:Dg K "tree" "Book.tree" (iU (top 49) 5) je ["self"]
 D_9:Dg K "refuse_no_row" "Book.refuse_no_row" (iU (top 49) 6) jf ["self","thing"]
 D_10:Dg K "refuse_no_number" "Book.refuse_no_number" (iU (top 49) 7) iv ["self","number"]
 D_11:Dg K "grow_anew" "Book.grow_anew" (iU (top 49) 8) iw ["self"]
 D_12:Df K mg "is_tuple_of" (top 8) ["thing","fewest","most"]
 D_13:Df K mg "is_case" (top 10) ["form","thing"]
 D_14:Df K mg "is_row" (top 11) ["form","thing"]
 D_15:Df K mg "entries_of" (top 12) ["field"]
 D_16:Df K mg "counted" (top 14) ["form","rows"]
 D_17:Df K mg "first_answer" (top 15) ["form","rows"]
 D_18:Df K mg "doubt_of" (top 16) ["form","rows"]
 D_19:Df K mg "fraction" (top 17) ["top","bottom"]
 D_20:Df K mg "common_divisor" (top 18) ["one","other"]
 D_21:Df K mg "added" (top 19) ["one","other"]
 D_22:Df K mg "is_less" (top 20) ["one","other"]
 D_23:Df K mg "common_bottom" (top 21) ["fractions"]
 D_24:Df K mg "questions_of" (top 24) ["form"]
 D_25:Df K mg "questions_on" (top 25) ["field"]
 D_26:Df K mg "choices_of" (top 26) ["form"]
 D_27:Df K mg "side_of" (top 27) ["form","question","stray","case"]
 D_28:Df K mg "field_asked" (top 28) ["form","question"]
 D_29:Df K mg "entries_to_yes" (top 29) ["question","stray","field"]
 D_30:Df K mg "values_held" (top 30) ["question","field"]
 D_31:Df K mg "parted" (top 31) ["form","question","stray","rows"]
 D_32:Df K mg "numbers_on" (top 32) ["side","sides"]
 D_33:Df K mg "is_proper" (top 33) ["sides","fewest"]
 D_34:Df K mg "ranked" (top 35) ["form","rows","least"]
 D_35:Df K mg "rows_at" (top 36) ["rows","numbers"]
 D_36:Df K mg "best" (top 37) ["form","rows","least"]
 D_37:Df K mg "grown" (top 38) ["form","rows","deep","least"]
 D_38:Df K mg "is_leaf" (top 40) ["tree"]
 D_39:Df K mg "on_side" (top 41) ["knot","side"]
 D_40:Df K mg "knots_in" (top 42) ["tree"]
 D_41:Df K mg "way_of" (top 43) ["form","tree","case"]
 D_42:Df K mg "sides_of_way" (top 44) ["form","tree","case"]
 D_43:Df K mg "answer_of" (top 45) ["form","tree","case"]
 D_44:Df K mg "part_at" (top 46) ["tree","place"]
 D_45:Df K mg "changed" (top 50) ["one","other"]
 D_46:Df K mg "cost_of" (top 52) ["form","tree","rows","prices"]
 D_47:Df K mg "first_leaf" (top 54) ["form","rows"]
 D_48:Df K mg "rows_on_sides" (top 55) ["form","knot","rows"]
 D_49:Df K mg "prices_at" (top 56) ["price"]
 D_50:Df K mg "least_pruning" (top 57) ["form","tree","rows","price"]
 D_51:Df K mg "least_with_cost" (top 58) ["form","tree","rows","prices"]
 D_52:Df K mg "steps" (top 59) ["form","tree","rows"]
 D_53:Df K mg "next_price" (top 60) ["form","tree","rows"]
 D_54:Df K mg "slips_and_prices" (top 61) ["form","tree","rows"]
 D_55:Df K mg "rules_of" (top 64) ["form","tree"]
 D_56:Df K mg "whole_lets" (top 65) ["form"]
 D_57:Df K mg "rules_within" (top 66) ["form","tree","lets"]
 D_58:Df K mg "with_let" (top 67) ["lets","number","let"]
 D_59:Df K mg "is_line" (top 76) ["words"]
 D_60:Df K mg "is_number" (top 77) ["word"]
 D_61:Df K mg "row_written" (top 78) ["words"]
 D_62:Df K mg "case_written" (top 79) ["words"]
 D_63:Df K mg "shown_entry" (top 80) ["entry"]
 D_64:Df K mg "shown_rule" (top 83) ["form","rule"]
 D_65:Df K mg "shown_let" (top 84) ["field","let"]
 D_66:Df K mg "shown_step" (top 85) ["price","tree"]
 D_67:Df K mg "_law_tape" (top 87) ["_law_script"]
 D_68:Df K mg "_law_draw" (top 88) ["_law_tape_here","_law_many"]
 D_69:Df K mg "_law_names" (top 89) ["_law_tape_here","_law_many"]
 D_70:Df K mg "_law_form" (top 90) ["_law_tape_here","_law_fields","_law_values"]
 D_71:Df K mg "_law_whole" (top 91) ["_law_form_here"]
 D_72:Df K mg "_law_cases" (top 92) ["_law_form_here"]
 D_73:Df K mg "_law_side" (top 93) ["_law_form_here","_law_knot","_law_case"]
 D_74:Df K mg "_law_questions" (top 94) ["_law_form_here"]
 D_75:Df K mg "_law_counts" (top 95) ["_law_form_here","_law_rows"]
 D_76:Df K mg "_law_doubt" (top 96) ["_law_form_here","_law_rows"]
 D_77:Df K mg "_law_grown" (top 97) ["_law_form_here","_law_rows","_law_deep","_law_few"]
 D_78:Df K mg "_law_drawn_row" (top 98) ["_law_tape_here","_law_form_here"]
 D_79:Df K mg "_law_as_word" (top 99) ["_law_value"]
 D_80:Df K mg "_law_row_text" (top 100) ["_law_row"]
 D_81:Df K mg "_law_leaves" (top 101) ["_law_form_here","_law_tree","_law_cases_here"]
 D_82:Df K mg "_law_rules_text" (top 102) ["_law_form_here","_law_tree"]
 D_83:Df K mg "_law_knots" (top 103) ["_law_tree"]
 D_84:Df K mg "_law_right" (top 104) ["_law_desk","_law_form_here","_law_rows","_law_deep","_law_few"]
 D_law:Df K mg "law" (top 105) ["_law_script"]
 c_SIDES:mg "SIDES"=some (.ref t_SIDES)
 t_SIDES:ZM K t_SIDES ["yes","no"]
 c_MOST_ROWS:mg "MOST_ROWS"=some (.int 60 cw)
 c_MOST_RULES:mg "MOST_RULES"=some (.int 60 bz)
 c_FIGURES:mg "FIGURES"=some (.str "0123456789" eh)
 c_MOST_FIGURES:mg "MOST_FIGURES"=some (.int 9 ay)
 c_SINGLE_WORDS:mg "SINGLE_WORDS"=some (.ref t_SINGLE_WORDS)
 t_SINGLE_WORDS:ZM K t_SINGLE_WORDS ["tree","rows","rules","steps"]
 c_LACKING:mg "LACKING"=some (.str "-" ei)
 L_34:EX K (JH K (EU mg "ranked")).code
 b_ValueError:mg "ValueError"=none
 b_all:mg "all"=none
 b_enumerate:mg "enumerate"=none
 b_int:mg "int"=none
 b_isinstance:mg "isinstance"=none
 b_len:mg "len"=none
 b_list:mg "list"=none
 b_max:mg "max"=none
 b_range:mg "range"=none
 b_sorted:mg "sorted"=none
 b_str:mg "str"=none
 b_sum:mg "sum"=none
 b_tuple:mg "tuple"=none
 b_zip:mg "zip"=none
noncomputable def iR:Str:="abcdefghijklmnopqrstuvwxyz"
noncomputable def yp(c:Nat):Bool:=Txt.contains iR ⟨#[c]⟩
noncomputable def uW(z:Str):Bool:=decide (1<=z.length)&&decide (z.length<=8)&&z.cps.toList.all yp
noncomputable def nm:D->Bool
|.str z=>uW z
|_=>false
noncomputable def vZ(d:D)(lo a:Int):Bool:=match d with | .tuple ts=>decide (lo<=ts.length)&&decide ((ts.length:Int)<=a) | _=>false
noncomputable def ED:D->Str
|.str z=>z
|_=>""
noncomputable def Fc(d:D)(lo a:Int):Bool:=match d with | .tuple ts=>decide (lo<=ts.length)&&decide ((ts.length:Int)<=a)&&ts.all nm&&decide ((ts.map ED).Nodup) | _=>false
noncomputable def fld:D->Bool
|.tuple [n,vs]=>nm n&&Fc vs 2 5
|_=>false
noncomputable def fst:D->D
|.tuple (n::_)=>n
|_=>.none
def Ov:kH:=λb Q=>∃(d:D)(lo a:Int),b=[d,.int lo,.int a]/\d.hasDict=false/\Q (.bool (vZ d lo a))
def HC(n:Nat)(a:List Str):Prop:=a.length=n/\(∀y∈a,uW y=true)/\a.Nodup
noncomputable def iN(f:Str×List Str):D:=.tuple [.str f.1,.tuple (f.2.map aL)]
noncomputable def dY(fs:List (Str×List Str))(an:List Str):D:=.tuple [.tuple (fs.map iN),.tuple (an.map aL)]
structure eV(fs:List (Str×List Str))(an:List Str):Prop where
 n1:1<=fs.length
 n5:fs.length<=5
 nd:HC fs.length (fs.map (·.1))
 vs:∀f∈fs,2<=f.2.length/\f.2.length<=5/\HC f.2.length f.2
 a2:2<=an.length
 a4:an.length<=4
 an:HC an.length an
 n3:fs.length<=3
def Qv:MU:=λa Q=>∃ns:List Int,a=[.list (ns.map bO)]/\ns.length<=63/\∀c:Int,(c=0\/c=1)->Q [.list (ns.map bO),.int 0,.int 0,.int c]
def Qw:kH:=λa Q=>∃(ns:List Int)(m:Int),a=[kK ns,.int m]/\ns.length<=63/\0<m/\m<=10000/\∀r:Int,0<=r->r<m->Q (.int r)
def Qx:kH:=λb Q=>∃(ns:List Int)(m:Nat),b=[kK ns,.int m]/\ns.length<=63/\1<=m/\m<=5/\∀a,HC m a->Q (.list (a.map aL))
def Qy:kH:=λa Q=>∃(ns:List Int)(f v:Nat),a=[kK ns,.int f,.int v]/\ns.length<=63/\1<=f/\f<=3/\2<=v/\v<=5/\∀fs an,eV fs an->fs.length<=f->(∀x∈fs,x.2.length<=v)->Q (dY fs an)
noncomputable def Cv:D->Bool
|.tuple [_,_]=>true
|_=>false
def Vi(d:D):(∃a b,d=.tuple [a,b])\/(vZ d 2 2=false/\Cv d=false):=by
 cases d with
 |tuple c=>
  match c with
  |[]=>exact .inr ⟨kA,kA⟩
  |[_]=>exact .inr ⟨kA,kA⟩
  |[a,b]=>exact .inl ⟨a,b,kA⟩
  |_::_::_::r=>
   refine .inr ⟨?_,kA⟩;simp only[vZ,bN];have:¬(((r.length+1+1+1:Nat):Int)<=2):=by lia
   simp[this];lia
 |_=>exact .inr ⟨kA,kA⟩
def ER{c:Type}{xs:List c}{i:Int}(d:0<=i)(e:i<xs.length):∃a,a∈xs/\L2.atI xs i=some a/\xs[i.toNat]?=some a:=by
 have b:i.toNat<xs.length:=by lia
 refine⟨xs[i.toNat],fL b,?_,aD b⟩;have:=L2.eK (xs:=xs) (j:=i.toNat) (v:=xs[i.toNat]) (aD b)
 rwa [show((i.toNat:Nat):Int)=i by lia]at this
def oA(n:Nat):(fW n).length=n:=by unfold fW;simp
def D0{n k:Nat}(h:(fW n)[k]?=some x):k<n/\x=.int k:=by
 unfold fW at h;rw[aM]at h;by_cases hk:k<n
 ·rw[kJ hk]at h;cases h;exact⟨hk,kA⟩
 ·rw[eB (by simpa using hk)]at h;cases h
def oE{b:Type}(a:List b)(j:Nat):iH a none (some (j:Int))=a.take j:=by
 unfold iH;rw[HT.sIx_none,HT.sIx_nat,wJ,uL];by_cases h:j<=a.length
 ·rw[vM h]
 ·rw[E4 hG,dB,fF hG]
def AC{b:Type}(a:List b)(i:Nat):iH a (some (i:Int)) none=a.drop i:=by
 unfold iH;rw[HT.sIx_none,HT.sIx_nat];by_cases h:i<=a.length
 ·rw[vM h,fF (by rw[eP];lia)]
 ·rw[E4 hG,sU (aN _),sU hG];simp
def Y4{f:Type}(b:List f)(i j:Nat):iH b (some (i:Int)) (some (j:Int))=(b.drop i).take (j-i):=by
 unfold iH;rw[HT.sIx_nat,HT.sIx_nat];apply iY;intro k;rw[nG,nG,nH,nH];by_cases d:i<=b.length
 ·rw[vM d];by_cases e:j<=b.length
  ·rw[vM e]
  ·rw[E4 hG];by_cases c:k<b.length-i
   ·rw[a9 c,a9 hG]
   ·rw[a8 c];by_cases a:k<j-i
    ·rw[a9 a,eB hG]
    ·rw[a8 a]
 ·rw[a8 hG];by_cases a:k<j-i
  ·rw[a9 a,eB hG]
  ·rw[a8 a]
def kB{c d:Type}(f:c->d)(b:List c)(lo a:Option Int):iH (b.map f) lo a=(iH b lo a).map f:=by
 unfold iH;rw[aA,aJc,aJd]
def W5{z:Str}(a:1<=z.cps.toList.length)(b:z.cps.toList.length<=8)(d:∀c∈z.cps.toList,c∈iR.cps.toList):uW z=true:=by
 have e:z.length=z.cps.toList.length:=by simp[q9]
 unfold uW;rw[e,b0 a,b0 b];simp only[lJ,gW];intro c f;unfold yp;rw[X9];exact b0 (d c f)
def IM{z:Str}(h:uW z=true):1<=z.length/\z.length<=8/\∀c∈z.cps.toList,c∈iR.cps.toList:=by
 unfold uW at h;simp only[cS,c6,gW]at h;refine⟨h.1.1,h.1.2,λc a=>?_⟩;have:=h.2 c a;unfold yp at this;rw[X9]at this;exact b8 this
theorem nodup_range{g:Type}{n:Nat}(F:Nat->g)(inj:∀i j,i<n->j<n->F i=F j->i=j):((fZ n).map F).Nodup:=by
 rw[List.Nodup,List.pairwise_map];have:(fZ n).Nodup:=List.nodup_range;refine aJe.imp_of_mem (λ{a b} d f c e=>?_) this;exact c (inj a b (by simpa using d) (by simpa using f) e)
def N7:iR.cps.toList.Nodup:=by decide +kernel
def A0:iR.cps.toList.length=26:=by decide +kernel
def Xg{a:List Nat}(nd:a.Nodup){i j:Nat}{c:Nat}(d:a[i]?=some c)(e:a[j]?=some c):i=j:=by
 obtain⟨f,a2⟩:=aG.mp d;obtain⟨g,b⟩:=aG.mp e;exact(Z3 nd).mp (a2.trans b.symm)
theorem K9:∀{ys},(∀y∈ys,∃c,c∈iR.cps.toList/\y=.str ⟨#[c]⟩)->∃a:List Nat,ys=a.map (λc=>aL ⟨#[c]⟩)/\∀c∈a,c∈iR.cps.toList
|[],_=>⟨[],kA,λc h=>by simp at h⟩
|y::ys,h=>by
 obtain⟨c,e,rfl⟩:=h y (aO ..);obtain⟨a,rfl,b⟩:=K9 (ys:=ys) λy f=>h y (aJ _ f);refine⟨c::a,kA,λd hd=>?_⟩;rcases aR.mp hd with rfl | hd
 ·exact e
 ·exact b d hd
def DX(a:List Nat):(Txt.join ⟨#[]⟩ (a.map λc=>⟨#[c]⟩)).cps.toList=a:=by
 rw[OB,aX]
 induction a with
 |nil=>rfl
 |cons c a b=>rw[bI,ZT,b];rfl
def zp{xs:List Int}{lo d:Int}(h:∀x∈xs,lo<=x/\x<=d){i:Int}(e:0<=i)(f:i<xs.length):∃m:Int,lo<=m/\m<=d/\L2.atI (xs.map bO) i=some (.int m):=by
 obtain⟨a,j,g,_⟩:=ER (xs:=xs.map bO) (i:=i) e (by rw[aA];exact f);obtain⟨b,c,rfl⟩:=aQ.mp j;exact⟨b,(h b c).1,(h b c).2,g⟩
def ZJ{a:List Str}{k:Nat}(h:k<a.length):L2.atI (a.map aL) (k:Int)=some (.str a[k]):=L2.eK (by rw[aM,aD h];rfl)
def HS{c:ET}{i:Nat}(ns:List Int)(b:σ[i]?=some (.val (kK ns)))(a:Int)(h:∀q:D->Prop,q (.int a)->c σ q)(d:0<=a)(k:u DT σ):gL (xT i 1 c) u DT σ:=h _ ⟨⟨ns,b⟩,⟨a,kA,d⟩,k⟩
def xS{c:ET}{i:Nat}(ns:List Int)(b:σ[i]?=some (.val (kK ns)))(a:Int)(h:∀q:D->Prop,q (.int a)->c σ q)(k:u DT σ):gL (xT i 2 c) u DT σ:=h _ ⟨⟨ns,b⟩,⟨a,kA⟩,k⟩
def IG{d:ET}{c:wH}{i:Nat}(ns:List Int)(b:σ[i]?=some (.val (kK ns)))(a:Int)(h:∀q:D->Prop,q (.int a)->d σ q)(k:c.nx σ):xT i 2 d c σ:=h _ ⟨⟨ns,b⟩,⟨a,kA⟩,k⟩
def C5{c:wF}{m:ET}{u:wG}{a:List Sl}{i:Nat}(C:Prop)(R:D->Prop)(h:∀q:Bool->Prop,(∀b,(b=true->C)->q b)->c a q)(n:C->∀q:D->Prop,(∀d,R d->q d)->m a q)(f:D)(g:a[i]?=some (.val f))(p:R f)(k:∀d,R d->u DT (a.set i (.val d))):gL (xc c (LB i m) iI) u DT a:=by
 refine h _ λb o=>?_
 cases b with
 |true=>
  rw[a9 rfl];exact n (o kA) _ k
 |false=>
  rw[a8 gV]
  have e:a.set i (.val f)=a:=by
   apply iY;intro j;by_cases l:i=j
   ·subst l;rw[bV (aG.mp g).1,g]
   ·rw[bU l]
  have:=k f p;rw[e]at this;exact this
def DK{n:Nat}(F:Nat->Str)(h:∀i,i<n->uW (F i)=true)(inj:∀i j,i<n->j<n->F i=F j->i=j):HC n ((fZ n).map F):=
 ⟨hH,λy b=>by
  obtain⟨i,a,rfl⟩:=aQ.mp b;exact h i (by simpa using a),nodup_range F inj⟩
def GK{n:Nat}{a:List Str}(h:HC n a)(t:Nat){m:Nat}(d:m<=n):HC m ((a.drop t++a.take t).take m):=by
 have b:(a.drop t++a.take t).Perm a:=by
  have:(a.take t++a.drop t).Perm a:=by rw[List.take_append_drop]
  exact List.perm_append_comm.trans this
 refine⟨?_,λy c=>h.2.1 y (b.mem_iff.mp (dU c)),(b.nodup_iff.mpr h.2.2).sublist (BA _ _)⟩;rw[bD,b.length_eq,h.1];lia
def SK{n:Nat}{a:List Str}(h:HC n a)(t:Nat):HC n (a.drop t++a.take t):=by
 have e:=GK h t (aN n)
 rwa [fF]at e
 rw[aZ,eP,bD,h.1];lia
def SL{n:Nat}{a:List Str}(h:HC n a){m:Nat}(c:m<=n):HC m (a.take m):=⟨by rw[bD,h.1];lia,λy b=>h.2.1 y (dU b),h.2.2.sublist (BA _ _)⟩
noncomputable def B5:List Str:=["say","ask","is","upto","yes","no","all","in","and","put","out","tree"]
def Lg:HC 12 B5:=⟨kA,eH,eH⟩
def MS{ns:List Int}(h:0<ns.length)(i:Int):∃x:Int,L2.atI (ns.map bO) (i%((ns.map bO).length:Nat))=some (.int x):=by
 rw[aA];obtain⟨a,d,c,_⟩:=ER (xs:=ns.map bO) (i:=i%(ns.length:Nat)) (jX _ hG) (by rw[aA];exact iM _ hG);obtain⟨b,e,rfl⟩:=aQ.mp d;exact⟨b,c⟩
@[irreducible] def T1(i:Nat):Nat:=iR.cps.toList.getD i 0
def CK{i:Nat}(h:i<26):iR.cps.toList[i]?=some (T1 i):=by
 have a:i<iR.cps.toList.length:=by rw[A0];exact h
 unfold T1;rw[dL,aD a];rfl
def Vy{i:Nat}(h:i<26):T1 i∈iR.cps.toList:=aV (CK h)
noncomputable def zG(z:Str)(t k c:Nat):Str:=Txt.slice z none (some (t:Int))++⟨#[c]⟩++Txt.slice z (some ((t:Int)+1)) (some (k:Int))
def rG(z:Str)(t k c:Nat):(zG z t k c).cps.toList=z.cps.toList.take t++(c::(z.cps.toList.drop (t+1)).take (k-(t+1))):=by
 unfold zG;rw[vH,vH,tL,tL];have a:(t:Int)+1=((t+1:Nat):Int):=by lia
 rw[a,Y4,oE];simp
def W3{z:Str}(l:z.cps.toList.length=8)(a:∀c∈z.cps.toList,c∈iR.cps.toList){k m:Nat}(hk:1<=k)(g:k+m<=9):HC m ((fZ m).map λj:Nat=>Txt.slice z none (some ((k:Int)+(j:Int)))):=by
 have e:∀j:Nat,(Txt.slice z none (some ((k:Int)+(j:Int)))).cps.toList=z.cps.toList.take (k+j):=λj=>by
  rw[tL];exact oE _ (k+j)
 refine DK _ (λi f=>?_) λi j f n h=>?_
 ·refine W5 ?_ ?_ λc d=>?_
  ·rw[e,bD];lia
  ·rw[e,bD];lia
  ·rw[e]at d;exact a c (dU d)
 ·have b:=e i;rw[h,e j]at b;have:=e5 jK b;rw[bD,bD]at this;lia
def SJ{z:Str}(o:z.cps.toList.length=8)(a:∀c∈z.cps.toList,c∈iR.cps.toList){k t s m:Nat}(hk:k<=8)(u:t<k)(r:m<=26):HC m ((fZ m).map λj:Nat=>zG z t k (T1 ((s+j)%26))):=by
 refine DK _ (λi n=>?_) λi j n q h=>?_
 ·have e:=rG z t k (T1 ((s+i)%26));refine W5 ?_ ?_ λc hc=>?_
  ·rw[e,aZ,bN];lia
  ·rw[e,aZ,bN,bD,bD,eP];lia
  ·rw[e]at hc;rcases cL.mp hc with hc | hc
   ·exact a c (dU hc)
   ·rcases aR.mp hc with rfl | hc
    ·exact Vy (AL _ gV)
    ·exact a c (RF (dU hc))
 ·have b:=rG z t k (T1 ((s+i)%26));have l:zG z t k (T1 ((s+i)%26))=zG z t k (T1 ((s+j)%26)):=h;rw[l,rG]at b;have f:=List.append_cancel_left b;have g:T1 ((s+j)%26)=T1 ((s+i)%26):=(k9 f).1;have p:=CK (i:=(s+i)%26) (AL _ gV);have d:=CK (i:=(s+j)%26) (AL _ gV);rw[g]at d;have:=Xg N7 p d;lia
def M8(z:Str)(a:z.cps.toList.length=8)(t k c:Nat):(Txt.slice z none (some (t:Int))).length+1<=100000/\(Txt.slice z none (some (t:Int))++(⟨#[c]⟩:Str)).length+(Txt.slice z (some ((t:Int)+1)) (some (k:Int))).length<=100000:=by
 have b:=Txt.slice_le z none (some (t:Int));have a2:=Txt.slice_le z (some ((t:Int)+1)) (some (k:Int));have d:z.length=z.cps.toList.length:=by simp[q9]
 have a4:(Txt.slice z none (some (t:Int))++(⟨#[c]⟩:Str)).length=(Txt.slice z none (some (t:Int))).length+1:=by
  show((Txt.slice z none (some (t:Int))).cps++#[_]).size=_;rw[AM];rfl
 rw[a4];lia
noncomputable def KJ(f:Str×List Str)(d:D):Bool:=match d with | .none=>true | .str z=>decide (z∈f.2) | _=>false
noncomputable def wA(an:List Str)(d:D):Bool:=match d with | .str z=>decide (z∈an) | _=>false
structure Cd(d:D):Prop where
 lay:d.canLay0=true
 dep:d.depth<=60
structure Th(n m:Nat)(d:D):Prop where
 bulk:d.bulk<=n
 fit:d.leavesShort 110=true
 shw:d.showable=true
 nodict:d.hasDict=false
 depth:d.depth<=m
 lay:d.canLay0=true
theorem rJ{n m:Nat}:∀{ts:List D},(∀t∈ts,Th n m t)->vK ts<=ts.length*(n+1)/\MW 110 ts=true/\RD ts=true/\lI ts=false/\fB ts<=m/\dI ts=true
|[],_=>⟨cJ _,kA,kA,kA,cJ _,kA⟩
|t::ts,h=>by
 have a:=h t (aO ..);obtain⟨i,b,c,d,e,f⟩:=rJ (ts:=ts) λx g=>h x (aJ _ g);refine⟨?_,?_,?_,?_,?_,?_⟩
 ·show t.bulk+1+vK ts<=(ts.length+1)*(n+1);have:=a.bulk;rw[nU,aR3];lia
 ·show(t.leavesShort 110&&MW 110 ts)=true;rw[a.fit,b];rfl
 ·show(t.showable&&RD ts)=true;rw[a.shw,c];rfl
 ·show(t.hasDict||lI ts)=false;rw[a.nodict,d];rfl
 ·show max t.depth (fB ts)<=m;exact Nat.max_le.mpr ⟨a.depth,e⟩
 ·show(t.canLay0&&dI ts)=true;rw[a.lay,f];rfl
def sY(n m k:Nat){N M:Nat}{a:List D}(h:∀t∈a,Th n m t)(f:a.length<=k)(l:k*(n+1)<=N)(j:m+1<=M):Th N M (.tuple a):=by
 obtain⟨g,b,c,d,i,e⟩:=rJ h;have:a.length*(n+1)<=k*(n+1):=mL _ f;exact⟨by show vK a<=N;lia,b,c,d,by show fB a+1<=M;lia,e⟩
def Vd(n m k:Nat){N M:Nat}{a:List D}(h:∀t∈a,Th n m t)(f:a.length<=k)(l:k*(n+1)<=N)(j:m+1<=M):Th N M (.list a):=by
 obtain⟨g,b,c,d,i,e⟩:=rJ h;have:a.length*(n+1)<=k*(n+1):=mL _ f;exact⟨by show vK a<=N;lia,b,c,d,by show fB a+1<=M;lia,e⟩
def BY{n m:Nat}:Th n m .none:=⟨cJ _,kA,kA,kA,cJ _,kA⟩
def AO{z:Str}(b:∀c∈z.cps.toList,c<1000):aFz z=true:=by
 unfold aFz;rw[<- Array.all_toList,gW];intro c a;have:=b c a;exact b0 hG
def Vf{n m:Nat}{z:Str}(h:z.length<=n)(a:∀c∈z.cps.toList,c<1000):Th n m (.str z):=by
 refine⟨h,?_,kA,kA,cJ _,AO a⟩;show(z.cps.toList.all λc=>decide (c<16^8))=true;rw[gW];intro c b;have:=a c b;exact b0 hG
def SV{c:Nat}(h:c∈iR.cps.toList):c<128:=by
 have:∀c∈iR.cps.toList,c<128:=by decide +kernel
 exact this c h
def tU{y:Str}(h:uW y=true):y.length<=8/\∀c∈y.cps.toList,c<128:=⟨(IM h).2.1,λc a=>SV ((IM h).2.2 c a)⟩
def jR(h:uW y=true){n m:Nat}(b:8<=n):Th n m (.str y):=Vf (bE (tU h).1 b) λc a=>by have:=(tU h).2 c a;lia
def BX{a:List Str}(h:∀y∈a,uW y=true){n m:Nat}(b:8<=n):∀t∈a.map aL,Th n m t:=λt c=>by
 obtain⟨y,d,rfl⟩:=aQ.mp c;exact jR (h y d) b
def yV{n m:Nat}:∀t∈([]:List D),Th n m t:=λt h=>by simp at h
def all_cons{n m:Nat}(h:Th n m a)(b:∀t∈ts,Th n m t):∀t∈a::ts,Th n m t:=λt ht=>by
 rcases aR.mp ht with rfl | ht
 ·exact h
 ·exact b t ht
def Vv{n m:Nat}{a bs:List D}(h:∀t∈a,Th n m t)(b:∀t∈bs,Th n m t):∀t∈a++bs,Th n m t:=λt c=>(cL.mp c).elim (h t) (b t)
def Th.cd{n m:Nat}(h:Th n m d)(a:m<=60):Cd d:=⟨h.lay,bE h.depth a⟩
theorem P9:∀{ts}{t:D},dI ts=true->t∈ts->t.canLay0=true
|a::r,t,h,hm=>by
 have b:(a.canLay0&&dI r)=true:=h;rw[cS]at b;rcases aR.mp hm with rfl | hm
 ·exact b.1
 ·exact P9 b.2 hm
theorem G6:∀{ts}{t:D},t∈ts->t.depth<=fB ts
|a::r,t,hm=>by
 show t.depth<=max a.depth (fB r);rcases aR.mp hm with rfl | hm
 ·exact aF0 _ _
 ·exact bE (G6 hm) (aDp _ _)
def Cd.item(h:Cd (.tuple ts))(a:t∈ts):Cd t:=⟨P9 h.lay a,by
 have b:fB ts+1<=60:=h.dep;have:=G6 a;lia⟩
section
variable{fs:List (Str×List Str)}{an:List Str}
def eV.name(F:eV fs an){f:Str×List Str}(h:f∈fs):uW f.1=true:=F.nd.2.1 _ (aQ.mpr ⟨f,h,kA⟩)
def eV.vals(F:eV fs an){f:Str×List Str}(h:f∈fs):∀y∈f.2,uW y=true:=(F.vs f h).2.2.2.1
end
def yI{Q:D->Prop}(a:wR x (.tuple ts))(b:Q (.bool (FM x (.tuple ts)))):zc x (.tuple ts) Q:=by
 cases x<;>exact⟨a,b⟩
def YR{Q:D->Prop}(a:wR x (.list ts))(b:Q (.bool (FM x (.list ts)))):zc x (.list ts) Q:=by
 cases x<;>exact⟨a,b⟩
def yU(d:D)(a:List Str):((a.map aL).any λz=>cM z d)=wA a d:=by
 induction a with
 |nil=>cases d<;>rfl
 |cons y a b=>
  rw[bI,jL,b]
  cases d with
  |str z=>
   show((y==z)||decide (z∈a))=decide (z∈y::a);rw[dN];simp only[jT,af,c6,aR];exact⟨λh=>h.imp br id,λh=>h.imp br id⟩
  |_=>rfl
def OF(f:Str×List Str)(d:D):FM d (.tuple (f.2.map aL++[.none]))=KJ f d:=by
 show((f.2.map aL++[BS]).any λz=>cM z d)=KJ f d;rw[aDv,yU];cases d<;>simp[wA,KJ,cM]
def IH{ys:List Str}(h:∀y∈ys,uW y=true)(hd:Cd d):wR d (.tuple (ys.map aL)):=by
 obtain⟨_,_,_,_,b,a⟩:=rJ (BX h (aN 8) (m:=0));exact⟨a,hd.lay,by have:=hd.dep;lia⟩
def DJ{a:List Str}(h:∀y∈a,uW y=true){d:D}(hd:Cd d):wR d (.tuple (a.map aL++[.none])):=by
 obtain⟨_,_,_,_,c,b⟩:=rJ (Vv (BX h (aN 8) (m:=0)) (all_cons BY yV));exact⟨b,hd.lay,by have:=hd.dep;lia⟩
theorem JC:∀{a:List Str}{z}{m:Nat},m<a.idxOf z->a[m]?≠some z
|[],z,m,h=>by simp at h
|y::a,z,m,h=>by
 rw[List.idxOf_cons]at h;by_cases e:y=z
 ·subst e;simp at h
 ·have b:(y==z)=false:=by simpa using e
  rw[b]at h;simp only[cond_false]at h
  cases m with
  |zero=>simpa using e
  |succ m=>
   rw[iX];exact JC hG
def VL{t:FT}{a:List Sl}{i:Nat}(b:List D)(h:∀q:List D->Prop,q b->t a q)(k:u DT (a.set i (.own b))):gL (GE i t) u DT a:=h _ k
noncomputable def gH(fs:List (Str×List Str))(d:D):Bool:=match d with | .tuple ts=>decide (ts.length=fs.length)&&(fs.zip ts).all (λp=>KJ p.1 p.2) | _=>false
section
variable{fs:List (Str×List Str)}{an:List Str}
def lQ{a:List D}(h:gH fs (.tuple a)=true):a.length=fs.length/\∀(k:Nat) f c,fs[k]?=some f->a[k]?=some c->KJ f c=true:=by
 unfold gH at h;simp only[cS,c6,gW]at h;refine⟨h.1,λk f c b d=>?_⟩;exact h.2 (f,c) (aV ((eD (z:=(f,c))).mpr ⟨b,d⟩))
def Wu{a:List D}(e:a.length=fs.length)(h:∀(k:Nat) f c,fs[k]?=some f->a[k]?=some c->KJ f c=true):gH fs (.tuple a)=true:=by
 unfold gH;simp only[cS,c6,gW];refine⟨e,λp g=>?_⟩;obtain⟨k,hk⟩:=cT g;obtain⟨b,d⟩:=eD.mp hk;exact h k p.1 p.2 b d
def EO(F:eV fs an)(h:gH fs (.tuple cs)=true){n m:Nat}(e:8<=n):∀c∈cs,Th n m c:=λc b=>by
 obtain⟨d,f⟩:=lQ h;obtain⟨k,hk⟩:=cT b;have a:k<fs.length:=by rw[<- d];exact(aG.mp hk).1
 have:=f k fs[k] c (aD a) hk
 cases c with
 |none=>exact BY
 |str z=>exact jR (F.vals (fL a) z (b8 this)) e
 |_=>cases this
end
noncomputable def cV(r:List D×Str):D:=.tuple [.tuple r.1,.str r.2]
def mN(fs:List (Str×List Str))(an:List Str)(r:List D×Str):Prop:=gH fs (.tuple r.1)=true/\r.2∈an
def fK(fs:List (Str×List Str))(an:List Str)(a:List (List D×Str)):Prop:=∀r∈a,mN fs an r
def U9{fs}(F:eV fs an)(h:mN fs an r):Th 92 2 (cV r):=by
 have n5:=F.n5;exact sY 45 1 2 (all_cons (sY 8 0 5 (EO F h.1 (aN 8)) (by rw[(lQ h.1).1];exact n5) gV gV) (all_cons (jR (F.an.2.1 _ h.2) gV) yV)) hI gV gV
def Bw{fs}(F:eV fs an){a:List (List D×Str)}(h:fK fs an a)(b:a.length<=60):Th 6000 3 (.list (a.map cV)):=
 Vd 92 2 60 (λt d=>by
  obtain⟨r,c,rfl⟩:=aQ.mp d;exact U9 F (h r c)) (by rw[aA];exact b) gV gV
noncomputable def xf(f:Str×List Str)(k v:D):Bool:=match k,v with
|.str kk,.str z=>decide (z∈f.2)&&(decide (kk="is")||(decide (kk="upto")&&decide (f.2.idxOf z+1<f.2.length)))
|_,_=>false
noncomputable def yw(n:D)(f:Str×List Str):Bool:=match n with | .str z=>decide (f.1=z) | _=>false
noncomputable def QG(fs:List (Str×List Str))(d:D):Bool:=match d with
|.tuple [k,n,v]=>fs.any λf=>yw n f&&xf f k v
|_=>false
noncomputable def wj(k:Str)(f:Str×List Str)(z:Str):D:=.tuple [.str k,.str f.1,.str z]
noncomputable def C7(f:Str×List Str):List Str:=if f.2.length=2 then f.2.take 1 else f.2
noncomputable def vP(f:Str×List Str):List Str:=(f.2.drop 1).take (f.2.length-3)
noncomputable def KI(f:Str×List Str):List D:=(C7 f).map (wj "is" f)++(vP f).map (wj "upto" f)
noncomputable def gG(fs:List (Str×List Str)):List D:=(fs.map KI).flatten
def Qp:MU:=λa Q=>∃(fs:List (Str×List Str))(an:List Str),a=[dY fs an]/\eV fs an/\Q (gG fs)
def YA{a:List Str}{j:Nat}(h:a[j]?=some z):a.idxOf z<=j:=by
 by_cases q:a.idxOf z<=j
 ·exact q
 ·exact b9 h (JC hG)
def XH{f:Str×List Str}(h:z∈vP f):z∈f.2/\f.2.idxOf z+1<f.2.length:=by
 unfold vP at h;have b:z∈f.2:=RF (dU h);refine⟨b,?_⟩;obtain⟨i,a⟩:=cT h;have c:=(aG.mp a).1;rw[bD,eP]at c;rw[nG,a9 hG,nH]at a;have:=YA a;lia
def X6{fs k}(a:f∈fs)(h:xf f (.str k) (.str z)=true):QG fs (wj k f z)=true:=by
 show(fs.any λg=>yw (.str f.1) g&&xf g (.str k) (.str z))=true;rw[sQ];refine⟨f,a,?_⟩;show(decide (f.1=f.1)&&xf f (.str k) (.str z))=true;rw[h,b0 rfl];rfl
def EL{fs}(h:d∈gG fs):∃f∈fs,(∃z∈f.2,d=wj "is" f z)\/(∃z,z∈f.2/\f.2.idxOf z+1<f.2.length/\d=wj "upto" f z):=by
 unfold gG at h;obtain⟨l,c,hd⟩:=List.mem_flatten.mp h;obtain⟨f,b,rfl⟩:=aQ.mp c;refine⟨f,b,?_⟩;unfold KI at hd;rcases cL.mp hd with q | q
 ·obtain⟨z,a,rfl⟩:=aQ.mp q;refine .inl ⟨z,?_,kA⟩;unfold C7 at a;split at a
  ·exact dU a
  ·exact a
 ·obtain⟨z,a,rfl⟩:=aQ.mp q;exact .inr ⟨z,(XH a).1,(XH a).2,kA⟩
def OP{fs}(h:d∈gG fs):QG fs d=true:=by
 obtain⟨f,b,⟨z,a,rfl⟩ | ⟨z,a,c,rfl⟩⟩:=EL h
 ·refine X6 b ?_;show(decide (z∈f.2)&&(decide (("is":Str)="is")||_))=true;rw[b0 a];rfl
 ·refine X6 b ?_;show(decide (z∈f.2)&&(decide (("upto":Str)="is")||(decide (("upto":Str)="upto")&&decide (f.2.idxOf z+1<f.2.length))))=true;rw[b0 a,b0 c,b0 (rfl:("upto":Str)="upto")];simp
def Jz:uW "is"=true:=by decide +kernel
def Xf:uW "upto"=true:=by decide +kernel
def Ve{fs}(F:eV fs an){k}(hk:uW k=true){f:Str×List Str}(a:f∈fs)(b:z∈f.2):Th 27 1 (wj k f z):=
 sY 8 0 3 (all_cons (jR hk (aN _)) (all_cons (jR (F.name a) (aN _)) (all_cons (jR (F.vals a z b) (aN _)) yV))) hI gV gV
theorem mY{fs}(F:eV fs an):∀a:List (Str×List Str),(∀g∈a,g∈fs)->(gG a).length<=10*a.length
|[],_=>aN _
|g::a,h=>by
 have d:=mY F a λx b=>h x (aJ _ b);obtain⟨_,e,_⟩:=F.vs g (h g (aO ..));show((KI g::a.map KI).flatten).length<=_;rw[ZT,aZ]
 have c:(KI g).length<=10:=by
  unfold KI C7 vP;rw[aZ,aA,aA,bD,eP];split
  ·rw[bD];lia
  ·lia
 have:(gG a).length=((a.map KI).flatten).length:=rfl;rw[bN];lia
def qT{a:List Str}(e:∀y∈a,uW y=true)(f:z∈a):SF (a.map aL) (.str z) (a.idxOf z):=by
 have c:a.idxOf z<a.length:=kC.mpr f;obtain⟨_,_,_,_,i,g⟩:=rJ (BX e (aN 8) (m:=0));refine⟨g,(jR (e z f) (aN 8) (m:=0)).lay,hG,⟨.str z,?_,?_⟩,λm t h b=>?_⟩
 ·rw[aM,aD c,nF c];rfl
 ·show(z==z)=true;simp
 ·rw[aM]at b
  cases d:a[m]? with
  |none=>rw[d]at b;cases b
  |some y=>
   rw[d]at b;cases b;show(y==z)=false
   have:y≠z:=λq=>by
    subst q;exact JC h d
   simpa using this
inductive Tr | say (a:Str) | ask (k n v s:Str) (y m:Tr)
noncomputable def gE:Tr->D
|.say a=>.tuple [.str "say",.str a]
|.ask k n v s y m=>.tuple [.str "ask",.tuple [.str k,.str n,.str v],.str s,gE y,gE m]
noncomputable def Tr.dep:Tr->Nat
|.say _=>0
|.ask _ _ _ _ y m=>max y.dep m.dep+1
noncomputable def Tr.kn:Tr->Nat
|.say _=>0
|.ask _ _ _ _ y m=>y.kn+m.kn+1
noncomputable def Tr.nodes:Tr->Nat
|.say _=>1
|.ask _ _ _ _ y m=>y.nodes+m.nodes+1
def lZ(fs:List (Str×List Str))(an:List Str):Tr->Prop
|.say a=>a∈an
|.ask k n v s y m=>QG fs (.tuple [.str k,.str n,.str v])=true/\(s="yes"\/s="no")/\lZ fs an y/\lZ fs an m
def CC{fs}{k n v:Str}(h:QG fs (.tuple [.str k,.str n,.str v])=true):∃f∈fs,f.1=n/\v∈f.2/\(k="is"\/(k="upto"/\f.2.idxOf v+1<f.2.length)):=by
 obtain⟨f,c,b⟩:=sQ.mp (h:(fs.any λf=>yw (.str n) f&&xf f (.str k) (.str v))=true);rw[cS]at b;have a:(decide (v∈f.2)&&(decide (k="is")||(decide (k="upto")&&decide (f.2.idxOf v+1<f.2.length))))=true:=b.2;simp only[cS,jT,c6]at a;exact⟨f,c,b8 b.1,a.1,a.2⟩
def IL:uW "yes"=true:=by decide +kernel
def P5:uW "no"=true:=by decide +kernel
def Gx:uW "say"=true:=by decide +kernel
def W4:uW "ask"=true:=by decide +kernel
def By{fs}(F:eV fs an){k}(h:QG fs (.tuple [.str k,.str n,.str v])=true):Th 27 1 (.tuple [.str k,.str n,.str v]):=by
 obtain⟨f,a,rfl,b,hk⟩:=CC h;refine Ve F ?_ a b;rcases hk with rfl | ⟨rfl,_⟩
 ·exact Jz
 ·exact Xf
theorem zw{fs}(F:eV fs an):∀t:Tr,lZ fs an t->Th (68*t.kn+18) (t.dep+1) (gE t)
|.say a,h=>sY 8 0 2 (all_cons (jR Gx (aN _)) (all_cons (jR (F.an.2.1 a h) (aN _)) yV)) hI (by show 2*(8+1)<=68*0+18;decide) (aN _)
|.ask k n v s y m,h=>by
 obtain⟨p,r,u,o⟩:=h;have d:=zw F y u;have c:=zw F m o;have q:=By F p
 have w:uW s=true:=by
  rcases r with rfl | rfl
  ·exact IL
  ·exact P5
 have e:=jR w (n:=8) (m:=0) (aN _);have b:=jR W4 (n:=8) (m:=0) (aN _);have j:PyData.bulk (gE (.ask k n v s y m))=(aL "ask").bulk+1+((bS [.str k,.str n,.str v]).bulk+1+((aL s).bulk+1+((gE y).bulk+1+((gE m).bulk+1+0)))):=rfl;have l:PyData.depth (gE (.ask k n v s y m))=max (aL "ask").depth (max (bS [.str k,.str n,.str v]).depth (max (aL s).depth (max (gE y).depth (max (gE m).depth 0))))+1:=rfl;refine⟨?_,?_,?_,?_,?_,?_⟩
 ·rw[j];have f:=d.bulk;have a2:=c.bulk;have g:=q.bulk;have a4:=e.bulk;have i:=b.bulk;show _<=68*(y.kn+m.kn+1)+18;lia
 ·show((aL "ask").leavesShort 110&&((bS [.str k,.str n,.str v]).leavesShort 110&&((aL s).leavesShort 110&&((gE y).leavesShort 110&&((gE m).leavesShort 110&&true)))))=true;rw[b.fit,q.fit,e.fit,d.fit,c.fit];rfl
 ·show((aL "ask").showable&&((bS [.str k,.str n,.str v]).showable&&((aL s).showable&&((gE y).showable&&((gE m).showable&&true)))))=true;rw[b.shw,q.shw,e.shw,d.shw,c.shw];rfl
 ·show((aL "ask").hasDict||((bS [.str k,.str n,.str v]).hasDict||((aL s).hasDict||((gE y).hasDict||((gE m).hasDict||false)))))=false;rw[b.nodict,q.nodict,e.nodict,d.nodict,c.nodict];rfl
 ·rw[l];have f:=d.depth;have a2:=c.depth;have g:=q.depth;have a4:=e.depth;have i:=b.depth;show _<=max y.dep m.dep+1+1;lia
 ·show((aL "ask").canLay0&&((bS [.str k,.str n,.str v]).canLay0&&((aL s).canLay0&&((gE y).canLay0&&((gE m).canLay0&&true)))))=true;rw[b.lay,q.lay,e.lay,d.lay,c.lay];rfl
theorem Tr.nodes_kn:∀t:Tr,t.nodes=2*t.kn+1
|.say _=>rfl
|.ask _ _ _ _ y m=>by
 show y.nodes+m.nodes+1=2*(y.kn+m.kn+1)+1;have:=nodes_kn y;have:=nodes_kn m;lia
theorem Tr.kn_dep:∀t:Tr,t.kn<2^t.dep
|.say _=>by show 0<2^0;decide
|.ask _ _ _ _ y m=>by
 have:=kn_dep y;have:=kn_dep m;show y.kn+m.kn+1<2^(max y.dep m.dep+1);have a:2^y.dep<=2^(max y.dep m.dep):=eS gV (aF0 ..);have b:2^m.dep<=2^(max y.dep m.dep):=eS gV (aDp ..);rw[aRl];lia
def Tr.nodes_pos(t:Tr):1<=t.nodes:=by rw[t.nodes_kn];lia
def zM{c:wF}(P:Nat->List Sl->Prop)(e:Nat)(f:P e σ)
  (h:∀n a,P n a->∃b:Bool,(∀q:Bool->Prop,q b->c a q)/\(if b=true then tb { DT with nx:=λd=>∃m,m<n/\P m d,ct:=λd=>∃m,m<n/\P m d,bk:=u DT } a else u DT a)):gL (VM c tb) u DT σ:=
 ⟨P,⟨e,f⟩,λn a g=>let ⟨_,h1,h2⟩:=h n a g;h1 _ h2⟩
def Ww(a:List Str)(h:2<=a.length):iH a (some 1) (some (-2))=(a.drop 1).take (a.length-3):=by
 unfold iH
 have b:HT.sIx a.length 0 (some 1)=1:=by
  show(if(1:Int)<0 then((1:Int)+(a.length:Int)).toNat else min (1:Int).toNat a.length)=_;rw[a8 gV];show min 1 a.length=1;lia
 have c:HT.sIx a.length a.length (some (-2))=a.length-2:=by
  show(if(-2:Int)<0 then((-2:Int)+(a.length:Int)).toNat else min (-2:Int).toNat a.length)=_;rw[a9 gV];lia
 rw[b,c];congr 1
def Wx(a:List Str)(h:2<=a.length):iH a none (some 1)=a.take 1:=oE a 1
def Qq:MU:=λa Q=>∃f:Str×List Str,a=[iN f]/\2<=f.2.length/\f.2.length<=5/\Q (KI f)
abbrev Rw:=List D×Str
noncomputable def sR(b:List Rw)(a:Str):Nat:=b.countP λr=>decide (r.2=a)
noncomputable def iO(an:List Str)(b:List Rw):List Int:=an.map λa=>(sR b a:Int)
noncomputable def BF(ss a:List Rw):Nat:=(ss.map λr=>a.countP λo=>decide (o.2≠r.2)).sum
noncomputable def XQ(a b:Nat):D:=.tuple [.int ((a / a.gcd b:Nat):Int),.int ((b / a.gcd b:Nat):Int)]
def uI(an:List Str)(c:List Rw)(a:Str):Prop:=∃k,an[k]?=some a/\(∀(j:Nat) b,an[j]?=some b->sR c b<=sR c a)/\∀(j:Nat) b,j<k->an[j]?=some b->sR c b<sR c a
def Eu:kH:=λc Q=>∃a b:Nat,c=[.int a,.int b]/\0<b/\a<2^190/\b<2^190/\Q (XQ a b)
def Oz:MU:=λb Q=>∃(fs:List (Str×List Str))(an:List Str)(a:List Rw),b=[dY fs an,.list (a.map cV)]/\eV fs an/\fK fs an a/\a.length<=60/\Q ((iO an a).map bO)
def OK:kH:=λc Q=>∃(fs:List (Str×List Str))(an:List Str)(b:List Rw),c=[dY fs an,.list (b.map cV)]/\eV fs an/\fK fs an b/\b.length<=60/\∀a,uI an b a->Q (.str a)
def Qj:kH:=λb Q=>∃(fs:List (Str×List Str))(an:List Str)(a:List Rw),b=[dY fs an,.list (a.map cV)]/\eV fs an/\fK fs an a/\a.length<=60/\Q (XQ (BF a a) (max 1 a.length))
theorem NP:∀(ss a:List Rw),BF ss a<=ss.length*a.length
|[],a=>by show 0<=_;lia
|s::ss,a=>by
 have:=NP ss a;have b:a.countP (λo=>decide (o.2≠s.2))<=a.length:=O3;show a.countP (λo=>decide (o.2≠s.2))+BF ss a<=(ss.length+1)*a.length;rw[nU,aR3];lia
def Y6(b:List Rw)(a:Str):sR b a<=b.length:=O3
theorem D6{a:Type}[DecidableEq a]:∀(l:List a)(x:a),x∈l->∃k:Nat,l[k]?=some x/\∀j:Nat,j<k->l[j]?≠some x
|y::l,x,h=>by
 by_cases e:y=x
 ·exact⟨0,by rw[e];rfl,λj d=>by lia⟩
 ·obtain⟨k,b,c⟩:=D6 l x ((aR.mp h).resolve_left λz=>e z.symm);refine⟨k+1,b,λj d=>?_⟩
  cases j with
  |zero=>exactλz=>e (c5 z)
  |succ j=>exact c j hG
noncomputable def rN(f:Str×List Str)(k v st:Str)(c:D):Str:=match c with
|.none=>st
|.str z=>if k="is" then(if z=v then "yes" else "no")else if f.2.idxOf z<=f.2.idxOf v then "yes" else "no"
|_=>""
noncomputable def eJ(fs:List (Str×List Str))(k n v st:Str)(a:List D):Str:=match fs[(fs.map (·.1)).idxOf n]?,a[(fs.map (·.1)).idxOf n]? with
|some f,some c=>rN f k v st c
|_,_=>""
def Qs:kH:=λb Q=>∃(fs:List (Str×List Str))(an:List Str)(k n v st:Str)(a:List D),b=[dY fs an,.tuple [.str k,.str n,.str v],.str st,.tuple a]/\eV fs an/\QG fs (.tuple [.str k,.str n,.str v])=true/\(st="yes"\/st="no")/\gH fs (.tuple a)=true/\Q (.str (eJ fs k n v st a))
noncomputable def tS(fs:List (Str×List Str))(k n v st:Str)(a:List (List D×Str))(w:Str)(x:D):Bool:=match x with
|.int i=>match L2.atI a i with | some r=>decide (eJ fs k n v st r.1=w) | none=>false
|_=>false
noncomputable def iG(fs:List (Str×List Str))(k n v st:Str)(a:List (List D×Str))(w:Str):List D:=(fW a.length).filter (tS fs k n v st a w)
def Pm:xj:=λb Q=>∃(fs:List (Str×List Str))(an:List Str)(k n v st:Str)(a:List (List D×Str)),b=[dY fs an,.tuple [.str k,.str n,.str v],.str st,.list (a.map cV)]/\eV fs an/\QG fs (.tuple [.str k,.str n,.str v])=true/\(st="yes"\/st="no")/\fK fs an a/\a.length<=60/\Q (iG fs k n v st a "yes") (iG fs k n v st a "no")
def B6{fs:List (Str×List Str)}(F:eV fs an){j:Nat}{f:Str×List Str}(h:fs[j]?=some f):(fs.map (·.1)).idxOf f.1=j:=by
 have d:f.1∈fs.map (·.1):=aQ.mpr ⟨f,aV h,kA⟩;have a:(fs.map (·.1)).idxOf f.1<(fs.map (·.1)).length:=kC.mpr d;have b:(fs.map (·.1))[(fs.map (·.1)).idxOf f.1]?=some f.1:=by rw[aD a,nF a]
 have c:(fs.map (·.1))[j]?=some f.1:=by rw[aM,h];rfl
 exact(List.getElem?_inj a F.nd.2.2).mp (b.trans c.symm)
def xQ{fs}(F:eV fs an){k st}{j:Nat}{f:Str×List Str}(a:fs[j]?=some f)(b:cs[j]?=some c)(d:f.1=n):eJ fs k n v st cs=rN f k v st c:=by
 subst d;unfold eJ;rw[B6 F a,a,b]
noncomputable def An(fs:List (Str×List Str))(k n v st:Str)(x:D):D:=match x with | .tuple [.tuple cs,_]=>.str (eJ fs k n v st cs) | _=>.none
def tR{c:ET}{b:wH}{a:List Sl}{i:Nat}{ts us:List D}(d:a[i]?=some (.own ts))(e:ts.length+us.length<=100000)(h:∀q:D->Prop,q (.list us)->c a q)(k:b.nx (a.set i (.own (ts++us)))):Ep i c b a:=⟨ts,d,h _ ⟨us,kA,e,k⟩⟩
def SE{fs k st}{j:Nat}{r:List D×Str}(h:rs[j]?=some r):tS fs k n v st rs w (.int (j:Int))=decide (eJ fs k n v st r.1=w):=by
 show(match L2.atI rs (j:Int)with | some r=>decide (eJ fs k n v st r.1=w) | none=>false)=_;rw[L2.eK h]
noncomputable def D2(k v:Str)(f:Str×List Str):List Str:=if k="is" then[v]else f.2.take (f.2.idxOf v+1)
def Pl:kH:=λa Q=>∃(k n v:Str)(f:Str×List Str),a=[.tuple [.str k,.str n,.str v],iN f]/\(∀y∈f.2,uW y=true)/\v∈f.2/\f.2.length<=5/\Q (.tuple ((D2 k v f).map aL))
def S7{f:Str×List Str}{k v st z:Str}(d:z∈f.2):(if wA (D2 k v f) (.str z)=true then("yes":Str)else "no")=rN f k v st (.str z):=by
 show(if decide (z∈D2 k v f)=true then("yes":Str)else "no")=if k="is" then(if z=v then("yes":Str)else "no")else if f.2.idxOf z<=f.2.idxOf v then("yes":Str)else "no";unfold D2;by_cases hk:k="is"
 ·rw[a9 hk,a9 hk];by_cases e:z=v
  ·rw[a9 e,a9 (b0 (bP.mpr e))]
  ·rw[a8 e,a8 (λq=>e (bP.mp (b8 q)))]
 ·rw[a8 hk,a8 hk];have b:f.2.idxOf z<f.2.length:=kC.mpr d;by_cases e:f.2.idxOf z<=f.2.idxOf v
  ·rw[a9 e,a9];refine b0 (aV (i:=f.2.idxOf z) ?_);rw[nG,a9 hG,aD b,nF b]
  ·rw[a8 e,a8];intro q;obtain⟨i,a⟩:=cT (b8 q);have c:=(aG.mp a).1;rw[bD]at c;rw[nG,a9 hG]at a;have:=YA a;lia
def L6{f:Str×List Str}{k}(a:v∈f.2)(h:y∈D2 k v f):y∈f.2:=by
 unfold D2 at h;split at h
 ·rw[bP.mp h];exact a
 ·exact dU h
noncomputable def oK(k v st:Str)(f:Str×List Str):List D:=(D2 k v f).map aL++(if st="yes" then[BS]else[])
def Pk:kH:=λa Q=>∃(k n v st:Str)(f:Str×List Str),a=[.tuple [.str k,.str n,.str v],.str st,iN f]/\(∀y∈f.2,uW y=true)/\v∈f.2/\f.2.length<=5/\Q (.tuple (oK k v st f))
def Qt:kH:=λa Q=>∃(fs:List (Str×List Str))(an:List Str)(k n v:Str)(f:Str×List Str)(j:Nat),a=[dY fs an,.tuple [.str k,.str n,.str v]]/\eV fs an/\fs[j]?=some f/\f.1=n/\Q (.int (j:Int))
def YC{k}{f:Str×List Str}(h:f.2.length<=5):(D2 k v f).length<=5:=by
 unfold D2;split
 ·show 1<=5;decide
 ·rw[bD];lia
def D1{k v st:Str}(a:st="yes"\/st="no")(b:KJ f c=true):(if FM c (.tuple (oK k v st f))=true then("yes":Str)else "no")=rN f k v st c:=by
 have e:FM c (.tuple (oK k v st f))=(wA (D2 k v f) c||((if st="yes" then[BS]else[]).any λz=>cM z c)):=by
  show((oK k v st f).any λz=>cM z c)=_;unfold oK;rw[aDv,yU]
 cases c with
 |none=>
  rw[e];rcases a with rfl | rfl<;>rfl
 |str z=>
  have g:z∈f.2:=b8 b
  have d:((if st="yes" then[BS]else[]).any λx=>cM x (.str z))=false:=by
   rcases a with rfl | rfl<;>rfl
  rw[e,d,KR];exact S7 g
 |_=>cases b
def LM{k st}{f:Str×List Str}(b:∀y∈f.2,uW y=true)(c:v∈f.2)(hd:Cd d):wR d (.tuple (oK k v st f)):=by
 unfold oK;split
 ·exact DJ (λy a=>b y (L6 c a)) hd
 ·rw[dH];exact IH (λy a=>b y (L6 c a)) hd
noncomputable def xq(w:Str)(x:D):Bool:=match x with | .tuple [_,.str s]=>decide (s=w) | _=>false
noncomputable def xx(ss:List Str)(w:Str)(x:D):Bool:=match x with | .int i=>(match L2.atI ss i with | some s=>decide (s=w) | none=>false) | _=>false
noncomputable def yy(ss:List Str)(x:D):D:=match x with | .int i=>(match L2.atI ss i with | some s=>.str s | none=>.none) | _=>.none
noncomputable def zd(x:D):D:=match x with | .tuple [a,_]=>a | _=>x
def G5(ss:List Str):wC (ss.map aL)=(fW ss.length).map λx=>.tuple [x,yy ss x]:=by
 apply iY;intro i
 cases h:ss[i]? with
 |none=>
  have b:=qL.mp h;rw[eB (by rw[lW,aA];exact b),eB (by rw[aA,oA];exact b)]
 |some s=>
  have b:=(aG.mp h).1;rw[qW (a:=.str s) (by rw[aM,h];rfl),aM];unfold fW;rw[aM,kJ b];show _=some (bS [.int (i:Int),match L2.atI ss (i:Int)with | some s=>.str s | none=>.none]);rw[L2.eK h]
def MC(ss:List Str)(w:Str):((wC (ss.map aL)).filter (xq w)).map zd=(fW ss.length).filter (xx ss w):=by
 rw[G5,lH,aX];have a:(zd∘λx=>bS [x,yy ss x])=id:=by funext x;rfl
 have b:(xq w∘λx=>bS [x,yy ss x])=xx ss w:=by
  funext x
  cases x with
  |int i=>
   show xq w (.tuple [.int i,(match L2.atI ss i with | some s=>aL s | none=>.none)])=(match L2.atI ss i with | some s=>decide (s=w) | none=>false);cases L2.atI ss i<;>rfl
  |_=>rfl
 rw[a,b,mG]
def Pn:MU:=λa Q=>∃(w:Str)(ss:List Str),a=[.str w,.list (ss.map aL)]/\ss.length<=60/\Q ((fW ss.length).filter (xx ss w))
def PH{fs k st}{a:List (List D×Str)}(w:Str):(fW (a.map λr=>eJ fs k n v st r.1).length).filter (xx (a.map λr=>eJ fs k n v st r.1) w)=iG fs k n v st a w:=by
 unfold iG;rw[aA];apply nY;intro x e;obtain⟨j,d⟩:=cT e;obtain⟨b,rfl⟩:=D0 d;have c:a[j]?=some a[j]:=aD b;rw[SE c];show(match L2.atI (a.map λr=>eJ fs k n v st r.1) (j:Int)with | some s=>decide (s=w) | none=>false)=_;rw[L2.eK (v:=eJ fs k n v st a[j].1) (by rw[aM,c];rfl)]
noncomputable def xz(b:List Rw)(x:D):D:=match x with | .str a=>.int ((sR b a:Nat):Int) | _=>.none
def NF(b:List Rw)(a:Str):((b.map λr=>aL r.2).countP λt=>cM t (.str a))=sR b a:=by
 rw[FG];unfold sR;congr 1
def XV:∀{ys:List Str},(∀y∈ys,uW y=true)->dI (ys.map aL)=true/\fB (ys.map aL)<=0:=λh=>by
 obtain⟨_,_,_,_,a,b⟩:=rJ (BX h (aN 8) (m:=0));exact⟨b,a⟩
theorem LY:∀ns:List Int,dI (ns.map bO)=true/\fB (ns.map bO)=0
|[]=>⟨kA,kA⟩
|n::ns=>by
 have:=LY ns;refine⟨?_,?_⟩
 ·show(true&&dI (ns.map bO))=true;rw[this.1];rfl
 ·show max 0 (fB (ns.map bO))=0;rw[this.2];rfl
def GJ{ns:List Int}{m:Int}{j:Nat}(h:ns[j]?=some m)(b:∀i:Nat,i<j->ns[i]?≠some m):SF (ns.map bO) (.int m) j:=by
 obtain⟨c,d⟩:=LY ns;refine⟨c,kA,by rw[d];lia,⟨.int m,by rw[aM,h];rfl,?_⟩,λi t f a=>?_⟩
 ·show(m==m)=true;simp
 ·rw[aM]at a
  cases e:ns[i]? with
  |none=>rw[e]at a;cases a
  |some n=>
   rw[e]at a;cases a;show(n==m)=false;have:n≠m:=λz=>b i f (by rw[e,z]);simpa using this
def Qk:kH:=λc Q=>∃a b:Nat,c=[.int a,.int b]/\Q (.int ((a.gcd b:Nat):Int))
def Yz{an:List Str}(k:an.Nodup)(g:Str->Int)(h:b∈an):(an.map λa=>if b=a then g a else 0).sum=g b:=by
 induction an with
 |nil=>simp at h
 |cons a an m=>
  rw[bI,fD];obtain⟨f,d⟩:=lG.mp k;by_cases e:b=a
  ·subst e
   have z:(an.map λa=>if b=a then g a else 0).sum=0:=by
    have:∀l:List Str,b∉l->(l.map λa=>if b=a then g a else 0).sum=0:=λl=>by
     induction l with
     |nil=>intro _;rfl
     |cons c l i=>
      intro j;rw[bI,fD,i λq=>j (aJ _ q),a8 λ(q:b=c)=>j (by rw[q];exact aO ..)];rfl
    exact this an f
   rw[z,a9 rfl];lia
  ·rw[a8 e,m d ((aR.mp h).resolve_left e)];lia
def Yy(an:List Str)(f g:Str->Int):(an.map λa=>f a+g a).sum=(an.map f).sum+(an.map g).sum:=by
 induction an with
 |nil=>rfl
 |cons a an b=>rw[bI,bI,bI,fD,fD,fD,b];lia
theorem CV{an:List Str}(d:an.Nodup)(g:Str->Int):∀ss:List Rw,(∀r∈ss,r.2∈an)->(an.map λa=>(sR ss a:Int)*g a).sum=(ss.map λr=>g r.2).sum
|[],_=>by
 have:∀l:List Str,(l.map λa=>((sR [] a:Nat):Int)*g a).sum=0:=λl=>by
  induction l with
  |nil=>rfl
  |cons c l b=>
   rw[bI,fD,b];show((0:Nat):Int)*g c+0=0;simp
 exact this an
|r::ss,h=>by
 have i:=CV d g ss λx f=>h x (aJ _ f)
 have e:(λa=>((sR (r::ss) a:Nat):Int)*g a)=λa=>(if r.2=a then g a else 0)+(sR ss a:Int)*g a:=by
  funext a;unfold sR;rw[CO];by_cases q:r.2=a
  ·rw[a9 q,a9 (b0 q),gS,UG];show _+1*g a=_;rw[aR6,Int.add_comm]
  ·rw[a8 q,a8 (by simpa using q),Nat.add_zero,Int.zero_add]
 rw[e,Yy,Yz d g (h r (aO ..)),i,bI,fD]
def R7(b:List Rw)(a:Str):((b.countP λo=>decide (o.2≠a):Nat):Int)=(b.length:Int)-(sR b a:Int):=by
 unfold sR
 have:b.length=(b.countP λo=>decide (o.2=a))+(b.countP λo=>decide (o.2≠a)):=by
  rw[BB (λo:Rw=>decide (o.2=a))];congr 2;funext o;by_cases q:o.2=a<;>simp[q]
 lia
theorem XF:∀l:List Nat,((l.sum:Nat):Int)=(l.map λ(n:Nat)=>(n:Int)).sum
|[]=>rfl
|n::l=>by rw[fD,bI,fD,gS,XF l]
def PR{an:List Str}(e:an.Nodup){b:List Rw}(h:∀r∈b,r.2∈an):((iO an b).map λc=>c*((b.length:Int)-c)).sum=((BF b b:Nat):Int):=by
 have d:=CV e (λa=>(b.length:Int)-(sR b a:Int)) b h;unfold iO BF;rw[aX,XF,aX];refine d.trans ?_;congr 1;apply iC;intro r _;exact(R7 b r.2).symm
noncomputable def Dv(n:Int)(x:D):D:=match x with | .int c=>.int (c*(n-c)) | _=>.none
noncomputable def RU(x:D):D:=match x with | .tuple [_,b]=>b | _=>x
noncomputable def QF:Tr->Bool
|.say _=>true
|.ask _ _ _ _ _ _=>false
def Pt:kH:=λa Q=>∃t:Tr,a=[gE t]/\Q (.bool (QF t))
noncomputable def pV:Str:=" "
def A3(a:List Str):(Txt.join pV a).cps.toList=jn 32 (a.map (·.cps.toList)):=by
 show(t4 pV a).cps.toList=_;rw[m7];exact yF 32 a
noncomputable def sX(fs:List (Str×List Str)):Tr->List D->List D
|.say _,_=>[]
|.ask k n v s y m,cs=>.tuple [.tuple [.str k,.str n,.str v],.str (eJ fs k n v s cs)]::(if eJ fs k n v s cs="yes" then sX fs y cs else sX fs m cs)
noncomputable def rM(fs:List (Str×List Str)):Tr->List D->List Str
|.say _,_=>[]
|.ask k n v s y m,cs=>eJ fs k n v s cs::(if eJ fs k n v s cs="yes" then rM fs y cs else rM fs m cs)
noncomputable def vR(fs:List (Str×List Str)):Tr->List D->Str
|.say a,_=>a
|.ask k n v s y m,cs=>if eJ fs k n v s cs="yes" then vR fs y cs else vR fs m cs
noncomputable def sM:Tr->List Str->Option Tr
|t,[]=>some t
|.say _,_::_=>none
|.ask _ _ _ _ y m,s::r=>if s="yes" then sM y r else if s="no" then sM m r else none
def NZ:¬("no":Str)="yes":=by decide +kernel
section
variable{fs:List (Str×List Str)}{an:List Str}
def PF(F:eV fs an){k n v st:Str}(q:QG fs (.tuple [.str k,.str n,.str v])=true)(i:st="yes"\/st="no")(l:gH fs (.tuple cs)=true):eJ fs k n v st cs="yes"\/eJ fs k n v st cs="no":=by
 obtain⟨f,o,g,r,hk⟩:=CC q;obtain⟨j,h⟩:=cT o;obtain⟨m,e⟩:=lQ l;have p:=(aG.mp h).1;have a:cs[j]?=some cs[j]:=aD hG
 generalize cs[j]=c at a
 rw[xQ F h a g];have hok:=e j f c h a
 cases c with
 |none=>exact i
 |str z=>
  show(if k="is" then(if z=v then("yes":Str)else "no")else if f.2.idxOf z<=f.2.idxOf v then("yes":Str)else "no")="yes"\/_;by_cases d:k="is"
  ·by_cases b:z=v
   ·exact .inl (by rw[a9 d,a9 b])
   ·exact .inr (by show(if k="is" then(if z=v then("yes":Str)else "no")else if f.2.idxOf z<=f.2.idxOf v then("yes":Str)else "no")="no";rw[a9 d,a8 b])
  ·by_cases b:f.2.idxOf z<=f.2.idxOf v
   ·exact .inl (by rw[a8 d,a9 b])
   ·exact .inr (by show(if k="is" then(if z=v then("yes":Str)else "no")else if f.2.idxOf z<=f.2.idxOf v then("yes":Str)else "no")="no";rw[a8 d,a8 b])
 |_=>cases hok
theorem zH:∀(t:Tr)(a:List D),(sX fs t a).map RU=(rM fs t a).map aL
|.say _,_=>rfl
|.ask k n v s y m,a=>by
 show(aL (eJ fs k n v s a))::(if eJ fs k n v s a="yes" then sX fs y a else sX fs m a).map RU=.str (eJ fs k n v s a)::(if eJ fs k n v s a="yes" then rM fs y a else rM fs m a).map aL;congr 1;split
 ·exact zH y a
 ·exact zH m a
theorem zI:∀(t:Tr)(c:List D),∀x∈sX fs t c,∃a b,x=.tuple [a,b]
|.say _,_,x,h=>by cases h
|.ask k n v s y m,c,x,h=>by
 rcases aR.mp h with rfl | h
 ·exact⟨_,_,kA⟩
 ·split at h
  ·exact zI y c x h
  ·exact zI m c x h
theorem HJ:∀(t:Tr)(a:List D),(sX fs t a).length<=t.dep
|.say _,_=>aN _
|.ask k n v s y m,a=>by
 show(if eJ fs k n v s a="yes" then sX fs y a else sX fs m a).length+1<=max y.dep m.dep+1;have b:=HJ y a;have c:=HJ m a;split<;>lia
theorem wQ(F:eV fs an)(b:gH fs (.tuple cs)=true):∀t:Tr,lZ fs an t->sM t (rM fs t cs)=some (.say (vR fs t cs))
|.say a,_=>rfl
|.ask k n v s y m,ht=>by
 obtain⟨d,f,g,c⟩:=ht;show(if eJ fs k n v s cs="yes" then sM y _ else if eJ fs k n v s cs="no" then sM m _ else none)=some (.say (if eJ fs k n v s cs="yes" then vR fs y cs else vR fs m cs));rcases PF F d f b with e | e
 ·rw[a9 e,a9 e,a9 e];exact wQ F b y g
 ·have ne:¬eJ fs k n v s cs="yes":=λz=>NZ (e.symm.trans z);rw[a8 ne,a9 e,a8 ne,a8 ne];exact wQ F b m c
theorem ID:∀{t p pl},sM t pl=some p->∀s∈pl,s="yes"\/s="no"
|t,p,[],h,x,hx=>by cases hx
|.say a,p,s::r,h,x,hx=>by cases h
|.ask k n v st y m,p,s::r,h,x,hx=>by
 have b:(if s="yes" then sM y r else if s="no" then sM m r else none)=some p:=h;by_cases c:s="yes"
 ·rw[a9 c]at b;rcases aR.mp hx with rfl | hx
  ·exact .inl c
  ·exact ID b x hx
 ·rw[a8 c]at b;by_cases d:s="no"
  ·rw[a9 d]at b;rcases aR.mp hx with rfl | hx
   ·exact .inr d
   ·exact ID b x hx
  ·rw[a8 d]at b;cases b
end
noncomputable def there(fs:List (Str×List Str))(t:Tr)(b:List (List D×Str))(a:List Str)(x:D):Bool:=match x with
|.int i=>(match L2.atI b i with | some r=>decide ((rM fs t r.1).take a.length=a) | none=>false)
|_=>false
def Pu:kH:=λa Q=>∃(k n v s:Str)(y m:Tr)(sd:Str),a=[gE (.ask k n v s y m),.str sd]/\Q (gE (if sd="yes" then y else m))
def Pw:MU:=λb Q=>∃(fs:List (Str×List Str))(an:List Str)(t:Tr)(a:List D),b=[dY fs an,gE t,.tuple a]/\eV fs an/\lZ fs an t/\gH fs (.tuple a)=true/\t.dep<=40/\Q (sX fs t a)
def Px:kH:=λb Q=>∃(fs:List (Str×List Str))(an:List Str)(t:Tr)(a:List D),b=[dY fs an,gE t,.tuple a]/\eV fs an/\lZ fs an t/\gH fs (.tuple a)=true/\t.dep<=40/\Q (.tuple ((rM fs t a).map aL))
def Py:kH:=λb Q=>∃(fs:List (Str×List Str))(an:List Str)(t:Tr)(a:List D),b=[dY fs an,gE t,.tuple a]/\eV fs an/\lZ fs an t/\gH fs (.tuple a)=true/\t.dep<=40/\Q (.str (vR fs t a))
def Pz:kH:=λb Q=>∃(t p:Tr)(a:List Str),b=[gE t,.tuple (a.map aL)]/\sM t a=some p/\t.dep<=40/\Q (gE p)
noncomputable def gX(f:Str×List Str):List D:=f.2.map aL++[.none]
def Oy:kH:=λa Q=>∃f:Str×List Str,a=[iN f]/\f.2.length<=5/\Q (.tuple (f.2.map aL++[.none]))
noncomputable def jD(fs:List (Str×List Str))(k n v st:Str)(r:List D×Str):Bool:=decide (eJ fs k n v st r.1="yes")
def fK.filt{fs}{a:List (List D×Str)}(h:fK fs an a)(p:List D×Str->Bool):fK fs an (a.filter p):=λr b=>h r (cW.mp b).1
def FA(fs:List (Str×List Str))(an:List Str)(fa:List (List D×Str)->Str):Prop:=∀a,fK fs an a->uI an a (fa a)
def uI.uniq(h:uI an rs a)(g:uI an rs b):a=b:=by
 obtain⟨i,d,k,l⟩:=h;obtain⟨j,c,e,f⟩:=g;have m:=k j b c;have n:=e i a d;rcases lU i j with z | z | z
 ·have:=f i a z d;lia
 ·subst z;rw[d]at c;exact c5 c
 ·have:=l j b z c;lia
noncomputable def C6(a:List (List D×Str))(x:D):D:=match x with | .int i=>(match L2.atI a i with | some r=>cV r | none=>.none) | _=>.none
def Q3{a:List (List D×Str)}{i:Nat}(h:i<a.length):L2.atI (a++[r]) (i:Int)=L2.atI a (i:Int):=by
 rw[L2.eK (aD h),L2.eK (xs:=a++[r]) (v:=a[i]) (by rw[eE h];exact aD h)]
theorem yd(fs:List (Str×List Str))(k n v st w:Str):∀(m:Nat)(b:List (List D×Str)),b.length=m->(iG fs k n v st b w).map (C6 b)=(b.filter λr=>decide (eJ fs k n v st r.1=w)).map cV
|0,b,h=>by rw[kN.mp h];rfl
|m+1,b,h=>by
 obtain⟨a,r,rfl⟩:∃a r,b=a++[r]:=⟨b.dropLast,b.getLast (λe=>by rw[e]at h;cases h),(List.dropLast_concat_getLast _).symm⟩;have s:a.length=m:=by rw[aZ]at h;simpa using h
 have l:=yd fs k n v st w m a s;unfold iG at l |-
 have o:fW (a++[r]).length=fW a.length++[.int (a.length:Int)]:=by
  unfold fW;rw[aZ,oQ,FD,bT];rfl
 have c:L2.atI (a++[r]) (a.length:Int)=some r:=L2.eK (by rw[dW (aN _),aRk];rfl)
 have p:(fW a.length).filter (tS fs k n v st (a++[r]) w)=(fW a.length).filter (tS fs k n v st a w):=nY λx g=>by
  obtain⟨j,f,rfl⟩:=aQ.mp g;show(match L2.atI (a++[r]) (j:Int)with | some r=>decide (eJ fs k n v st r.1=w) | none=>false)=match L2.atI a (j:Int)with | some r=>decide (eJ fs k n v st r.1=w) | none=>false
  rw[Q3 (by simpa using f)]
 have q:((fW a.length).filter (tS fs k n v st a w)).map (C6 (a++[r]))=((fW a.length).filter (tS fs k n v st a w)).map (C6 a):=iC λx g=>by
  obtain⟨j,f,rfl⟩:=aQ.mp (cW.mp g).1;show(match L2.atI (a++[r]) (j:Int)with | some r=>cV r | none=>.none)=match L2.atI a (j:Int)with | some r=>cV r | none=>.none
  rw[Q3 (by simpa using f)]
 have i:tS fs k n v st (a++[r]) w (.int (a.length:Int))=decide (eJ fs k n v st r.1=w):=by
  show(match L2.atI (a++[r]) (a.length:Int)with | some r=>decide (eJ fs k n v st r.1=w) | none=>false)=_;rw[c]
 have t:C6 (a++[r]) (.int (a.length:Int))=cV r:=by
  show(match L2.atI (a++[r]) (a.length:Int)with | some r=>cV r | none=>.none)=_;rw[c]
 rw[o,gA,bT,p,q,l,gA,bT];congr 1;by_cases d:eJ fs k n v st r.1=w
 ·rw[cR,a9 (by rw[i];exact b0 d),cR,a9 (b0 d)];show[C6 (a++[r]) (.int (a.length:Int))]=[cV r];rw[t]
 ·rw[cR,a8 (by rw[i,b7 d];decide),cR,a8 (by rw[b7 d];decide)]
  rfl
def Pq:kH:=λb Q=>∃(fs:List (Str×List Str))(k n v st w:Str)(a:List (List D×Str)),b=[.list (a.map cV),.list (iG fs k n v st a w)]/\a.length<=60/\Q (.list ((a.filter λr=>decide (eJ fs k n v st r.1=w)).map cV))
def Qc:kH:=λb Q=>∃(fs:List (Str×List Str))(an:List Str)(fa:List (List D×Str)->Str)(a:List (List D×Str)),b=[dY fs an,.list (a.map cV)]/\eV fs an/\FA fs an fa/\fK fs an a/\a.length<=60/\Q (gE (.say (fa a)))
def Qd:kH:=λb Q=>∃(fs:List (Str×List Str))(an:List Str)(k n v s:Str)(y m:Tr)(a:List (List D×Str)),b=[dY fs an,gE (.ask k n v s y m),.list (a.map cV)]/\eV fs an/\QG fs (.tuple [.str k,.str n,.str v])=true/\(s="yes"\/s="no")/\fK fs an a/\a.length<=60/\Q (.list [.list ((a.filter (jD fs k n v s)).map cV),.list ((a.filter λr=>!jD fs k n v s r).map cV)])
def xZ{fs}(F:eV fs an){k n v st:Str}(d:QG fs (.tuple [.str k,.str n,.str v])=true)(b:st="yes"\/st="no"){c:List (List D×Str)}(a:fK fs an c):(c.filter λr=>decide (eJ fs k n v st r.1="no"))=c.filter λr=>!jD fs k n v st r:=nY λr f=>by
 unfold jD;rcases PF F d b (a r f).1 with e | e
 ·rw[e];decide +kernel
 ·rw[e];decide +kernel
def Re:kH:=λb Q=>∃(fs:List (Str×List Str))(an:List Str)(a:List (List D×Str)),b=[dY fs an,.list (a.map cV)]/\eV fs an/\fK fs an a/\a.length<=60/\Q (.list ((iO an a).map bO))
def Gg(a b c d e:D):iH [a,b,c,d,e] none (some 3)=[a,b,c]:=oE [a,b,c,d,e] 3
def L8{an:List Str}(h:0<an.length)(d:List (List D×Str)):∃a,uI an d a:=by
 have m:∀(l:List Str),0<l.length->∃k a,l[k]?=some a/\(∀(j:Nat) b,l[j]?=some b->sR d b<=sR d a)/\∀(j:Nat) b,j<k->l[j]?=some b->sR d b<sR d a:=λl=>by
  induction l with
  |nil=>intro h;exact b9 h gV
  |cons x l o=>
   intro _
   cases l with
   |nil=>exact⟨0,x,kA,λj b c=>by
     cases j with
     |zero=>cases c;exact aN _
     |succ j=>simp at c,λj b f _=>b9 f (vL _)⟩
   |cons y l=>
    obtain⟨k,a,g,e,i⟩:=o hH;by_cases n:sR d a<=sR d x
    ·refine⟨0,x,kA,λj b c=>?_,λj b f _=>b9 f (vL _)⟩
     cases j with
     |zero=>cases c;exact aN _
     |succ j=>exact bE (e j b (by simpa using c)) n
    ·refine⟨k+1,a,by simpa using g,λj b c=>?_,λj b f c=>?_⟩
     ·cases j with
      |zero=>cases c;lia
      |succ j=>exact e j b (by simpa using c)
     ·cases j with
      |zero=>cases c;lia
      |succ j=>exact i j b hG (by simpa using c)
 obtain⟨k,a,g,e,i⟩:=m an h;exact⟨a,k,g,e,i⟩
def Cp{fs}(F:eV fs an):∃fa,FA fs an fa:=
 ⟨λa=>(L8 (an:=an) (by have:=F.a2;lia) a).choose,λa _=>(L8 (an:=an) (by have:=F.a2;lia) a).choose_spec⟩
abbrev Fs:=List (Str×List Str)
abbrev Qn:=Str×Str×Str
abbrev Ch:=Qn×Str
noncomputable def qD(q:Qn):D:=.tuple [.str q.1,.str q.2.1,.str q.2.2]
noncomputable def tq(d:D):Qn:=match d with | .tuple [.str k,.str n,.str v]=>(k,n,v) | _=>("","","")
noncomputable def qs(fs:Fs):List Qn:=(gG fs).map tq
def B2(fs:Fs):(qs fs).map qD=gG fs:=by
 unfold qs;rw[aX]
 have:∀d∈gG fs,(qD∘tq) d=id d:=λd hd=>by
  obtain⟨f,b,⟨z,a,rfl⟩ | ⟨z,a,c,rfl⟩⟩:=EL hd<;>rfl
 rw[iC this,mG]
def IA{fs}{q:Qn}(h:q∈qs fs):QG fs (.tuple [.str q.1,.str q.2.1,.str q.2.2])=true:=by
 have:qD q∈(qs fs).map qD:=aQ.mpr ⟨q,h,kA⟩;rw[B2]at this;exact OP this
noncomputable def pQ(q:Qn):List Ch:=[(q,"yes"),(q,"no")]
noncomputable def JP(fs:Fs):List Ch:=(qs fs).flatMap pQ
def OO{fs}{c:Ch}(h:c∈JP fs):c.1∈qs fs/\(c.2="yes"\/c.2="no"):=by
 obtain⟨q,b,a⟩:=sP.mp h;simp only[pQ,aR,cX,g8]at a;rcases a with rfl | rfl
 ·exact⟨b,.inl kA⟩
 ·exact⟨b,.inr kA⟩
def JO(fs:Fs):(JP fs).length=2*(gG fs).length:=by
 unfold JP qs
 generalize (gG fs)=l
 induction l with
 |nil=>rfl
 |cons x l a=>
  rw[bI,fU,aZ,a];show 2+_=2*(l.length+1);lia
noncomputable def wh(fs:Fs)(c:Ch)(r:Rw):Bool:=jD fs c.1.1 c.1.2.1 c.1.2.2 c.2 r
noncomputable abbrev yR(fs:Fs)(c:Ch)(R:List Rw):List Rw:=R.filter (wh fs c)
noncomputable abbrev nR(fs:Fs)(c:Ch)(R:List Rw):List Rw:=R.filter λr=>!wh fs c r
noncomputable def wp(c:Ch):D:=.tuple [qD c.1,.str c.2]
def Qr:kH:=λa Q=>∃(fs:Fs)(an:List Str),a=[dY fs an]/\eV fs an/\Q (.list ((JP fs).map wp))
def Rc:kH:=λa Q=>∃(fs:Fs)(an:List Str),a=[dY fs an]/\eV fs an/\Q (.list ((qs fs).map qD))
noncomputable def low(a b:Nat):Nat×Nat:=(a / a.gcd b,b / a.gcd b)
noncomputable def FB(x:Nat×Nat):D:=.tuple [.int (x.1:Nat),.int (x.2:Nat)]
noncomputable def vF(R:List Rw):Nat×Nat:=low (BF R R) (max 1 R.length)
noncomputable def ye(x y:Nat×Nat):Nat×Nat:=low (x.1*y.2+y.1*x.2) (x.2*y.2)
noncomputable def dC(fs:Fs)(R:List Rw)(c:Ch):Nat×Nat:=ye (vF (yR fs c R)) (vF (nR fs c R))
noncomputable def okC(fs:Fs)(R:List Rw)(m:Int)(c:Ch):Bool:=decide (m<=((yR fs c R).length:Int))&&decide (m<=((nR fs c R).length:Int))
noncomputable def iF(fs:Fs)(R:List Rw)(m:Int):List Ch:=(JP fs).filter (okC fs R m)
noncomputable def OJ(fs:Fs)(R:List Rw)(c:Ch):D:=.tuple [qD c.1,.str c.2,FB (dC fs R c)]
noncomputable def xC(l:List (Nat×Nat)):Nat:=l.foldl (λc x=>c.lcm x.2) 1
noncomputable def SY(B:Nat)(x:Nat×Nat):Int:=(x.1:Int)*((B:Int) / (x.2:Int))
noncomputable def UK(fs:Fs)(R:List Rw)(m:Int):List (Nat×Nat):=(iF fs R m).map (dC fs R)
noncomputable def DW(fs:Fs)(R:List Rw)(m:Int):List Int:=(UK fs R m).map (SY (xC (UK fs R m)))
noncomputable def EH(fs:Fs)(R:List Rw)(m:Int):List D:=(iF fs R m).map (OJ fs R)
def xk(fs:Fs)(R:List Rw)(m:Int)(J:List Nat):Prop:=SS.KN (iF fs R m).length (λi=>(DW fs R m).getD i 0) J
noncomputable def zo(fs:Fs)(R:List Rw)(m:Int)(J:List Nat):List D:=J.map λi=>(EH fs R m).getD i .none
def B9{a b:Nat}(h:0<b):0<(low a b).2:=UB (aJp h (rF a b)) (nE a h)
def XN(a b:Nat):(low a b).1<=a/\(low a b).2<=b:=⟨pN _ _,pN _ _⟩
structure Sml(x:Nat×Nat)(a b:Nat):Prop where
 top:x.1<=a
 pos:0<x.2
 bot:x.2<=b
def yQ{R:List Rw}(h:R.length<=60):Sml (vF R) 3600 60:=by
 have a:=XN (BF R R) (max 1 R.length);have b:=NP R R;have c:R.length*R.length<=60*60:=iV h h;exact⟨by show(low _ _).1<=_;lia,B9 hG,by show(low _ _).2<=_;lia⟩
def O8{x y:Nat×Nat}(a:Sml x 3600 60)(b:Sml y 3600 60):x.1*y.2+y.1*x.2<=432000/\x.2*y.2<=3600/\0<x.2*y.2:=by
 have c:x.1*y.2<=3600*60:=iV a.top b.bot;have d:y.1*x.2<=3600*60:=iV b.top a.bot;have e:x.2*y.2<=60*60:=iV a.bot b.bot;exact⟨hG,hG,rD a.pos b.pos⟩
def VF(e:Sml x 3600 60)(f:Sml y 3600 60):Sml (ye x y) 432000 3600:=by
 obtain⟨b,c,d⟩:=O8 e f;have a:=XN (x.1*y.2+y.1*x.2) (x.2*y.2);exact⟨bE a.1 b,B9 d,bE a.2 c⟩
def AB{fs}{R:List Rw}(h:R.length<=60)(c:Ch):Sml (dC fs R c) 432000 3600:=
 VF (yQ (bE (bK _ _) h)) (yQ (bE (bK _ _) h))
theorem MO:∀(l:List (Nat×Nat))(c:Nat),c ∣ l.foldl (λc x=>c.lcm x.2) c/\∀x∈l,x.2 ∣ l.foldl (λc x=>c.lcm x.2) c
|[],c=>⟨Nat.dvd_refl _,λx hx=>by cases hx⟩
|y::l,c=>by
 obtain⟨a,b⟩:=MO l (c.lcm y.2);refine⟨aJq (Nat.dvd_lcm_left _ _) a,λx hx=>?_⟩;rcases aR.mp hx with rfl | hx
 ·exact aJq (Nat.dvd_lcm_right _ _) a
 ·exact b x hx
theorem MN:∀(l:List (Nat×Nat))(c:Nat),0<c->(∀x∈l,0<x.2)->0<l.foldl (λc x=>c.lcm x.2) c
|[],c,h,_=>h
|y::l,c,h,g=>MN l _ (Nat.lcm_pos h (g y (aO ..))) λx a=>g x (aJ _ a)
def L3{B:Nat}{x:Nat×Nat}:SY B x=((x.1*(B / x.2):Nat):Int):=by
 unfold SY;rw[dA,sT]
def Ya{B:Nat}{x y:Nat×Nat}(m:0<B)(n:x.2 ∣ B)(o:y.2 ∣ B)(g:0<x.2)(i:0<y.2):SY B x<SY B y↔x.1*y.2<y.1*x.2:=by
 rw[L3,L3,aRo];obtain⟨a,e⟩:=n;obtain⟨b,f⟩:=o;have j:B / x.2=a:=by rw[e];exact M2 a g
 have k:B / y.2=b:=by rw[f];exact M2 b i
 rw[j,k];have c:x.1*a*(x.2*y.2)=B*(x.1*y.2):=by rw[e];simp only[dO,eL,dQ]
 have d:y.1*b*(x.2*y.2)=B*(y.1*x.2):=by rw[f];simp only[dO,eL,dQ]
 have l:0<x.2*y.2:=rD g i;constructor
 ·intro h;have:=gY h l;rw[c,d]at this;exact Nat.lt_of_mul_lt_mul_left this
 ·intro h;have:=Nat.mul_lt_mul_of_pos_left h m;rw[<- c,<- d]at this;exact jP this
def Y9{fs}(F:eV fs an)(R:List Rw)(m:Int):(iF fs R m).length<=100:=by
 have c:=mY F fs λg b=>b;have a:=bK (okC fs R m) (JP fs);rw[JO]at a;have n5:=F.n5;show((JP fs).filter _).length<=_;lia
def X2(fs:Fs)(R:List Rw)(m:Int):(DW fs R m).length=(iF fs R m).length:=by unfold DW UK;rw[aA,aA]
def uD(fs:Fs)(R:List Rw)(m:Int):(EH fs R m).length=(iF fs R m).length:=by unfold EH;rw[aA]
def IZ{fs}{m:Int}{i:Nat}(h:i<(iF fs R m).length):(DW fs R m).getD i 0=SY (xC (UK fs R m)) (dC fs R (iF fs R m)[i]):=by
 unfold DW;rw[dL,aM];unfold UK;rw[aM,aD h];rfl
def QQ{fs}{m:Int}{i:Nat}(h:i<(iF fs R m).length):(EH fs R m).getD i .none=OJ fs R (iF fs R m)[i]:=by
 unfold EH;rw[dL,aM,aD h];rfl
def Us{fs}{R:List Rw}{m:Int}(a:R.length<=60){i j:Nat}(b:i<(iF fs R m).length)(d:j<(iF fs R m).length) :
  (DW fs R m).getD i 0<(DW fs R m).getD j 0↔(dC fs R (iF fs R m)[i]).1*(dC fs R (iF fs R m)[j]).2<(dC fs R (iF fs R m)[j]).1*(dC fs R (iF fs R m)[i]).2:=by
 rw[IZ b,IZ d]
 have e:∀x∈UK fs R m,0<x.2:=λx f=>by
  obtain⟨c,_,rfl⟩:=aQ.mp f;exact(AB a c).pos
 have hd:=(MO (UK fs R m) 1).2;exact Ya (MN _ _ gV e) (hd _ (UC (fL b))) (hd _ (UC (fL d))) (AB a _).pos (AB a _).pos
theorem GO:∀(n:Nat)(J:List Nat),J.Nodup->(∀i∈J,i<n)->J.length<=n
|0,J,_,h=>by
 cases J with
 |nil=>exact aN _
 |cons j J=>exact b9 (h j (aO ..)) (vL _)
|n+1,J,nd,h=>by
 have e:=GO n (J.filter (· != n)) (nd.filter _) λi c=>by
  obtain⟨a,b⟩:=cW.mp c;have:=h i a;have d:i≠n:=by simpa using b
  lia
 have f:J.length=(J.filter (· != n)).length+J.count n:=by
  rw[HG,<- FH,BB (p:=λx=>x != n)];congr 1;apply List.countP_congr;intro x _;simp
 have g:=List.nodup_iff_count.mp nd n;lia
def RS{n:Nat}{k:Nat->Int}{J:List Nat}(h:SS.KN n k J):J.Nodup:=h.ord.imp λ{a b} q z=>by
 subst z;lia
def Ym{n:Nat}{k:Nat->Int}(h:SS.KN n k J){i:Nat}(a:i<n):i∈J:=by
 by_cases e:i∈J
 ·exact e
 ·have:=GO n (i::J) (lG.mpr ⟨e,RS h⟩) λx hx=>by
   rcases aR.mp hx with rfl | hx
   ·exact a
   ·exact h.lt x hx
  rw[bN,h.len]at this;lia
def Po:kH:=λb Q=>∃(a bs:List D)(m:Int),b=[.tuple [.list a,.list bs],.int m]/\Q (.bool (decide (m<=(a.length:Int))&&decide (m<=(bs.length:Int))))
def Ql:kH:=λa Q=>∃x y:Nat×Nat,a=[FB x,FB y]/\Sml x 3600 60/\Sml y 3600 60/\Q (FB (ye x y))
def Qo:kH:=λa Q=>∃l:List (Nat×Nat),a=[.list (l.map FB)]/\(∀x∈l,0<x.2/\x.2<=1000000)/\Q (.int (xC l:Nat))
def Pp:MU:=λb Q=>∃(fs:Fs)(an:List Str)(a:List Rw)(m:Int),b=[dY fs an,.list (a.map cV),.int m]/\eV fs an/\fK fs an a/\a.length<=60/\∀J,xk fs a m J->Q (zo fs a m J)
def RY:∀(l:List Sl)(a b c x y z:Sl),((((((l.set 0 a).set 1 b).set 2 c).set 0 x).set 1 y).set 2 z)=((l.set 0 x).set 1 y).set 2 z
|[],_,_,_,_,_,_=>rfl
|[_],_,_,_,_,_,_=>rfl
|[_,_],_,_,_,_,_,_=>rfl
|_::_::_::_,_,_,_,_,_,_=>rfl
def Ye{i:ET}{Q:D->Prop}{ts:List D}(g:uH ti σ ts)(f:D->D)(r:ts.length<=100000)(n:∀x∈ts,∃a b c,x=.tuple [a,b,c])(p:∀(a b c:D)(q:D->Prop),.tuple [a,b,c]∈ts->q (f (.tuple [a,b,c]))->i ((((kF fr σ).set 0 (.val a)).set 1 (.val b)).set 2 (.val c)) q)(o:Q (.list (ts.map f))):Y1 fr ti (yx 0 1 2) EQ i σ Q:=by
 refine g _ ⟨r,λk d e=>(∀x y z,((d.set 0 (.val x)).set 1 (.val y)).set 2 (.val z)=(((kF fr σ).set 0 (.val x)).set 1 (.val y)).set 2 (.val z))/\e=(ts.take k).map f,⟨λ_ _ _=>rfl,kA⟩,λk x d e l h=>?_,λd e h=>?_⟩
 ·obtain⟨m,rfl⟩:=h;have j:x∈ts:=aV l;obtain⟨a,b,c,rfl⟩:=n x j;refine⟨a,b,c,kA,?_⟩;show i (((d.set 0 (.val a)).set 1 (.val b)).set 2 (.val c)) _;rw[m a b c];refine p a b c _ j ⟨λx y z=>RY _ _ _ _ _ _ _,?_⟩;rw[cI,l,bT];rfl
 ·obtain⟨_,rfl⟩:=h;rw[dB];exact o
noncomputable def kL(x y:Nat×Nat):Bool:=decide (x.1*y.2<y.1*x.2)
noncomputable def lD(fs:Fs)(R:List Rw)(b x:Ch):Ch:=if kL (dC fs R x) (dC fs R b)=true then x else b
noncomputable def wc(fs:Fs)(R:List Rw):List Ch->Option Ch
|[]=>none
|c::l=>some (l.foldl (lD fs R) c)
noncomputable def mE(fs:Fs)(R:List Rw)(m:Int):Option Ch:=(wc fs R (iF fs R m)).filter λc=>kL (dC fs R c) (vF R)
noncomputable def Bs(fs:Fs)(R:List Rw):Option Ch->D
|some c=>OJ fs R c
|none=>.none
def yl(k:Nat->Int)(n p:Nat):Prop:=p<n/\(∀q,q<n->k p<=k q)/\∀q,q<p->k p<k q
def X8{k:Nat->Int}{n p q:Nat}(c:yl k n p)(d:yl k n q):p=q:=by
 rcases lU p q with z | z | z
 ·have a:=d.2.2 p z;have b:=c.2.1 q d.1;lia
 ·exact z
 ·have a:=c.2.2 q z;have b:=d.2.1 p c.1;lia
def VG{n:Nat}{k:Nat->Int}{i:Nat}(h:SS.KN n k (i::J)):yl k n i:=by
 obtain⟨c,a2⟩:=List.pairwise_cons.mp h.ord
 have lo:∀q,q<n->q≠i->k i<k q\/(k i=k q/\i<q):=λq a b=>by
  rcases aR.mp (Ym h a)with z | z
  ·exact b9 z b
  ·exact c q z
 refine⟨h.lt i (aO ..),λq a=>?_,λq a=>?_⟩
 ·by_cases e:q=i
  ·rw[e];exact lA _
  ·have:=lo q a e;lia
 ·have d:=h.lt i (aO ..);have:=lo q hG hG;lia
theorem ZB{fs}{R:List Rw}(h:R.length<=60)(m:Int):∀(n:Nat)(b:n<(iF fs R m).length),∃p,∃g:p<(iF fs R m).length,yl (λi=>(DW fs R m).getD i 0) (n+1) p/\(((iF fs R m).drop 1).take n).foldl (lD fs R) ((iF fs R m)[0]' hG)=(iF fs R m)[p]
|0,b=>⟨0,hG,⟨hG,λq d=>by rw[show q=0 by lia];exact lA _,λq d=>by lia⟩,by rw[aF1];rfl⟩
|n+1,b=>by
 obtain⟨p,g,⟨s,f,l⟩,o⟩:=ZB h m n (Nat.lt_of_succ_lt b)
 have k:((iF fs R m).drop 1).take (n+1)=((iF fs R m).drop 1).take n++[(iF fs R m)[n+1]]:=by
  rw[cI,nH,Nat.add_comm 1 n,aD b];rfl
 have j:=Us (fs:=fs) (m:=m) h b g
 have a:(((iF fs R m).drop 1).take (n+1)).foldl (lD fs R) ((iF fs R m)[0]' hG)=lD fs R (iF fs R m)[p] (iF fs R m)[n+1]:=by
  rw[k,rC,o];rfl
 unfold lD kL at a;by_cases c:(dC fs R (iF fs R m)[n+1]).1*(dC fs R (iF fs R m)[p]).2<(dC fs R (iF fs R m)[p]).1*(dC fs R (iF fs R m)[n+1]).2
 ·rw[a9 (b0 c)]at a;have r:=j.mpr c;refine⟨n+1,b,⟨hG,λq d=>?_,λq d=>?_⟩,a⟩
  ·by_cases e:q=n+1
   ·rw[e];exact lA _
   ·have:=f q hG;dsimp only at this |-
    lia
  ·have:=f q hG;dsimp only at this |-
   lia
 ·rw[a8 (by rw[b7 c];decide)]at a;have r:¬(DW fs R m).getD (n+1) 0<(DW fs R m).getD p 0:=λz=>c (j.mp z);refine⟨p,g,⟨hG,λq d=>?_,l⟩,a⟩;by_cases e:q=n+1
  ·rw[e];dsimp only;lia
  ·exact f q hG
def ZC{fs}{R:List Rw}(n:R.length<=60){m:Int}{i:Nat}(h:xk fs R m (i::J)):wc fs R (iF fs R m)=some ((iF fs R m)[i]'(h.lt i (aO ..))):=by
 have q:=h.lt i (aO ..);have c:0<(iF fs R m).length:=by lia
 obtain⟨p,r,f,d⟩:=ZB n m ((iF fs R m).length-1) (Nat.sub_lt c Nat.one_pos);rw[Nat.sub_add_cancel c]at f;have e:=X8 f (VG h);subst e;have g:((iF fs R m).drop 1).take ((iF fs R m).length-1)=(iF fs R m).drop 1:=fF (by rw[eP];exact aN _);rw[g]at d
 obtain⟨a,l,b⟩:∃a l,iF fs R m=a::l:=by
  cases b:iF fs R m with
  |nil=>rw[b]at c;cases c
  |cons a l=>exact⟨a,l,kA⟩
 have j:(iF fs R m)[0]=a:=by simp[b]
 have k:(iF fs R m).drop 1=l:=by rw[b];rfl
 rw[j,k]at d;have o:wc fs R (iF fs R m)=some (l.foldl (lD fs R) a):=by rw[b];rfl
 rw[o,d]
def Vx{fs}{m:Int}(h:xk fs R m []):wc fs R (iF fs R m)=none:=by
 have:(iF fs R m).length=0:=by have:=h.len;simpa using this.symm
 rw[kN.mp this];rfl
def AF{fs}{m:Int}(h:mE fs R m=some c):c∈iF fs R m:=by
 unfold mE at h;have f:=Option.filter_eq_some_iff.mp h;have b:=f.1
 cases d:iF fs R m with
 |nil=>rw[d]at b;cases b
 |cons a l=>
  rw[d]at b;have e:l.foldl (lD fs R) a=c:=c5 b
  have:∀(l:List Ch)(a:Ch),l.foldl (lD fs R) a∈a::l:=by
   intro l
   induction l with
   |nil=>intro a;exact aO ..
   |cons x l g=>
    intro a;rw[iZ];rcases aR.mp (g (lD fs R a x))with z | z
    ·rw[z];unfold lD;split
     ·exact aJ _ (aO ..)
     ·exact aO ..
    ·exact aJ _ (aJ _ z)
  rw[<- e];exact this l a
def Qm:kH:=λa Q=>∃x y:Nat×Nat,a=[FB x,FB y]/\x.1<=1000000/\y.1<=1000000/\Q (.bool (kL x y))
def Pr:kH:=λb Q=>∃(fs:Fs)(an:List Str)(a:List Rw)(m:Int),b=[dY fs an,.list (a.map cV),.int m]/\eV fs an/\fK fs an a/\a.length<=60/\Q (Bs fs a (mE fs a m))
def Gr(fs:Fs)(an:List Str)(m:Int):Nat->List Rw->Tr->Prop
|0,R,t=>∃a,uI an R a/\t=.say a
|d+1,R,t=>match mE fs R m with
 |none=>∃a,uI an R a/\t=.say a
 |some c=>∃y n,Gr fs an m d (yR fs c R) y/\Gr fs an m d (nR fs c R) n/\t=.ask c.1.1 c.1.2.1 c.1.2.2 c.2 y n
def MG{R S:List Rw}(h:R.Perm S)(z:Str):sR R z=sR S z:=h.countP_eq _
def V7{R S:List Rw}(h:R.Perm S):BF R R=BF S S:=by
 unfold BF;have e:(λr:Rw=>R.countP λo=>decide (o.2≠r.2))=λr:Rw=>S.countP λo=>decide (o.2≠r.2):=funext λr=>h.countP_eq _;rw[e];exact(h.map _).sum_nat
def EJ{R S:List Rw}(h:R.Perm S):vF R=vF S:=by unfold vF;rw[V7 h,h.length_eq]
def T5{fs}{R S:List Rw}(h:R.Perm S)(m:Int):mE fs R m=mE fs S m:=by
 have a:dC fs R=dC fs S:=funext λc=>by unfold dC;rw[EJ (h.filter _),EJ (h.filter (λr=>!wh fs c r))]
 have d:okC fs R m=okC fs S m:=funext λc=>by unfold okC;rw[(h.filter (wh fs c)).length_eq,(h.filter (λr=>!wh fs c r)).length_eq]
 have e:lD fs R=lD fs S:=funext λb=>funext λx=>by unfold lD;rw[a]
 have f:∀l,wc fs R l=wc fs S l:=λl=>by cases l<;>simp only[wc,e]
 unfold mE iF;rw[d,f,a,EJ h]
def D5{R S:List Rw}(h:R.Perm S)(e:uI an R a)(f:uI an S b):a=b:=by
 obtain⟨k,d,m1,g⟩:=e;obtain⟨j,c,l,i⟩:=f;have m:=MG h a;have n:=MG h b;rcases lU k j with q | rfl | q
 ·have x:=i k a q d;have y:=m1 j b c;lia
 ·rw[d]at c;cases c;rfl
 ·have x:=g j b q c;have y:=l k a d;lia
theorem JE{fs}{m:Int}:∀(d:Nat){R S:List Rw}{t u},R.Perm S->Gr fs an m d R t->Gr fs an m d S u->t=u
|0,R,S,t,u,h,⟨a,f,i⟩,⟨b,g,j⟩=>by rw[i,j,D5 h f g]
|d+1,R,S,t,u,h,f,g=>by
 unfold Gr at f g;rw[T5 h]at f
 cases e:mE fs S m with
 |none=>
  rw[e]at f g;obtain⟨a,f,i⟩:=f;obtain⟨b,g,j⟩:=g;rw[i,j,D5 h f g]
 |some c=>
  rw[e]at f g;obtain⟨p,n1,k,l,rfl⟩:=f;obtain⟨q,o,a2,n,rfl⟩:=g;rw[JE d (h.filter _) k a2,JE d (h.filter _) l n]
theorem QL{fs}{m:Int}:∀(d:Nat){R}{t:Tr},Gr fs an m d R t->lZ fs an t/\t.dep<=d
|0,R,t,h=>by
 obtain⟨a,⟨k,e,_⟩,rfl⟩:=h;exact⟨aV e,aN _⟩
|d+1,R,t,h=>by
 unfold Gr at h
 cases e:mE fs R m with
 |none=>
  rw[e]at h;obtain⟨a,⟨k,e,_⟩,rfl⟩:=h;exact⟨aV e,cJ _⟩
 |some c=>
  rw[e]at h;obtain⟨y,n,g,i,rfl⟩:=h;obtain⟨b,a2⟩:=QL d g;obtain⟨f,o⟩:=QL d i;obtain⟨j,l⟩:=OO (cW.mp (AF e)).1;exact⟨⟨IA j,l,b,f⟩,by show max y.dep n.dep+1<=d+1;lia⟩
def tK(b:Nat):kH:=λc Q=>∃(fs:Fs)(an:List Str)(a:List Rw)(d:Nat)(m:Int),c=[dY fs an,.list (a.map cV),.int d,.int m]/\eV fs an/\fK fs an a/\a.length<=60/\d<b/\∀t,Gr fs an m d a t->Q (gE t)
def Ps:kH:=tK 7
def XE{Q:D->Prop}(h:tK 0 ds Q):False:=by
 obtain⟨fs,an,f,d,m,e,F,a,b,c,h⟩:=h;lia
noncomputable def GV(fs:List (Str×List Str))(an:List Str)(d:D):Bool:=match d with | .tuple [c,a]=>gH fs c&&wA an a | _=>false
def Ow:kH:=λa Q=>∃(fs:List (Str×List Str))(an:List Str)(d:D),a=[dY fs an,d]/\eV fs an/\Cd d/\Q (.bool (gH fs d))
def Ox:kH:=λa Q=>∃(fs:List (Str×List Str))(an:List Str)(d:D),a=[dY fs an,d]/\eV fs an/\Cd d/\Q (.bool (GV fs an d))
noncomputable def yu:D->Bool
|.tuple [.tuple [_,.tuple vs],v]=>FM v (.tuple (vs++[.none]))
|_=>false
def Xi(fs:List (Str×List Str))(a:List D):((sV (fs.map iN) a).map yu).all id=(fs.zip a).all λp=>KJ p.1 p.2:=by
 unfold sV;rw[aX,aJu,List.zip_map_left,aJu];apply e5 (λg=>List.all (fs.zip a) g);funext p;exact OF p.1 p.2
noncomputable def wP(a:List Str):D:=.tuple (a.map aL)
noncomputable def xg(x:List Str):List Str:="yes"::x
noncomputable def xh(x:List Str):List Str:="no"::x
noncomputable def KM:Tr->Tr->List (List Str)
|.say a,.say b=>if a=b then[]else[[]]
|.say _,.ask _ _ _ _ _ _=>[[]]
|.ask _ _ _ _ _ _,.say _=>[[]]
|.ask k n v s y m,.ask k' n' v' s' y' m'=>if k=k'/\n=n'/\v=v'/\s=s' then(KM y y').map xg++(KM m m').map xh else[[]]
noncomputable def QK:Tr->Tr->Bool
|.ask k n v s _ _,.ask k' n' v' s' _ _=>decide (k=k'/\n=n'/\v=v'/\s=s')
|_,_=>false
def Sv(h:QK t u=false):(t=u->KM t u=[])/\(t≠u->KM t u=[[]]):=by
 cases t with
 |say a=>
  cases u with
  |say b=>
   refine⟨λe=>?_,λe=>?_⟩
   ·cases e;exact a9 kA
   ·exact a8 λz=>e (by rw[z])
  |ask k n v s y m=>exact⟨(λe=>nomatch e),λ_=>rfl⟩
 |ask k n v s y m=>
  cases u with
  |say b=>exact⟨(λe=>nomatch e),λ_=>rfl⟩
  |ask c f i g j d=>
   have hh:=d9 h;refine⟨λe=>?_,λ_=>a8 hh⟩;cases e;exact b9 ⟨kA,kA,kA,kA⟩ hh
def Wv{k}:KM (.ask k n v s y m) (.ask k n v s y' m')=(KM y y').map xg++(KM m m').map xh:=a9 ⟨kA,kA,kA,kA⟩
theorem CI:∀t u:Tr,(KM t u).length<=t.nodes
|.say a,.say b=>by
 show(if a=b then[]else[[]]:List (List Str)).length<=1;split<;>simp
|.say _,.ask _ _ _ _ _ _=>aN 1
|.ask k n v s y m,.say _=>(Tr.ask k n v s y m).nodes_pos
|.ask k n v s y m,.ask k' n' v' s' y' m'=>by
 show(if k=k'/\n=n'/\v=v'/\s=s' then(KM y y').map xg++(KM m m').map xh else[[]]).length<=y.nodes+m.nodes+1;have c:=CI y y';have d:=CI m m';split
 ·rw[aZ,aA,aA];lia
 ·simp
theorem CJ:∀(t u:Tr),∀p∈KM t u,p.length<=t.dep
|.say a,.say b=>λp c=>by
 have hp':p∈(if a=b then[]else[[]]:List (List Str)):=c;split at hp'
 ·simp at hp'
 ·rw[bP.mp hp'];exact aN 0
|.say _,.ask _ _ _ _ _ _=>λp c=>by rw[bP.mp c];exact aN 0
|.ask k n v s y m,.say _=>λp c=>by rw[bP.mp c];exact cJ _
|.ask k n v s y m,.ask k' n' v' s' y' m'=>λp c=>by
 have hp':p∈(if k=k'/\n=n'/\v=v'/\s=s' then(KM y y').map xg++(KM m m').map xh else[[]]):=c;show p.length<=max y.dep m.dep+1;split at hp'
 ·rcases cL.mp hp' with hp' | hp'
  ·obtain⟨q,d,rfl⟩:=aQ.mp hp';have:=CJ y y' q d;show q.length+1<=_;lia
  ·obtain⟨q,d,rfl⟩:=aQ.mp hp';have:=CJ m m' q d;show q.length+1<=_;lia
 ·rw[bP.mp hp'];exact cJ _
def SI(t:Tr):t.nodes<=2*2^t.dep:=by
 rw[t.nodes_kn];have:=t.kn_dep;lia
def LQ{t:Tr}(h:t.dep<=12):t.nodes<=8192:=by
 have a:=SI t;have b:2^t.dep<=2^12:=eS gV h;lia
def Ck(k n v a b c:Str):cM (.tuple [.str k,.str n,.str v]) (.tuple [.str a,.str b,.str c])=decide (k=a/\n=b/\v=c):=by
 show((k==a)&&((n==b)&&((v==c)&&true)))=_;rw[dN];simp
theorem JL:∀t u:Tr,cM (gE t) (gE u)=true↔t=u
|.say a,.say b=>by
 show((("say":Str)=="say")&&((a==b)&&true))=true↔_;simp
|.say a,.ask k n v s y m=>by
 refine⟨λh=>?_,λh=>nomatch h⟩;have g:((("say":Str)=="ask")&&((cM (.str a) (.tuple [.str k,.str n,.str v]))&&false))=true:=h;rw[show(("say":Str)=="ask")=false by decide +kernel]at g;cases g
|.ask k n v s y m,.say a=>by
 refine⟨λh=>?_,λh=>nomatch h⟩;have g:((("ask":Str)=="say")&&((cM (.tuple [.str k,.str n,.str v]) (.str a))&&false))=true:=h;rw[show(("ask":Str)=="say")=false by decide +kernel]at g;cases g
|.ask k n v s y m,.ask k' n' v' s' y' m'=>by
 show((("ask":Str)=="ask")&&(cM (.tuple [.str k,.str n,.str v]) (.tuple [.str k',.str n',.str v'])&&((s==s')&&(cM (gE y) (gE y')&&(cM (gE m) (gE m')&&true)))))=true↔_;rw[Ck];simp only[cS,c6,af,JL y y',JL m m',and_true,Tr.ask.injEq];exact⟨λ⟨_,⟨a,b,c⟩,d,e,f⟩=>⟨a,b,c,d,e,f⟩,λ⟨a,b,c,d,e,f⟩=>⟨trivial,⟨a,b,c⟩,d,e,f⟩⟩
def YZ{k n v s a b d c:Str}:cM (.tuple [.str "ask",.tuple [.str k,.str n,.str v],.str s]) (.tuple [.str "ask",.tuple [.str a,.str b,.str d],.str c])=decide (k=a/\n=b/\v=d/\s=c):=by
 show((("ask":Str)=="ask")&&(cM (.tuple [.str k,.str n,.str v]) (.tuple [.str a,.str b,.str d])&&((s==c)&&true)))=_;rw[Ck,dN];simp[and_assoc]
section
variable{fs:List (Str×List Str)}{an:List Str}
def Ci(F:eV fs an){t:Tr}(h:lZ fs an t)(hd:t.dep<=40):Cd (gE t):=(zw F t h).cd hG
def P2(a:Cd x)(b:Cd y):zl x y:=⟨a.lay,b.lay,by have:=a.dep;lia⟩
def Lf{s:Str}(h:s="yes"\/s="no"):uW s=true:=by
 rcases h with rfl | rfl
 ·exact IL
 ·exact P5
def Q1(F:eV fs an){k n v s:Str}(h:lZ fs an (.ask k n v s y m)):Cd (.tuple [.str "ask",.tuple [.str k,.str n,.str v],.str s]):=
 (sY 27 1 3 (all_cons (jR W4 gV) (all_cons (By F h.1) (all_cons (jR (Lf h.2.1) gV) yV))) (aN _) (aN _) (aN _)).cd gV
end
def tJ(a:Nat):kH:=λb Q=>∃(fs:List (Str×List Str))(an:List Str)(t u:Tr),b=[gE t,gE u]/\eV fs an/\lZ fs an t/\lZ fs an u/\t.dep<a/\t.dep<=12/\u.dep<=12/\Q (.list ((KM t u).map wP))
def Qa:kH:=tJ 13
def XD{Q:D->Prop}(h:tJ 0 ds Q):False:=by
 obtain⟨_,_,_,_,_,_,_,_,h,_⟩:=h;lia
def Zh{c:wF}{g u:wG}(R:Bool->Prop)(P:List Sl->Prop)(h:∀q:Bool->Prop,(∀b,R b->q b)->c σ q)(i:R true->∀d:wH,(∀a,P a->d.nx a)->g d σ)(j:R false->P σ)(f:∀a,P a->u DT a):gL (xc c g iI) u DT σ:=h _ λb e=>by
 cases b with
 |true=>exact i e { DT with nx:=u DT } f
 |false=>exact f _ (j e)
def VJ{e:ET}{d:List Sl}{i j l:Nat}(h:∀q:D->Prop,q (.tuple [a,b,c])->e d q)(k:u DT (((d.set i (.val a)).set j (.val b)).set l (.val c))):gL (Es e (yx i j l)) u DT d:=h _ ⟨a,b,c,kA,k⟩
noncomputable def jx(fs:List (Str×List Str))(n:Str):Nat:=(fs.map (·.1)).idxOf n
section
variable{fs:List (Str×List Str)}{an:List Str}
def I0(F:eV fs an){k n v:Str}(h:QG fs (.tuple [.str k,.str n,.str v])=true):∃f,fs[jx fs n]?=some f/\f∈fs/\f.1=n/\v∈f.2/\(k="is"\/k="upto"):=by
 obtain⟨f,b,a,d,hk⟩:=CC h;obtain⟨j,c⟩:=cT b;have:jx fs n=j:=by rw[<- a];exact B6 F c
 exact⟨f,by rw[this];exact c,b,a,d,hk.imp id λz=>z.1⟩
end
noncomputable def zC(a:List (Nat×Rw)):List (Int×D):=a.map λe=>((e.1:Int),cV e.2)
noncomputable def SH(a:List (Nat×Rw)):List D:=a.map λe=>.tuple [.int (e.1:Nat),cV e.2]
def Hz(C:Addr):KO (oF C):=λc n b Q=>∃(T:Bk)(a:List (Nat×Rw)),c=pJ T/\b=[pJ T]/\n.kvs=zC a/\Q n (.list (SH a))
def H0(C:Addr):KO (oF C):=λb n a Q=>∃T:Bk,b=pJ T/\a=[pJ T]/\Q n n.st
def Ot(C:Addr):KO (oF C):=λb n a Q=>∃(T:Bk)(j:Int)(d:D),b=pJ T/\a=[pJ T,.int j]/\JF n.kvs j=some d/\Q n .none
def Ia(C:Addr):KO (oF C):=λb n a Q=>∃(fs:List (Str×List Str))(an:List Str)(T:Bk)(d:D),b=pJ T/\a=[pJ T,d]/\eV fs an/\T.fm=dY fs an/\Cd d/\GV fs an d=true/\Q n .none
def Ou(C:Addr):KO (oF C):=λf n c Q=>∃(fs:Fs)(an:List Str)(d:Nat)(m:Int)(T:Bk)(a:List (Nat×Rw))(b:Tr),f=pJ T/\c=[pJ T]/\eV fs an/\T.fm=dY fs an/\T.dp=(d:Nat)/\T.ls=m/\n.kvs=zC a/\fK fs an (a.map (·.2))/\a.length<=60/\d<=6/\n.st=gE b/\lZ fs an b/\b.dep<=6 /\
 ∀t,Gr fs an m d (a.map (·.2)) t->∀e:List D,Q { n with st:=gE t } (.list e)
noncomputable def mC(k:Nat)(r:Rw)(a:List (Nat×Rw)):List (Nat×Rw):=a.map λe=>if e.1=k then(e.1,r)else e
noncomputable def OG(k:Nat)(a:List (Nat×Rw)):Option Rw:=(a.find? λe=>decide (e.1=k)).map (·.2)
def L5{fs}(h:mN fs an r):GV fs an (cV r)=true:=by
 show(gH fs (.tuple r.1)&&wA an (.str r.2))=true;rw[h.1,show wA an (.str r.2)=true from b0 h.2];rfl
theorem N9{k:Nat}:∀(ks:List (Nat×Rw)),((zC ks).any λe=>decide (e.1=(k:Int)))=ks.any λe=>decide (e.1=k)
|[]=>rfl
|e::ks=>by
 show(decide ((e.1:Int)=(k:Int))||(zC ks).any _)=(decide (e.1=k)||ks.any _);rw[N9 ks];congr 1;rw[dN,c6,c6];lia
def V2{k:Nat}(h:∀e∈ks,e.1≠k):FK (zC ks) (k:Nat) (cV r)=zC (ks++[(k,r)]):=by
 unfold FK
 rw[N9,a8 (by
  rw[sQ];rintro⟨e,he,z⟩;exact h e he (b8 z))]
 unfold zC;rw[bT];rfl
def Wk{k:Nat}:OG k ks=some r->JF (zC ks) (k:Nat)=some (cV r):=by
 unfold OG JF zC;rw[List.find?_map];intro h;obtain⟨e,b,rfl⟩:=bZ.mp h
 have a:((λe:Int×D=>decide (e.1=(k:Int)))∘λe:Nat×Rw=>((e.1:Int),cV e.2))=λe:Nat×Rw=>decide (e.1=k):=by
  funext e;show decide ((e.1:Int)=(k:Int))=decide (e.1=k);rw[dN,c6,c6];lia
 rw[a,b];rfl
def YH{k:Nat}(h:OG k ks=some r):(k,r)∈ks:=by
 obtain⟨e,a,rfl⟩:=bZ.mp h;have b:=KC a;have c:e.1=k:=b8 (aDu (p:=λe:Nat×Rw=>decide (e.1=k)) a);rw[<- c];exact b
def V1{k:Nat}(h:OG k ks=some r):FK (zC ks) (k:Nat) (cV r2)=zC (mC k r2 ks):=by
 unfold FK;rw[N9,a9 (sQ.mpr ⟨_,YH h,b0 kA⟩)];unfold zC mC;rw[aX,aX];apply iC;intro e _;show(if(e.1:Int)=(k:Int)then((e.1:Int),cV r2)else((e.1:Int),cV e.2))=(λe:Nat×Rw=>((e.1:Int),cV e.2)) (if e.1=k then(e.1,r2)else e);by_cases z:e.1=k
 ·rw[a9 z,a9 hG]
 ·rw[a8 z,a8 hG]
def GG{fs}{a:List (Nat×Rw)}{k:Nat}(h:fK fs an (a.map (·.2)))(b:mN fs an r):fK fs an ((a++[(k,r)]).map (·.2)):=λx hx=>by
 rw[bT]at hx;rcases cL.mp hx with hx | hx
 ·exact h x hx
 ·rw[show x=r from bP.mp hx];exact b
def VR{fs}{b:List (Nat×Rw)}{k:Nat}(h:fK fs an (b.map (·.2)))(f:mN fs an r):fK fs an ((mC k r b).map (·.2)):=λx g=>by
 obtain⟨e,d,rfl⟩:=aQ.mp g;obtain⟨a,c,rfl⟩:=aQ.mp d;by_cases z:a.1=k
 ·rw[a9 z];exact f
 ·rw[a8 z];exact h _ (aQ.mpr ⟨a,c,kA⟩)
def Hx(C:Addr):KO (oF C):=λg n c Q=>∃(fs:Fs)(an:List Str)(d:Nat)(m:Int)(T:Bk)(a:List (Nat×Rw))(k:Nat)(r:Rw)(b:Tr),g=pJ T/\c=[pJ T,cV r]/\eV fs an/\T.fm=dY fs an/\T.dp=(d:Nat)/\T.ls=m/\n.kvs=zC a/\fK fs an (a.map (·.2))/\a.length<60/\d<=6/\n.st=gE b/\lZ fs an b/\b.dep<=6/\n.fol=(k:Nat)/\k<=1000/\(∀e∈a,e.1≠k)/\mN fs an r/\Cd (cV r) /\
 ∀t,Gr fs an m d ((a++[(k,r)]).map (·.2)) t->∀f:List D,Q ⟨zC (a++[(k,r)]),((k+1:Nat):Int),gE t⟩ (.tuple [.int (k:Nat),.list f])
def Hy(C:Addr):KO (oF C):=λg n e Q=>∃(fs:Fs)(an:List Str)(d:Nat)(m:Int)(T:Bk)(a:List (Nat×Rw))(k:Nat)(r b:Rw)(c:Tr),g=pJ T/\e=[pJ T,.int (k:Nat),cV b]/\eV fs an/\T.fm=dY fs an/\T.dp=(d:Nat)/\T.ls=m/\n.kvs=zC a/\fK fs an (a.map (·.2))/\a.length<=60/\d<=6/\n.st=gE c/\lZ fs an c/\c.dep<=6/\OG k a=some r/\mN fs an b/\Cd (cV b) /\
 ∀t,Gr fs an m d ((mC k b a).map (·.2)) t->∀f:List D,Q ⟨zC (mC k b a),n.fol,gE t⟩ (.tuple [cV r,.list f])
def Bu:kH:=λa Q=>∃(fs:Fs)(an:List Str)(d:Nat)(m:Int),a=[dY fs an,.int (d:Nat),.int m]/\eV fs an/\d<=6/\∀t,Gr fs an m d [] t->Q (gE t)
def Rb:kH:=λb Q=>∃(fs:List (Str×List Str))(an:List Str)(k n v s:Str)(jN a:List D),b=[dY fs an,.tuple (.str "ask"::.tuple [.str k,.str n,.str v]::.str s::jN),.tuple a]/\eV fs an/\QG fs (.tuple [.str k,.str n,.str v])=true/\(s="yes"\/s="no")/\gH fs (.tuple a)=true/\Q (.str (eJ fs k n v s a))
def Rh:kH:=λa Q=>∃(ns:List Int)(fs:List (Str×List Str))(an:List Str),a=[kK ns,dY fs an]/\ns.length<=63/\eV fs an/\∀r:Rw,mN fs an r->Q (cV r)
def Kb{fs:List (Str×List Str)}{a:List D}(b:a.length=fs.length)(d:∀(k:Nat) f c,fs[k]?=some f->a[k]?=some c->KJ f c=true):gH fs (.tuple a)=true:=by
 show(decide (a.length=fs.length)&&(fs.zip a).all λp=>KJ p.1 p.2)=true;rw[b0 b,lJ,gW];intro p h;obtain⟨k,hk⟩:=cT h;obtain⟨e,g⟩:=eD.mp hk;exact d k p.1 p.2 e g
def Rf:kH:=λb Q=>∃(fs:Fs)(an:List Str)(a:List Rw),b=[dY fs an,.list (a.map cV)]/\eV fs an/\fK fs an a/\a.length<=60/\Q (.int ((BF a a:Nat):Int))
def Uv{fs}(F:eV fs an){a:List Rw}(h:fK fs an a):(a.length:Int)*(a.length:Int)-((iO an a).map λc=>c*c).sum=((BF a a:Nat):Int):=by
 have f:∀r∈a,r.2∈an:=λr k=>(h r k).2;have b:=PR F.an.2.2 f;have e:=CV F.an.2.2 (λ_=>(a.length:Int)) a f
 have g:∀l:List Rw,(l.map λ_=>(a.length:Int)).sum=(l.length:Int)*(a.length:Int):=λl=>by
  induction l with
  |nil=>simp
  |cons x l d=>rw[bI,fD,d,bN,gS,UG];show _=_+1*_;lia
 have i:∀l:List Int,(l.map λc=>c*((a.length:Int)-c)).sum=(l.map λc=>c*(a.length:Int)).sum-(l.map λc=>c*c).sum:=λl=>by
  induction l with
  |nil=>rfl
  |cons x l d=>simp only[bI,fD];rw[d,aR7];lia
 rw[g]at e;rw[i]at b
 have j:((iO an a).map λc=>c*(a.length:Int)).sum=(a.length:Int)*(a.length:Int):=by
  unfold iO;rw[aX];exact e
 rw[j]at b;exact b
noncomputable def Am(x:D):D:=match x with | .int c=>.int (c*c) | _=>.none
def tF(b:Nat):kH:=λc Q=>∃(fs:Fs)(an:List Str)(a:List Rw)(d:Nat)(m:Int),c=[dY fs an,.list (a.map cV),.int d,.int m]/\eV fs an/\fK fs an a/\a.length<=60/\d<b/\1<=m/\∀t,Gr fs an m d a t->Q (gE t)
def Rg:kH:=tF 7
def W9{Q:D->Prop}(h:tF 0 ds Q):False:=by
 obtain⟨fs,an,f,d,m,e,F,a,b,c,h⟩:=h;lia
noncomputable def MX(fs:Fs)(R:List Rw)(c:Ch):Nat:=BF (yR fs c R) (yR fs c R)*(nR fs c R).length+BF (nR fs c R) (nR fs c R)*(yR fs c R).length
noncomputable def KH(fs:Fs)(R:List Rw)(c:Ch):Nat:=(yR fs c R).length*(nR fs c R).length
noncomputable def ww(fs:Fs)(R:List Rw):Option Ch->Nat
|none=>BF R R
|some c=>MX fs R c
noncomputable def wn(fs:Fs)(R:List Rw):Option Ch->Nat
|none=>R.length
|some c=>KH fs R c
noncomputable def E9(fs:Fs)(R:List Rw)(m:Int)(s:Option Ch)(c:Ch):Option Ch:=if okC fs R m c=true then(if MX fs R c*wn fs R s<ww fs R s*KH fs R c then some c else s)else s
def XO(a b:Nat):(low a b).1*b=a*(low a b).2:=by
 show a / a.gcd b*b=a*(b / a.gcd b);obtain⟨x,c⟩:=aDr a b;obtain⟨y,d⟩:=rF a b;by_cases h:a.gcd b=0
 ·rw[h,aRn,aRn,aRj,Nat.mul_zero]
 ·have e:0<a.gcd b:=Nat.pos_of_ne_zero h;have f:a / a.gcd b=x:=by rw[KA e c]
  have i:b / a.gcd b=y:=by rw[KA e d]
  rw[f,i]
  generalize a.gcd b=g at c d
  subst c d;simp only[eL,dQ,dO]
def VT{x y:Nat×Nat}{a b c d:Nat}(g:x.1*b=a*x.2)(i:y.1*d=c*y.2)(m:0<x.2)(n:0<y.2)(k:0<b)(l:0<d):kL x y=decide (a*d<c*b):=by
 unfold kL;rw[i4]
 have e:x.1*y.2*(b*d)=a*d*(x.2*y.2):=by
  calc x.1*y.2*(b*d)=(x.1*b)*(y.2*d):=by simp only[eL,dQ,dO]
   _=(a*x.2)*(y.2*d):=by rw[g]
   _=_:=by simp only[eL,dQ,dO]
 have f:y.1*x.2*(b*d)=c*b*(x.2*y.2):=by
  calc y.1*x.2*(b*d)=(y.1*d)*(x.2*b):=by simp only[eL,dQ,dO]
   _=(c*y.2)*(x.2*b):=by rw[i]
   _=_:=by simp only[eL,dQ,dO]
 have p1:0<b*d:=rD k l;have j:0<x.2*y.2:=rD m n;refine⟨λh=>?_,λh=>?_⟩
 ·have:=gY h p1;rw[e,f]at this;exact jP this
 ·have:=gY h j;rw[<- e,<- f]at this;exact jP this
def yS{R:List Rw}(h:0<R.length):(vF R).1*R.length=BF R R*(vF R).2/\0<(vF R).2:=by
 have e:max 1 R.length=R.length:=by lia
 unfold vF;rw[e];exact⟨XO _ _,B9 h⟩
def wY{fs}(d:0<(yR fs c R).length)(b:0<(nR fs c R).length):(dC fs R c).1*KH fs R c=MX fs R c*(dC fs R c).2/\0<(dC fs R c).2/\0<KH fs R c:=by
 obtain⟨a,h⟩:=yS d;obtain⟨n1,g⟩:=yS b;unfold dC ye KH MX
 generalize vF (yR fs c R)=x at a h
 generalize vF (nR fs c R)=z at n1 g
 generalize (yR fs c R).length=y at a d
 generalize (nR fs c R).length=n at n1 b
 generalize BF (yR fs c R) (yR fs c R)=p at a
 generalize BF (nR fs c R) (nR fs c R)=q at n1
 have f:0<x.2*z.2:=rD h g;have e:=XO (x.1*z.2+z.1*x.2) (x.2*z.2);refine⟨?_,B9 f,rD d b⟩
 generalize low (x.1*z.2+z.1*x.2) (x.2*z.2)=S at e
 apply Nat.eq_of_mul_eq_mul_right f
 calc S.1*(y*n)*(x.2*z.2)=(S.1*(x.2*z.2))*(y*n):=by simp only[eL,dQ,dO]
  _=((x.1*z.2+z.1*x.2)*S.2)*(y*n):=by rw[e]
  _=(x.1*y)*(z.2*n*S.2)+(z.1*n)*(x.2*y*S.2):=by rw[nU,nU];simp only[eL,dQ,dO]
  _=(p*x.2)*(z.2*n*S.2)+(q*z.2)*(x.2*y*S.2):=by rw[a,n1]
  _=(p*n+q*y)*S.2*(x.2*z.2):=by rw[nU,nU];simp only[eL,dQ,dO]
def pU{fs}{m:Int}(e:1<=m)(h:okC fs R m c=true):0<(yR fs c R).length/\0<(nR fs c R).length:=by
 have a:=cS _ _▸h;have b:=b8 a.1;have d:=b8 a.2;lia
def XT{x y z:Nat×Nat}(g:0<x.2)(i:0<z.2)(f:0<y.2)(h:kL x z=true)(d:kL y z=false):kL x y=true:=by
 have c:=b8 h;have e:=d9 d;refine b0 ?_;have b:=gY c f;have a2:=mL x.2 (aDo e);apply jP (a:=z.2)
 calc x.1*y.2*z.2=x.1*z.2*y.2:=by simp only[eL,dQ,dO]
  _<z.1*x.2*y.2:=b
  _=z.1*y.2*x.2:=by simp only[eL,dQ,dO]
  _<=y.1*z.2*x.2:=a2
  _=y.1*x.2*z.2:=by simp only[eL,dQ,dO]
def XS{x y z:Nat×Nat}(f:0<x.2)(g:0<z.2)(i:0<y.2)(h:kL x y=true)(d:kL y z=true):kL x z=true:=by
 have c:=b8 h;have e:=b8 d;refine b0 ?_;have b:=gY c g;have a2:=gY e f;apply jP (a:=y.2)
 calc x.1*z.2*y.2=x.1*y.2*z.2:=by simp only[eL,dQ,dO]
  _<y.1*x.2*z.2:=b
  _=y.1*z.2*x.2:=by simp only[eL,dQ,dO]
  _<z.1*y.2*x.2:=a2
  _=z.1*x.2*y.2:=by simp only[eL,dQ,dO]
def LC{fs}{R:List Rw}{m:Int}(g:1<=m)(a:0<R.length)(h:okC fs R m c=true):E9 fs R m none c=if kL (dC fs R c) (vF R)=true then some c else none:=by
 obtain⟨p1,i⟩:=pU g h;obtain⟨b,a2,d⟩:=wY p1 i;obtain⟨e,f⟩:=yS a;unfold E9;rw[a9 h,VT b e a2 f d a];show(if MX fs R c*R.length<BF R R*KH fs R c then some c else none)=_;by_cases z:MX fs R c*R.length<BF R R*KH fs R c
 ·rw[a9 z,a9 (b0 z)]
 ·rw[a8 z,a8 λh=>z (b8 h)]
def VO{fs}{m:Int}(a:1<=m)(j:okC fs R m b=true)(h:okC fs R m c=true):E9 fs R m (some b) c=some (lD fs R b c):=by
 obtain⟨p1,k⟩:=pU a h;obtain⟨q1,l⟩:=pU a j;obtain⟨d,a2,e⟩:=wY p1 k;obtain⟨f,g,i⟩:=wY q1 l;unfold E9 lD;rw[a9 h,VT d f a2 g e i];show(if MX fs R c*KH fs R b<MX fs R b*KH fs R c then some c else some b)=_;by_cases z:MX fs R c*KH fs R b<MX fs R b*KH fs R c
 ·rw[a9 z,a9 (b0 z)]
 ·rw[a8 z,a8 λh=>z (b8 h)]
theorem zY{fs}{m:Int}(a:1<=m):∀(l:List Ch)(b:Ch),okC fs R m b=true->(∀c∈l,okC fs R m c=true)->l.foldl (E9 fs R m) (some b)=some (l.foldl (lD fs R) b)
|[],b,_,_=>rfl
|c::l,b,hb,h=>by
 rw[iZ,iZ,VO a hb (h c (aO ..))];refine zY a l _ ?_ λx d=>h x (aJ _ d);unfold lD;split
 ·exact h c (aO ..)
 ·exact hb
theorem vC{fs}{R:List Rw}{m:Int}(a:1<=m)(d:0<R.length):∀(l:List Ch)(b:Ch),okC fs R m b=true->(∀c∈l,okC fs R m c=true)->kL (dC fs R b) (vF R)=true->kL (dC fs R (l.foldl (lD fs R) b)) (vF R)=true
|[],b,_,_,h=>h
|c::l,b,hb,h,h2=>by
 rw[iZ];have f:=h c (aO ..);have g:∀x∈l,okC fs R m x=true:=λx i=>h x (aJ _ i);by_cases z:kL (dC fs R c) (dC fs R b)=true
 ·have e:lD fs R b c=c:=a9 z;rw[e];obtain⟨p1,j⟩:=pU a f;obtain⟨q1,k⟩:=pU a hb;exact vC a d l c f g (XS (wY p1 j).2.1 (yS d).2 (wY q1 k).2.1 z h2)
 ·have e:lD fs R b c=b:=a8 z;rw[e];exact vC a d l b hb g h2
theorem zZ{fs}{R:List Rw}{m:Int}(a:1<=m)(d:0<R.length):∀(l:List Ch)(b:Ch),okC fs R m b=true->(∀c∈l,okC fs R m c=true)->kL (dC fs R b) (vF R)=false->l.foldl (E9 fs R m) none=(some (l.foldl (lD fs R) b)).filter λc=>kL (dC fs R c) (vF R)
|[],b,_,_,h=>by rw[aF5,aF5,xI,h];rfl
|c::l,b,hb,h,h2=>by
 rw[iZ,iZ];have f:=h c (aO ..);have g:∀x∈l,okC fs R m x=true:=λx i=>h x (aJ _ i);rw[LC a d f];obtain⟨p1,j⟩:=pU a f;obtain⟨q1,k⟩:=pU a hb;by_cases z:kL (dC fs R c) (vF R)=true
 ·have e:lD fs R b c=c:=a9 (XT (wY p1 j).2.1 (yS d).2 (wY q1 k).2.1 z h2);rw[a9 z,e,zY a l c f g,xI,vC a d l c f g z];rfl
 ·rw[a8 z];have n:kL (dC fs R c) (vF R)=false:=by cases q:kL (dC fs R c) (vF R)with | true=>exact b9 q z | false=>rfl
  unfold lD;split
  ·exact zZ a d l c f g n
  ·exact zZ a d l b hb g h2
theorem G1(fs:Fs)(R:List Rw)(m:Int):∀(l:List Ch)(s:Option Ch),l.foldl (E9 fs R m) s=(l.filter (okC fs R m)).foldl (E9 fs R m) s
|[],s=>rfl
|c::l,s=>by
 rw[iZ,G1 fs R m l,cR];by_cases z:okC fs R m c=true
 ·rw[a9 z,iZ]
 ·rw[a8 z];have:E9 fs R m s c=s:=a8 z;rw[this]
def Wi{fs}{R:List Rw}{m:Int}(d:1<=m)(e:0<R.length):(JP fs).foldl (E9 fs R m) none=mE fs R m:=by
 rw[G1];unfold mE iF;have a:∀c∈(JP fs).filter (okC fs R m),okC fs R m c=true:=λc b=>(cW.mp b).2
 generalize (JP fs).filter (okC fs R m)=l at a
 cases l with
 |nil=>rfl
 |cons c l=>
  rw[iZ];have b:=a c (aO ..);have f:∀x∈l,okC fs R m x=true:=λx g=>a x (aJ _ g);rw[LC d e b];show _=(some (l.foldl (lD fs R) c)).filter _;by_cases z:kL (dC fs R c) (vF R)=true
  ·rw[a9 z,zY d l c b f,xI,vC d e l c b f z];rfl
  ·rw[a8 z];have h:kL (dC fs R c) (vF R)=false:=by cases q:kL (dC fs R c) (vF R)with | true=>exact b9 q z | false=>rfl
   exact zZ d e l c b f h
def ZI(fs:Fs)(m:Int):mE fs [] m=none:=by
 unfold mE;rw[Option.filter_eq_none_iff];intro c _;have e:vF []=(0,1):=by decide
 rw[e];show¬decide (_<0*_)=true;rw[aRj]
 exactλz=>b9 (b8 z) (vL _)
noncomputable def yf(fs:Fs)(R:List Rw):Option Ch->D
|none=>.none
|some c=>.tuple [.tuple [.str "ask",qD c.1,.str c.2],.list ((yR fs c R).map cV),.list ((nR fs c R).map cV)]
noncomputable def yt(fs:Fs)(q:Qn)(st w:Str)(x:D):Bool:=match x with | .tuple [.tuple cs,_]=>decide (eJ fs q.1 q.2.1 q.2.2 st cs=w) | _=>false
def QN(fs:Fs)(q:Qn)(st w:Str)(a:List Rw):((a.map cV).filter (yt fs q st w)).map id=(a.filter λr=>decide (eJ fs q.1 q.2.1 q.2.2 st r.1=w)).map cV:=by
 rw[mG,lH];rfl
def VP{fs}{R:List Rw}(a:R.length<=60)(c:Ch):KH fs R c<=3600:=
 iV (bE (bK _ _) a) (bE (bK _ _) a)
def Ua{fs}{R:List Rw}(a:R.length<=60):∀S:Option Ch,wn fs R S<=3600
|none=>by show R.length<=3600;lia
|some c=>VP a c
def uG(a:List (Nat×Rw)):Prop:=∀(i:Nat) e,a[i]?=some e->e.1=i
def uG.new{a:List (Nat×Rw)}(h:uG a):∀e∈a,e.1≠a.length:=λe c z=>by
 obtain⟨i,b⟩:=cT c;have:=(aG.mp b).1;have:=h i e b;lia
def uG.snoc{b:List (Nat×Rw)}(h:uG b)(r:Rw):uG (b++[(b.length,r)]):=λi e a=>by
 by_cases z:i<b.length
 ·rw[eE z]at a;exact h i e a
 ·rw[dW hG]at a;have:=(aG.mp a).1;have c:i-b.length=0:=by simpa using this
  rw[c]at a;cases a;show b.length=i;lia
structure aUv(fs:Fs)(an:List Str)(m:Int)(d:Nat)(ks:List (Nat×Rw))(t:Tr)(k:Nat)(n:O1):Prop where
 kv:n.kvs=zC ks
 fol:n.fol=(k:Nat)
 st:n.st=gE t
 ok:fK fs an (ks.map (·.2))
 gr:Gr fs an m d (ks.map (·.2)) t
 few:ks.length<=60
def WZ(a:List (Nat×Rw)):(SH a).length=a.length:=by unfold SH;rw[aA]
def Y8{fs}(F:eV fs an)(h:mN fs an r):Cd (cV r):=(U9 F h).cd gV
def Vt{F:yX}{c:TZ F}{t u:SZ F}{τ DC n σ}(b:Bool)(P:F.S->List Sl->Prop)(h:∀q:F.S->Bool->Prop,q n b->c τ n σ q)
  (g:b=true->∀d:A8 F,(∀m a,P m a->d.nx m a)->t τ d n σ) (f:b=false->P n σ) (k:∀m a,P m a->u τ DC m a):zF (ym c t O6) u τ DC n σ:=
 mI b h (λe=>g e _ k) λe=>k _ _ (f e)
def zn{F:yX}{τ}{a:A8 F}{n σ}(h:a.nx n σ):O6 τ a n σ:=h
def MK{fs}(h:gH fs (.tuple cs)=true):∀c∈cs,c=.none\/∃f∈fs,∃z∈f.2,c=.str z:=λc b=>by
 obtain⟨d,e⟩:=lQ h;obtain⟨k,hk⟩:=cT b;have a:k<fs.length:=by rw[<- d];exact(aG.mp hk).1
 have:=e k fs[k] c (aD a) hk
 cases c with
 |none=>exact .inl kA
 |str z=>exact .inr ⟨_,fL a,z,b8 this,kA⟩
 |_=>cases this
theorem IN:∀{ts},(∀t∈ts,nl t=true)->wx ts=true
|[],_=>rfl
|a::r,h=>by
 show(nl a&&wx r)=true;rw[h a (aO ..),IN λt b=>h t (aJ _ b)];rfl
def Xe{fs}(h:gH fs (.tuple cs)=true):nl (.tuple cs)=true:=IN λc a=>by
 rcases MK h c a with rfl | ⟨_,_,_,_,rfl⟩
 ·rfl
 ·rfl
def Tz{fs}(h:mN fs an r):nl (cV r)=true:=by
 show(nl (.tuple r.1)&&(true&&true))=true;rw[Xe h.1];rfl
theorem W6:∀t:Tr,nl (gE t)=true
|.say a=>rfl
|.ask k n v s y m=>by
 show(true&&(true&&(true&&(nl (gE y)&&(nl (gE m)&&true)))))=true;rw[W6 y,W6 m];rfl
def YG{a:List (Nat×Rw)}(h:uG a){k:Nat}(hk:k<a.length):OG k a=some (a[k]).2:=by
 have g:a[k]∈a:=fL hk;have d:(a[k]).1=k:=h k _ (aD hk);unfold OG
 cases b:a.find? λe=>decide (e.1=k)with
 |none=>
  have:=List.find?_eq_none.mp b _ g;exact b9 (b0 d) this
 |some e=>
  have j:e.1=k:=b8 (aDu (p:=λe:Nat×Rw=>decide (e.1=k)) b);obtain⟨i,c⟩:=cT (KC b);have l:=h i e c;have f:i=k:=by lia
  subst f;rw[aD hk]at c;cases c
  rfl
def U5{a:List (Nat×Rw)}(h:uG a){k:Nat}(r:Rw):mC k r a=a.set k (k,r):=by
 apply iY;intro i;unfold mC;rw[aM,List.getElem?_set];by_cases z:k=i
 ·subst z;rw[a9 rfl];by_cases hk:k<a.length
  ·rw[a9 hk,aD hk];have e:=h k _ (aD hk);show some (if(a[k]).1=k then((a[k]).1,r)else a[k])=_;rw[a9 e,e]
  ·rw[a8 hk,eB hG];rfl
 ·rw[a8 z]
  cases b:a[i]? with
  |none=>rfl
  |some e=>
   have:=h i e b;show some (if e.1=k then(e.1,r)else e)=some e;rw[a8 hG]
def uG.turn(h:uG ks)(k:Nat)(r:Rw):uG (mC k r ks):=λi e a=>by
 unfold mC at a;rw[aM]at a;obtain⟨b,c,rfl⟩:=bZ.mp a;have:=h i b c;by_cases z:b.1=k
 ·rw[a9 z];exact this
 ·rw[a8 z];exact this
def U6(k:Nat)(r:Rw)(a:List (Nat×Rw)):(mC k r a).length=a.length:=by unfold mC;rw[aA]
def qO(n:Nat):kH:=λa Q=>∃t:Tr,a=[gE t]/\t.kn<=600/\t.dep<n/\Q (.int t.kn)
def Pv:kH:=qO 41
def LR{Q:D->Prop}(h:qO 0 ds Q):False:=by
 obtain⟨_,_,_,h,_⟩:=h;lia
noncomputable def fT(fs:List (Str×List Str))(t:Tr)(a:List (List D×Str)):Nat:=(a.filter λr=>!decide (vR fs t r.1=r.2)).length
theorem C2{fs}(k n v s:Str)(y m:Tr):∀d:List (List D×Str),fT fs (.ask k n v s y m) d=fT fs y (d.filter (jD fs k n v s))+fT fs m (d.filter λr=>!jD fs k n v s r)
|[]=>rfl
|r::d=>by
 have c:=C2 (fs:=fs) k n v s y m d;have e:vR fs (.ask k n v s y m) r.1=if eJ fs k n v s r.1="yes" then vR fs y r.1 else vR fs m r.1:=rfl;unfold fT at c |-
 by_cases f:eJ fs k n v s r.1="yes"
 ·have b:jD fs k n v s r=true:=b0 f;rw[cR (p:=jD fs k n v s),a9 b,cR (p:=λr=>!jD fs k n v s r),a8 (by rw[b];decide)];rw[a9 f]at e;by_cases a:vR fs y r.1=r.2
  ·rw[cR,a8 (by rw[e];simp[a]),cR (x:=r),a8 (by simp[a])];exact c
  ·rw[cR,a9 (by rw[e];simp[a]),cR (x:=r),a9 (by simp[a]),bN,bN,c];lia
 ·have b:jD fs k n v s r=false:=b7 f;rw[cR (p:=jD fs k n v s),a8 (by rw[b];decide),cR (p:=λr=>!jD fs k n v s r),a9 (by rw[b];rfl)];rw[a8 f]at e;by_cases a:vR fs m r.1=r.2
  ·rw[cR,a8 (by rw[e];simp[a]),cR (x:=r),a8 (by simp[a])];exact c
  ·rw[cR,a9 (by rw[e];simp[a]),cR (x:=r),a9 (by simp[a]),bN,bN,c];lia
def Qb:kH:=λd Q=>∃(fs:List (Str×List Str))(an:List Str)(t:Tr)(c:List (List D×Str))(a b:Int),d=[dY fs an,gE t,.list (c.map cV),.tuple [.int a,.int b]]/\eV fs an/\lZ fs an t/\t.dep<=40/\t.kn<=600/\fK fs an c/\c.length<=60/\0<=a/\a<=1000000000/\0<=b/\b<=1000000000/\Q (.int (a*(fT fs t c:Nat)+b*(t.kn:Nat)))
noncomputable abbrev JG:=FB
noncomputable def lw(fs:List (Str×List Str))(fa:List (List D×Str)->Str)(a b:Int):Tr->List (List D×Str)->Int×Tr
|.say x,rs=>(a*(fT fs (.say x) rs:Nat),.say x)
|.ask k n v s y m,rs=>
 if a*(fT fs (.say (fa rs)) rs:Nat)<=b+(lw fs fa a b y (rs.filter (jD fs k n v s))).1+(lw fs fa a b m (rs.filter λr=>!jD fs k n v s r)).1 then(a*(fT fs (.say (fa rs)) rs:Nat),.say (fa rs))
 else(b+(lw fs fa a b y (rs.filter (jD fs k n v s))).1+(lw fs fa a b m (rs.filter λr=>!jD fs k n v s r)).1,.ask k n v s (lw fs fa a b y (rs.filter (jD fs k n v s))).2 (lw fs fa a b m (rs.filter λr=>!jD fs k n v s r)).2)
theorem P8{fs}{fa:List (List D×Str)->Str}(d:FA fs an fa)(a b:Int):∀(t:Tr)(c:List (List D×Str)),lZ fs an t->fK fs an c->lZ fs an (lw fs fa a b t c).2/\(lw fs fa a b t c).2.dep<=t.dep
|.say z,c,h,_=>⟨h,aN _⟩
|.ask k n v s y m,c,h,hrs=>by
 obtain⟨g,j,l,f⟩:=h;obtain⟨o,q⟩:=P8 d a b y (c.filter (jD fs k n v s)) l (hrs.filt _);obtain⟨p,u⟩:=P8 d a b m (c.filter λr=>!jD fs k n v s r) f (hrs.filt _);unfold lw;split
 ·obtain⟨i,e,_⟩:=d c hrs;exact⟨aV e,cJ _⟩
 ·exact⟨⟨g,j,o,p⟩,by show max _ _+1<=max y.dep m.dep+1;lia⟩
section
variable{fs:List (Str×List Str)}{fa:List (List D×Str)->Str}
def nZ(a b:Int)(k n v s:Str)(y m:Tr)(c:List (List D×Str)):lw fs fa a b (.ask k n v s y m) c=if a*(fT fs (.say (fa c)) c:Nat)<=b+(lw fs fa a b y (c.filter (jD fs k n v s))).1+(lw fs fa a b m (c.filter λr=>!jD fs k n v s r)).1 then(a*(fT fs (.say (fa c)) c:Nat),.say (fa c))else(b+(lw fs fa a b y (c.filter (jD fs k n v s))).1+(lw fs fa a b m (c.filter λr=>!jD fs k n v s r)).1,.ask k n v s (lw fs fa a b y (c.filter (jD fs k n v s))).2 (lw fs fa a b m (c.filter λr=>!jD fs k n v s r)).2):=rfl
def EK(a b:Int)(k n v s:Str)(y m:Tr)(c:List (List D×Str)):a*(fT fs (.ask k n v s y m) c:Nat)+b*((Tr.ask k n v s y m).kn:Nat)=b+(a*(fT fs y (c.filter (jD fs k n v s)):Nat)+b*(y.kn:Nat))+(a*(fT fs m (c.filter λr=>!jD fs k n v s r):Nat)+b*(m.kn:Nat)):=by
 rw[C2];show a*((_+_:Nat):Int)+b*((y.kn+m.kn+1:Nat):Int)=_;rw[gS,gS,gS,xH,xH,xH];show _+(_+b*1)=_;rw[aR8];lia
def ON(a b:Int)(z:Str)(c:List (List D×Str)):a*(fT fs (.say z) c:Nat)+b*((Tr.say z).kn:Nat)=a*(fT fs (.say z) c:Nat):=by
 show _+b*0=_;rw[BV,O4]
theorem IP(a b:Int):∀(t:Tr)(c:List (List D×Str)),(lw fs fa a b t c).1=a*(fT fs (lw fs fa a b t c).2 c:Nat)+b*((lw fs fa a b t c).2.kn:Nat)
|.say z,c=>(ON a b z c).symm
|.ask k n v s y m,c=>by
 have e:=IP a b y (c.filter (jD fs k n v s));have d:=IP a b m (c.filter λr=>!jD fs k n v s r);rw[nZ];split
 ·exact(ON a b _ c).symm
 ·show b+_+_=_;rw[EK,<- e,<- d]
theorem B8(a:Int){b d:Int}(h:b<=d):∀(t:Tr)(c:List (List D×Str)),(lw fs fa a b t c).1<=(lw fs fa a d t c).1
|.say z,c=>lA _
|.ask k n v s y m,c=>by
 have f:=B8 a h y (c.filter (jD fs k n v s));have e:=B8 a h m (c.filter λr=>!jD fs k n v s r);rw[nZ,nZ];split
 ·split
  ·exact lA _
  ·dsimp only;lia
 ·split
  ·dsimp only;lia
  ·dsimp only;lia
theorem IQ(a:Int){b d:Int}(h:b<=d):∀(t:Tr)(c:List (List D×Str)),lw fs fa a d (lw fs fa a b t c).2 c=lw fs fa a d t c
|.say z,c=>rfl
|.ask k n v s y m,c=>by
 have f:=IQ a h y (c.filter (jD fs k n v s));have e:=IQ a h m (c.filter λr=>!jD fs k n v s r);have i:=B8 (fs:=fs) (fa:=fa) a h y (c.filter (jD fs k n v s));have g:=B8 (fs:=fs) (fa:=fa) a h m (c.filter λr=>!jD fs k n v s r);rw[nZ a b];split
 ·rw[nZ,a9 hG];rfl
 ·show lw fs fa a d (.ask k n v s _ _) c=_;rw[nZ,nZ,f,e]
theorem DO(a b:Int){c:Int}(f:0<c):∀(t:Tr)(d:List (List D×Str)),lw fs fa (c*a) (c*b) t d=(c*(lw fs fa a b t d).1,(lw fs fa a b t d).2)
|.say z,d=>by
 show(c*a*_,_)=(c*(a*_),_);rw[eN];rfl
|.ask k n v s y m,d=>by
 have h:=DO a b f y (d.filter (jD fs k n v s));have g:=DO a b f m (d.filter λr=>!jD fs k n v s r);rw[nZ,nZ,h,g];dsimp only;rw[<- xH,<- xH,eN];by_cases e:a*(fT fs (.say (fa d)) d:Nat)<=b+(lw fs fa a b y (d.filter (jD fs k n v s))).1+(lw fs fa a b m (d.filter λr=>!jD fs k n v s r)).1
 ·rw[a9 e,a9 (kZ e hG)]
 ·rw[a8 e,a8 (λz=>e (Int.le_of_mul_le_mul_left z f))]
def St(fs:List (Str×List Str))(fa:List (List D×Str)->Str)(a b:Int):Tr->List (List D×Str)->Prop
|.say _,_=>True
|.ask k n v s y m,rs=>b*((Tr.ask k n v s y m).kn:Nat)+a*(fT fs (.ask k n v s y m) rs:Nat)<a*(fT fs (.say (fa rs)) rs:Nat)/\St fs fa a b y (rs.filter (jD fs k n v s))/\St fs fa a b m (rs.filter λr=>!jD fs k n v s r)
theorem K7(a b:Int):∀(t:Tr)(c:List (List D×Str)),St fs fa a b (lw fs fa a b t c).2 c
|.say z,c=>trivial
|.ask k n v s y m,c=>by
 have e:=K7 a b y (c.filter (jD fs k n v s));have d:=K7 a b m (c.filter λr=>!jD fs k n v s r);have g:=IP (fs:=fs) (fa:=fa) a b y (c.filter (jD fs k n v s));have f:=IP (fs:=fs) (fa:=fa) a b m (c.filter λr=>!jD fs k n v s r);rw[nZ];split
 ·trivial
 ·next gp=>
  refine⟨?_,e,d⟩;have:=EK (fs:=fs) a b k n v s (lw fs fa a b y (c.filter (jD fs k n v s))).2 (lw fs fa a b m (c.filter λr=>!jD fs k n v s r)).2 c;lia
theorem XM(a b:Int):∀(t:Tr)(c:List (List D×Str)),St fs fa a b t c->lw fs fa a b t c=(a*(fT fs t c:Nat)+b*(t.kn:Nat),t)
|.say z,c,_=>by rw[ON];rfl
|.ask k n v s y m,c,h=>by
 obtain⟨j,d,f⟩:=h;have i:=XM a b y (c.filter (jD fs k n v s)) d;have g:=XM a b m (c.filter λr=>!jD fs k n v s r) f;have e:=EK (fs:=fs) a b k n v s y m c;rw[nZ,i,g];dsimp only;rw[a8 hG,e]
theorem AW(a b:Int):∀(t:Tr)(c:List (List D×Str)),(lw fs fa a b t c).2.kn<=t.kn/\((lw fs fa a b t c).2.kn=t.kn->(lw fs fa a b t c).2=t)
|.say z,c=>⟨aN _,λ_=>rfl⟩
|.ask k n v s y m,c=>by
 obtain⟨h,g⟩:=AW a b y (c.filter (jD fs k n v s));obtain⟨m1,f⟩:=AW a b m (c.filter λr=>!jD fs k n v s r);have e:(Tr.ask k n v s y m).kn=y.kn+m.kn+1:=rfl;rw[nZ,e];split
 ·exact⟨cJ _,λz=>by
   have i:0=y.kn+m.kn+1:=z;lia⟩
 ·have d:(Tr.ask k n v s (lw fs fa a b y (c.filter (jD fs k n v s))).2 (lw fs fa a b m (c.filter λr=>!jD fs k n v s r)).2).kn=(lw fs fa a b y (c.filter (jD fs k n v s))).2.kn+(lw fs fa a b m (c.filter λr=>!jD fs k n v s r)).2.kn+1:=rfl;refine⟨by dsimp only;rw[d];lia,λz=>?_⟩;dsimp only at z |-
  rw[d]at z;rw[g hG,f hG]
noncomputable def BD(fs:List (Str×List Str))(fa:List (List D×Str)->Str):Tr->List (List D×Str)->List (Int×Nat)
|.say _,_=>[]
|.ask k n v s y m,rs=>((fT fs (.say (fa rs)) rs:Int)-(fT fs (.ask k n v s y m) rs:Nat),(Tr.ask k n v s y m).kn)::(BD fs fa y (rs.filter (jD fs k n v s))++BD fs fa m (rs.filter λr=>!jD fs k n v s r))
theorem wN(a b:Int):∀(t:Tr)(c:List (List D×Str)),St fs fa a b t c↔∀p∈BD fs fa t c,b*(p.2:Nat)<a*p.1
|.say z,c=>⟨λ_ p hp=>by simp[BD]at hp,λ_=>trivial⟩
|.ask k n v s y m,c=>by
 have g:=wN a b y (c.filter (jD fs k n v s));have f:=wN a b m (c.filter λr=>!jD fs k n v s r);have e:a*((fT fs (.say (fa c)) c:Int)-(fT fs (.ask k n v s y m) c:Nat))=a*(fT fs (.say (fa c)) c:Nat)-a*(fT fs (.ask k n v s y m) c:Nat):=aR7 _ _ _;constructor
 ·rintro⟨d,h1,h2⟩ p hp;rcases aR.mp hp with rfl | hp
  ·dsimp only;rw[e];lia
  ·rcases cL.mp hp with hp | hp
   ·exact g.mp h1 p hp
   ·exact f.mp h2 p hp
 ·intro h;have d:=h _ (aO ..);dsimp only at d;rw[e]at d;exact⟨hG,g.mpr λp hp=>h p (aJ _ (jV _ hp)),f.mpr λp hp=>h p (aJ _ (cZ _ hp))⟩
theorem sZ:∀(t:Tr)(a:List (List D×Str)),∀p∈BD fs fa t a,p.1<=a.length/\0<p.2/\p.2<=t.kn
|.say z,a,p,hp=>by simp[BD]at hp
|.ask k n v s y m,a,p,hp=>by
 have e:(Tr.ask k n v s y m).kn=y.kn+m.kn+1:=rfl;rcases aR.mp hp with rfl | hp
 ·have c:fT fs (.say (fa a)) a<=a.length:=bK _ _;refine⟨?_,by rw[e];lia,aN _⟩;dsimp only;lia
 ·rcases cL.mp hp with hp | hp
  ·obtain⟨c,b,d⟩:=sZ y _ p hp;have:=bK (jD fs k n v s) a;exact⟨hG,b,hG⟩
  ·obtain⟨c,b,d⟩:=sZ m _ p hp;have:=bK (λr=>!jD fs k n v s r) a;exact⟨hG,b,hG⟩
end
section
variable{fs:List (Str×List Str)}{fa:List (List D×Str)->Str}
def Jm{a b c d e f:Nat}(hd:0<d)(g:a*d<=c*b)(h:c*f<=e*d):a*f<=e*b:=by
 refine Nat.le_of_mul_le_mul_right (c:=d) ?_ hd
 calc a*f*d=a*d*f:=by rw[dO,eL f d,<- dO]
  _<=c*b*f:=mL _ g
  _=c*f*b:=by rw[dO,eL b f,<- dO]
  _<=e*d*b:=mL _ h
  _=e*b*d:=by rw[dO,eL d b,<- dO]
noncomputable def oU(x p:Nat×Nat):Nat×Nat:=if p.1*x.2<x.1*p.2 then p else x
noncomputable def kR:Nat×Nat->List (Nat×Nat)->Nat×Nat
|x,[]=>x
|x,p::l=>kR (oU x p) l
theorem wT:∀(l:List (Nat×Nat))(x:Nat×Nat),kR x l=x\/kR x l∈l
|[],x=>.inl kA
|p::l,x=>by
 show kR (oU x p) l=x\/_;rcases wT l (oU x p)with h | h
 ·rw[h];unfold oU;split
  ·next h2=>right;show kR (oU x p) l∈_;rw[h];unfold oU;rw[a9 h2];exact aO ..
  ·exact .inl kA
 ·exact .inr (aJ _ h)
theorem GM:∀(l:List (Nat×Nat))(x:Nat×Nat),0<x.2->(∀p∈l,0<p.2)->∀p,(p=x\/p∈l)->(kR x l).1*p.2<=p.1*(kR x l).2
|[],x,_,_,p,hp=>by
 rcases hp with rfl | hp
 ·exact aN _
 ·simp at hp
|e::l,x,hx,hl,p,hp=>by
 show(kR (oU x e) l).1*p.2<=p.1*(kR (oU x e) l).2;have j:=hl e (aO ..);have c:∀p∈l,0<p.2:=λp hp=>hl p (aJ _ hp);have d:0<(oU x e).2:=by unfold oU;split<;>assumption
 have f:=GM l (oU x e) d c;have i:=f (oU x e) (.inl kA);have b:∀r:Nat×Nat,(oU x e).1*r.2<=r.1*(oU x e).2->(kR (oU x e) l).1*r.2<=r.1*(kR (oU x e) l).2:=λr g=>Jm d i g
 have a:(oU x e).1*x.2<=x.1*(oU x e).2/\(oU x e).1*e.2<=e.1*(oU x e).2:=by
  unfold oU;split
  ·next h=>exact⟨iB h,aN _⟩
  ·next h=>exact⟨aN _,J9.mp h⟩
 rcases hp with rfl | hp
 ·exact b _ a.1
 ·rcases aR.mp hp with rfl | hp
  ·exact b _ a.2
  ·exact f p (.inr hp)
noncomputable def lN(p:Int×Nat):Nat×Nat:=(p.1.toNat / p.1.toNat.gcd p.2,p.2 / p.1.toNat.gcd p.2)
def NM{p:Int×Nat}(j:0<p.1)(b:0<p.2):∃g:Nat,0<g/\p.1=((lN p).1*g:Nat)/\p.2=(lN p).2*g/\0<(lN p).1/\0<(lN p).2/\(lN p).1.gcd (lN p).2=1/\(lN p).1<=p.1.toNat/\(lN p).2<=p.2:=by
 obtain⟨a,e⟩:∃a:Nat,p.1=(a:Int):=⟨p.1.toNat,(eM hG).symm⟩;have i:p.1.toNat=a:=by rw[e];rfl
 have d:0<a.gcd p.2:=nE _ b;have c:0<a:=by lia
 unfold lN;rw[i];dsimp only;have f:=ZS (aDr a p.2);have h:=ZS (rF a p.2);refine⟨a.gcd p.2,d,by rw[f];exact e,h.symm,UB (Nat.gcd_le_left _ c) d,UB (aDq _ b) d,?_,pN _ _,pN _ _⟩;exact Nat.gcd_div_gcd_div_gcd_of_pos_right b
noncomputable def QH:Tr->Bool
|.say _=>true
|.ask _ _ _ _ _ _=>false
noncomputable def fA(fs:List (Str×List Str))(fa:List (List D×Str)->Str)(t:Tr)(a:List (List D×Str)):Nat×Nat:=match(BD fs fa t a).map lN with
|[]=>(0,1)
|x::l=>kR x (x::l)
def Xd{a b:Int}(ha:0<a)(Q:0<=b){t:Tr}{c:List (List D×Str)}(M:St fs fa a b t c)(S:QH t=false) :
  0<(fA fs fa t c).2/\(fA fs fa t c).2<=t.kn/\0<(fA fs fa t c).1/\(fA fs fa t c).1<=c.length/\(fA fs fa t c).1.gcd (fA fs fa t c).2=1/\b*((fA fs fa t c).2:Nat)<a*((fA fs fa t c).1:Nat) /\
  (∀i o:Int,0<i->o*((fA fs fa t c).2:Nat)<i*((fA fs fa t c).1:Nat)->St fs fa i o t c)/\¬St fs fa ((fA fs fa t c).2:Nat) ((fA fs fa t c).1:Nat) t c:=by
 have w:∀e∈BD fs fa t c,0<e.1/\0<e.2:=λe d=>by
  have h1:=(wN a b t c).mp M e d;have N:=(sZ t c e d).2.1;refine⟨?_,N⟩;have h3:0<=b*(e.2:Nat):=xG Q hG;have h4:0<a*e.1:=by lia
  by_cases E:0<e.1
  ·exact E
  ·have:=kZ (show e.1<=0 by lia) (show 0<=a by lia);rw[BV]at this;lia
 have B:∃e∈BD fs fa t c,fA fs fa t c=lN e:=by
  unfold fA
  cases G:BD fs fa t c with
  |nil=>
   cases t with
   |say z=>cases S
   |ask k n v s y m=>cases G
  |cons x l=>
   show∃e∈x::l,kR (lN x) ((x::l).map lN)=lN e;rcases wT ((x::l).map lN) (lN x)with h | h
   ·exact⟨x,aO ..,h⟩
   ·obtain⟨e,d,h⟩:=aQ.mp h;exact⟨e,d,h.symm⟩
 have H:∀e∈BD fs fa t c,(fA fs fa t c).1*(lN e).2<=(lN e).1*(fA fs fa t c).2:=by
  unfold fA
  cases G:BD fs fa t c with
  |nil=>intro e d;simp at d
  |cons x l=>
   intro e d
   have pos:∀p∈(x::l).map lN,0<p.2:=λp I=>by
    obtain⟨e,d,rfl⟩:=aQ.mp I;rw[<- G]at d;obtain⟨_,_,_,_,_,O,_⟩:=NM (w e d).1 (w e d).2;exact O
   exact GM ((x::l).map lN) (lN x) (pos _ (aO ..)) pos (lN e) (.inr (aQ.mpr ⟨e,d,kA⟩))
 obtain⟨e,d,E⟩:=B;obtain⟨g,hg,K,L,p1,U,W,p4,p5⟩:=NM (w e d).1 (w e d).2;obtain⟨X,Y,Z⟩:=sZ t c e d;have A:=(wN a b t c).mp M e d;rw[E];refine⟨U,hG,p1,hG,W,?_,λi o P C=>(wN i o t c).mpr λf F=>?_,λJ=>?_⟩
 ·rw[K,L,dA,dA,<- eN,<- eN]at A;exact KF A hG
 ·obtain⟨g',R,f1,f2,q1,q2,q3,q4,q5⟩:=NM (w f F).1 (w f F).2;have q:=H f F;rw[E]at q;rw[f1,f2,dA,dA,<- eN,<- eN];refine HH ?_ hG
  generalize (lN f).1=u at *
  generalize (lN f).2=j at *
  generalize (lN e).1=r at *
  generalize (lN e).2=E2 at *
  -- o E2<i r,r j<=u E2:o j<i u
  have T:(r:Int)*j<=u*E2:=by exact_mod_cast q
  have s1:o*E2*j<i*r*j:=HH C hG;have s2:i*((r:Int)*j)<=i*(u*E2):=kZ T hG
  have s3:(o*j)*E2<(i*u)*E2:=by
   have t1:(o*j)*E2=o*E2*j:=by rw[eN,jY (j:Int),<- eN]
   have t2:i*r*j=i*((r:Int)*j):=eN _ _ _;have t3:(i*u)*E2=i*((u:Int)*E2):=eN _ _ _;lia
  exact KF s3 hG
 ·have C:=(wN _ _ t c).mp J e d;rw[K,L,dA,dA,<- eN,<- eN,jY ((lN e).1:Int) ((lN e).2:Int)]at C;exact Int.lt_irrefl _ C
def qF(a b:Int){c:Int}(e:0<c)(t:Tr)(d:List (List D×Str)):(lw fs fa (c*a) (c*b) t d).2=(lw fs fa a b t d).2:=by rw[DO a b e]
def Jy{p q p' q':Int}(c:0<q)(b:0<q')(h:p*q'<=p'*q)(t:Tr)(a:List (List D×Str)):(lw fs fa q' p' (lw fs fa q p t a).2 a).2=(lw fs fa q' p' t a).2:=by
 have d:=qF (fs:=fs) (fa:=fa) q p b t a;have e:=qF (fs:=fs) (fa:=fa) q' p' c t a;have f:=qF (fs:=fs) (fa:=fa) q' p' c (lw fs fa q p t a).2 a;have g:q*q'=q'*q:=jY _ _;rw[<- e,<- f,<- d,g];rw[IQ (q'*q) (by rw[jY q' p,jY q p'];exact h)]
end
section
variable{fs:List (Str×List Str)}{fa:List (List D×Str)->Str}
abbrev Q8:=(Nat×Nat)×Tr
noncomputable def oD(x:Q8):D:=.tuple [.tuple [.int (x.1.1:Nat),.int (x.1.2:Nat)],gE x.2]
noncomputable def pF(fs:List (Str×List Str))(fa:List (List D×Str)->Str)(a:List (List D×Str)):Nat->Nat×Nat->Tr->List Q8
|0,x,t=>[(x,t)]
|n+1,x,t=>(x,t)::if QH t=true then[]else pF fs fa a n (fA fs fa t a) (lw fs fa ((fA fs fa t a).2:Nat) ((fA fs fa t a).1:Nat) t a).2
noncomputable def oS(fs:List (Str×List Str))(fa:List (List D×Str)->Str)(T:Tr)(a:List (List D×Str)):List Q8:=pF fs fa a (lw fs fa 1 0 T a).2.kn (0,1) (lw fs fa 1 0 T a).2
structure OkS(fs:List (Str×List Str))(fa:List (List D×Str)->Str)(T:Tr)(rs:List (List D×Str))(x:Q8):Prop where
 low:x.1.1.gcd x.1.2=1
 q0:0<x.1.2
 q1:x.1.2<=12
 p1:x.1.1<=60
 tr:x.2=(lw fs fa (x.1.2:Nat) (x.1.1:Nat) T rs).2
structure LkS(fs:List (Str×List Str))(fa:List (List D×Str)->Str)(T:Tr)(rs:List (List D×Str))(x y:Q8):Prop where
 up:x.1.1*y.1.2<y.1.1*x.1.2
 kn:y.2.kn<x.2.kn
 tr:y.2=(lw fs fa (y.1.2:Nat) (y.1.1:Nat) x.2 rs).2
 cl:x.2=(lw fs fa ((y.1.2:Int)*10000000) ((y.1.1:Int)*10000000-(y.1.2:Int)) T rs).2
def xm(fs:List (Str×List Str))(fa:List (List D×Str)->Str)(T:Tr)(a:List (List D×Str)):List Q8->Prop
|[]=>False
|x::l=>OkS fs fa T a x/\match l with
 |[]=>QH x.2=true
 |y::_=>LkS fs fa T a x y/\xm fs fa T a l
def X7:∀{t:Tr},t.kn=0->QH t=true
|.say _,_=>rfl
|.ask k n v s y m,h=>by
 have e:(Tr.ask k n v s y m).kn=y.kn+m.kn+1:=rfl;lia
def CW(a:List (List D×Str)):∀(n:Nat)(x:Nat×Nat)(t:Tr),∃l,pF fs fa a n x t=(x,t)::l
|0,x,t=>⟨[],kA⟩
|n+1,x,t=>⟨_,kA⟩
def P6{T:Tr}{a:List (List D×Str)}(hk:T.kn<=12)(B:a.length<=60){x:Q8}(ok:OkS fs fa T a x)(k:QH x.2=false) :
  OkS fs fa T a (fA fs fa x.2 a,(lw fs fa ((fA fs fa x.2 a).2:Nat) ((fA fs fa x.2 a).1:Nat) x.2 a).2)/\LkS fs fa T a x (fA fs fa x.2 a,(lw fs fa ((fA fs fa x.2 a).2:Nat) ((fA fs fa x.2 a).1:Nat) x.2 a).2):=by
 obtain⟨⟨p,q⟩,t⟩:=x;obtain⟨low,q0,q1,p1,tr⟩:=ok;dsimp only at low q0 q1 p1 tr k |-
 have i:St fs fa (q:Nat) (p:Nat) t a:=by rw[tr];exact K7 _ _ T a
 have s:t.kn<=12:=by
  have:=(AW (fs:=fs) (fa:=fa) (q:Nat) (p:Nat) T a).1;rw[<- tr]at this;lia
 obtain⟨n1,w,n3,y,n5,l,m,n⟩:=Xd (fs:=fs) (fa:=fa) hG hG i k
 generalize A:fA fs fa t a=N at *
 obtain⟨p',q'⟩:=N;dsimp only at n1 w n3 y n5 l m n |-
 have up:p*q'<p'*q:=by
  have:(p:Int)*q'<p'*q:=by rw[jY (p':Int)];exact l
  exact_mod_cast this
 have b:∀f c:Int,0<c->(p:Int)*c<=f*q->(lw fs fa c f t a).2=(lw fs fa c f T a).2:=λf c g h=>by
  have:=Jy (fs:=fs) (fa:=fa) (p:=(p:Int)) (q:=(q:Int)) (p':=f) (q':=c) hG g h T a;rw[<- tr]at this;exact this
 refine⟨⟨n5,n1,by dsimp only;lia,by dsimp only;lia,?_⟩,⟨up,?_,kA,?_⟩⟩
 ·refine b p' q' hG ?_;have:((p*q':Nat):Int)<((p'*q:Nat):Int):=by exact_mod_cast up
  rw[dA,dA]at this;lia
 ·obtain⟨C,v⟩:=AW (fs:=fs) (fa:=fa) (q':Nat) (p':Nat) t a;dsimp only;rcases Nat.lt_or_ge (lw fs fa (q':Nat) (p':Nat) t a).2.kn t.kn with h | h
  ·exact h
  ·exact b9 (by
    have e:=v hG;have:=K7 (fs:=fs) (fa:=fa) (q':Nat) (p':Nat) t a;rw[e]at this;exact this) n
 ·dsimp only;have u:q*q'<=12*12:=iV q1 hG;have j:((p*q':Nat):Int)+1<=((p'*q:Nat):Int):=by lia
  have d:((q*q':Nat):Int)<=144:=by lia
  rw[dA]at d;rw[dA,dA]at j
  have o:(p:Int)*((q':Int)*10000000)<=((p':Int)*10000000-q')*q:=by
   rw[aR5,<- eN,eN (p':Int),jY (10000000:Int) (q:Int),<- eN,jY (q':Int) (q:Int)];lia
  rw[<- b _ _ hG o,XM _ _ t a (m _ _ hG ?_)]
  have g:((p':Int)*10000000-q')*q'=(p':Int)*q'*10000000-q'*q':=by
   rw[aR5,eN,jY (10000000:Int),<- eN]
  have r:(q':Int)*10000000*p'=(p':Int)*q'*10000000:=by
   rw[jY,<- eN]
  have z:(0:Int)<(q':Int)*q':=Int.mul_pos hG hG;rw[g,r];lia
theorem K4{T:Tr}{a:List (List D×Str)}(hk:T.kn<=12)(d:a.length<=60):∀(n:Nat)(x:Nat×Nat)(t:Tr),OkS fs fa T a (x,t)->t.kn<=n->xm fs fa T a (pF fs fa a n x t)
|0,x,t,ok,h=>⟨ok,X7 (show t.kn=0 by lia)⟩
|n+1,x,t,ok,h=>by
 show xm fs fa T a ((x,t)::if QH t=true then[]else _)
 cases e:QH t with
 |true=>rw[a9 rfl];exact⟨ok,e⟩
 |false=>
  rw[a8 gV];obtain⟨g,f⟩:=P6 hk d ok e;have c:=K4 hk d n _ _ g (by have:=f.kn;dsimp only at this |-;lia);obtain⟨l,b⟩:=CW (fs:=fs) (fa:=fa) a n (fA fs fa t a) (lw fs fa ((fA fs fa t a).2:Nat) ((fA fs fa t a).1:Nat) t a).2;dsimp only at c;rw[b]at c |-
  exact⟨ok,f,c⟩
def RP{T:Tr}{a:List (List D×Str)}(hk:T.kn<=12)(b:a.length<=60):xm fs fa T a (oS fs fa T a):=
 K4 hk b _ _ _ ⟨show Nat.gcd 0 1=1 by decide,show 0<1 by decide,show 1<=12 by decide,show 0<=60 by decide,kA⟩ (aN _)
theorem Cj:∀{L:List Q8},xm fs fa T rs L->(∀(k:Nat) x,L[k]?=some x->OkS fs fa T rs x)/\(∀(k:Nat) x y,L[k]?=some x->L[k+1]?=some y->LkS fs fa T rs x y)/\∀x,L[L.length-1]?=some x->QH x.2=true
|[],h=>h.elim
|[z],h=>⟨λk x a=>by
  cases k with
  |zero=>cases a;exact h.1
  |succ k=>simp at a,λk x y _ b=>by simp at b,λx a=>by cases a;exact h.2⟩
|z::w::l,h=>by
 obtain⟨o,g,c⟩:=h;obtain⟨d,e,f⟩:=Cj c;refine⟨λk x a=>?_,λk x y a b=>?_,λx a=>f x ?_⟩
 ·cases k with
  |zero=>cases a;exact o
  |succ k=>exact d k x (by simpa using a)
 ·cases k with
  |zero=>
   cases a;have:w=y:=by simpa using b
   subst this;exact g
  |succ k=>exact e k x y (by simpa using a) (by simpa using b)
 ·simpa using a
end
def Qe:kH:=λc Q=>∃a b:D,c=[.tuple [a,b]]/\Q (.tuple [b,a])
def tI(d:Nat):kH:=λe Q=>∃(fs:List (Str×List Str))(an:List Str)(fa:List (List D×Str)->Str)(t:Tr)(c:List (List D×Str))(a b:Int),e=[dY fs an,gE t,.list (c.map cV),.tuple [.int a,.int b]]/\eV fs an/\FA fs an fa/\lZ fs an t/\t.dep<d/\fK fs an c/\c.length<=60/\0<=a/\a<=1000000000/\0<=b/\b<=1000000000/\Q (.tuple [.int (lw fs fa a b t c).1,gE (lw fs fa a b t c).2])
def Qg:kH:=tI 13
def XC{Q:D->Prop}(h:tI 0 ds Q):False:=by
 obtain⟨_,_,_,_,_,_,_,_,_,_,_,h,_⟩:=h;lia
def Qf:kH:=λd Q=>∃(fs:List (Str×List Str))(an:List Str)(fa:List (List D×Str)->Str)(t:Tr)(c:List (List D×Str))(a b:Int),d=[dY fs an,gE t,.list (c.map cV),.tuple [.int b,.int a]]/\eV fs an/\FA fs an fa/\lZ fs an t/\t.dep<13/\fK fs an c/\c.length<=60/\0<=a/\a<=1000000000/\0<=b/\b<=1000000000/\Q (gE (lw fs fa a b t c).2)
section
variable{fs:List (Str×List Str)}{fa:List (List D×Str)->Str}
theorem CU:∀(t:Tr)(a:List (List D×Str)),(BD fs fa t a).length=t.kn
|.say _,_=>rfl
|.ask k n v s y m,a=>by
 show(_::_:List _).length=y.kn+m.kn+1;rw[bN,aZ,CU y,CU m]
theorem AX:∀(l:List (Nat×Nat))(x p:Nat×Nat),kR x (l++[p])=oU (kR x l) p
|[],x,p=>rfl
|e::l,x,p=>AX l (oU x e) p
theorem IR(a b:Int):∀(t:Tr)(c:List (List D×Str)),(lw fs fa a b t c).2.dep<=t.dep
|.say z,c=>aN _
|.ask k n v s y m,c=>by
 have d:=IR a b y (c.filter (jD fs k n v s));have e:=IR a b m (c.filter λr=>!jD fs k n v s r);rw[nZ];split
 ·exact cJ _
 ·show max _ _+1<=max y.dep m.dep+1;lia
end
def tH(d:Nat):kH:=λb Q=>∃(fs:List (Str×List Str))(an:List Str)(fa:List (List D×Str)->Str)(t:Tr)(a:List (List D×Str)),b=[dY fs an,gE t,.list (a.map cV)]/\eV fs an/\FA fs an fa/\lZ fs an t/\t.dep<d/\t.dep<=40/\t.kn<=100/\fK fs an a/\a.length<=60/\(∀e∈BD fs fa t a,0<=e.1)/\Q (.tuple [.int (fT fs t a:Nat),.list ((BD fs fa t a).map λe=>JG (lN e))])
def Ru:kH:=tH 13
def XB{Q:D->Prop}(h:tH 0 ds Q):False:=by
 obtain⟨_,_,_,_,_,_,_,_,_,h,_⟩:=h;lia
def Qi:kH:=λb Q=>∃(fs:List (Str×List Str))(an:List Str)(fa:List (List D×Str)->Str)(t:Tr)(a:List (List D×Str)),b=[dY fs an,gE t,.list (a.map cV)]/\eV fs an/\FA fs an fa/\lZ fs an t/\t.dep<=12/\t.kn<=12/\QH t=false/\fK fs an a/\a.length<=60/\(∀e∈BD fs fa t a,0<=e.1)/\Q (JG (fA fs fa t a))
def Qh:MU:=λb Q=>∃(fs:List (Str×List Str))(an:List Str)(fa:List (List D×Str)->Str)(T:Tr)(a:List (List D×Str)),b=[dY fs an,gE T,.list (a.map cV)]/\eV fs an/\FA fs an fa/\lZ fs an T/\T.dep<=12/\T.kn<=12/\fK fs an a/\a.length<=60/\Q ((oS fs fa T a).map oD)
theorem GA{fs}{fa:List (List D×Str)->Str}(a:List (List D×Str)):∀(n:Nat)(x:Nat×Nat)(t:Tr),(pF fs fa a n x t).length<=n+1
|0,x,t=>aN _
|n+1,x,t=>by
 show((x,t)::(if QH t=true then[]else _)).length<=_;split
 ·show 1<=_;lia
 ·have:=GA (fs:=fs) (fa:=fa) a n (fA fs fa t a) (lw fs fa ((fA fs fa t a).2:Nat) ((fA fs fa t a).1:Nat) t a).2;rw[bN];lia
noncomputable def eQ:List (List D)->List (List D)
|[]=>[[]]
|e::L=>e.flatMap λx=>(eQ L).map (x::·)
noncomputable def iD(bs:List (List D))(a:List D):List (List D):=bs.flatMap λb=>a.map λx=>b++[x]
theorem G0:∀(L:List (List D))(bs:List (List D)),L.foldl iD bs=bs.flatMap λb=>(eQ L).map (b++·)
|[],bs=>by
 show bs=bs.flatMap λb=>[b++[]]
 induction bs with
 |nil=>rfl
 |cons b bs a=>rw[fU,<- a,dH];rfl
|e::L,bs=>by
 show L.foldl iD (iD bs e)=_;rw[G0 L];unfold iD;rw[List.flatMap_assoc];congr 1;funext b;show _=(e.flatMap λx=>(eQ L).map (x::·)).map (b++·);rw[List.flatMap_map,List.map_flatMap];congr 1;funext x;rw[aX];congr 1;funext l;show b++[x]++l=b++(x::l);rw[iA];rfl
def wW(L:List (List D)):L.foldl iD [[]]=eQ L:=by
 rw[G0];show(eQ L).map ([]++·)++[]=_;rw[dH];exact mG _
noncomputable instance decD:DecidableEq PyData:=λ_ _=>ba _
def J2:List (List D)->List D->Bool
|[],[]=>true
|e::L,x::c=>decide (x∈e)&&J2 L c
|_,_=>false
theorem tV:∀(L:List (List D))(c:List D),c∈eQ L↔J2 L c=true
|[],[]=>by simp[eQ,J2]
|[],_::_=>by simp[eQ,J2]
|e::L,[]=>by simp[eQ,J2]
|e::L,x::c=>by
 have b:=tV L c;show(x::c)∈(e.flatMap λx=>(eQ L).map (x::·))↔(decide (x∈e)&&J2 L c)=true;rw[cS,c6,<- b,sP];constructor
 ·rintro⟨y,hy,h⟩;obtain⟨d,hd,a⟩:=aQ.mp h;cases a;exact⟨hy,hd⟩
 ·rintro⟨hx,hc⟩;exact⟨x,hx,aQ.mpr ⟨c,hc,kA⟩⟩
theorem yW:∀{L:List (List D)}{c:List D},J2 L c=true->c.length=L.length/\∀(j:Nat) e x,L[j]?=some e->c[j]?=some x->x∈e
|[],[],_=>⟨kA,λj e x h=>by simp at h⟩
|[],_::_,h=>by cases h
|_::_,[],h=>by cases h
|e::L,x::c,h=>by
 have d:(decide (x∈e)&&J2 L c)=true:=h;rw[cS,c6]at d;obtain⟨g,i⟩:=yW d.2;refine⟨by rw[bN,bN,g],λj f k a b=>?_⟩
 cases j with
 |zero=>
  simp only[kP,l6]at a b;subst a b;exact d.1
 |succ j=>
  simp only[iX]at a b;exact i j f k a b
noncomputable def gJ(L:List (List D)):Bool:=L.any aJt
theorem DB:∀L:List (List D),eQ L=[]↔gJ L=true
|[]=>by simp[eQ,gJ]
|e::L=>by
 have b:=DB L;show(e.flatMap λx=>(eQ L).map (x::·))=[]↔(e.isEmpty||L.any aJt)=true;rw[jT];constructor
 ·intro h
  cases e with
  |nil=>exact .inl kA
  |cons x e=>
   rw[fU,List.append_eq_nil_iff]at h;exact .inr (b.mp (List.map_eq_nil_iff.mp h.1))
 ·rintro(h | h)
  ·cases e with
   |nil=>rfl
   |cons x e=>cases h
  ·rw[b.mpr h]
   induction e with
   |nil=>rfl
   |cons x e a=>rw[fU,a];rfl
theorem LH:∀{L},gJ L=false->∀(j:Nat)(e:List D)(x:D),L[j]?=some e->x∈e->∃c∈eQ L,c[j]?=some x
|[],_,j,e,x,he,_=>by simp at he
|e0::L,h,j,e,x,he,hx=>by
 have a:(e0.isEmpty||gJ L)=false:=h;rw[mH]at a
 cases j with
 |zero=>
  simp only[kP,l6]at he;subst he;have:eQ L≠[]:=λz=>by rw[(DB L).mp z]at a;cases a.2
  obtain⟨c,b⟩:=KD _ this;exact⟨x::c,sP.mpr ⟨x,hx,aQ.mpr ⟨c,b,kA⟩⟩,kA⟩
 |succ j=>
  simp only[iX]at he;obtain⟨c,b,d⟩:=LH a.2 j e x he hx;obtain⟨y,f⟩:=KD e0 (λz=>by rw[z]at a;cases a.1);exact⟨y::c,sP.mpr ⟨y,f,aQ.mpr ⟨c,b,kA⟩⟩,d⟩
theorem DD:∀(L:List (List D))(n:Nat),(∀e∈L,e.length<=n)->(eQ L).length<=n^L.length
|[],n,_=>aN 1
|e::L,n,h=>by
 have b:=DD L n λe a=>h e (aJ _ a);have a:=h e (aO ..);show(e.flatMap λx=>(eQ L).map (x::·)).length<=n^(L.length+1)
 have:(e.flatMap λx=>(eQ L).map (x::·)).length=e.length*(eQ L).length:=by
  clear a h
  induction e with
  |nil=>simp
  |cons x e b=>rw[fU,aZ,b,aA,bN,nU];lia
 rw[this,aRl,eL (n^L.length)];exact iV a b
noncomputable def eR:List (List D)->Nat->(D->Bool)->List (List D)
|[],_,_=>[]
|e::L,0,g=>e.filter g::L
|e::L,j+1,g=>e::eR L j g
noncomputable def Q6:List D->Nat->(D->Bool)->Bool
|[],_,_=>true
|x::_,0,g=>g x
|_::c,j+1,g=>Q6 c j g
theorem A4:∀(L:List (List D))(j:Nat)(g:D->Bool),(eQ L).filter (λc=>Q6 c j g)=eQ (eR L j g)
|[],j,g=>rfl
|e::L,0,g=>by
 show(e.flatMap λx=>(eQ L).map (x::·)).filter _=(e.filter g).flatMap λx=>(eQ L).map (x::·)
 induction e with
 |nil=>rfl
 |cons x e f=>
  rw[fU,gA,f,cR];by_cases a:g x=true
  ·rw[a9 a,fU];congr 1;rw[UF];intro c b;obtain⟨d,_,rfl⟩:=aQ.mp b;exact a
  ·rw[a8 a]
   have:((eQ L).map (x::·)).filter (λc=>Q6 c 0 g)=[]:=by
    rw[List.filter_eq_nil_iff];intro c b;obtain⟨d,_,rfl⟩:=aQ.mp b;exact a
   rw[this];rfl
|e::L,j+1,g=>by
 show(e.flatMap λx=>(eQ L).map (x::·)).filter _=e.flatMap λx=>(eQ (eR L j g)).map (x::·);rw[<- A4 L j g]
 induction e with
 |nil=>rfl
 |cons x e f=>
  rw[fU,gA,f,fU];congr 1;rw[lH]
  rfl
theorem D8:∀{L:List (List D)}{j:Nat}{g:D->Bool}{e:List D},L[j]?=some e->eR L j g=L.take j++(e.filter g::L.drop (j+1))
|[],j,g,e,h=>by simp at h
|e0::L,0,g,e,h=>by
 simp only[kP,l6]at h;subst h;rfl
|e0::L,j+1,g,e,h=>by
 simp only[iX]at h;show e0::eR L j g=e0::(L.take j++(e.filter g::L.drop (j+1)));rw[D8 h]
theorem D7:∀(L:List (List D))(j:Nat)(g:D->Bool),(eR L j g).length=L.length
|[],_,_=>rfl
|_::_,0,_=>rfl
|e::L,j+1,g=>by show(eR L j g).length+1=L.length+1;rw[D7 L j g]
theorem G3:∀(L:List (List D))(j:Nat)(g:D->Bool)(i:Nat),(eR L j g)[i]?=if i=j then L[i]?.map (RG g)else L[i]?
|[],j,g,i=>by show([]:List (List D))[i]?=_;split<;>simp
|e::L,0,g,0=>rfl
|e::L,0,g,i+1=>rfl
|e::L,j+1,g,0=>rfl
|e::L,j+1,g,i+1=>by
 show(eR L j g)[i]?=if i+1=j+1 then L[i]?.map (RG g)else L[i]?;rw[G3 L j g i];by_cases h:i=j
 ·rw[a9 h,a9 hG]
 ·rw[a8 h,a8 hG]
theorem uF:∀{L}{j:Nat}{g:D->Bool}{e:List D},gJ L=false->L[j]?=some e->gJ (eR L j g)=(e.filter g).isEmpty
|[],j,g,e,_,h=>by simp at h
|e0::L,0,g,e,hn,h=>by
 simp only[kP,l6]at h;subst h;have a:(e0.isEmpty||gJ L)=false:=hn;rw[mH]at a;show((e0.filter g).isEmpty||gJ L)=_;rw[a.2,KR]
|e0::L,j+1,g,e,hn,h=>by
 simp only[iX]at h;have a:(e0.isEmpty||gJ L)=false:=hn;rw[mH]at a;show(e0.isEmpty||gJ (eR L j g))=_;rw[a.1,zB];exact uF a.2 h
theorem MV:∀(L:List (List D))(j:Nat)(g:D->Bool)(c:List D),J2 (eR L j g) c=(J2 L c&&Q6 c j g)
|[],j,g,[]=>rfl
|[],j,g,_::_=>rfl
|_::_,0,g,[]=>rfl
|_::_,_+1,g,[]=>rfl
|e::L,0,g,x::c=>by
 show(decide (x∈e.filter g)&&J2 L c)=(decide (x∈e)&&J2 L c&&g x);rw[dN];simp only[cS,c6,cW];exact⟨λ⟨⟨a,b⟩,c⟩=>⟨⟨a,c⟩,b⟩,λ⟨⟨a,c⟩,b⟩=>⟨⟨a,b⟩,c⟩⟩
|e::L,j+1,g,x::c=>by
 show(decide (x∈e)&&J2 (eR L j g) c)=(decide (x∈e)&&J2 L c&&Q6 c j g);rw[MV L j g c,Bool.and_assoc]
theorem Q5{g:D->Bool}:∀{c}{j:Nat},c[j]?=some x->Q6 c j g=g x
|[],j,h=>by simp at h
|y::c,0,h=>by
 simp only[kP,l6]at h;subst h;rfl
|y::c,j+1,h=>by
 simp only[iX]at h;exact Q5 (c:=c) (j:=j) h
noncomputable def fN(fs:List (Str×List Str))(k n v s:Str)(x:D):Bool:=match fs[jx fs n]? with | some f=>decide (rN f k v s x="yes") | none=>false
noncomputable def dS(fs:List (Str×List Str)):Tr->List (List D)->List (List (List D)×Str)
|.say a,L=>if gJ L then[]else[(L,a)]
|.ask k n v s y m,L=>if gJ L then[]else dS fs y (eR L (jx fs n) (fN fs k n v s))++dS fs m (eR L (jx fs n) λx=>!fN fs k n v s x)
def jC(fs:List (Str×List Str))(L:List (List D)):Prop:=L.length=fs.length/\∀(j:Nat) f e,fs[j]?=some f->L[j]?=some e->∃p:D->Bool,e=(gX f).filter p
def jC.filt{fs}(h:jC fs L)(j:Nat)(g:D->Bool):jC fs (eR L j g):=by
 refine⟨by rw[D7];exact h.1,λi f e c a=>?_⟩;rw[G3]at a;by_cases b:i=j
 ·rw[a9 b]at a;obtain⟨d,k,rfl⟩:=bZ.mp a;obtain⟨p,rfl⟩:=h.2 i f d c k;exact⟨λx=>g x&&p x,by rw[List.filter_filter]⟩
 ·rw[a8 b]at a;exact h.2 i f e c a
def jC.whole(fs:List (Str×List Str)):jC fs (fs.map gX):=⟨aA _,λj f e b a=>by
 rw[aM,b]at a;cases a;exact⟨λ_=>true,(UF.mpr λ_ _=>rfl).symm⟩⟩
def M9(fs:List (Str×List Str)):gJ (fs.map gX)=false:=by
 unfold gJ;rw[ZU];intro e a;obtain⟨f,_,rfl⟩:=aQ.mp a;unfold gX;cases f.2<;>simp
theorem uZ{fs}:∀(t:Tr){L},jC fs L->∀r∈dS fs t L,jC fs r.1/\gJ r.1=false/\∀c,J2 r.1 c=true->J2 L c=true
|.say a,L,h,r,hr=>by
 have hr':r∈(if gJ L then[]else[(L,a)]):=hr
 cases f:gJ L with
 |true=>rw[f,a9 rfl]at hr';simp at hr'
 |false=>
  rw[f,a8 gV]at hr';rw[bP.mp hr'];exact⟨h,f,λ_ z=>z⟩
|.ask k n v s y m,L,h,r,hr=>by
 have hr':r∈(if gJ L then[]else dS fs y (eR L (jx fs n) (fN fs k n v s))++dS fs m (eR L (jx fs n) λx=>!fN fs k n v s x)):=hr;split at hr'
 ·simp at hr'
 ·have sub:∀g c,J2 (eR L (jx fs n) g) c=true->J2 L c=true:=λg c z=>by
   rw[MV,cS]at z;exact z.1
  rcases cL.mp hr' with hr' | hr'
  ·obtain⟨b,d,e⟩:=uZ y (h.filt _ _) r hr';exact⟨b,d,λc z=>sub _ c (e c z)⟩
  ·obtain⟨b,d,e⟩:=uZ m (h.filt _ _) r hr';exact⟨b,d,λc z=>sub _ c (e c z)⟩
theorem kT(fs:List (Str×List Str)):∀(t:Tr)(L:List (List D)),(dS fs t L).length<=t.kn+1
|.say a,L=>by
 show(if gJ L then[]else[(L,a)]).length<=1;split<;>simp
|.ask k n v s y m,L=>by
 show(if gJ L then[]else dS fs y _++dS fs m _).length<=y.kn+m.kn+1+1;have b:=kT fs y (eR L (jx fs n) (fN fs k n v s));have c:=kT fs m (eR L (jx fs n) λx=>!fN fs k n v s x);split
 ·simp
 ·rw[aZ];lia
def DS{fs}(h:gJ L=true):dS fs t L=[]:=by cases t<;>exact a9 h
theorem Q4:∀{c:List D}{j:Nat}{g:D->Bool},j<c.length->Q6 c j (λx=>!g x)=!Q6 c j g
|[],j,g,h=>by simp at h
|_::_,0,g,_=>rfl
|_::c,j+1,g,h=>Q4 (c:=c) (by simpa using h)
noncomputable def yB(L:List (List D)):D:=.tuple (L.map bS)
noncomputable def pS(r:List (List D)×Str):D:=.tuple [yB r.1,.str r.2]
noncomputable def oV(a:List (List D)):D:=.list (a.map bS)
noncomputable def CB(r:List (List D)×Str):D:=.tuple [oV (eQ r.1),.str r.2]
def HB(fs:List (Str×List Str)):Prop:=fs.length<=3/\∀f∈fs,f.2.length<=4
def Ev:kH:=λa Q=>∃(fs:List (Str×List Str))(an:List Str),a=[dY fs an]/\eV fs an/\Q (yB (fs.map gX))
def Qz:kH:=Ev
def Ry:kH:=λa Q=>∃(L:List (List D))(j:Nat)(g:D->Bool)(e:List D),a=[yB L,.int (j:Int),.tuple (e.filter g)]/\L[j]?=some e/\L.length<=5/\Q (yB (eR L j g))
def tG(a:Nat):MU:=λb Q=>∃(fs:List (Str×List Str))(an:List Str)(t:Tr)(L:List (List D)),b=[dY fs an,gE t,yB L]/\eV fs an/\lZ fs an t/\jC fs L/\gJ L=false/\t.dep<a/\t.dep<=5/\Q ((dS fs t L).map pS)
def Rx:MU:=tG 6
def XA{Q:List D->Prop}(h:tG 0 ds Q):False:=by
 obtain⟨_,_,_,_,_,_,_,_,_,h,_⟩:=h;lia
def Rv:MU:=λa Q=>∃(fs:List (Str×List Str))(an:List Str)(t:Tr),a=[dY fs an,gE t]/\eV fs an/\lZ fs an t/\t.dep<=5/\Q ((dS fs t (fs.map gX)).map pS)
def Ra:kH:=λa Q=>∃(fs:List (Str×List Str))(an:List Str),a=[dY fs an]/\eV fs an/\HB fs/\Q (oV (eQ (fs.map gX)))
def tE(a:Nat):kH:=λb Q=>∃(fs:List (Str×List Str))(an:List Str)(t:Tr)(L:List (List D)),b=[dY fs an,gE t,oV (eQ L)]/\eV fs an/\HB fs/\lZ fs an t/\jC fs L/\t.dep<a/\t.dep<=5/\Q (.list ((dS fs t L).map CB))
def Rk:kH:=tE 6
def W8{Q:D->Prop}(h:tE 0 ds Q):False:=by
 obtain⟨_,_,_,_,_,_,_,_,_,h,_⟩:=h;lia
def FR(x:D):Prop:=x=.none\/∃z,uW z=true/\x=.str z
def FR.th(h:FR x){n m:Nat}(a:8<=n):Th n m x:=by
 rcases h with rfl | ⟨z,b,rfl⟩
 ·exact BY
 ·exact jR b a
def Wa(a:FR x)(b:FR y):cM x y=decide (x=y):=by
 rcases a with rfl | ⟨z,c,rfl⟩<;>rcases b with rfl | ⟨w,hw,rfl⟩
 ·exact(b0 kA).symm
 ·exact(b7 (λz=>nomatch z)).symm
 ·exact(b7 (λz=>nomatch z)).symm
 ·show(z==w)=_;rw[dN];simp
theorem Q7(b:FR x):∀{a:List D},(∀t∈a,FR t)->(a.any λz=>cM z x)=decide (x∈a)
|[],_=>(b7 hH).symm
|t::a,h=>by
 rw[jL,Q7 b λt c=>h t (aJ _ c),Wa (h t (aO ..)) b,dN];simp only[jT,c6,aR];exact⟨λz=>z.imp br id,λz=>z.imp br id⟩
def WW(d:FR x)(h:∀t∈ts,FR t):wR x (.list ts)/\wR x (.tuple ts):=by
 obtain⟨_,_,_,_,e,b⟩:=rJ (n:=8) (m:=0) λt c=>(h t c).th (aN 8);have a:=((d.th (n:=8) (m:=0) (aN 8)).cd gV);exact⟨⟨b,a.lay,by have:=a.dep;lia⟩,⟨b,a.lay,by have:=a.dep;lia⟩⟩
section
variable{fs:List (Str×List Str)}{an:List Str}
def yN(F:eV fs an)(a:f∈fs):∀x∈gX f,FR x:=λx hx=>by
 rcases cL.mp hx with hx | hx
 ·obtain⟨z,b,rfl⟩:=aQ.mp hx;exact .inr ⟨z,F.vals a z b,kA⟩
 ·rw[bP.mp hx];exact .inl kA
def LN(h:x∈gX f):KJ f x=true:=by
 rcases cL.mp h with h | h
 ·obtain⟨z,a,rfl⟩:=aQ.mp h;exact b0 a
 ·rw[bP.mp h];rfl
def jC.sub(h:jC fs L){j:Nat}(b:fs[j]?=some f)(a:L[j]?=some e):∀x∈e,x∈gX f:=λx c=>by
 obtain⟨p,rfl⟩:=h.2 j f e b a;exact(cW.mp c).1
def GN(h:jC fs L)(g:J2 L c=true):gH fs (.tuple c)=true:=by
 obtain⟨d,e⟩:=yW g;refine Wu (d.trans h.1) λk f x b i=>?_;have hk:k<L.length:=by rw[h.1];exact(aG.mp b).1
 have a:L[k]?=some L[k]:=aD hk;exact LN (h.sub b a x (e k _ x a i))
def LA(F:eV fs an){k n v s:Str}(a:fs[jx fs n]?=some f)(b:s="yes"\/s="no")(c:x∈gX f):FM x (.tuple (oK k v s f))=fN fs k n v s x:=by
 unfold fN;rw[a];show _=decide (rN f k v s x="yes");rw[<- D1 b (LN c)]
 cases FM x (.tuple (oK k v s f))with
 |true=>rfl
 |false=>rw[a8 gV];exact(b7 eH).symm
def RW{k v s:Str}(a:s="yes"\/s="no")(b:KJ f x=true):rN f k v s x="yes"\/rN f k v s x="no":=by
 rw[<- D1 a b];split
 ·exact .inl kA
 ·exact .inr kA
def GD(F:eV fs an){k n v s:Str}(m:QG fs (.tuple [.str k,.str n,.str v])=true)(o:s="yes"\/s="no")(h:gH fs (.tuple c)=true):eJ fs k n v s c=(if Q6 c (jx fs n) (fN fs k n v s)then("yes":Str)else "no"):=by
 obtain⟨f,a,i,d,p,hk⟩:=I0 F m;obtain⟨l,b⟩:=lQ h;have j:jx fs n<c.length:=by rw[l];exact(aG.mp a).1
 have g:c[jx fs n]?=some c[jx fs n]:=aD j;have hok:=b _ f _ a g;rw[xQ F a g d,Q5 g];unfold fN;rw[a];show _=if decide (rN f k v s c[jx fs n]="yes")=true then("yes":Str)else "no";rcases RW (k:=k) (v:=v) o hok with e | e
 ·rw[e,a9 (b0 kA)]
 ·rw[e,a8 eH]
end
def C1{fs}(h:HB fs)(b:jC fs L):(eQ L).length<=125:=by
 have f:=DD L 5 λe d=>by
  obtain⟨j,c⟩:=cT d;have a:j<fs.length:=by rw[<- b.1];exact(aG.mp c).1
  obtain⟨p,rfl⟩:=b.2 j _ e (aD a) c;have i:=h.2 _ (fL a);have k:=bK p (gX fs[j]);have l:(gX fs[j]).length=fs[j].2.length+1:=by unfold gX;rw[aZ,aA];rfl
  lia
 have g:5^L.length<=5^3:=eS gV (by rw[b.1];exact h.1);lia
theorem rW{fs}:∀(t:Tr){L},lZ fs an t->∀{r},r∈dS fs t L->r.2∈an
|.say a,L,ht,r,hr=>by
 have hr':r∈(if gJ L then[]else[(L,a)]):=hr;split at hr'
 ·simp at hr'
 ·rw[bP.mp hr'];exact ht
|.ask k n v s y m,L,ht,r,hr=>by
 have hr':r∈(if gJ L then[]else dS fs y (eR L (jx fs n) (fN fs k n v s))++dS fs m (eR L (jx fs n) λx=>!fN fs k n v s x)):=hr;split at hr'
 ·simp at hr'
 ·rcases cL.mp hr' with hr' | hr'
  ·exact rW y ht.2.2.1 hr'
  ·exact rW m ht.2.2.2 hr'
def wv:List D->List (List D)
|.tuple e::ds=>e::wv ds
|_=>[]
theorem HK:∀L:List (List D),wv (L.map bS)=L
|[]=>rfl
|e::L=>by show e::wv (L.map bS)=e::L;rw[HK L]
noncomputable def jH(i:Int):Str:=c7 (toString i)
noncomputable def sN:D->Str
|.str z=>z
|_=>"-"
noncomputable def wf(w:Str):D:=if w="-" then .none else .str w
noncomputable def Jv(s:D):D:=match s with | .str z=>.bool (Txt.contains "0123456789" z) | _=>.none
noncomputable def xw(w:Str):List Bool:=w.cps.toList.map λc=>Txt.contains "0123456789" ⟨#[c]⟩
noncomputable def GW(w:Str):Bool:=decide (1<=w.length)&&decide (w.length<=9)&&(xw w).all id&&(decide (w="0")||!Txt.startswith w "0")
def Sa:kH:=λa Q=>∃w:Str,a=[.str w]/\w.length<=100000/\Q (.bool (GW w))
noncomputable def tY(a:List Str):Bool:=if a.headD ""∈(["tree","rows","rules","steps"]:List Str)then decide (a.length=1)else if a.headD ""="out" then decide (a.length=2)&&GW (a.tail.headD "")else if a.headD ""="turn" then decide (2<=a.length)&&GW (a.tail.headD "")else decide (a.headD ""∈(["put","judge","why"]:List Str))
def Rz:kH:=λa Q=>∃(w:Str)(r:List Str),a=[.list ((w::r).map aL)]/\(∀x∈r,x.length<=100000)/\Q (.bool (tY (w::r)))
def Sc:kH:=λb Q=>∃a:List Str,b=[.list (a.map aL)]/\a.length<=1000/\Q (.tuple (a.map wf))
def Sb:kH:=λc Q=>∃(b:List Str)(a:Str),c=[.list ((b++[a]).map aL)]/\b.length<=500/\Q (.tuple [.tuple (b.map wf),.str a])
def Ew:kH:=λa Q=>∃x:D,a=[x]/\FR x/\Q (.str (sN x))
def Ri:kH:=Ew
noncomputable def HV(r:Rw):Str:=Txt.join pV (r.1.map sN++[r.2])
def Rj:kH:=λa Q=>∃(fs:Fs)(an:List Str)(r:Rw),a=[cV r]/\eV fs an/\mN fs an r/\Q (.str (HV r))
noncomputable def FL(f:Str×List Str)(e:List D):Str:=f.1++" in "++Txt.join "/" (e.map sN)
def Sf:kH:=λa Q=>∃(f:Str×List Str)(e:List D),a=[iN f,.tuple e]/\uW f.1=true/\(∀x∈e,FR x)/\e.length<=6/\Q (.str (FL f e))
def iT(fs:Fs)(L:List (List D)):List Str:=((fs.zip L).filter λp=>decide (p.2≠gX p.1)).map λp=>FL p.1 p.2
def oN(fs:Fs)(r:List (List D)×Str):Str:=(if iT fs r.1=[]then("all":Str)else Txt.join " and " (iT fs r.1))++" : "++r.2
def Se:kH:=λa Q=>∃(fs:Fs)(an:List Str)(r:List (List D)×Str),a=[dY fs an,pS r]/\eV fs an/\jC fs r.1/\r.2∈an/\Q (.str (oN fs r))
def tM(fs:Fs)(t:Tr):Str:=Txt.join "; " ((dS fs t (fs.map gX)).map (oN fs))
def Rl:kH:=λa Q=>∃(fs:Fs)(an:List Str)(t:Tr),a=[dY fs an,gE t]/\eV fs an/\HB fs/\lZ fs an t/\t.dep<=5/\t.kn<=500/\Q (.str (tM fs t))
noncomputable def mD(z:Q8):Str:=jH (z.1.1:Nat)++"/"++jH (z.1.2:Nat)++" "++jH (z.2.kn:Nat)
def Qu:kH:=λa Q=>∃z:Q8,a=[JG z.1,gE z.2]/\z.1.1<=60/\z.1.2<=12/\z.2.kn<=12/\z.2.dep<=12/\Q (.str (mD z))
def tD(n:Nat):kH:=qO n
def Rm:kH:=tD 13
def W7{Q:D->Prop}(h:tD 0 ds Q):False:=LR h
def pR(x y:Str):(x++y).cps.toList=x.cps.toList++y.cps.toList:=by
 show(x.cps++y.cps).toList=_;simp
def zK(x y z:Str):x++y++z=x++(y++z):=G4 (by rw[pR,pR,pR,pR,iA])
def eU(x y:Str):(x++y).length=x.length+y.length:=by
 show(x.cps++y.cps).size=_;rw[AM];rfl
def zW(x w:Str)(a:List Str):x++" "++Txt.join pV (w::a)=Txt.join pV (x::w::a):=G4 (by
 rw[pR,pR,A3,A3,iA];rfl)
def yO{fs}(F:eV fs an)(h:gH fs (.tuple cs)=true):∀x∈cs,FR x:=λx b=>by
 rcases MK h x b with rfl | ⟨f,a,z,c,rfl⟩
 ·exact .inl kA
 ·exact .inr ⟨z,F.vals a z c,kA⟩
def wS{z:Str}(h:uW z=true):z≠"-"/\32∉z.cps.toList/\z.length<=8:=by
 refine⟨λe=>?_,λa=>b9 ((IM h).2.2 32 a) eH,(tU h).1⟩;subst e;exact b9 h eH
def ES(h:FR x):wf (sN x)=x/\32∉(sN x).cps.toList/\(sN x).length<=8:=by
 rcases h with rfl | ⟨z,d,rfl⟩
 ·exact⟨a9 kA,eH,eH⟩
 ·obtain⟨a,b,c⟩:=wS d;exact⟨a8 a,b,c⟩
theorem U1:∀{a:List D},(∀x∈a,FR x)->(a.map sN).map wf=a
|[],_=>rfl
|x::a,h=>by rw[bI,bI,U1 λy b=>h y (aJ _ b),(ES (h x (aO ..))).1]
def IJ:∀k:Nat,k<10->GW (jH (k:Nat))=true/\32∉(jH (k:Nat)).cps.toList/\intText? (jH (k:Nat))=some (k:Int)/\(jH (k:Nat)).length<=4:=by decide +kernel
def qQ{fs}(F:eV fs an){r:Rw}(h:mN fs an r):∃w a,r.1.map sN++[r.2]=w::a/\(∀x∈w::a,32∉x.cps.toList/\x.length<=8)/\a.length=r.1.length:=by
 cases e:r.1.map sN++[r.2]with
 |nil=>simp at e
 |cons w a=>
  refine⟨w,a,kA,λx hx=>?_,?_⟩
  ·rw[<- e]at hx;rcases cL.mp hx with hx | hx
   ·obtain⟨y,b,rfl⟩:=aQ.mp hx;exact(ES (yO F h.1 y b)).2
   ·rw[bP.mp hx];exact(wS (F.an.2.1 _ h.2)).2
  ·have:=e5 jK e;rw[aZ,aA,bN]at this;exact(Nat.succ.inj this).symm
def Zl{fs}(F:eV fs an){r:Rw}(h:mN fs an r):Txt.split ("put "++HV r) pV=("put":Str)::(r.1.map sN++[r.2]):=by
 obtain⟨w,a,e,hw,_⟩:=qQ F h;unfold HV;rw[e,show("put ":Str)="put"++" " by decide +kernel,zW]
 exact rL 32 gV _ _ λx hx=>by
  rcases aR.mp hx with rfl | hx
  ·decide +kernel
  ·exact(hw x hx).1
def Yg{fs}(F:eV fs an){r:Rw}(h:mN fs an r){k:Nat}(hk:k<10):Txt.split ("turn "++jH (k:Nat)++" "++HV r) pV=("turn":Str)::jH (k:Nat)::(r.1.map sN++[r.2]):=by
 obtain⟨w,a,e,hw,_⟩:=qQ F h;unfold HV;rw[e,zK ("turn "++jH (k:Nat)),zK "turn ",<- zK (jH (k:Nat)),zW,show("turn ":Str)="turn"++" " by decide +kernel,zW]
 exact rL 32 gV _ _ λx hx=>by
  rcases aR.mp hx with rfl | hx
  ·decide +kernel
  ·rcases aR.mp hx with rfl | hx
   ·exact(IJ k hk).2.1
   ·exact(hw x hx).1
theorem qA{n:Nat}:∀{ws:List Str},(∀w∈ws,w.length<=n)->(ws.map (·.length)).sum<=n*ws.length
|[],_=>cJ _
|w::ws,h=>by
 have b:=h w (aO ..);have c:=qA λx a=>h x (aJ _ a);rw[bI,fD,bN,Nat.mul_succ];lia
def X3(s:Str)(a:List Str):(Txt.join s a).length<=(a.map (·.length)).sum+a.length*s.length:=by
 show(t4 s a).length<=_;rw[m7];exact StrLaws.join_length_le s a
def tN{fs}(F:eV fs an){r:Rw}(h:mN fs an r):(HV r).length<=60/\r.1.length<=5:=by
 obtain⟨w,i,e,hw,g⟩:=qQ F h;have a:=X3 pV (r.1.map sN++[r.2]);have b:=qA λx d=>(hw x d).2;have c:pV.length=1:=by decide +kernel
 have f:=(lQ h.1).1;have n5:=F.n5;unfold HV;rw[e,c,Nat.mul_one]at a;rw[e];rw[bN]at a b;lia
def DR{f:Str×List Str}{e:List D}(h:uW f.1=true)(i:∀x∈e,FR x)(k:e.length<=6):(FL f e).length<=70:=by
 have a:=(wS h).2.2;have b:=X3 "/" (e.map sN)
 have c:=qA (n:=8) (ws:=e.map sN) λw hw=>by
  obtain⟨x,j,rfl⟩:=aQ.mp hw;exact(ES (i x j)).2.2
 have d:("/":Str).length=1:=by decide +kernel
 have g:(" in ":Str).length=4:=by decide +kernel
 unfold FL;rw[eU,eU,g];rw[d,aA]at b;rw[aA]at c;lia
def Y5{a:Type}(v:List a)(x:a):iH (v++[x]) none (some (-1))=v:=by
 unfold iH;rw[HT.sIx_none]
 have e:HT.sIx (v++[x]).length (v++[x]).length (some (-1))=v.length:=by
  rw[aZ];show _=_;unfold HT.sIx;simp
  try lia
 rw[e,wJ,uL,List.take_append_of_le_length (aN _),dB]
def XX{a:Type}(v:List a)(x:a):iH (v++[x]) (some (-1)) none=[x]:=by
 unfold iH
 have e:HT.sIx (v++[x]).length 0 (some (-1))=v.length:=by
  rw[aZ];unfold HT.sIx;simp
  try lia
 rw[e,HT.sIx_none,List.drop_left,fF hH]
def TH(h:FR y):cM x y=decide (x=y):=by
 rcases h with rfl | ⟨z,a,rfl⟩
 ·cases x<;>first | exact(b0 kA).symm | exact(b7 (λz=>nomatch z)).symm
 ·cases x with
  |str w=>
   show(w==z)=_;rw[dN];simp
  |_=>exact(b7 (λz=>nomatch z)).symm
theorem yM:∀{xs ys},(∀y∈ys,FR y)->HF xs ys=decide (xs=ys)
|[],[],_=>(b0 kA).symm
|[],_::_,_=>(b7 hH).symm
|_::_,[],_=>(b7 hH).symm
|x::xs,y::ys,h=>by
 show(cM x y&&HF xs ys)=_;rw[TH (h y (aO ..)),yM λz a=>h z (aJ _ a),dN];simp
def Vs(fs:Fs)(L:List (List D)):sV (fs.map iN) (L.map bS)=(fs.zip L).map λp=>.tuple [iN p.1,.tuple p.2]:=by
 unfold sV;rw[List.zip_map,aX];rfl
def qU{fs:Fs}(F:eV fs an)(d:jC fs L){e:List D}(h:(f,e)∈fs.zip L):f∈fs/\(∀x∈e,FR x)/\e.length<=6:=by
 obtain⟨j,g⟩:=cT h;obtain⟨a,c⟩:=eD.mp g;have b:=aV a;refine⟨b,λx i=>yN F b x (d.sub a c x i),?_⟩;obtain⟨p,rfl⟩:=d.2 j f e a c;have:=(F.vs f b).2.1;refine bE (bK _ _) ?_;unfold gX;rw[aZ,aA];show _+1<=6;lia
def zS{fs}(F:eV fs an)(d:jC fs L):(∀w∈iT fs L,w.length<=70)/\(iT fs L).length<=5:=by
 refine⟨λw hw=>?_,?_⟩
 ·obtain⟨⟨f,e⟩,h,rfl⟩:=aQ.mp hw;obtain⟨a,b,c⟩:=qU F d (cW.mp h).1;exact DR (F.name a) b c
 ·have:=F.n5;unfold iT;rw[aA];refine bE (bK _ _) ?_;rw[FF];lia
def JY{a:List Str}(h:∀w∈a,w.length<=70)(c:a.length<=5):(a.map (·.length)).sum+a.length*(" and ":Str).length<=400:=by
 have b:=qA h;have e:(" and ":Str).length=5:=by decide +kernel
 rw[e];lia
def zN{fs}(F:eV fs an){r:List (List D)×Str}(d:jC fs r.1)(e:r.2∈an):(oN fs r).length<=500:=by
 obtain⟨b,c⟩:=zS F d;have g:=bE (X3 " and " (iT fs r.1)) (JY b c);have h:=(wS (F.an.2.1 _ e)).2.2;have a:(" : ":Str).length=3:=by decide +kernel
 have f:("all":Str).length=3:=by decide +kernel
 unfold oN;rw[eU,eU,a];split<;>lia
def GF{fs}(F:eV fs an){a:List (List (List D)×Str)}(h:∀r∈a,jC fs r.1/\r.2∈an)(d:a.length<=600):((a.map (oN fs)).map (·.length)).sum+(a.map (oN fs)).length*("; ":Str).length<=16777216:=by
 have c:=qA (n:=500) (ws:=a.map (oN fs)) λw hw=>by
  obtain⟨r,b,rfl⟩:=aQ.mp hw;exact zN F (h r b).1 (h r b).2
 have e:("; ":Str).length=2:=by decide +kernel
 rw[e];rw[aA]at *;lia
def LS{fs:Fs}{L:List (List D)}{j:Nat}(b:fs[j]?=some f)(a:L[j]?=some e):iT (fs.take (j+1)) (L.take (j+1))=iT (fs.take j) (L.take j)++(if e≠gX f then[FL f e]else[]):=by
 have c:(fs.take j).length=(L.take j).length:=by
  have:=(aG.mp b).1;have:=(aG.mp a).1;rw[bD,bD];lia
 unfold iT;rw[cI,cI,b,a,List.zip_append c,gA,bT];congr 1;by_cases h:e=gX f<;>simp[h]
def Wf{l:List D}{p:D->Bool}:decide ((l.filter p).length<l.length)=decide (l.filter p≠l):=by
 rw[i4];have h:=List.filter_sublist (p:=p) (l:=l);exact⟨λa b=>by rw[b]at a;lia,λa=>Nat.lt_of_le_of_ne h.length_le λz=>a (h.eq_of_length z)⟩
def mT:∀k:Nat,k<61->(jH (k:Nat)).length<=4/\(k:Int).natAbs.log2<1920:=by decide +kernel
theorem XI(k:Nat):∀{ls}{c:Nat},c∈jn k ls->c=k\/∃l∈ls,c∈l
|[],c,h=>by cases h
|[p],c,h=>.inr ⟨p,aO ..,h⟩
|p::q::r,c,h=>by
 have a:c∈p++k::jn k (q::r):=h;rcases cL.mp a with h | h
 ·exact .inr ⟨p,aO ..,h⟩
 ·rcases aR.mp h with h | h
  ·exact .inl h
  ·exact(XI k h).imp id λ⟨l,d,b⟩=>⟨l,aJ _ d,b⟩
def XR{f:Str×List Str}(a:uW f.1=true)(b:∀x∈e,FR x):FC (.str (FL f e))=true:=AO λc hc=>by
 unfold FL at hc;rw[pR,pR]at hc;rcases cL.mp hc with hc | hc
 ·rcases cL.mp hc with hc | hc
  ·exact uM ((tU a).2 c hc) gV
  ·have e:(" in ":Str).cps.toList=[32,105,110,32]:=by decide +kernel
   rw[e]at hc;simp only[aR,cX,g8]at hc;lia
 ·have e:(Txt.join "/" (e.map sN)).cps.toList=jn 47 ((e.map sN).map (·.cps.toList)):=by
   show(t4 _ _).cps.toList=_;rw[m7];exact yF 47 _
  rw[e]at hc;rcases XI 47 hc with rfl | ⟨l,d,hc⟩
  ·decide
  ·obtain⟨w,hw,rfl⟩:=aQ.mp d;obtain⟨x,g,rfl⟩:=aQ.mp hw;rcases b x g with rfl | ⟨z,h,rfl⟩
   ·rw[show(sN .none).cps.toList=[45] by decide +kernel,bP]at hc;lia
   ·exact uM ((tU h).2 c hc) gV
def N0{fs}(F:eV fs an)(i:jC fs L):dI ((iT fs L).map aL)=true:=by
 have c:∀l:List D,(∀x∈l,FC x=true)->dI l=true:=λl=>by
  induction l with
  |nil=>exactλ_=>rfl
  |cons a l j=>
   intro h;show(FC a&&dI l)=true;rw[h a (aO ..),j λx b=>h x (aJ _ b)];rfl
 refine c _ λx b=>?_;obtain⟨w,hw,rfl⟩:=aQ.mp b;obtain⟨⟨f,e⟩,h,rfl⟩:=aQ.mp hw;obtain⟨d,g,k⟩:=qU F i (cW.mp h).1;exact XR (F.name d) g
def QP(a:List D):cM (.list a) (.list [])=a.isEmpty:=by cases a<;>rfl
theorem YD{fs}{m:Int}(b:1<=m):∀(d:Nat){R:List Rw}{t:Tr},Gr fs an m d R t->t.kn+1<=max 1 R.length
|0,R,t,h=>by
 obtain⟨a,_,rfl⟩:=h;show 0+1<=_;lia
|d+1,R,t,h=>by
 unfold Gr at h
 cases e:mE fs R m with
 |none=>
  rw[e]at h;obtain⟨a,_,rfl⟩:=h;show 0+1<=_;lia
 |some c=>
  rw[e]at h;obtain⟨y,n,g,i,rfl⟩:=h;have k:=YD b d g;have l:=YD b d i;obtain⟨p1,q⟩:=pU b (cW.mp (AF e)).2
  have j:(yR fs c R).length+(nR fs c R).length=R.length:=by
   have f:∀(p:Rw->Bool)(R:List Rw),(R.filter p).length+(R.filter λr=>!p r).length=R.length:=λp R=>by
    induction R with
    |nil=>rfl
    |cons r R o=>rw[cR,cR];cases p r<;>simp<;>lia
   exact f (wh fs c) R
  show y.kn+n.kn+1+1<=_;lia
structure uJ(fs:Fs)(an:List Str)(m:Int)(d:Nat)(T:Bk)(ks:List (Nat×Rw))(t:Tr)(n:O1):Prop where
 F:eV fs an
 fm:T.fm=dY fs an
 dp:T.dp=(d:Nat)
 ls:T.ls=m
 d4:d<=4
 m1:1<=m
 few:ks.length<=10
 hh:aUv fs an m d ks t ks.length n
 num:uG ks
def uJ.tr{fs}{m:Int}{d:Nat}{t:Tr}(h:uJ fs an m d T ks t n):lZ fs an t/\t.dep<=4/\t.kn<=9:=by
 have a:=QL d h.hh.gr;have b:=YD h.m1 d h.hh.gr;have c:=h.d4;have e:=h.few;rw[aA]at b;exact⟨a.1,hG,hG⟩
noncomputable def CY(fs:Fs)(fa:List Rw->Str)(t:Tr)(a:List Rw):Str:=Txt.join ", " ((oS fs fa t a).map mD)
def GB{fs}{fa:List Rw->Str}(i:FA fs an fa){t:Tr}{b:List Rw}(r:lZ fs an t)(q:fK fs an b)(hk:t.kn<=12)(hd:t.dep<=12)(p:b.length<=60):(∀z∈oS fs fa t b,z.1.1<=60/\z.1.2<=12/\z.2.kn<=12/\z.2.dep<=12)/\(oS fs fa t b).length<=13 /\
  (∃l,oS fs fa t b=((0,1),(lw fs fa 1 0 t b).2)::l)/\∀z,(oS fs fa t b)[(oS fs fa t b).length-1]?=some z->z.2.kn=0:=by
 obtain⟨f,_,c⟩:=Cj (RP (fs:=fs) (fa:=fa) hk p);refine⟨λz g=>?_,?_,CW b _ _ _,λz g=>?_⟩
 ·obtain⟨j,o⟩:=cT g;have ok:=f j z o;have e:=ok.tr;have d:=IR (fs:=fs) (fa:=fa) (z.1.2:Nat) (z.1.1:Nat) t b;have h:=(AW (fs:=fs) (fa:=fa) (z.1.2:Nat) (z.1.1:Nat) t b).1;rw[<- e]at d h;exact⟨ok.p1,ok.q1,hG,hG⟩
 ·have d:=GA (fs:=fs) (fa:=fa) b (lw fs fa 1 0 t b).2.kn (0,1) (lw fs fa 1 0 t b).2;have h:=(AW (fs:=fs) (fa:=fa) 1 0 t b).1;exact bE d hG
 ·have:=c z g
  cases e:z.2 with
  |say a=>rfl
  |ask k n v s y m=>rw[e]at this;cases this
def GC{z:Q8}(e:z.1.1<=60)(f:z.1.2<=12)(g:z.2.kn<=12):(mD z).length<=20:=by
 have c:=(mT z.1.1 hG).1;have d:=(mT z.1.2 hG).1;have c1:=(mT z.2.kn hG).1;have a:("/":Str).length=1:=by decide +kernel
 have b:(" ":Str).length=1:=by decide +kernel
 unfold mD;rw[eU,eU,eU,eU,a,b];lia
def Hw(c b:Addr):KO (oF b):=λf n e Q=>∃(fs:Fs)(an:List Str)(m:Int)(d:Nat)(T:Bk)(a:List (Nat×Rw))(t:Tr)(fa:List Rw->Str)(w:Str),f=pJ T/\e=[MY c T,.str w]/\FA fs an fa/\uJ fs an m d T a t n /\
 ((w="rules"/\Q n (.str (tM fs t)))\/(w="steps"/\Q n (.str (CY fs fa t (a.map (·.2))))))
def ZK(fs:Fs)(an:List Str)(m:Int)(d:Nat)(a:List (Nat×Rw))(n:O1)(b:List Str)(Q:O1->D->Prop):Prop:=
 (∃r:Rw,mN fs an r/\a.length<10/\b=("put":Str)::(r.1.map sN++[r.2])/\∀t,Gr fs an m d ((a++[(a.length,r)]).map (·.2)) t->Q ⟨zC (a++[(a.length,r)]),((a.length+1:Nat):Int),gE t⟩ (.str (jH (a.length:Nat)))) \/
 (∃(k:Nat)(r:Rw),mN fs an r/\k<a.length/\b=("turn":Str)::jH (k:Nat)::(r.1.map sN++[r.2])/\∀t,Gr fs an m d ((mC k r a).map (·.2)) t->Q ⟨zC (mC k r a),n.fol,gE t⟩ (.str "ok"))
def Hv(e c:Addr):KO (oF c):=λg n f Q=>∃(fs:Fs)(an:List Str)(m:Int)(d:Nat)(T:Bk)(a:List (Nat×Rw))(t:Tr)(b:List Str),g=pJ T/\f=[MY e T,.list (b.map aL)]/\uJ fs an m d T a t n/\ZK fs an m d a n b Q
def Jb(c b:Addr):KO (oF b):=λf n e Q=>∃(fs:Fs)(an:List Str)(m:Int)(d:Nat)(T:Bk)(a:List (Nat×Rw))(t:Tr)(fa:List Rw->Str)(x:Str),f=pJ T/\e=[MY c T,.str x]/\FA fs an fa/\uJ fs an m d T a t n/\x.length<=1000 /\
 ((x="rules"/\Q n (.str (tM fs t)))\/(x="steps"/\Q n (.str (CY fs fa t (a.map (·.2)))))\/ZK fs an m d a n (Txt.split x pV) Q)
noncomputable def wo:Nat->D->Nat
|n+1,.tuple [_,_,_,y,m]=>wo n y+wo n m+1
|_,_=>0
theorem OA:∀(t:Tr)(n:Nat),t.dep<=n->wo n (gE t)=t.kn
|.say a,n,_=>by cases n<;>rfl
|.ask k n v s y m,0,h=>by have b:max y.dep m.dep+1<=0:=h;lia
|.ask k n v s y m,N+1,h=>by
 have b:max y.dep m.dep+1<=N+1:=h;show wo N (gE y)+wo N (gE m)+1=y.kn+m.kn+1;rw[OA y N hG,OA m N hG]
noncomputable def zt(x:D):D:=match x with
|.tuple [.tuple [.int a,.int b],t]=>.str (jH a++"/"++jH b++" "++jH (wo 12 t:Nat))
|_=>x
def PB{z:Q8}(h:z.2.dep<=12):zt (oD z)=.str (mD z):=by
 show aL (_++jH (wo 12 (gE z.2):Nat))=_;rw[OA _ _ h];rfl
def Tv(r:List Str):tY (("put":Str)::r)=true:=by
 have b:("put":Str)∉(["tree","rows","rules","steps"]:List Str):=by decide +kernel
 have a:("put":Str)≠"out"/\("put":Str)≠"turn"/\("put":Str)∈(["put","judge","why"]:List Str):=by decide +kernel
 unfold tY;rw[uO,a8 b,a8 a.1,a8 a.2.1,b0 a.2.2]
def Tw{x:Str}(h:GW x=true)(r:List Str):tY (("turn":Str)::x::r)=true:=by
 have a:("turn":Str)∉(["tree","rows","rules","steps"]:List Str):=by decide +kernel
 have b:("turn":Str)≠"out":=by decide +kernel
 unfold tY;rw[uO,a8 a,a8 b,a9 kA,aF2,uO,h,aJg];exact b0 (by rw[bN,bN];lia)
def ZK.line{fs}{m:Int}{d:Nat}{c:List (Nat×Rw)}{Q:O1->D->Prop}(F:eV fs an)(i:c.length<=10)(h:ZK fs an m d c n b Q):∃w r,b=w::r/\tY (w::r)=true/\(∀x∈r,x.length<=100000)/\(w="put"\/w="turn"):=by
 rcases h with⟨r,a,_,rfl,_⟩ | ⟨k,r,a,hk,rfl,_⟩
 all_goals
  obtain⟨w,b,e,hw,_⟩:=qQ F a;rw[e]
 ·exact⟨_,_,kA,Tv _,λx hx=>bE (hw x hx).2 gV,.inl kA⟩
 ·obtain⟨f,_,_,g⟩:=IJ k hG;refine⟨_,_,kA,Tw f _,λx hx=>?_,.inr kA⟩;rcases aR.mp hx with rfl | hx
  ·exact bE g gV
  ·exact bE (hw x hx).2 gV
def Ro(c b:Addr):KO (oF b):=λf n e Q=>∃(fs:Fs)(an:List Str)(m:Int)(d:Nat)(T:Bk)(a:List (Nat×Rw))(t:Tr),f=pJ T/\e=[MY c T,dY fs an,.list ((a.map (·.2)).map cV),.int (d:Nat),.int m]/\HB fs/\uJ fs an m d T a t n/\Q n (.bool true)
def C0:kH:=λa Q=>∃ns:List Int,a=[.list (ns.map bO)]/\ns.length<=63/\Q (.bool true)
def MT{a:List D}(h:a[a.length-1]?=some x):atI a (-1)=some x:=by
 have b:=(aG.mp h).1;unfold atI
 have e:OC a.length (-1)=some (a.length-1):=by
  unfold OC;rw[a8 gV,a9 hG];congr 1;lia
 rw[e];exact h
def NI:∀k:Nat,k<13->Txt.startswith (jH (0:Nat)++"/"++jH (1:Nat)++" "++jH (k:Nat)) "0/1 "=true:=by decide +kernel
def RQ:∀a:Nat,a<61->∀b:Nat,b<13->Txt.endswith (jH (a:Nat)++"/"++jH (b:Nat)++" "++jH (0:Nat)) " 0"=true:=by decide +kernel
def OH{u:Tr}(h:u.kn<13):Txt.startswith (mD ((0,1),u)) "0/1 "=true:=by
 have:=NI u.kn h;unfold mD;dsimp only;exact this
def SW{z:Q8}(b:z.1.1<=60)(c:z.1.2<=12)(a:z.2.kn=0):Txt.endswith (mD z) " 0"=true:=by
 have:=RQ z.1.1 hG z.1.2 hG;unfold mD;rw[a];exact this
def Tx(fs:Fs)(an:List Str):nl (dY fs an)=true:=by
 have a:∀l:List Str,nl (.tuple (l.map aL))=true:=λl=>IN λt b=>by
  obtain⟨z,_,rfl⟩:=aQ.mp b
  rfl
 show(wx (fs.map iN)&&(nl (.tuple (an.map aL))&&true))=true
 rw[a,IN λt b=>by
  obtain⟨f,_,rfl⟩:=aQ.mp b;show(true&&(nl (.tuple (f.2.map aL))&&true))=true;rw[a];rfl]
 rfl
section
variable{fs:Fs}{an:List Str}{m:Int}{d:Nat}{T:Bk}{a:List (Nat×Rw)}{t:Tr}{n:O1}
def uJ.nl(W:uJ fs an m d T a t n):As (pJ T) n:=by
 refine⟨λS c=>?_,?_,λx b=>?_⟩
 ·rw[<- kU c,W.fm];exact Tx fs an
 ·rw[W.hh.st];exact W6 t
 ·rw[W.hh.kv]at b;obtain⟨e,f,rfl⟩:=aQ.mp b;exact Tz (W.hh.ok _ (aQ.mpr ⟨e,f,kA⟩))
def uJ.put(W:uJ fs an m d T a t n)(c:mN fs an r)(f:a.length<10)(b:Gr fs an m d ((a++[(a.length,r)]).map (·.2)) t'):uJ fs an m d T (a++[(a.length,r)]) t' ⟨zC (a++[(a.length,r)]),((a.length+1:Nat):Int),gE t'⟩:=by
 have e:(a++[(a.length,r)]).length=a.length+1:=by rw[aZ];rfl
 exact⟨W.F,W.fm,W.dp,W.ls,W.d4,W.m1,hG,⟨kA,by rw[e],kA,GG W.hh.ok c,b,hG⟩,W.num.snoc r⟩
theorem uJ.turn(W:uJ fs an m d T a t n)(c:mN fs an r){k:Nat}(b:Gr fs an m d ((mC k r a).map (·.2)) t'):uJ fs an m d T (mC k r a) t' ⟨zC (mC k r a),n.fol,gE t'⟩:=by
 have e:=U6 k r a;have f:=W.few;exact⟨W.F,W.fm,W.dp,W.ls,W.d4,W.m1,hG,⟨kA,by rw[e];exact W.hh.fol,kA,VR W.hh.ok c,b,hG⟩,W.num.turn k r⟩
def Xx(F:eV fs an)(b:mN fs an r):(("put ":Str)++HV r).length<=100:=by
 have:=(tN F b).1;rw[eU,show("put ":Str).length=4 by decide +kernel];lia
def RN(F:eV fs an)(b:mN fs an r){k:Nat}(hk:k<10):(("turn ":Str)++jH (k:Nat)).length<=20/\(("turn ":Str)++jH (k:Nat)++" ").length<=21/\(("turn ":Str)++jH (k:Nat)++" "++HV r).length<=100:=by
 have c:=(tN F b).1;have e:=(IJ k hk).2.2.2;simp only[eU,show("turn ":Str).length=5 by decide +kernel,show(" ":Str).length=1 by decide +kernel];lia
def U7(W:uJ fs an m d T a t n){k:Nat}(r:Rw):((a.map (·.2)).map cV).set k (cV r)=((mC k r a).map (·.2)).map cV:=by
 rw[U5 W.num,aJs,aJs]
end
set_option maxHeartbeats 4000000
open PySem L2 TL
def Ma:bL ["field"] ["field"] (aU (top 12)):=jU
def L0:bL ["form","thing","fields"] ["form","thing"] (aU (top 10)):=jU
def L1:bL ["form","thing"] ["form","thing"] (aU (top 11)):=jU
def Mu:bL ["tree"] ["tree"] (aU (top 40)):=jU
def Nb:bL ["one","other","on_yes","on_no"] ["one","other"] (aU (top 50)):=jU
def Iz:bL ["self"] ["self"] (aU (iU (top 49) 4)):=jU
def I3:bL ["self"] ["self"] (aU (iU (top 49) 5)):=jU
def Lw:bL ["self","number"] ["self","number"] (aU (iU (top 49) 7)):=jU
def Ja:bL ["self","thing"] ["self","thing"] (aU (iU (top 49) 6)):=jU
def Ly:bL ["self","stood"] ["self"] (aU (iU (top 49) 8)):=jU
def Ix:bL ["self","row","number"] ["self","row"] (aU (iU (top 49) 1)):=jU
def Iy:bL ["self","number","row","stood"] ["self","number","row"] (aU (iU (top 49) 3)):=jU
def Bt:bL ["self","form","deep","least"] ["self","form","deep","least"] (aU (iU (top 49) 0)):=jU
def Lz:bL ["thing","fewest","most"] ["thing","fewest","most"] (aU (top 8)):=jU
def NT:bL ["_law_script","_law_way"] ["_law_script"] (aU (top 87)):=jU
def Oa:bL ["_law_tape_here","_law_many","_law_script","_law_spot","_law_cell","_law_left","_law_mixed"] ["_law_tape_here","_law_many"] (aU (top 88)):=jU
def Ob:bL ["_law_tape_here","_law_many","_law_letters","_law_way","_law_some","_law_turn","_law_base","_law_size","_law_names_here","_law_at","_law_start"] ["_law_tape_here","_law_many"] (aU (top 89)):=jU
def Oc:bL ["_law_tape_here","_law_fields","_law_values","_law_many","_law_names_here","_law_some","_law_k","_law_size","_law_words"] ["_law_tape_here","_law_fields","_law_values"] (aU (top 90)):=jU
def Nz:bL ["question","field"] ["question","field"] (aU (top 30)):=jU
def Nw:bL ["form","question"] ["form","question"] (aU (top 28)):=jU
def Ny:bL ["question","stray","field"] ["question","stray","field"] (aU (top 29)):=jU
def Nv:bL ["form","question","stray","case","number"] ["form","question","stray","case"] (aU (top 27)):=jU
def Mp:bL ["side","sides"] ["side","sides"] (aU (top 32)):=jU
def Mo:bL ["form","question","stray","rows","sides"] ["form","question","stray","rows"] (aU (top 31)):=jU
def Mb:bL ["form","rows","told"] ["form","rows"] (aU (top 14)):=jU
def Mc:bL ["form","rows","counts"] ["form","rows"] (aU (top 15)):=jU
def Mf:bL ["one","other","rest"] ["one","other"] (aU (top 18)):=jU
def Me:bL ["top","bottom","shared"] ["top","bottom"] (aU (top 17)):=jU
def Md:bL ["form","rows","many"] ["form","rows"] (aU (top 16)):=jU
def Mr:bL ["rows","numbers"] ["rows","numbers"] (aU (top 36)):=jU
def Nt:bL ["field","name","values","told_by_is","told_by_upto"] ["field"] (aU (top 25)):=jU
def Nr:bL ["form","questions","field"] ["form"] (aU (top 24)):=jU
def Nu:bL ["form","choices","question"] ["form"] (aU (top 26)):=jU
def Mq:bL ["sides","fewest"] ["sides","fewest"] (aU (top 33)):=jU
def No:bL ["one","other"] ["one","other"] (aU (top 19)):=jU
def Nq:bL ["fractions","common","found"] ["fractions"] (aU (top 21)):=jU
def Et:bL ["form","rows","least","told","question","stray","sides","doubts","bottom"] ["form","rows","least"] (aU (top 35)):=jU
def Np:bL ["one","other"] ["one","other"] (aU (top 20)):=jU
def Ms:bL ["form","rows","least","told"] ["form","rows","least"] (aU (top 37)):=jU
def Mt:bL ["form","rows","deep","least","found","sides","parts"] ["form","rows","deep","least"] (aU (top 38)):=jU
def Ol:bL ["_law_tape_here","_law_form_here","_law_case","_law_name","_law_values","_law_value"] ["_law_tape_here","_law_form_here"] (aU (top 98)):=jU
def Of:bL ["_law_form_here","_law_knot","_law_case","_law_kind","_law_name","_law_value","_law_at","_law_values"] ["_law_form_here","_law_knot","_law_case"] (aU (top 93)):=jU
def Og:bL ["_law_form_here","_law_some","_law_name","_law_values"] ["_law_form_here"] (aU (top 94)):=jU
def Oh:bL ["_law_form_here","_law_rows"] ["_law_form_here","_law_rows"] (aU (top 95)):=jU
def Oi:bL ["_law_form_here","_law_rows","_law_counts_here"] ["_law_form_here","_law_rows"] (aU (top 96)):=jU
def Oj:bL ["_law_form_here","_law_rows","_law_deep","_law_few","_law_counts_here","_law_leaf","_law_chosen","_law_least_top","_law_least_bottom","_law_question","_law_stray","_law_knot","_law_yes","_law_no","_law_top","_law_bottom"] ["_law_form_here","_law_rows","_law_deep","_law_few"] (aU (top 97)):=jU
def Hj:bL ["self","form","deep","least"] ["self","form","deep","least"] (aU (iU (top 75) 0)):=jU
def Nd:bL ["form","rows"] ["form","rows"] (aU (top 54)):=jU
def Nf:bL ["form","knot","rows"] ["form","knot","rows"] (aU (top 55)):=jU
def Mv:bL ["knot","side"] ["knot","side"] (aU (top 41)):=jU
def Mx:bL ["form","tree","case","way","part","side"] ["form","tree","case"] (aU (top 43)):=jU
def My:bL ["form","tree","case"] ["form","tree","case"] (aU (top 44)):=jU
def Na:bL ["tree","place","part","side"] ["tree","place"] (aU (top 46)):=jU
def Mz:bL ["form","tree","case"] ["form","tree","case"] (aU (top 45)):=jU
def Mw:bL ["tree"] ["tree"] (aU (top 42)):=jU
def Nc:bL ["form","tree","rows","prices","slips"] ["form","tree","rows","prices"] (aU (top 52)):=jU
def Ng:bL ["price"] ["price"] (aU (top 56)):=jU
def Nh:bL ["form","tree","rows","price"] ["form","tree","rows","price"] (aU (top 57)):=jU
def Ni:bL ["form","tree","rows","prices","leaf","leaf_cost","sides","yes","no","cost"] ["form","tree","rows","prices"] (aU (top 58)):=jU
def Nl:bL ["form","tree","rows","sides","yes","no","slips","saved"] ["form","tree","rows"] (aU (top 61)):=jU
def Nk:bL ["form","tree","rows","prices","lowest","price"] ["form","tree","rows"] (aU (top 60)):=jU
def Nj:bL ["form","tree","rows","price","part","told"] ["form","tree","rows"] (aU (top 59)):=jU
def Nn:bL ["form"] ["form"] (aU (top 65)):=jU
def Od:bL ["_law_form_here"] ["_law_form_here"] (aU (top 91)):=jU
def Pb:bL ["lets","number","let"] ["lets","number","let"] (aU (top 67)):=jU
def Nm:bL ["form","tree","rules"] ["form","tree"] (aU (top 64)):=jU
def Oe:bL ["_law_form_here","_law_cases_here","_law_values","_law_longer","_law_case"] ["_law_form_here"] (aU (top 92)):=jU
def Pa:bL ["form","tree","lets","number","held","yes","no","rules","let","part"] ["form","tree","lets"] (aU (top 66)):=jU
def Oo:bL ["_law_form_here","_law_tree","_law_cases_here","_law_yes","_law_no"] ["_law_form_here","_law_tree","_law_cases_here"] (aU (top 101)):=jU
def Oq:bL ["_law_tree"] ["_law_tree"] (aU (top 103)):=jU
def Pg:bL ["entry"] ["entry"] (aU (top 80)):=jU
def Om:bL ["_law_value"] ["_law_value"] (aU (top 99)):=jU
def Pf:bL ["words"] ["words"] (aU (top 79)):=jU
def Pe:bL ["words"] ["words"] (aU (top 78)):=jU
def Pd:bL ["word"] ["word"] (aU (top 77)):=jU
def Pc:bL ["words"] ["words"] (aU (top 76)):=jU
def On:bL ["_law_row"] ["_law_row"] (aU (top 100)):=jU
def Pi:bL ["field","let"] ["field","let"] (aU (top 84)):=jU
def Pj:bL ["price","tree"] ["price","tree"] (aU (top 85)):=jU
def Ph:bL ["form","rule","narrow","lets"] ["form","rule"] (aU (top 83)):=jU
def Op:bL ["_law_form_here","_law_tree","_law_texts","_law_cases_here","_law_answer","_law_some","_law_at","_law_values","_law_there","_law_part"] ["_law_form_here","_law_tree"] (aU (top 102)):=jU
def Iv:bL ["self","words"] ["self","words"] (aU (iU (top 75) 2)):=jU
def Iw:bL ["self","word","tree","rows"] ["self","word"] (aU (iU (top 75) 3)):=jU
def Hk:bL ["self","text","words"] ["self","text"] (aU (iU (top 75) 1)):=jU
def Os:bL ["_law_desk","_law_form_here","_law_rows","_law_deep","_law_few","_law_tree","_law_texts","_law_price","_law_pruned"] ["_law_desk","_law_form_here","_law_rows","_law_deep","_law_few"] (aU (top 104)):=jU
def Vp:bL ["_law_script","_law_tape_here","_law_form_here","_law_deep","_law_few","_law_desk","_law_rows","_law_k","_law_at"] ["_law_script"] (aU (top 105)):=jU
section
variable{P:cK}{w:e6}{K:aI}{mg:Str->Option Value}{base:Heap}{ir iu iy iz ja jb jc jd je jf Y Z:Addr}{A B:Addr}{t_SIDES t_SINGLE_WORDS:Addr}{M I O G X:Tok}(T:Txt K mg ir iu iy iz ja jb jc jd je jf Y Z A B t_SIDES t_SINGLE_WORDS M I O G X)
include T
def WV:Ft P w base T.D_15 1 Oy:=by
 refine nA T.D_15.F Ma λc nd a Q h=>?_;obtain⟨f,rfl,b,h⟩:=h;refine⟨_,(bH (cG (cE bM eA (bJ aW cH (aF 0) aP) (dZ (aB oB aH))))),?_⟩;show BE _ _ [.val (iN f)];refine⟨_,kA,_,kA,aC kA,?_,h⟩;rw[aA];simp only[bN,aDt];lia
def Ed:Ft P w base T.D_12 1 Ov:=by
 refine nA T.D_12.F Lz λi nd g Q h=>?_;obtain⟨d,lo,b,rfl,c,h⟩:=h;refine⟨_,(bH (cG (EE (Ta (SX _) (aF 0) (λh=>DF ZA kA T.b_isinstance FN (lE h (lE (Xm kA T.b_tuple kX kA) qC)))) (AA (YY LK LK pG pG (aF 1) (cB iS (aB (aF 0) aH) cO T.b_len fX) (aF 2)))))),?_⟩;show BE _ _ [.val d,.val (.int lo),.val (.int b)];refine⟨_,kA,?_⟩
 cases d with
 |tuple a=>
  show(if true=true then _ else Q (.bool false));rw[a9 rfl];refine⟨_,kA,_,kA,?_⟩;show(if decide (lo<=(a.length:Int))=true then _ else Q (.bool false));have e:vZ (.tuple a) lo b=(decide (lo<=(a.length:Int))&&decide ((a.length:Int)<=b)):=rfl;rw[e]at h
  cases f:decide (lo<=(a.length:Int))with
  |true=>
   rw[f]at h;rw[a9 rfl];exact⟨_,kA,h⟩
  |false=>
   rw[f]at h;rw[a8 gV];exact h
 |dict kvs=>cases c
 |_=>exact h
def Lk:Ft P w base T.D_13 2 Ow:=by
 refine nA T.D_13.F L0 λl nd C Q h=>?_;obtain⟨fs,an,d,rfl,F,hd,h⟩:=h;refine⟨_,(aS (ss 2 nd (bJ aW cH (aF 0) aP))
 (aS (gU (wL (tv (cd (Ed T) l (aB (aF 1) (aB (cB iS (aB (aF 2) aH) cO T.b_len fX) (aB (cB iS (aB (aF 2) aH) cO T.b_len fX) aH))))))
 (bH (cG EB))
 fE)
 (bH (cG (cB Ce (aB (el (fr:=[none,none]) (N':=["field","value"]) (Um (aB (aF 2) (aB (aF 1) aH)) (λh=>Ui kA T.b_zip h)) (λb=>⟨(lV (mW kA (eF (pk 0) (eF (pk 1) kQ)))),fR,(oC (DH l) LO (aF 1) (cd (WV T) l (aB (aF 0) aH)))⟩)) aH) (yT kA) T.b_all ZG))))),?_⟩
 show gL _ _ _ [.val (dY fs an),.val d,.un];have n:(fs.map iN).length=fs.length:=aA ..
 have c:vZ d ((fs.map iN).length:Int) ((fs.map iN).length:Int)=false->gH fs d=false:=λe=>by
  cases d with
  |tuple ts=>
   have:¬ts.length=fs.length:=λz=>by
    simp only[vZ,n,z,lA,x9,aJg]at e;cases e
   simp only[gH,b7 this,aF6]
  |_=>rfl
 refine bX (.tuple (fs.map iN)) (λq i=>⟨_,kA,_,kA,i⟩) ?_;refine eZ (λb=>b=!vZ d ((fs.map iN).length:Int) ((fs.map iN).length:Int)) (λq i=>⟨_,kA,_,kA,_,kA,d,_,_,kA,mX hd.1,i _ kA⟩) (λj=>?_) λs=>?_
 ·have:=c (by simpa using j.symm);rw[this]at h;exact h
 ·try unfold iI
  dsimp only;have j:vZ d ((fs.map iN).length:Int) ((fs.map iN).length:Int)=true:=by simpa using s.symm
  cases d with
  |tuple ts=>
   have g:ts.length=fs.length:=by
    simp only[vZ,n,cS,c6]at j;lia
   show kG (f1 Bc) _ _ Q;dsimp only[kG,pA,vS];have n5:=F.n5;refine CA (ts:=sV (fs.map iN) ts) (λR h=>⟨_,kA,_,kA,_,_,kA,h⟩) (λx=>.bool (yu x)) (by rw[oJ];lia) (λx u=>?_) (λa b q t i=>?_) ?_
   ·obtain⟨k,hk⟩:=cT u;obtain⟨a,b,_,_,rfl⟩:=KS hk;exact⟨a,b,kA⟩
   ·obtain⟨k,hk⟩:=cT t;obtain⟨v,y,o,r,e⟩:=KS hk;cases e;obtain⟨f,m,rfl⟩:=aQ.mp (aV o);exact⟨_,kA,_,kA,f,kA,(F.vs f m).2.1,yI (DJ (F.vals m) (hd.item (aV r))) i⟩
   ·refine⟨(sV (fs.map iN) ts).map yu,by rw[aX];rfl,?_⟩;rw[Xi]
    have e:gH fs (.tuple ts)=(fs.zip ts).all λp=>KJ p.1 p.2:=by
     simp only[gH,b0 g,lJ]
    rw[e]at h;exact h
  |_=>exact b9 j (by simp[vZ])
def Ee:Ft P w base T.D_14 3 Ox:=by
 refine nA T.D_14.F L1 λi nd m Q h=>?_;obtain⟨fs,an,d,rfl,F,hd,h⟩:=h;refine⟨_,(aS (gU (wL (tv (cd (Ed T) i (aB (aF 1) (aB aP (aB aP aH))))))
 (bH (cG EB))
 fE)
 (bH (cG (EE (cd (Lk T) i (aB (aF 0) (aB (bJ aW cH (aF 1) aP) aH))) (AA (oC (DH i) LO (bJ aW cH (aF 1) aP) (bJ aW cH (aF 0) aP))))))),?_⟩
 show gL _ _ _ [.val (dY fs an),.val d];rcases Vi d with⟨c,a,rfl⟩ | ⟨e,f⟩
 ·refine eZ (λb=>b=false) (λq g=>⟨_,kA,_,_,_,kA,mX hd.1,g _ kA⟩) (λl=>by cases l) λ_=>?_
  try unfold iI
  dsimp only;refine⟨_,kA,_,kA,_,kA,fs,an,c,kA,F,hd.item hH,?_⟩;show(if gH fs c=true then _ else _);have e:GV fs an (.tuple [c,a])=(gH fs c&&wA an a):=rfl;rw[e]at h
  cases j:gH fs c with
  |true=>
   rw[a9 rfl];rw[j]at h;refine⟨_,kA,_,kA,_,kA,_,kA,yI (IH F.an.2.1 (hd.item hH)) ?_⟩;show Q (.bool ((an.map aL).any λz=>cM z a));rw[yU];exact h
  |false=>
   rw[a8 gV];rw[j]at h;exact h
 ·refine eZ (λb=>b=true) (λq g=>⟨_,kA,d,_,_,kA,mX hd.1,g _ (by rw[e];rfl)⟩) (λ_=>?_) λk=>by cases k
  have:GV fs an d=false:=by
   unfold Cv at f;unfold GV;split at f
   ·cases f
   ·rfl
  rw[this]at h;exact h
def xY:Ft P w base T.D_38 1 Pt:=by
 refine nA T.D_38.F Mu λc nd b Q h=>?_;obtain⟨t,rfl,h⟩:=h;refine⟨_,(bH (cG (oC iL lO (bJ aW cH (aF 0) aP) cN))),?_⟩
 cases t with
 |say a=>exact⟨_,kA,_,kA,h⟩
 |ask k n v s y m=>exact⟨_,kA,_,kA,h⟩
def Yq(N:Nat)
  (d:Ft P w base T.D_45 (2+N) (tJ N)):Fj P w base T.D_45 (2+N+1) (jO K (tJ (N+1))):=by
 refine nA T.D_45.F Nb λo nd ds Q h=>?_;obtain⟨fs,an,t,u,rfl,F,j,l,jy,sq,sw,h⟩:=h;refine⟨_,(aS (gU (xN (CS (tv (cd (hk:=by lia) (xY T) o (aB (aF 0) aH))) (CS (tv (cd (hk:=by lia) (xY T) o (aB (aF 1) aH))) (zJ (dE (NW o) qE (fP jA pC (aF 0) iK (gC aP)) (fP jA pC (aF 1) iK (gC aP)))))))
 (bH (cG (uC (dE (DI o) qE (aF 0) (aF 1)) (mJ aH) (mJ (aB (dZ aH) aH)))))
 fE)
 (aS (kD (i:=2) (fr:=[none]) (N':=["place"]) (dP (cd (hk:=by lia) d o (aB (bJ aW cH (aF 0) aP) (aB (bJ aW cH (aF 1) aP) aH)))) (λb=>⟨(dF (pk 0)),fR,(cE bM eA (dZ (aB cN aH)) (aF 0))⟩) (λhi W=>iP (show mZ _ (aU (top 50)) ["one","other","on_yes","on_no"] ["place"] [none]=true from by decide +kernel) nd kA (by first | exact h9 kA | exact g6 kA) kA hi W kA))
 (aS (kD (i:=3) (fr:=[none]) (N':=["place"]) (dP (cd (hk:=by lia) d o (aB (bJ aW cH (aF 0) aP) (aB (bJ aW cH (aF 1) aP) aH)))) (λb=>⟨(dF (pk 0)),fR,(cE bM eA (dZ (aB cN aH)) (aF 0))⟩) (λhi W=>iP (show mZ _ (aU (top 50)) ["one","other","on_yes","on_no"] ["place"] [none]=true from by decide +kernel) nd kA (by first | exact h9 kA | exact g6 kA) kA hi W kA))
 (bH (cG (cE bM eA (aF 2) (aF 3))))))),?_⟩
 show gL _ _ _ [.val (gE t),.val (gE u),.un,.un];refine eZ (λb=>b=!QK t u) (λq c=>?_) (λhT=>?_) λU=>?_
 ·refine⟨_,kA,t,kA,?_⟩;show(if QF t=true then q true else _)
  cases t with
  |say a=>exact(a9 kA).mpr (c _ kA)
  |ask k n v s y m=>
   refine(a8 (λz=>by cases z)).mpr ?_;refine⟨_,kA,u,kA,?_⟩;show(if QF u=true then q true else _)
   cases u with
   |say b=>exact(a9 kA).mpr (c _ kA)
   |ask E H L J g f=>
    refine(a8 (λz=>by cases z)).mpr ?_;refine⟨_,kA,_,kA,P2 (Q1 F j) (Q1 F l),?_⟩;show q (!cM (.tuple [.str "ask",.tuple [.str k,.str n,.str v],.str s]) (.tuple [.str "ask",.tuple [.str E,.str H,.str L],.str J]));rw[YZ];exact c _ kA
 ·have hh:QK t u=false:=by
   cases C:QK t u with
   |false=>rfl
   |true=>rw[C]at hT;cases hT
  obtain⟨c1,c2⟩:=Sv hh;refine⟨_,kA,_,kA,P2 (Ci F j hG) (Ci F l hG),?_⟩;show(if cM (gE t) (gE u)=true then _ else _);by_cases e:t=u
  ·rw[a9 ((JL t u).mpr e)];rw[c1 e]at h;exact⟨hI,h⟩
  ·rw[a8 (λz=>e ((JL t u).mp z))];rw[c2 e]at h;exact⟨hI,hI,h⟩
 ·unfold iI;dsimp only
  cases t with
  |say a=>cases U
  |ask k n v s y m=>
   cases u with
   |say b=>cases U
   |ask E H L J g f=>
    have r:false=!decide (k=E/\n=H/\v=L/\s=J):=U
    have hh:k=E/\n=H/\v=L/\s=J:=by
     by_cases e:k=E/\n=H/\v=L/\s=J
     ·exact e
     ·rw[b7 e]at r;cases r
    obtain⟨rfl,rfl,rfl,rfl⟩:=hh;obtain⟨_,_,hy,hm⟩:=j;obtain⟨_,_,gq,qu⟩:=l;have e1:(Tr.ask k n v s y m).dep=max y.dep m.dep+1:=rfl;have uo:(Tr.ask k n v s g f).dep=max g.dep f.dep+1:=rfl;rw[Wv,bT]at h;have l1:=CI y g;have l2:=CI m f;have n1:=LQ (t:=y) hG;have n2:=LQ (t:=m) hG;have one:∀(w:Str)(p:List Str)(q:D->Prop),p.length<=12->q (wP (w::p))->xu (.tuple [.str w]) (wP p) q:=λw p q S c=>⟨by rw[aA];show 1+_<=_;lia,c⟩;refine bX (.list (((KM y g).map xg).map wP)) (λq c=>?_) ?_
    ·refine gD (ts:=(KM y g).map wP) (λR h=>⟨_,kA,_,kA,_,kA,_,kA,fs,an,y,g,kA,F,hy,gq,hG,hG,hG,_,kA,h⟩) (λx=>match x with | .tuple ts=>.tuple (.str "yes"::ts) | _=>x) (by rw[aA];lia) (λx q C c=>?_) ?_
     ·obtain⟨p,S,rfl⟩:=aQ.mp C;have:=CJ y g p S;exact⟨hI,_,kA,one "yes" p q hG c⟩
     ·rw[aX];rw[aX]at c;exact c
    refine bX (.list (((KM m f).map xh).map wP)) (λq c=>?_) ?_
    ·refine gD (ts:=(KM m f).map wP) (λR h=>⟨_,kA,_,kA,_,kA,_,kA,fs,an,m,f,kA,F,hm,qu,hG,hG,hG,_,kA,h⟩) (λx=>match x with | .tuple ts=>.tuple (.str "no"::ts) | _=>x) (by rw[aA];lia) (λx q C c=>?_) ?_
     ·obtain⟨p,S,rfl⟩:=aQ.mp C;have:=CJ m f p S;exact⟨hI,_,kA,one "no" p q hG c⟩
     ·rw[aX];rw[aX]at c;exact c
    exact⟨_,kA,_,kA,by simp only[aA];lia,h⟩
def De:Ft P w base T.D_45 15 Qa:=by
 have h:∀a:Nat,Ft P w base T.D_45 (2+a) (tJ a):=λa=>by
  induction a with
  |zero=>exact uA oO λc Q h=>XD h
  |succ a b=>exact Yq T a b
 exact h 13
def He:Fm P w K mg base pK 1 jd ["self"] (iQ K (Hz A)):=by
 refine YL (F:=oF A) T.D_7.F Iz λe nd b n d Q h=>?_;obtain⟨a,f,c,rfl,hk,h⟩:=h;refine⟨_,(gT (lL (YT T.C_Book T.n_Book_numbered (aF 0) (pc:=λh=>uU (AE kA) kA T.b_list JT (lE (WK HE HD PySem.F.type_dict_items SN h) qC))))),?_⟩;obtain rfl:b=a:=kU c;refine⟨_,kA,kA,?_⟩;rw[hk];unfold zC;rw[aX];exact h
def Hf:Fm P w K mg base pK 1 je ["self"] (iQ K (H0 A)):=by
 refine YL (F:=oF A) T.D_8.F I3 λe nd a n d Q h=>?_;obtain⟨b,c,rfl,h⟩:=h;refine⟨_,(gT (lL (uB T.C_Book T.n_Book_standing (aF 0)))),?_⟩;obtain rfl:a=b:=kU c;exact⟨_,kA,kA,a,_,kA,kA,h⟩
def Lj:Fm P w K mg base pK 2 Y ["self","number"] (iQ K (Ot A)):=by
 refine YL (F:=oF A) T.D_10.F Lw λe nd b n g Q h=>?_;obtain⟨a,j,d,f,rfl,c,h⟩:=h;refine⟨_,(gT (oZ (Vj e.u1 T.C_Book T.n_Book_numbered (aF 1) (aF 0))
 (gT (vO vY))
 mV)),?_⟩
 obtain rfl:b=a:=kU f;refine⟨_,kA,j,kA,_,kA,kA,?_⟩;rw[c];exact h
def Bq:Fm P w K mg base pK 4 jf ["self","thing"] (iQ K (Ia A)):=by
 refine YL (F:=oF A) T.D_9.F Ja λb nd a n g Q h=>?_;obtain⟨fs,an,c,d,f,rfl,F,e,hd,hw,h⟩:=h;refine⟨_,(gT (oZ (U3 (U2 (D9 (Ee T) T.D_14.m T.D_14.k T.D_14.d (b.mono gV) (lY (uB T.C_Book T.n_Book_form (aF 0)) (lY (rZ (aF 1)) AH)) (λh=>pT (Ee T) (b.mono gV) kA T.D_14.m T.D_14.k T.D_14.d .nil kW h)) (λh=>NO h)))
 (gT (vO vY))
 mV)),?_⟩
 obtain rfl:a=c:=kU f;refine⟨_,kA,kA,a,_,kA,kA,_,kA,fs,an,d,by rw[e],F,hd,?_⟩;rw[hw];exact h
def Ef:Fj P w base T.D_16 1 (iE K Oz):=by
 refine rA T.D_16.F Mb λf nd p Q h=>?_;obtain⟨fs,an,c,rfl,F,hok,l,h⟩:=h;refine⟨_,(aS (ss 2 nd (el (fr:=[none]) (N':=["row"]) (dP (aF 1)) (λb=>⟨(dF (pk 0)),fR,(bJ aW cH (aF 0) aP)⟩)))
 (bH (uQ (fl (fr:=[none,some 2]) (N':=["answer","told"]) (dP (bJ aW cH (aF 0) aP)) (λb=>⟨(dF (pk 0)),fR,(TD (aF 1) (aB (aF 0) aH) (λh g=>iJ cA PySem.F.slot_list_count PySem.F.type_list_count (SM f) h g))⟩))))),?_⟩
 show gL _ _ _ [.val (dY fs an),.val (.list (c.map cV)),.un];have a4:=F.a4;refine bX (.list (c.map λr=>aL r.2)) (λq d=>?_) ?_
 ·refine gD (ts:=c.map cV) (λR h=>⟨_,kA,_,kA,h⟩) RU (by rw[aA];lia) (λx q i d=>?_) ?_
  ·obtain⟨r,f,rfl⟩:=aQ.mp i;exact⟨_,kA,_,kA,d⟩
  ·rw[aX];exact d
 have k:=XV (ys:=c.map λr=>r.2) λy o=>by
  obtain⟨r,f,rfl⟩:=aQ.mp o;exact F.an.2.1 _ (hok r f).2
 rw[aX]at k;refine YQ (gD (ts:=an.map aL) (λR h=>⟨_,kA,_,kA,_,kA,h⟩) (xz c) (by rw[aA];lia) (λx q i d=>?_) ?_)
 ·obtain⟨a,g,rfl⟩:=aQ.mp i;have j:=jR (F.an.2.1 a g) (n:=8) (m:=0) (aN _);refine⟨_,kA,_,kA,_,kA,_,kA,⟨k.1,j.lay,by have:=j.depth;lia⟩,?_⟩;rw[NF];exact d
 ·show Q _
  have e:(an.map aL).map (xz c)=(iO an c).map bO:=by
   unfold iO;rw[aX,aX];rfl
  rw[e];exact h
def Ei:Ft P w base T.D_20 1 Qk:=by
 refine nA T.D_20.F Mf λo nd n Q h=>?_;obtain⟨a,b,rfl,h⟩:=h;refine⟨_,(aS (CZ (dE AU pG (aF 1) aP)
 (aS (ss 2 nd (cE oT KL (aF 0) (aF 1)))
 (aS (ss 0 nd (aF 1))
 (bH (ss 1 nd (aF 2))))) (λk j=>C8 o8 k j))
 (bH (cG (aF 0)))),?_⟩
 show gL _ _ _ [.val (.int a),.val (.int b),.un];refine zM (λy l=>∃(x:Nat)(g:Sl),l=[.val (.int x),.val (.int y),g]/\x.gcd y=a.gcd b) b ⟨a,_,kA,kA⟩ λy m i=>?_;obtain⟨x,g,rfl,d⟩:=i;refine⟨decide (0<y),λq c=>⟨_,kA,?_⟩,?_⟩
 ·show q (decide ((y:Int)>0));have:decide ((y:Int)>0)=decide (0<y):=by rw[i4];lia
  rw[this];exact c
 by_cases e:0<y
 ·rw[a9 (b0 e)];refine bX (.int ((x%y:Nat):Int)) (λq c=>⟨_,kA,_,kA,(show(0:Int)<(y:Int) by lia),?_⟩) ?_
  ·rw[<- Int.natCast_emod];exact c
  refine bX (.int y) (λq c=>⟨_,kA,c⟩) ?_;refine rS (.int ((x%y:Nat):Int)) (λq c=>⟨_,kA,c⟩) ⟨x%y,AL _ e,y,_,kA,?_⟩;rw[<- d,aRm x y,Nat.gcd_rec y x,aRm]
 ·rw[a8 (by simpa using e)];have f:y=0:=by lia
  subst f;rw[Nat.gcd_zero_right]at d;subst d;exact⟨_,kA,h⟩
def WU:Ft P w base T.D_19 2 Eu:=by
 refine nA T.D_19.F Me λk nd l Q h=>?_;obtain⟨a,b,rfl,e,g,c,h⟩:=h;refine⟨_,(aS (ss 2 nd (cd (Ei T) k (aB (aF 0) (aB (aF 1) aH))))
 (bH (cG (dZ (aB (cE LL KL (aF 0) (aF 2)) (aB (cE LL KL (aF 1) (aF 2)) aH)))))),?_⟩
 show gL _ _ _ [.val (.int a),.val (.int b),.un];refine bX (.int ((a.gcd b:Nat):Int)) (λq j=>⟨_,kA,_,kA,a,b,kA,j⟩) ?_;have i:0<a.gcd b:=nE _ e;have d:a.gcd b<=b:=aDq _ e
 have hd:(0:Int)<((a.gcd b:Nat):Int)/\((a.gcd b:Nat):Int)<2^200:=⟨hG,by
  have:(a.gcd b)<2^190:=qK d c;have f:(2^190:Nat)<=2^200:=eS gV gV
  exact_mod_cast cU this f⟩
 refine⟨_,kA,_,kA,hd,_,kA,_,kA,hd,aC kA,?_⟩;show Q (.tuple [.int ((a:Int) / ((a.gcd b:Nat):Int)),.int ((b:Int) / ((a.gcd b:Nat):Int))]);rw[<- sT,<- sT];exact h
def Eh:Ft P w base T.D_18 3 Qj:=by
 refine nA T.D_18.F Md λl nd E Q h=>?_;obtain⟨fs,an,d,rfl,F,hok,f,h⟩:=h;refine⟨_,(aS (ss 2 nd (cB iS (aB (aF 1) aH) cO T.b_len fX))
 (aS (gU (dE iL lO (aF 2) aP)
 (bH (cG (dZ (aB aP (aB aP aH)))))
 fE)
 (bH (cG (cd (WU T) l (aB (cB Cg (aB (el (fr:=[none,some 2]) (N':=["count","many"]) (dP (wB (cF (Ef T) l (aB (aF 0) (aB (aF 1) aH))))) (λb=>⟨(dF (pk 0)),fR,(cE fJ mM (aF 0) (cE rR II (aF 1) (aF 0)))⟩)) aH) (wD kA) T.b_sum ZD) (aB (aF 2) aH))))))),?_⟩
 show gL _ _ _ [.val (dY fs an),.val (.list (d.map cV)),.un];have a4:=F.a4;refine bX (.int (d.length:Int)) (λq k=>⟨_,kA,?_⟩) ?_
 ·show q (.int ((d.map cV).length:Int));rw[aA];exact k
 refine eZ (λb=>b=decide ((d.length:Int)=0)) (λq k=>⟨_,kA,k _ kA⟩) (λt=>?_) λs=>?_
 ·have o:d.length=0:=by have:=b8 t.symm;lia
  have:d=[]:=kN.mp o;subst this
  have m:XQ (BF [] []) (max 1 ([]:List Rw).length)=.tuple [.int 0,.int 1]:=by
   show XQ 0 1=_;unfold XQ;rw[Nat.gcd_zero_left];rfl
  rw[m]at h;exact⟨aC kA,h⟩
 ·try unfold iI
  dsimp only;have o:¬d.length=0:=λz=>by have:=d9 s.symm;lia
  have p:max 1 d.length=d.length:=by lia
  rw[p]at h;have y:=NP d d;have v:d.length*d.length<=60*60:=iV f f;have i:(iO an d).length=an.length:=by unfold iO;rw[aA]
  have j:∀c∈iO an d,0<=c/\c<=(d.length:Int):=λc g=>by
   unfold iO at g;obtain⟨a,_,rfl⟩:=aQ.mp g;have:=Y6 d a;lia
  show kG Eu _ _ Q;dsimp only[kG,pA,vS];refine gD (ts:=(iO an d).map bO) (λR h=>⟨_,kA,_,kA,fs,an,d,kA,F,hok,f,_,kA,h⟩) (Dv d.length) (by rw[aA,i];lia) (λx q C k=>?_) ?_
  ·obtain⟨c,g,rfl⟩:=aQ.mp C;have:=j c g;exact⟨_,kA,_,kA,_,kA,.inl ⟨hG,hG⟩,k⟩
  ·have e:((iO an d).map bO).map (Dv d.length)=((iO an d).map λc=>c*((d.length:Int)-c)).map bO:=by
    rw[aX,aX];rfl
   rw[e];refine⟨_,kA,λn u=>?_,by rw[aA,i];lia,?_⟩
   ·obtain⟨c,g,rfl⟩:=aQ.mp u;have:=j c g;have H:0<=c*((d.length:Int)-c):=xG hG hG;have J:c*((d.length:Int)-c)<=60*60:=aJf hG hG hG gV;lia
   ·rw[PR F.an.2.2 λr l=>(hok r l).2];exact⟨_,kA,_,_,kA,hG,qK (show BF d d<=3600 by lia) gV,qK (show d.length<=60 from f) gV,h⟩
def Ej:Ft P w base T.D_22 1 Qm:=by
 refine nA T.D_22.F Np λb nd a Q h=>?_;obtain⟨x,y,rfl,c,d,h⟩:=h;refine⟨_,(bH (cG (oC PZ pG (cE fJ mM (bJ aW cH (aF 0) aP) (bJ aW cH (aF 1) aP)) (cE fJ mM (bJ aW cH (aF 1) aP) (bJ aW cH (aF 0) aP))))),?_⟩;show BE _ _ [.val (FB x),.val (FB y)];refine⟨_,kA,_,kA,_,kA,_,kA,.inl ⟨hG,hG⟩,_,kA,_,kA,_,kA,_,kA,.inl ⟨hG,hG⟩,?_⟩;show Q (.bool (decide ((x.1:Int)*(y.2:Int)<(y.1:Int)*(x.2:Int))))
 have e:decide ((x.1:Int)*(y.2:Int)<(y.1:Int)*(x.2:Int))=decide (x.1*y.2<y.1*x.2):=by
  rw[i4,<- dA,<- dA];lia
 rw[e];exact h
def Ll:Ft P w base T.D_21 3 Ql:=by
 refine nA T.D_21.F No λd nd f Q h=>?_;obtain⟨x,y,rfl,a,b,h⟩:=h;refine⟨_,(bH (cG (cd (WU T) d (aB (cE bM eA (cE fJ mM (bJ aW cH (aF 0) aP) (bJ aW cH (aF 1) aP)) (cE fJ mM (bJ aW cH (aF 1) aP) (bJ aW cH (aF 0) aP))) (aB (cE fJ mM (bJ aW cH (aF 0) aP) (bJ aW cH (aF 1) aP)) aH))))),?_⟩;show BE _ _ [.val (FB x),.val (FB y)];have j:=a.top;have k:=a.bot;have l:=b.top;have m:=b.bot;obtain⟨g,i,c⟩:=O8 a b;have big:(1000000000000:Nat)<2^190:=by decide +kernel
 have e:[bO ((x.1:Int)*(y.2:Int)+(y.1:Int)*(x.2:Int)),.int ((x.2:Int)*(y.2:Int))]=[.int ((x.1*y.2+y.1*x.2:Nat):Int),.int ((x.2*y.2:Nat):Int)]:=by
  rw[gS,dA,dA,dA]
 refine⟨_,kA,_,kA,_,kA,_,kA,.inl ⟨hG,hG⟩,_,kA,_,kA,_,kA,_,kA,.inl ⟨hG,hG⟩,_,kA,_,kA,_,kA,_,kA,.inl ⟨hG,hG⟩,_,_,e,c,hG,hG,h⟩
def Kf:Fj P w base T.D_25 1 (iE K Qq):=by
 refine rA T.D_25.F Nt λj nd g Q h=>?_;obtain⟨f,rfl,c,i,h⟩:=h;refine⟨_,(aS (ss 1 nd (bJ aW cH (aF 0) aP))
 (aS (ss 2 nd (bJ aW cH (aF 0) aP))
 (aS (ss 3 nd (uC (dE iL lO (cB iS (aB (aF 2) aH) cO T.b_len fX) aP) (fP jA pC (aF 2) iK (gC aP)) (aF 2)))
 (aS (ss 4 nd (fP jA pC (aF 2) (gC aP) (gC (JI aP))))
 (bH (uQ (Ti (el (fr:=[none,some 1]) (N':=["value","name"]) (dP (aF 3)) (λb=>⟨(dF (pk 0)),fR,(dZ (aB cN (aB (aF 1) (aB (aF 0) aH))))⟩)) (el (fr:=[none,some 1]) (N':=["value","name"]) (dP (aF 4)) (λb=>⟨(dF (pk 0)),fR,(dZ (aB cN (aB (aF 1) (aB (aF 0) aH))))⟩))))))))),?_⟩
 show gL _ _ _ [.val (iN f),.un,.un,.un,.un];refine bX (.str f.1) (λq a=>⟨_,kA,_,kA,a⟩) ?_;refine bX (.tuple (f.2.map aL)) (λq a=>⟨_,kA,_,kA,a⟩) ?_;refine bX (.tuple ((C7 f).map aL)) (λq a=>⟨_,kA,?_⟩) ?_
 ·show(if decide (((f.2.map aL).length:Int)=2)=true then _ else _);unfold C7 at a;rw[aA];by_cases e:f.2.length=2
  ·rw[a9 (b0 hG)];rw[a9 e]at a;refine⟨_,kA,?_⟩;show q (.tuple (iH (f.2.map aL) none (some 1)));rw[kB,Wx _ c];exact a
  ·rw[a8 (by simpa using(by lia:¬(f.2.length:Int)=2))];rw[a8 e]at a;exact⟨_,kA,a⟩
 refine bX (.tuple ((vP f).map aL)) (λq a=>⟨_,kA,?_⟩) ?_
 ·show q (.tuple (iH (f.2.map aL) (some 1) (some (-2))));rw[kB,Ww _ c];exact a
 have l:(C7 f).length<=5:=by
  unfold C7;split
  ·rw[bD];lia
  ·lia
 have k:(vP f).length<=5:=by
  unfold vP;rw[bD,eP];lia
 dsimp only[Er,Cn];refine gD (ts:=(C7 f).map aL) (λR h=>⟨_,kA,_,kA,h⟩) (λx=>.tuple [.str "is",.str f.1,x]) (by rw[aA];lia) (λx q d a=>⟨_,kA,_,kA,aC kA,a⟩) ?_;refine gD (ts:=(vP f).map aL) (λR h=>⟨_,kA,_,kA,h⟩) (λx=>.tuple [.str "upto",.str f.1,x]) (by rw[aA];lia) (λx q d a=>⟨_,kA,_,kA,aC kA,a⟩) ?_;refine⟨_,_,kA,kA,by simp only[aA];lia,?_⟩;rw[aX,aX];exact h
def Ln:Fj P w base T.D_24 2 (iE K Qp):=by
 refine rA T.D_24.F Nr λs nd z Q h=>?_;obtain⟨fs,an,rfl,F,h⟩:=h;refine⟨_,(aS (so 1 nd aH)
 (aS (sf (dP (bJ aW cH (aF 0) aP)) (dF (pn 2 nd))
 (bH (B0 (i:=1) (pv 1) (wB (cF (Kf T) s (aB (aF 2) aH))) (pb:=λh=>jM (iJ cA mQ mP B7 (pv 1) h)))))
 (bH (qN (pv 1))))),?_⟩
 show gL _ _ _ [.val (dY fs an),.un,.un];have n5:=F.n5;refine lC [] gV (λq c=>c) ?_
 refine jZ (ts:=fs.map iN) (λR h=>⟨_,kA,_,kA,_,kA,h⟩)
  (λk y=>∃d:Sl,y=[.val (dY fs an),.own (gG (fs.take k)),d]) ⟨_,kA⟩ (λk x j l b=>?_) λj b=>?_
 ·obtain⟨d,rfl⟩:=b;rw[aM]at l;obtain⟨f,a,rfl⟩:=bZ.mp l;have n:f∈fs:=aV a;obtain⟨u,v,t⟩:=F.vs f n;have m:=mY F (fs.take k) λg o=>dU o;have p:(fs.take k).length<=5:=by rw[bD];lia
  have r:(KI f).length<=10:=by
   unfold KI C7 vP;rw[aZ,aA,aA,bD,eP];split
   ·rw[bD];lia
   ·lia
  refine tR (ts:=gG (fs.take k)) (us:=KI f) kA hG (λq c=>⟨_,kA,f,kA,u,v,c⟩) ⟨.val (iN f),?_⟩
  have e:gG (fs.take (k+1))=gG (fs.take k)++KI f:=by
   unfold gG;rw[cI,a,bT,UE];show _++[KI f].flatten=_;rw[M3]
  rw[e];rfl
 ·obtain⟨d,rfl⟩:=b;rw[aA,dB];exact⟨_,kA,h⟩
def Kg:Ft P w base T.D_26 3 Qr:=by
 refine nA T.D_26.F Nu λe nd z Q h=>?_;obtain⟨fs,an,rfl,F,h⟩:=h;refine⟨_,(aS (so 1 nd aH)
 (aS (sf (dP (wB (cF (Ln T) e (aB (aF 0) aH)))) (dF (pn 2 nd))
 (bH (B0 (i:=1) (pv 1) (el (fr:=[none,some 2]) (N':=["stray","question"]) (dP (CG kA T.c_SIDES T.t_SIDES)) (λb=>⟨(dF (pk 0)),fR,(dZ (aB (aF 1) (aB (aF 0) aH)))⟩)) (pb:=λh=>jM (iJ cA mQ mP B7 (pv 1) h)))))
 (oM 1 (bH (cG (aF 1)))))),?_⟩
 show gL _ _ _ [.val (dY fs an),.un,.un];have n5:=F.n5;have o:=mY F fs λg p=>p;have u:(qs fs).length=(gG fs).length:=by rw[<- B2,aA]
 refine lC [] gV (λq t=>t) ?_
 refine jZ (ts:=(qs fs).map qD) (λR h=>⟨_,kA,fs,an,kA,F,_,kA,by rw[<- B2];exact h⟩)
  (λk y=>∃m:Sl,y=[.val (dY fs an),.own ((((qs fs).take k).flatMap pQ).map wp),m]) ⟨_,kA⟩ (λk x n j c=>?_) λn c=>?_
 ·obtain⟨m,rfl⟩:=c;rw[aM]at j;obtain⟨q,d,rfl⟩:=bZ.mp j
  have a:((((qs fs).take k).flatMap pQ).map wp).length=2*((qs fs).take k).length:=by
   rw[aA]
   generalize (qs fs).take k=l
   induction l with
   |nil=>rfl
   |cons x l v=>rw[fU,aZ,v,bN];show 2+_=_;lia
  have s:((qs fs).take k).length<=50:=by rw[bD];lia
  refine tR (us:=[wp (q,"yes"),wp (q,"no")]) kA (by rw[a];show _+2<=_;lia) (λr e=>?_) ⟨.val (qD q),?_⟩
  ·refine gD (ts:=[.str "yes",.str "no"]) (λR h=>⟨_,kA,h⟩) (λx=>.tuple [qD q,x]) gV (λx C j f=>⟨_,kA,_,kA,hI,f⟩) e
  ·rw[cI,d];show _=[_,Sl.own (((((qs fs).take k)++[q]).flatMap pQ).map wp),_];rw[xJ,bT];rfl
 ·obtain⟨m,rfl⟩:=c;rw[aA,dB];exact⟨_,kA,_,kA,h⟩
def Lm:Ft P w base T.D_23 2 Qo:=by
 refine nA T.D_23.F Nq λo nd r Q h=>?_;obtain⟨l,rfl,n,h⟩:=h;refine⟨_,(aS (ss 1 nd aP)
 (aS (sf (dP (aF 0)) (dF (pn 2 nd))
 (bH (ss 1 nd (cE xX KL (cE fJ mM (aF 1) (bJ aW cH (aF 2) aP)) (cd (Ei T) o (aB (aF 1) (aB (bJ aW cH (aF 2) aP) aH)))))))
 (bH (cG (aF 1))))),?_⟩
 show gL _ _ _ [.val (.list (l.map FB)),.un,.un];refine bX (.int 1) (λq a=>a) ?_
 refine jZ (ts:=l.map FB) (λR h=>⟨_,kA,_,kA,h⟩)
  (λk p=>∃c:Sl,p=[.val (.list (l.map FB)),.val (.int ((xC (l.take k):Nat):Int)),c]) ⟨_,kA⟩ (λk x d e b=>?_) λd b=>?_
 ·obtain⟨c,rfl⟩:=b;rw[aM]at e;obtain⟨y,f,rfl⟩:=bZ.mp e;obtain⟨g,t⟩:=n y (aV f);have s:(xC (l.take k)).gcd y.2<=y.2:=aJp g (rF _ _);have m:0<(xC (l.take k)).gcd y.2:=nE _ g
  have j:xC (l.take (k+1))=(xC (l.take k)).lcm y.2:=by
   unfold xC;rw[cI,f,rC];rfl
  refine rS (.int ((xC (l.take (k+1)):Nat):Int)) (λq a=>⟨_,kA,_,kA,_,kA,.inr ⟨hG,hG⟩,_,kA,_,kA,_,kA,_,_,kA,⟨hG,hG⟩,?_⟩) ⟨_,kA⟩;rw[j]at a
  have i:((xC (l.take k):Nat):Int)*(y.2:Int) / (((xC (l.take k)).gcd y.2:Nat):Int)=(((xC (l.take k)).lcm y.2:Nat):Int):=by
   rw[<- dA,<- sT];rfl
  rw[i];exact a
 ·obtain⟨c,rfl⟩:=b;rw[aA,dB];exact⟨_,kA,h⟩
def Ki:Ft P w base T.D_33 1 Po:=by
 refine nA T.D_33.F Mq λc nd b Q h=>?_;obtain⟨a,bs,m,rfl,h⟩:=h;refine⟨_,(bH (cG (EE (oC GI pG (cB iS (aB (bJ aW cH (aF 0) aP) aH) cO T.b_len fX) (aF 1)) (AA (oC GI pG (cB iS (aB (bJ aW cH (aF 0) aP) aH) cO T.b_len fX) (aF 1)))))),?_⟩;show BE _ _ [.val (.tuple [.list a,.list bs]),.val (.int m)];refine⟨_,kA,_,kA,_,kA,?_⟩;show(if decide (m<=(a.length:Int))=true then _ else _)
 cases e:decide (m<=(a.length:Int))with
 |false=>
  rw[a8 gV];rw[e]at h;exact h
 |true=>
  rw[a9 rfl];rw[e]at h;exact⟨_,kA,_,kA,_,kA,h⟩
def Dc:Fj P w base T.D_32 1 (iE K Pn):=by
 refine rA T.D_32.F Mp λl nd j Q h=>?_;obtain⟨w,ss,rfl,k,h⟩:=h;refine⟨_,(bH (uQ (fl (fr:=[none,none,some 0]) (N':=["number","found","side"]) (Wr (aB (aF 1) aH) (λh=>Xq kA T.b_enumerate h)) (λb=>⟨(lV (mW kA (eF (pk 0) (eF (pk 1) kQ)))),(pI (dE iL lO (aF 1) (aF 2))),(aF 0)⟩)))),?_⟩;rw[<- MC]at h;refine YQ (LW (ts:=wC (ss.map aL)) (λR h=>⟨_,kA,_,kA,h⟩) (xq w) zd (by rw[lW,aA];lia) (λx g=>?_) (λa b q f e=>?_) (λa b q f e=>?_) h)
 ·rw[G5]at g;obtain⟨y,_,rfl⟩:=aQ.mp g;exact⟨_,_,kA⟩
 ·obtain⟨i,d⟩:=cT f;have c:=(aG.mp d).1;rw[lW,aA]at c;rw[qW (a:=.str ss[i]) (by rw[aM,aD c];rfl)]at d;cases d;exact⟨_,kA,_,kA,e⟩
 ·exact⟨_,kA,e⟩
def Kh:Ft P w base T.D_30 1 Pl:=by
 refine nA T.D_30.F Nz λj nd m Q h=>?_;obtain⟨k,n,v,f,rfl,g,l,o,h⟩:=h;refine⟨_,(aS (gU (dE iL lO (bJ aW cH (aF 0) aP) cN)
 (bH (cG (dZ (aB (bJ aW cH (aF 0) aP) aH))))
 fE)
 (bH (cG (fP jA pC (bJ aW cH (aF 1) aP) iK (gC (cE bM eA (EA (bJ aW cH (aF 1) aP) (aB (bJ aW cH (aF 0) aP) aH) (λh d=>iJ qI qH qG (DM j) h d)) aP)))))),?_⟩
 show gL _ _ _ [.val (.tuple [.str k,.str n,.str v]),.val (iN f)];unfold D2 at h;refine eZ (λb=>b=decide (k="is")) (λq i=>⟨_,kA,_,kA,i _ kA⟩) (λc=>?_) λa=>?_
 ·rw[a9 (b8 c.symm)]at h;exact⟨_,kA,_,kA,aC kA,h⟩
 ·try unfold iI
  dsimp only;rw[a8 (d9 a.symm)]at h;refine⟨_,kA,_,kA,_,kA,_,kA,_,kA,_,kA,_,kA,_,_,kA,qT g l,?_⟩;show Q (.tuple (iH (f.2.map aL) none (some ((f.2.idxOf v:Int)+1))));have e:((f.2.idxOf v:Nat):Int)+1=((f.2.idxOf v+1:Nat):Int):=rfl;rw[e,kB,oE];exact h
def Db:Ft P w base T.D_29 2 Pk:=by
 refine nA T.D_29.F Ny λd nd i Q h=>?_;obtain⟨k,n,v,st,f,rfl,c,g,a,h⟩:=h;refine⟨_,(bH (cG (cE bM eA (cd (Kh T) d (aB (aF 0) (aB (aF 2) aH))) (uC (dE iL lO (aF 1) cN) (dZ (aB oB aH)) (dZ aH))))),?_⟩;have b:=YC (k:=k) (v:=v) a;refine⟨_,kA,_,kA,k,n,v,f,kA,c,g,a,_,kA,?_⟩;unfold oK at h;show(if decide (st="yes")=true then _ else _);by_cases e:st="yes"
 ·rw[a9 (b0 e)];rw[a9 e]at h;exact⟨aC kA,by rw[aA];show _+1<=_;lia,h⟩
 ·rw[a8 (by simpa using e)];rw[a8 e]at h;exact⟨aC kA,by rw[aA];show _+0<=_;lia,h⟩
def Da:Ft P w base T.D_28 1 Qt:=by
 refine nA T.D_28.F Nw λp nd s Q h=>?_;obtain⟨fs,an,k,n,v,i,j,rfl,F,c,a,h⟩:=h;refine⟨_,(bH (cG (vD (el (fr:=[none]) (N':=["field"]) (dP (bJ aW cH (aF 0) aP)) (λb=>⟨(dF (pk 0)),fR,(bJ aW cH (aF 0) aP)⟩)) (aB (bJ aW cH (aF 1) aP) aH) (λh l=>iJ cA nC nB (uX p) h l)))),?_⟩;have n5:=F.n5;have m:=(aG.mp c).1;have g:(fs.map (·.1)).idxOf n=j:=by rw[<- a];exact B6 F c
 have d:n∈fs.map (·.1):=aQ.mpr ⟨i,aV c,a⟩;show CH _ _ _ Q;dsimp only[CH];refine gD (ts:=fs.map iN) (λR h=>⟨_,kA,_,kA,_,kA,h⟩) fst (by rw[aA];lia) (λx q r o=>?_) ?_
 ·obtain⟨f,t,rfl⟩:=aQ.mp r;exact⟨_,kA,_,kA,o⟩
 ·have e:(fs.map iN).map fst=(fs.map (·.1)).map aL:=by rw[aX,aX];rfl
  rw[e];have:=qT F.nd.2.1 d;rw[g]at this;exact⟨_,kA,_,kA,_,kA,_,j,kA,this,hG,h⟩
def CD:Ft P w base T.D_27 3 Qs:=by
 refine nA T.D_27.F Nv λt nd L Q h=>?_;obtain⟨fs,an,k,n,v,st,e,rfl,F,s,u,y,h⟩:=h;refine⟨_,(aS (ss 4 nd (cd (Da T) t (aB (aF 0) (aB (aF 1) aH))))
 (bH (cG (uC (dE (DH t) LO (bJ aW cH (aF 3) (aF 4)) (cd (Db T) t (aB (aF 1) (aB (aF 2) (aB (bJ aW cH (bJ aW cH (aF 0) aP) (aF 4)) aH))))) cN cN)))),?_⟩
 show gL _ _ _ [.val (dY fs an),.val (.tuple [.str k,.str n,.str v]),.val (.str st),.val (.tuple e),.un];obtain⟨E,p⟩:=lQ y;obtain⟨d,a,f,i,J⟩:=CC s;obtain⟨j,g⟩:=cT a;have H:=(aG.mp g).1;have b:e[j]?=some e[j]:=aD hG
 generalize C:e[j]=c at b
 have l:L2.atI e (j:Int)=some c:=L2.eK b;have r:L2.atI (fs.map iN) (j:Int)=some (iN d):=L2.eK (by rw[aM,g];rfl);have hok:=p j d c g b;rw[xQ F g b f]at h
 have o:Cd c:=by
  cases c with
  |none=>exact(BY (n:=8) (m:=0)).cd gV
  |str z=>exact(jR (F.vals a z (b8 hok)) (n:=8) (m:=0) (aN _)).cd gV
  |_=>cases hok
 refine bX (.int (j:Int)) (λq s=>⟨_,kA,_,kA,fs,an,k,n,v,d,j,kA,F,g,f,s⟩) ?_;refine⟨_,kA,_,kA,_,l,_,kA,_,kA,_,kA,_,kA,_,kA,_,r,k,n,v,st,d,kA,F.vals a,i,(F.vs d a).2.1,yI (LM (F.vals a) i o) ?_⟩;rw[<- D1 u hok]at h;show(if FM c (.tuple (oK k v st d))=true then _ else _)
 cases x:FM c (.tuple (oK k v st d))with
 |true=>rw[a9 rfl];rw[x,a9 rfl]at h;exact h
 |false=>rw[a8 gV];rw[x,a8 gV]at h;exact h
def WT:Fj P w base T.D_31 4 (uY K Pm):=by
 refine Ff T.D_31.F Mo λc nd p Q h=>?_;obtain⟨fs,an,k,n,v,st,f,rfl,F,m,g,hok,d,h⟩:=h;refine⟨_,(aS (kD (i:=4) (fr:=[none,some 0,some 1,some 2]) (N':=["row","form","question","stray"]) (dP (aF 3)) (λb=>⟨(dF (pk 0)),fR,(cd (CD T) c (aB (aF 1) (aB (aF 2) (aB (aF 3) (aB (bJ aW cH (aF 0) aP) aH)))))⟩) (λl j=>iP (show mZ _ (aU (top 31)) ["form","question","stray","rows","sides"] ["row","form","question","stray"] [none,some 0,some 1,some 2]=true from by decide +kernel) nd kA (by first | exact h9 kA | exact g6 kA) kA l j kA))
 (bH (K6 (cF (Dc T) c (aB cN (aB (aF 4) aH))) (cF (Dc T) c (aB cN (aB (aF 4) aH)))))),?_⟩
 show gL _ _ _ [.val (dY fs an),.val (.tuple [.str k,.str n,.str v]),.val (.str st),.val (.list (f.map cV)),.un];have e:(f.map cV).map (An fs k n v st)=(f.map λr=>eJ fs k n v st r.1).map aL:=by rw[aX,aX];rfl
 refine bX (.list ((f.map λr=>eJ fs k n v st r.1).map aL)) (λq a=>?_) ?_
 ·refine gD (ts:=f.map cV) (λR h=>⟨_,kA,_,kA,h⟩) (An fs k n v st) (by rw[aA];lia) (λx q o a=>?_) ?_
  ·obtain⟨r,c,rfl⟩:=aQ.mp o;exact⟨_,kA,_,kA,_,kA,_,kA,_,kA,fs,an,k,n,v,st,r.1,kA,F,m,g,(hok r c).1,a⟩
  ·rw[e];exact a
 rw[<- PH,<- PH]at h;exact⟨_,kA,"yes",_,kA,by rw[aA];exact d,_,kA,"no",_,kA,by rw[aA];exact d,h⟩
def WS:Ft P w base T.D_35 1 Pq:=by
 refine nA T.D_35.F Mr λf nd l Q h=>?_;obtain⟨fs,k,n,v,st,w,a,rfl,m,h⟩:=h;refine⟨_,(bH (cG (el (fr:=[none,some 0]) (N':=["number","rows"]) (dP (aF 1)) (λb=>⟨(dF (pk 0)),fR,(bJ aW cH (aF 1) (aF 0))⟩)))),?_⟩;show BE _ _ [.val (.list (a.map cV)),.val (.list (iG fs k n v st a w))]
 have o:(iG fs k n v st a w).length<=60:=by
  unfold iG;have:=bK (tS fs k n v st a w) (fW a.length);rw[oA]at this;lia
 refine gD (ts:=iG fs k n v st a w) (λR h=>⟨_,kA,_,kA,h⟩) (C6 a) hG (λx q i e=>?_) ?_
 ·obtain⟨j,g,rfl⟩:=aQ.mp (cW.mp i).1;have c:j<a.length:=by simpa using g
  have d:L2.atI (a.map cV) (j:Int)=some (cV a[j]):=L2.eK (by rw[aM,aD c];rfl)
  have f:C6 a (.int (j:Int))=cV a[j]:=by
   show(match L2.atI a (j:Int)with | some r=>cV r | none=>.none)=_;rw[L2.eK (aD c)]
  rw[f]at e;exact⟨_,kA,_,kA,_,d,e⟩
 ·rw[yd fs k n v st w a.length a rfl];exact h
def Kj:Fj P w base T.D_34 6 (iE K Pp):=by
 refine Fg T.L_34 T.D_34.F Et (λds Q h=>by obtain⟨fs,an,f,m,rfl,F,l,o,h⟩:=h;rfl) λbu lc Ar outer s H E r ds Q h=>?_;obtain⟨fs,an,f,m,rfl,F,l,o,h⟩:=h;have nd:=Et.nd;refine⟨_,(aS (so 3 nd aH)
 (aS (sf (dP (cd (Kg T) r (aB (aF 0) aH))) (lV (mW kA (eF (pn 4 nd) (eF (pn 5 nd) kQ))))
 (aS (ss 6 nd (YX (cQ (WT T) r (aB (aF 0) (aB (aF 4) (aB (aF 5) (aB (aF 1) aH)))))))
 (bH (gU (tv (cd (Ki T) r (aB (aF 6) (aB (aF 2) aH))))
 (aS (kD (i:=7) (fr:=[none,some 0,some 1]) (N':=["numbers","form","rows"]) (dP (aF 6)) (λb=>⟨(dF (pk 0)),fR,(cd (Eh T) r (aB (aF 1) (aB (cd (WS T) r (aB (aF 2) (aB (aF 0) aH))) aH)))⟩) (λu hY=>iP (show mZ _ (aU (top 35)) ["form","rows","least","told","question","stray","sides","doubts","bottom"] ["numbers","form","rows"] [none,some 0,some 1]=true from by decide +kernel) nd kA (by first | exact h9 kA | exact g6 kA) kA u hY kA))
 (bH (qB (i:=3) (pv 3) (dZ (aB (aF 4) (aB (aF 5) (aB (cd (Ll T) r (aB (bJ aW cH (aF 7) aP) (aB (bJ aW cH (aF 7) aP) aH))) aH)))) (pb:=λh=>jM (iJ cA eI eG kE (pv 3) h)))))
 fE))))
 (oM 3 (aS (ss 8 nd (cd (Lm T) r (aB (el (fr:=[none,none,none]) (N':=["question","stray","doubt"]) (dP (aF 3)) (λb=>⟨(GY (mW kA (eF (pk 0) (eF (pk 1) (eF (pk 2) kQ))))),fR,(aF 2)⟩)) aH)))
 (bH (uQ (YJ (k:=0) (ib:=8) (r.mono hG) lc kA kA kA kA T.b_sorted T4 (aB (aF 3) aH)))))))),?_⟩
 show gL _ _ _ [.val (dY fs an),.val (.list (f.map cV)),.val (.int m),.un,.un,.un,.un,.un,.un]
 have kl:(iF fs f m).length<=60:=by
  have h1:=mY F fs λg hg=>hg;have n3:=F.n3;have h2:=bK (okC fs f m) (JP fs);rw[JO]at h2;show((JP fs).filter (okC fs f m)).length<=60;lia
 have ow:(JP fs).length<=100:=by
  have h1:=mY F fs λg hg=>hg;have n5:=F.n5;rw[JO];lia
 refine lC [] gV (λq C=>C) ?_
 refine jZ (ts:=(JP fs).map wp) (λR h=>⟨_,kA,fs,an,kA,F,_,kA,h⟩)
  (λk σ=>∃s4 s5 s6 W:Sl,σ=[.val (dY fs an),.val (.list (f.map cV)),.val (.int m),.own ((((JP fs).take k).filter (okC fs f m)).map (OJ fs f)),s4,s5,s6,W,.un]) ⟨_,_,_,_,kA⟩ (λk x t6 p hP=>?_) λt6 hP=>?_
 ·obtain⟨s4,s5,s6,W,rfl⟩:=hP;rw[aM]at p;obtain⟨c,t,rfl⟩:=bZ.mp p;have hc:=aV t;obtain⟨C,hs⟩:=OO hc;have n:=IA C
  have U:(iG fs c.1.1 c.1.2.1 c.1.2.2 c.2 f "yes").length=(yR fs c f).length:=by
   have:=e5 jK (yd fs c.1.1 c.1.2.1 c.1.2.2 c.2 "yes" f.length f kA);rw[aA,aA]at this;exact this
  have S:(iG fs c.1.1 c.1.2.1 c.1.2.2 c.2 f "no").length=(nR fs c f).length:=by
   have:=e5 jK (yd fs c.1.1 c.1.2.1 c.1.2.2 c.2 "no" f.length f kA);rw[aA,aA,xZ F n hs l]at this;exact this
  have et:((JP fs).take (k+1)).filter (okC fs f m)=((JP fs).take k).filter (okC fs f m)++(if okC fs f m c=true then[c]else[]):=by
   rw[cI,t,gA];congr 1;show RG _ [c]=_;rw[cR];rfl
  have vf:((((JP fs).take k).filter (okC fs f m)).map (OJ fs f)).length<=100:=by
   rw[aA];exact bE (bK _ _) (by rw[bD];lia)
  refine⟨qD c.1,.str c.2,kA,?_⟩;dsimp only;refine bX (.tuple [.list (iG fs c.1.1 c.1.2.1 c.1.2.2 c.2 f "yes"),.list (iG fs c.1.1 c.1.2.1 c.1.2.2 c.2 f "no")]) (λq j=>⟨_,kA,_,kA,_,kA,_,kA,fs,an,c.1.1,c.1.2.1,c.1.2.2,c.2,f,kA,F,n,hs,l,o,j⟩) ?_;refine rT (λb=>b=okC fs f m c) (λq j=>⟨_,kA,_,kA,_,_,m,kA,?_⟩) (λhT=>?_) λhF=>?_
  ·refine j _ ?_;rw[U,S];rfl
  ·refine bX (.list [FB (vF (yR fs c f)),FB (vF (nR fs c f))]) (λq j=>?_) ?_
   ·refine IW (ts:=[.list (iG fs c.1.1 c.1.2.1 c.1.2.2 c.2 f "yes"),.list (iG fs c.1.1 c.1.2.1 c.1.2.2 c.2 f "no")]) (λR h=>⟨_,kA,_,kA,h⟩) (λi _ y=>(i=0->y=FB (vF (yR fs c f)))/\(i=1->y=FB (vF (nR fs c f)))) hI (λi x q p L=>?_) λys tf hy=>?_
    ·have u:i<2:=(aG.mp p).1;rcases(show i=0\/i=1 by lia)with rfl | rfl
     ·cases p;exact⟨_,kA,_,kA,_,kA,fs,c.1.1,c.1.2.1,c.1.2.2,c.2,"yes",f,kA,o,fs,an,_,kA,F,l.filt _,bE (bK _ _) o,L _ ⟨λ_=>rfl,λz=>by cases z⟩⟩
     ·cases p;refine⟨_,kA,_,kA,_,kA,fs,c.1.1,c.1.2.1,c.1.2.2,c.2,"no",f,kA,o,?_⟩;rw[xZ F n hs l];exact⟨fs,an,_,kA,F,l.filt _,bE (bK _ _) o,L _ ⟨(λz=>by cases z),λ_=>rfl⟩⟩
    ·match ys,tf,hy with
     |[a,b],_,hy=>
      have h0:=(hy 0 _ a kA kA).1 kA;have h1:=(hy 1 _ b kA kA).2 kA;rw[h0,h1];exact j
   ·have N:(yR fs c f).length<=60:=bE (bK _ _) o;have v:(nR fs c f).length<=60:=bE (bK _ _) o;refine pB (OJ fs f c) kA hG (λq j=>⟨_,kA,_,kA,_,kA,_,kA,_,kA,_,kA,_,_,kA,yQ N,yQ v,hI,j⟩) ⟨.val (qD c.1),.val (.str c.2),.val (.tuple [.list (iG fs c.1.1 c.1.2.1 c.1.2.2 c.2 f "yes"),.list (iG fs c.1.1 c.1.2.1 c.1.2.2 c.2 f "no")]),.val (.list [FB (vF (yR fs c f)),FB (vF (nR fs c f))]),?_⟩;rw[et,a9 hT.symm,bT];rfl
  ·try unfold iI
   dsimp only;refine⟨.val (qD c.1),.val (.str c.2),.val (.tuple [.list (iG fs c.1.1 c.1.2.1 c.1.2.2 c.2 f "yes"),.list (iG fs c.1.1 c.1.2.1 c.1.2.2 c.2 f "no")]),W,?_⟩;rw[et,a8 (by rw[<- hF];decide),dH];rfl
 ·obtain⟨s4,s5,s6,W,rfl⟩:=hP;rw[aA,dB];refine⟨_,kA,?_⟩;show gL _ _ _ [.val (dY fs an),.val (.list (f.map cV)),.val (.int m),.val (.list (EH fs f m)),s4,s5,s6,W,.un]
  have pj:∀x∈UK fs f m,0<x.2/\x.2<=1000000:=λx p=>by
   obtain⟨c,_,rfl⟩:=aQ.mp p;have:=AB (fs:=fs) o c;exact⟨this.pos,bE this.bot gV⟩
  refine bX (.int (xC (UK fs f m):Nat)) (λq C=>?_) ?_
  ·dsimp only[kG,pA,vS];refine Ye (ts:=EH fs f m) (λR h=>⟨_,kA,_,kA,h⟩) (λx=>match x with | .tuple [_,_,d]=>d | _=>.none) (by rw[uD];lia) (λx p=>?_) (λa b c q' hm n=>⟨_,kA,n⟩) ?_
   ·obtain⟨c,_,rfl⟩:=aQ.mp p;exact⟨_,_,_,kA⟩
   ·have e:(EH fs f m).map (λx=>match x with | .tuple [_,_,d]=>d | _=>.none)=(UK fs f m).map FB:=by
     unfold EH UK;rw[aX,aX];rfl
    rw[e];exact⟨_,kA,pj,C⟩
  ·refine⟨_,kA,EH fs f m,(xC (UK fs f m):Nat),DW fs f m,kA,by rw[uD];lia,kA,by rw[uD,X2],λi e k he hk=>?_,λJ hJ=>?_⟩
   ·have u:i<(iF fs f m).length:=by rw[<- uD];exact(aG.mp he).1
    have e1:=QQ (fs:=fs) (R:=f) (m:=m) u;rw[dL,he]at e1;have e2:=IZ (fs:=fs) (R:=f) (m:=m) u;rw[dL,hk]at e2;have sm:=AB (fs:=fs) o (iF fs f m)[i];have s1:=sm.top;have s2:=sm.pos;have s3:=sm.bot;exact⟨_,_,_,_,e1,⟨hG,hG⟩,.inl ⟨hG,hG⟩,e2⟩
   ·rw[uD]at hJ;exact h J hJ
def Kk:Ft P w base T.D_36 7 Pr:=by
 refine nA T.D_36.F Ms λs nd z Q h=>?_;obtain⟨fs,an,a,m,rfl,F,k,f,h⟩:=h;refine⟨_,(aS (ss 3 nd (wB (cF (Kj T) s (aB (aF 0) (aB (aF 1) (aB (aF 2) aH))))))
 (aS (gU (xN (NB (F3 (aF 3) (λh=>LG h (λ_=>rfl))) (HN (tv (cd (Ej T) s (aB (bJ aW cH (bJ aW cH (aF 3) aP) aP) (aB (cd (Eh T) s (aB (aF 0) (aB (aF 1) aH))) aH)))))))
 (bH (cG (bJ aW cH (aF 3) aP)))
 fE)
 (bH (cG oB)))),?_⟩
 show gL _ _ _ [.val (dY fs an),.val (.list (a.map cV)),.val (.int m),.un];have y:=Y9 F a m;have o:∀c:Ch,(dC fs a c).1<=1000000:=λc=>bE (AB (fs:=fs) f c).top gV;have n:(vF a).1<=1000000:=bE (yQ f).top gV
 have l:∀{i:Nat}{J:List Nat},xk fs a m (i::J)->∃c,wc fs a (iF fs a m)=some c/\L2.atI (zo fs a m (i::J)) 0=some (OJ fs a c):=λ{i J} d=>by
  refine⟨_,ZC f d,?_⟩;refine L2.eK (j:=0) ?_;show some ((EH fs a m).getD i .none)=_;rw[QQ (d.lt i (aO ..))]
 have t:∀c,wc fs a (iF fs a m)=some c->mE fs a m=if kL (dC fs a c) (vF a)=true then some c else none:=λc r=>by
  unfold mE;rw[r];rfl
 refine fC (λv=>∃J,xk fs a m J/\v=.list (zo fs a m J)) (λq g=>⟨_,kA,_,kA,_,kA,fs,an,a,m,kA,F,k,f,λJ d=>g _ ⟨J,d,kA⟩⟩) ?_;rintro _ ⟨J,d,rfl⟩
 cases J with
 |nil=>
  have e:mE fs a m=none:=by unfold mE;rw[Vx d];rfl
  rw[e]at h;refine eZ (λb=>b=false) (λq g=>?_) (λp=>by cases p) λ_=>?_
  ·refine⟨_,kA,[],kA,?_⟩;show(if(false:Bool)=true then _ else q false);rw[a8 gV];exact g _ kA
  ·try unfold iI
   dsimp only;exact h
 |cons i J=>
  obtain⟨c,r,u⟩:=l d;rw[t c r]at h;refine eZ (λb=>b=kL (dC fs a c) (vF a)) (λq g=>?_) (λp=>?_) λx=>?_
  ·refine⟨_,kA,_,kA,?_⟩;show(if(true:Bool)=true then _ else q false);rw[a9 rfl];exact⟨_,kA,_,u,_,kA,_,kA,_,kA,fs,an,a,kA,F,k,f,_,_,kA,o c,n,g _ kA⟩
  ·rw[a9 p.symm]at h;exact⟨_,kA,_,u,h⟩
  ·rw[a8 (by rw[<- x];decide)]at h
   try unfold iI
   dsimp only;exact h
def Eg:Ft P w base T.D_17 2 OK:=by
 refine nA T.D_17.F Mc λp nd y Q h=>?_;obtain⟨fs,an,a,rfl,F,hok,o,h⟩:=h;refine⟨_,(aS (ss 2 nd (wB (cF (Ef T) p (aB (aF 0) (aB (aF 1) aH)))))
 (bH (cG (bJ aW cH (bJ aW cH (aF 0) aP) (vD (aF 2) (aB (cB Cf (aB (aF 2) aH) (wE kA) T.b_max ZE) aH) (λh r=>iJ cA nC nB (uX p) h r)))))),?_⟩
 show gL _ _ _ [.val (dY fs an),.val (.list (a.map cV)),.un];have a2:=F.a2;refine bX (.list ((iO an a).map bO)) (λq x=>⟨_,kA,_,kA,fs,an,a,kA,F,hok,o,x⟩) ?_
 have n:iO an a≠[]:=λz=>by
  have:=e5 jK z;unfold iO at this;rw[aA]at this;simp at this;rw[this]at a2;simp at a2
 refine⟨_,kA,_,kA,_,kA,_,kA,_,kA,_,kA,n,λm v c=>?_⟩;obtain⟨j,l,g⟩:=D6 (iO an a) m v;have u:=(aG.mp l).1;have s:(iO an a).length=an.length:=by unfold iO;rw[aA]
 have a4:=F.a4;have d:an[j]?=some an[j]:=aD hG;have f:(iO an a)[j]?=some ((sR a an[j]:Nat):Int):=by unfold iO;rw[aM,d];rfl
 rw[l]at f;have C:m=((sR a an[j]:Nat):Int):=c5 f;refine⟨_,j,kA,GJ l g,hG,_,L2.eK (by rw[aM,d];rfl),h _ ⟨j,d,λi b k=>?_,λi b t k=>?_⟩⟩
 ·have:=c ((sR a b:Nat):Int) (aV (i:=i) (by unfold iO;rw[aM,k];rfl));lia
 ·have e:(iO an a)[i]?=some ((sR a b:Nat):Int):=by unfold iO;rw[aM,k];rfl
  have E:=c _ (aV e);have H:((sR a b:Nat):Int)≠m:=λz=>g i t (by rw[e,z]);lia
def Yo(u:Nat)
  (o:Ft P w base T.D_37 (8+u) (tK u)):Fj P w base T.D_37 (8+u+1) (jO K (tK (u+1))):=by
 refine nA T.D_37.F Mt λs nd ds Q h=>?_;obtain⟨fs,an,f,d,m,rfl,F,g,k,hd,h⟩:=h;refine⟨_,(aS (ss 4 nd (uC (dE AU pG (aF 2) aP) (cd (hk:=by lia) (Kk T) s (aB (aF 0) (aB (aF 1) (aB (aF 3) aH)))) oB))
 (aS (gU (dE IE P4 (aF 4) oB)
 (bH (cG (dZ (aB cN (aB (cd (hk:=by lia) (Eg T) s (aB (aF 0) (aB (aF 1) aH))) aH)))))
 fE)
 (aS (ss 5 nd (YX (cQ (hk:=by lia) (WT T) s (aB (aF 0) (aB (bJ aW cH (aF 4) aP) (aB (bJ aW cH (aF 4) aP) (aB (aF 1) aH)))))))
 (aS (kD (i:=6) (fr:=[none,some 0,some 3,some 1,some 2]) (N':=["numbers","form","least","rows","deep"]) (dP (aF 5)) (λb=>⟨(dF (pk 0)),fR,(cd (hk:=by lia) o s (aB (aF 1) (aB (cd (hk:=by lia) (WS T) s (aB (aF 3) (aB (aF 0) aH))) (aB (cE rR II (aF 4) aP) (aB (aF 2) aH)))))⟩) (λhi hY=>iP (show mZ _ (aU (top 38)) ["form","rows","deep","least","found","sides","parts"] ["numbers","form","least","rows","deep"] [none,some 0,some 3,some 1,some 2]=true from by decide +kernel) nd kA (by first | exact h9 kA | exact g6 kA) kA hi hY kA))
 (bH (cG (dZ (aB cN (aB (bJ aW cH (aF 4) aP) (aB (bJ aW cH (aF 4) aP) (aB (bJ aW cH (aF 6) aP) (aB (bJ aW cH (aF 6) aP) aH)))))))))))),?_⟩
 show gL _ _ _ [.val (dY fs an),.val (.list (f.map cV)),.val (.int d),.val (.int m),.un,.un,.un]
 cases d with
 |zero=>
  refine bX .none (λq j=>⟨_,kA,j⟩) ?_;refine eZ (λb=>b=true) (λq j=>⟨_,kA,j _ kA⟩) (λ_=>?_) λL=>by cases L
  exact⟨_,kA,_,kA,fs,an,f,kA,F,g,k,λa N=>⟨hI,h (.say a) ⟨a,N,kA⟩⟩⟩
 |succ e=>
  refine bX (Bs fs f (mE fs f m)) (λq j=>⟨_,kA,?_⟩) ?_
  ·show(if decide ((0:Int)<((e+1:Nat):Int))=true then _ else q .none);rw[a9 (b0 hG)];exact⟨_,kA,_,kA,_,kA,fs,an,f,m,kA,F,g,k,j⟩
  cases E:mE fs f m with
  |none=>
   refine eZ (λb=>b=true) (λq j=>⟨_,kA,j _ kA⟩) (λ_=>?_) λL=>by cases L
   refine⟨_,kA,_,kA,fs,an,f,kA,F,g,k,λa N=>⟨hI,h (.say a) ?_⟩⟩;unfold Gr;rw[E];exact⟨a,N,kA⟩
  |some c=>
   have hc:=(cW.mp (AF E)).1;obtain⟨j,hs⟩:=OO hc;have p:=IA j;refine eZ (λb=>b=false) (λq j=>⟨_,kA,j _ kA⟩) (λhT=>by cases hT) λ_=>?_
   try unfold iI
   dsimp only;refine bX (.tuple [.list (iG fs c.1.1 c.1.2.1 c.1.2.2 c.2 f "yes"),.list (iG fs c.1.1 c.1.2.1 c.1.2.2 c.2 f "no")]) (λq l=>⟨_,kA,_,kA,_,kA,_,kA,_,kA,_,kA,fs,an,c.1.1,c.1.2.1,c.1.2.2,c.2,f,kA,F,p,hs,g,k,l⟩) ?_;refine fC (λv=>∃y n,Gr fs an m e (yR fs c f) y/\Gr fs an m e (nR fs c f) n/\v=.list [gE y,gE n]) (λq l=>?_) ?_
   ·have es:((e+1:Nat):Int)-1=((e:Nat):Int):=by lia
    refine IW (ts:=[.list (iG fs c.1.1 c.1.2.1 c.1.2.2 c.2 f "yes"),.list (iG fs c.1.1 c.1.2.1 c.1.2.2 c.2 f "no")]) (λR h=>⟨_,kA,_,kA,h⟩) (λi _ y=>(i=0->∃t,Gr fs an m e (yR fs c f) t/\y=gE t)/\(i=1->∃t,Gr fs an m e (nR fs c f) t/\y=gE t)) hI (λi x q U r=>?_) λys W C=>?_
    ·have hi:i<2:=(aG.mp U).1;rcases(show i=0\/i=1 by lia)with rfl | rfl
     ·cases U;exact⟨_,kA,_,kA,_,kA,fs,c.1.1,c.1.2.1,c.1.2.2,c.2,"yes",f,kA,k,_,kA,_,kA,fs,an,_,e,m,by rw[<- es]<;>rfl,F,g.filt _,bE (bK _ _) k,hG,λt S=>r _ ⟨λ_=>⟨t,S,kA⟩,λz=>by cases z⟩⟩
     ·cases U;refine⟨_,kA,_,kA,_,kA,fs,c.1.1,c.1.2.1,c.1.2.2,c.2,"no",f,kA,k,?_⟩;rw[xZ F p hs g];exact⟨_,kA,_,kA,fs,an,_,e,m,by rw[<- es]<;>rfl,F,g.filt _,bE (bK _ _) k,hG,λt S=>r _ ⟨(λz=>by cases z),λ_=>⟨t,S,kA⟩⟩⟩
    ·match ys,W,C with
     |[a,b],_,C=>
      obtain⟨y,H,rfl⟩:=(C 0 _ a kA kA).1 kA;obtain⟨n,J,rfl⟩:=(C 1 _ b kA kA).2 kA;exact l _ ⟨y,n,H,J,kA⟩
   ·rintro _ ⟨y,n,H,J,rfl⟩;refine⟨_,kA,_,kA,_,kA,_,kA,_,kA,_,kA,_,kA,_,kA,hI,h (.ask c.1.1 c.1.2.1 c.1.2.2 c.2 y n) ?_⟩;unfold Gr;rw[E];exact⟨y,n,H,J,kA⟩
def WR:Ft P w base T.D_37 15 Ps:=by
 have h:∀a:Nat,Ft P w base T.D_37 (8+a) (tK a):=λa=>by
  induction a with
  |zero=>exact uA oO λc Q h=>XE h
  |succ a b=>exact Yo T a b
 exact h 7
def Ec:Fm P w K mg base pK 16 Z ["self"] (iQ K (Ou A)):=by
 refine YL (F:=oF A) T.D_11.F Ly λb nd a n z Q h=>?_;obtain⟨fs,an,d,m,o,l,y,v,rfl,F,s,c,e,hk,q,u,hd,f,g,r,h⟩:=h;refine⟨_,(eY (HP (i:=1) (uB T.C_Book T.n_Book_standing (aF 0)) (λh=>rP (i:=1) nd kA (by first | exact h9 kA | exact g6 kA) h))
 (eY (Zb T.C_Book T.n_Book_standing (aF 0) (D9 (WR T) T.D_37.m T.D_37.k T.D_37.d (b.mono gV) (lY (uB T.C_Book T.n_Book_form (aF 0)) (lY (Wd T.C_Book T.n_Book_numbered (aF 0) (pc:=λh=>uU (BI kA) kA T.b_list JT (lE (WK HE FU PySem.F.type_dict_values N1 h) qC))) (lY (uB T.C_Book T.n_Book_deep (aF 0)) (lY (uB T.C_Book T.n_Book_least (aF 0)) AH)))) (λh=>pT (WR T) (b.mono gV) kA T.D_37.m T.D_37.k T.D_37.d .nil kW h)))
 (gT (lL (D9 (De T) T.D_45.m T.D_45.k T.D_45.d (b.mono gV) (lY (rZ (aF 1)) (lY (uB T.C_Book T.n_Book_standing (aF 0)) AH)) (λh=>pT (De T) (b.mono gV) kA T.D_45.m T.D_45.k T.D_45.d .nil kW h)))))),?_⟩
 obtain rfl:a=o:=kU v;have x:n.kvs.map (·.2)=(l.map (·.2)).map cV:=by rw[hk];unfold zC;rw[aX,aX];rfl
 refine⟨_,kA,kA,a,_,kA,kA,?_⟩;refine⟨_,kA,kA,a,_,kA,kA,_,kA,kA,_,kA,kA,a,_,kA,kA,_,kA,kA,a,_,kA,kA,?_⟩;refine⟨fs,an,l.map (·.2),d,m,by rw[s,x,c,e],F,q,by rw[aA];exact u,hG,λt j=>?_⟩;obtain⟨p,C⟩:=QL d j;refine⟨_,kA,kA,?_⟩;dsimp only;refine⟨_,kA,_,kA,kA,a,_,kA,kA,fs,an,y,t,by rw[f],F,g,p,hG,hG,hG,h t j _⟩
def Hc:Fm P w K mg base pK 17 jb ["self","row"] (iQ K (Hx A)):=by
 refine YL (F:=oF A) T.D_5.F Ix λv nd f n ds Q h=>?_;obtain⟨fs,an,d,m,E,l,k,r,W,S,rfl,F,C,s,u,hk,H,hl,hd,x,y,p,g,N,j,b,o,h⟩:=h;refine⟨_,(eY (BZ (yK eH (aF 0) (AG (aB (aF 1) aH)) (λh J=>nK h T.C_Book T.M_9 (Bq T) (v.mono gV) T.D_9.d .nil kW J)) (λh=>jM h))
 (eY (oZ (HM GI pG (Te T.C_Book T.n_Book_numbered (aF 0) (pc:=λh=>DF TV kA T.b_len fX (lE h qC))) (rZ (JK kA T.c_MOST_ROWS)))
 (gT (vO vY))
 mV)
 (eY (HP (i:=2) (uB T.C_Book T.n_Book_following (aF 0)) (λh=>rP (i:=2) nd kA (by first | exact h9 kA | exact g6 kA) h))
 (eY (YP T.C_Book T.n_Book_following (aF 0) aP)
 (eY (VE v.u1 T.C_Book T.n_Book_numbered (aF 0) (aF 2) (aF 1))
 (gT (lL (YS (lY (rZ (aF 2)) (lY (yJ eH (aF 0) (λh=>xV h T.C_Book T.M_11 (Ec T) (v.mono gV) T.D_11.d .nil kW)) AH)))))))))),?_⟩
 obtain rfl:f=E:=kU S;refine⟨_,kA,kA,_,kA,fs,an,f,cV r,kA,kA,F,C,o,L5 b,?_⟩;have R:n.kvs.length=l.length:=by rw[hk];unfold zC;rw[aA]
 dsimp only;refine mI false (λq c=>⟨_,kA,kA,?_⟩) (λz=>by cases z) λ_=>?_
 ·have e:decide ((60:Int)<=(n.kvs.length:Nat))=false:=b7 hG;rw[<- e]at c;exact c
 unfold O6;dsimp only;show zF _ _ _ _ _ [.val (pJ f),.val (cV r),.un];refine HI (.int (k:Nat)) (λq c=>⟨_,kA,kA,f,_,kA,kA,by rw[g];exact c⟩) ?_;refine⟨_,kA,kA,1,kA,?_⟩;refine⟨_,kA,_,kA,kA,_,kA,(k:Nat),kA,by show n.kvs.length<=_;lia,?_⟩;have a:FK n.kvs (k:Nat) (cV r)=zC (l++[(k,r)]):=by rw[hk];exact V2 j
 refine⟨_,kA,_,kA,kA,fs,an,d,m,f,l++[(k,r)],W,kA,kA,F,C,s,u,a,GG H b,by rw[aZ];show _+1<=60;lia,hd,x,y,p,λt L U=>⟨hI,?_⟩⟩;have e:(⟨zC (l++[(k,r)]),((k+1:Nat):Int),gE t⟩:O1)=⟨FK n.kvs (k:Nat) (cV r),n.fol+1,gE t⟩:=by rw[a,g];rfl
 have c:=h t L U;rw[e]at c;exact c
def Hd:Fm P w K mg base pK 17 jc ["self","number","row"] (iQ K (Hy A)):=by
 refine YL (F:=oF A) T.D_6.F Iy λg nd e n U Q h=>?_;obtain⟨fs,an,d,m,C,x,k,r,j,S,N,rfl,F,y,q,s,hk,E,L,hd,u,v,p,a,c,o,h⟩:=h;refine⟨_,(eY (BZ (yK eH (aF 0) (AG (aB (aF 1) aH)) (λh l=>nK h T.C_Book T.M_10 (Lj T) (g.mono gV) T.D_10.d .nil kW l)) (λh=>jM h))
 (eY (BZ (yK eH (aF 0) (AG (aB (aF 2) aH)) (λh l=>nK h T.C_Book T.M_9 (Bq T) (g.mono gV) T.D_9.d .nil kW l)) (λh=>jM h))
 (eY (HP (i:=3) (Td g.u1 T.C_Book T.n_Book_numbered (aF 0) (aF 1)) (λh=>rP (i:=3) nd kA (by first | exact h9 kA | exact g6 kA) h))
 (eY (VE g.u1 T.C_Book T.n_Book_numbered (aF 0) (aF 1) (aF 2))
 (gT (lL (YS (lY (rZ (aF 3)) (lY (yJ eH (aF 0) (λh=>xV h T.C_Book T.M_11 (Ec T) (g.mono gV) T.D_11.d .nil kW)) AH))))))))),?_⟩
 obtain rfl:e=C:=kU N;have f:JF n.kvs (k:Nat)=some (cV r):=by rw[hk];exact Wk a
 refine⟨_,kA,kA,_,kA,e,(k:Nat),cV r,kA,kA,f,?_⟩;dsimp only;refine⟨_,kA,kA,_,kA,fs,an,e,cV j,kA,kA,F,y,o,L5 c,?_⟩;dsimp only;show zF _ _ _ _ _ [.val (pJ e),.val (.int (k:Nat)),.val (cV j),.un];refine⟨_,kA,kA,_,kA,(k:Nat),cV r,kA,f,?_⟩;have J:n.kvs.length=x.length:=by rw[hk];unfold zC;rw[aA]
 refine⟨_,kA,_,kA,kA,_,kA,(k:Nat),kA,hG,?_⟩;have b:FK n.kvs (k:Nat) (cV j)=zC (mC k j x):=by rw[hk];exact V1 a
 refine⟨_,kA,_,kA,kA,fs,an,d,m,e,mC k j x,S,kA,kA,F,y,q,s,b,VR E c,by unfold mC;rw[aA];exact L,hd,u,v,p,λt H R=>⟨hI,?_⟩⟩;have z:=h t H R;rw[<- b]at z;exact z
def Hb:Fm P w K mg base pK 16 ja ["self","form","deep","least"] (IU A K Bu):=by
 refine Fi (C:=A) T.D_4.F Bt kA T.C_Book T.n_Book_form T.n_Book_deep T.n_Book_least T.n_Book_numbered T.n_Book_following T.n_Book_standing λf i outer s H E e j fm dp ls Q h=>?_;obtain⟨fs,an,d,m,a,F,hd,h⟩:=h;have nd:=Bt.nd;refine⟨_,_,(cd (WR T) e (aB (aF 1) (aB (mJ aH) (aB (aF 2) (aB (aF 3) aH))))),(λh=>(nJ (rQ (pv 0) (pv 1) kA) (nJ (rQ (pv 0) (pv 2) kA) (nJ (rQ (pv 0) (pv 3) kA) (nJ (rQ (pv 0) WI kA) (nJ (rQ (pv 0) nL kA) (B3 (rQ (pv 0) h kA)))))))),?_⟩;injection a with g a
 injection a with b a
 injection a with c _
 injection b with b
 injection c with c
 subst g b c;exact⟨_,kA,hI,_,kA,_,kA,fs,an,[],d,_,kA,F,(λr e=>by cases e),(cJ _),hG,h⟩
def Ld:Fj P w base T.D_67 1 (iE K Qv):=by
 refine rA T.D_67.F NT λn nd m Q h=>?_;obtain⟨ns,rfl,k,h⟩:=h;refine⟨_,(aS (ss 1 nd aP)
 (aS (gU (dE AU pG (cB iS (aB (aF 0) aH) cO T.b_len fX) aP)
 (bH (ss 1 nd (cE oT KL (bJ aW cH (aF 0) aP) aP)))
 fE)
 (bH (uQ (YK (aB (fP jA pC (aF 0) iK (gC aP)) (aB aP (aB aP (aB (aF 1) aH))))))))),?_⟩
 show gL _ _ _ [.val (.list (ns.map bO)),.un];refine bX (.int 0) (λq b=>b) ?_;refine C5 (0<ns.length) (λd=>∃c:Int,d=.int c/\(c=0\/c=1)) (λq b=>⟨_,kA,b _ λg=>?_⟩) (λl q b=>?_) (.int 0) kA ⟨0,kA,.inl kA⟩ ?_
 ·have f:((ns.map bO).length:Int)>0:=b8 g;rw[aA]at f;lia
 ·have e:L2.atI (ns.map bO) 0=some (.int ns[0]):=L2.eK (j:=0) (by rw[aM,aD l];rfl);refine⟨_,kA,_,e,(show(0:Int)<2 by decide),b _ ⟨_,kA,?_⟩⟩;lia
 rintro _ ⟨c,rfl,i⟩
 have a:iH (ns.map bO) none (some 63)=ns.map bO:=by
  have:=oE (ns.map bO) 63;rw[fF (by rw[aA];exact k)]at this;exact this
 refine⟨_,kA,_,kA,hI,?_⟩;rw[a];exact h c i
def nM:Ft P w base T.D_68 1 Qw:=by
 refine nA T.D_68.F Oa λR nd J Q h=>?_;obtain⟨ns,m,rfl,N,f,t,h⟩:=h;refine⟨_,(aS (ss 2 nd (yL (i:=0) 0 (sL aW (pv 0) nL (by intro _ _;rfl))))
 (aS (ss 3 nd (yL (i:=0) 1 (sL aW (pv 0) nL (by intro _ _;rfl))))
 (aS (wM (i:=0) 1 (cE bM eA (aF 3) aP) (IB (pv 0) nL xR) (λg j=>DA g j))
 (aS (ss 4 nd aP)
 (aS (gU (dE AU pG (cB iS (aB (aF 2) aH) cO T.b_len fX) aP)
 (bH (ss 4 nd (bJ aW cH (aF 2) (cE oT KL (uC (dE iL lO (yL (i:=0) 3 (sL aW (pv 0) nL (by intro _ _;rfl))) aP) (cE xX KL (aF 3) aP) (aF 3)) (cB iS (aB (aF 2) aH) cO T.b_len fX)))))
 fE)
 (aS (gU (dE iL lO (yL (i:=0) 3 (sL aW (pv 0) nL (by intro _ _;rfl))) aP)
 (aS (gU (dE iL lO (cE oT KL (aF 3) aP) aP)
 (bH (wM (i:=0) 2 (cE xX KL (aF 4) aP) (IB (pv 0) nL xR) (λg j=>DA g j)))
 fE)
 (aS (ss 5 nd (yL (i:=0) 2 (sL aW (pv 0) nL (by intro _ _;rfl))))
 (aS (wM (i:=0) 2 (cE xX KL (aF 5) (aF 1)) (IB (pv 0) nL xR) (λg j=>DA g j))
 (bH (cG (cE oT KL (aF 5) (aF 1)))))))
 fE)
 (aS (ss 6 nd (cE oT KL (cE fJ mM (cE bM eA (cE oT KL (aF 4) aP) aP) (cE bM eA (cE bM eA (cE fJ mM (cE oT KL (aF 3) aP) aP) aP) (aF 3))) aP))
 (aS (ss 6 nd (cE oT KL (cE bM eA (cE bM eA (cE fJ mM (aF 6) (aF 6)) (cE fJ mM aP (aF 6))) (aF 3)) aP))
 (bH (cG (cE oT KL (cE oT KL (cE fJ mM (aF 6) aP) aP) (aF 1)))))))))))),?_⟩
 show gL _ _ _ [.val (kK ns),.val (.int m),.un,.un,.un,.un,.un];have n:(0:Int)<60:=by decide
 refine bX (.list (ns.map bO)) (λq e=>⟨ns,kA,e⟩) ?_;refine fC (λd=>∃a:Int,d=.int a/\0<=a) (λq e=>⟨ns,kA,λa o=>e _ ⟨a,kA,o⟩⟩) ?_;rintro _ ⟨a,rfl,o⟩;refine HS ns kA (a+1) (λq e=>⟨_,kA,e⟩) hG ?_;refine bX (.int 0) (λq e=>e) ?_;refine C5 (0<ns.length) (λd=>∃c:Int,d=.int c) (λq e=>⟨_,kA,e _ λs=>?_⟩) (λp q e=>?_) (.int 0) kA ⟨0,kA⟩ ?_
 ·have k:((ns.map bO).length:Int)>0:=b8 s;rw[aA]at k;lia
 ·have r:(0:Int)<((ns.map bO).length:Nat):=by rw[aA];lia
  refine⟨_,kA,ns,kA,λc L=>?_⟩;show(if decide (c=1)=true then _ else _);split
  ·obtain⟨x,l⟩:=MS p (a / 60);exact⟨_,kA,⟨gV,gV⟩,_,kA,r,_,l,e _ ⟨x,kA⟩⟩
  ·obtain⟨x,l⟩:=MS p a;exact⟨_,kA,_,kA,r,_,l,e _ ⟨x,kA⟩⟩
 rintro _ ⟨c,rfl⟩;refine eZ (λ_=>True) (λq e=>⟨ns,kA,λw hw=>e _ trivial⟩) (λ_=>?_) λ_=>?_
 ·refine eZ (λ_=>True) (λq e=>⟨_,kA,n,e _ trivial⟩) (λ_=>?_) λ_=>?_
  ·refine IG ns kA (c / 2) (λq e=>⟨_,kA,⟨gV,gV⟩,e⟩) ?_;dsimp only;refine fC (λd=>∃b:Int,d=.int b) (λq e=>⟨ns,kA,λb=>e _ ⟨b,kA⟩⟩) ?_;rintro _ ⟨b,rfl⟩;refine xS ns kA (b / m) (λq e=>⟨_,kA,_,kA,⟨f,hG⟩,e⟩) ?_;exact⟨_,kA,_,kA,f,h _ (jX _ hG) (iM _ f)⟩
  ·unfold iI;dsimp only;refine fC (λd=>∃b:Int,d=.int b) (λq e=>⟨ns,kA,λb=>e _ ⟨b,kA⟩⟩) ?_;rintro _ ⟨b,rfl⟩;refine xS ns kA (b / m) (λq e=>⟨_,kA,_,kA,⟨f,hG⟩,e⟩) ?_;exact⟨_,kA,_,kA,f,h _ (jX _ hG) (iM _ f)⟩
 ·unfold iI;dsimp only;have q1:(0:Int)<1000003:=by decide
  have u:(0:Int)<997:=by decide
  have v:(0:Int)<1000033:=by decide
  have z:(0:Int)<999983:=by decide
  have C:(0:Int)<65537:=by decide
  have H:(0:Int)<=c%1000003/\c%1000003<1000003:=⟨jX _ gV,iM _ gV⟩;have E:(0:Int)<=a%997/\a%997<997:=⟨jX _ gV,iM _ gV⟩;refine fC (λd=>∃x:Int,d=.int x/\0<=x/\x<1000033) (λq e=>⟨_,kA,q1,_,kA,u,.inr ⟨gV,gV⟩,_,kA,.inl ⟨hG,hG⟩,v,e _ ⟨_,kA,jX _ gV,iM _ gV⟩⟩) ?_;rintro _ ⟨x,rfl,S,U⟩;refine fC (λd=>∃x:Int,d=.int x/\0<=x/\x<999983) (λq e=>⟨_,kA,_,kA,.inl ⟨hG,hG⟩,_,kA,.inl ⟨gV,gV⟩,_,kA,z,e _ ⟨_,kA,jX _ gV,iM _ gV⟩⟩) ?_;rintro _ ⟨y,rfl,W,y1⟩;exact⟨_,kA,.inl ⟨hG,hG⟩,C,_,kA,f,h _ (jX _ hG) (iM _ f)⟩
def WP:Ft P w base T.D_69 2 Qx:=by
 refine nA T.D_69.F Ob λv nd ds Q h=>?_;obtain⟨ns,m,rfl,u,mr,vg,h⟩:=h;refine⟨_,(aS (ss 2 nd cN)
 (aS (ss 3 nd (cd (nM T) v (aB (aF 0) (aB aP aH))))
 (aS (gU (dE iL lO (aF 3) aP)
 (aS (Yk (i:=4) nd kA (by first | exact h9 kA | exact g6 kA) (mJ (T6 (by repeat constructor))))
 (aS (ss 5 nd (cd (nM T) v (aB (aF 0) (aB aP aH))))
 (bH (cG (fP jA pC (cE bM eA (fP jA pC (aF 4) (gC (aF 5)) iK) (fP jA pC (aF 4) iK (gC (aF 5)))) iK (gC (aF 1)))))))
 fE)
 (aS (ss 6 nd (oI cN (aB (el (fr:=[none,some 2,some 0]) (N':=["_law_k","_law_letters","_law_tape_here"]) (tX (aB aP aH) (λh=>qR kA T.b_range h)) (λb=>⟨(dF (pk 0)),fR,(bJ aW cH (aF 1) (cd (nM T) v (aB (aF 2) (aB aP aH))))⟩)) aH) (λh ha=>iJ dG eX eW oH h ha)))
 (aS (gU (dE iL lO (aF 3) aP)
 (aS (ss 7 nd (cE bM eA aP (cd (nM T) v (aB (aF 0) (aB (cE rR II aP (aF 1)) aH)))))
 (aS (kD (i:=8) (fr:=[none,some 6,some 7]) (N':=["_law_k","_law_base","_law_size"]) (tX (aB (aF 1) aH) (λh=>qR kA T.b_range h)) (λb=>⟨(dF (pk 0)),fR,(fP jA pC (aF 1) iK (gC (cE bM eA (aF 2) (aF 0))))⟩) (λhi hY=>iP (show mZ _ (aU (top 89)) ["_law_tape_here","_law_many","_law_letters","_law_way","_law_some","_law_turn","_law_base","_law_size","_law_names_here","_law_at","_law_start"] ["_law_k","_law_base","_law_size"] [none,some 6,some 7]=true from by decide +kernel) nd kA (by first | exact h9 kA | exact g6 kA) kA hi hY kA))
 (aS (ss 5 nd (cd (nM T) v (aB (aF 0) (aB (aF 1) aH))))
 (bH (cG (cE bM eA (fP jA pC (aF 8) (gC (aF 5)) iK) (fP jA pC (aF 8) iK (gC (aF 5)))))))))
 fE)
 (aS (ss 7 nd (cE bM eA aP (cd (nM T) v (aB (aF 0) (aB aP aH)))))
 (aS (ss 9 nd (cd (nM T) v (aB (aF 0) (aB (aF 7) aH))))
 (aS (ss 10 nd (cd (nM T) v (aB (aF 0) (aB aP aH))))
 (bH (cG (el (fr:=[none,some 6,some 2,some 7,some 9,some 10]) (N':=["_law_k","_law_base","_law_letters","_law_size","_law_at","_law_start"]) (tX (aB (aF 1) aH) (λh=>qR kA T.b_range h)) (λb=>⟨(dF (pk 0)),fR,(cE bM eA (cE bM eA (fP jA pC (aF 1) iK (gC (aF 4))) (bJ aW cH (aF 2) (cE oT KL (cE bM eA (aF 5) (aF 0)) aP))) (fP jA pC (aF 1) (gC (cE bM eA (aF 4) aP)) (gC (aF 3))))⟩)))))))))))),?_⟩
 show gL _ _ _ [.val (kK ns),.val (.int m),.un,.un,.un,.un,.un,.un,.un,.un,.un];refine bX (.str iR) (λq f=>f) ?_;refine fC (λd=>∃w:Int,d=.int w) (λq f=>⟨_,kA,ns,4,kA,u,gV,gV,λr _ _=>f _ ⟨r,kA⟩⟩) ?_;rintro _ ⟨w,rfl⟩;have E:∀r:Int,0<=r->∃t:Nat,bO r=.int (t:Int)/\r=(t:Int):=λr g=>⟨r.toNat,by rw[eM g],(eM g).symm⟩;refine eZ (λb=>b=decide (w=0)) (λq f=>⟨_,kA,f _ kA⟩) (λ_=>?_) λ_=>?_
 ·refine bX (.list (B5.map aL)) (λq f=>⟨gV,f⟩) ?_;refine fC (λd=>∃t:Nat,d=.int (t:Int)) (λq f=>⟨_,kA,ns,12,kA,u,gV,gV,λr g _=>f _ ((E r g).imp λ_ e=>e.1)⟩) ?_;rintro _ ⟨t,rfl⟩;refine⟨_,kA,_,kA,_,kA,_,kA,?_,_,kA,?_⟩
  ·rw[kB,kB,aA,aA,AC,oE,eP,bD];show 12-t+min t 12<=100000;lia
  ·show Q (.list (iH (iH (B5.map aL) (some (t:Int)) none++iH (B5.map aL) none (some (t:Int))) none (some (m:Int))));rw[kB,kB,<- bT,kB,AC,oE,oE];exact h _ (GK Lg t hG)
 ·unfold iI;dsimp only;refine fC (λd=>∃z:Str,d=.str z/\z.cps.toList.length=8/\∀c∈z.cps.toList,c∈iR.cps.toList) (λq f=>?_) ?_
  ·refine⟨_,kA,?_⟩;refine IW (ts:=fW 8) (λR h=>⟨8,kA,gV,gV,h⟩) (λ_ _ y=>∃c,c∈iR.cps.toList/\y=.str ⟨#[c]⟩) gV (λj x q W f=>?_) λys o N=>?_
   ·refine⟨_,kA,_,kA,ns,26,kA,u,gV,gV,λr g H=>?_⟩;obtain⟨c,hc,ml,_⟩:=ER (xs:=iR.cps.toList) (i:=r) g (by rw[A0];exact H);exact⟨gV,c,ml,f _ ⟨c,hc,kA⟩⟩
   ·obtain⟨n,rfl,J⟩:=K9 (ys:=ys) λy gq=>by
     obtain⟨j,U,rfl⟩:=wI.mp gq;have qj:j<(fW 8).length:=by rw[<- o];exact U
     exact N j (fW 8)[j] _ (aD qj) (aD U)
    have p:n.length=8:=by rw[aA,oA]at o;exact o
    refine⟨n.map λc=>⟨#[c]⟩,by rw[aX];rfl,?_,f _ ⟨_,kA,?_,?_⟩⟩
    ·rw[aA,aX,p]
     have:(aVa ((λx:Str=>x.length)∘λc=>(⟨#[c]⟩:Str)) n).sum=n.length:=by
      clear p o N J
      induction n with
      |nil=>rfl
      |cons a l ih=>rw[bI,fD,ih,bN];show 1+_=_;lia
     rw[this,p];decide
    ·rw[show(Txt.join (c7 "") (n.map λc=>⟨#[c]⟩)).cps.toList=n from DX n];exact p
    ·rw[show(Txt.join (c7 "") (n.map λc=>⟨#[c]⟩)).cps.toList=n from DX n];exact J
  rintro _ ⟨z,rfl,C,S⟩
  have hz:z.length<=100000:=by
   have:z.length=z.cps.toList.length:=by simp[q9]
   lia
  refine eZ (λb=>b=decide (w=1)) (λq f=>⟨_,kA,f _ kA⟩) (λ_=>?_) λ_=>?_
  ·refine fC (λd=>∃k:Nat,d=.int (k:Int)/\1<=k/\k+m<=9) (λq f=>⟨_,kA,_,kA,ns,9-(m:Int),kA,u,hG,hG,λr g H=>f _ ⟨(1+r).toNat,by rw[eM hG],hG,hG⟩⟩) ?_;rintro _ ⟨k,rfl,L,qm⟩;refine bX (.list (((fZ m).map λj:Nat=>Txt.slice z none (some ((k:Int)+(j:Int)))).map aL)) (λq f=>?_) ?_
   ·refine gD (ts:=fW m) (λR h=>⟨_,kA,(m:Int),kA,hG,hG,by simpa using h⟩) (λx=>match x with | .int j=>.str (Txt.slice z none (some ((k:Int)+j))) | _=>.none) (by rw[oA];lia) (λx q W f=>?_) ?_
    ·obtain⟨j,U,rfl⟩:=aQ.mp W;exact⟨_,kA,_,kA,_,kA,hz,f⟩
    ·unfold fW;rw[aX];rw[aX]at f;exact f
   refine fC (λd=>∃t:Nat,d=.int (t:Int)) (λq f=>⟨_,kA,_,kA,ns,(m:Int),kA,u,hG,hG,λr g _=>f _ ((E r g).imp λ_ e=>e.1)⟩) ?_;rintro _ ⟨t,rfl⟩;have qy:=W3 C S L qm
   have fin:∀ys:List Str,HC m ys->(iH (ys.map aL) (some (t:Int)) none).length+(iH (ys.map aL) none (some (t:Int))).length<=100000/\Q (.list (iH (ys.map aL) (some (t:Int)) none++iH (ys.map aL) none (some (t:Int)))):=λys N=>by
    have H:=N.1;rw[kB,kB,<- bT,aA,aA,AC,oE,eP,bD];exact⟨hG,h _ (SK N t)⟩
   exact⟨_,kA,_,kA,_,kA,_,kA,fin _ qy⟩
  ·try unfold iI
   dsimp only;refine fC (λd=>∃k:Nat,d=.int (k:Int)/\1<=k/\k<=8) (λq f=>⟨_,kA,ns,8,kA,u,gV,gV,λr g H=>f _ ⟨(1+r).toNat,by rw[eM hG],hG,hG⟩⟩) ?_;rintro _ ⟨k,rfl,L,ql⟩;refine fC (λd=>∃t:Nat,d=.int (t:Int)/\t<k) (λq f=>⟨_,kA,_,kA,ns,(k:Int),kA,u,hG,hG,λr g H=>f _ ⟨r.toNat,by rw[eM g],hG⟩⟩) ?_;rintro _ ⟨t,rfl,jq⟩;refine fC (λd=>∃s:Nat,d=.int (s:Int)) (λq f=>⟨_,kA,ns,26,kA,u,gV,gV,λr g _=>f _ ((E r g).imp λ_ e=>e.1)⟩) ?_;rintro _ ⟨s,rfl⟩;refine gD (ts:=fW m) (λR h=>⟨_,kA,(m:Int),kA,hG,hG,by simpa using h⟩) (λx=>match x with | .int j=>.str (zG z t k (T1 ((s+j.toNat)%26))) | _=>.none) (by rw[oA];lia) (λx q W f=>?_) ?_
   ·obtain⟨j,U,rfl⟩:=aQ.mp W;have e:((s:Int)+(j:Int))%26=(((s+j)%26:Nat):Int):=by lia
    have hc:=CK (i:=(s+j)%26) (AL _ gV);have ou:L2.atI iR.cps.toList (((s:Int)+(j:Int))%26)=some (T1 ((s+j)%26)):=by rw[e];exact L2.eK hc
    obtain⟨w1,w2⟩:=M8 z C t k (T1 ((s+j)%26));exact⟨_,kA,_,kA,hz,_,kA,_,kA,_,kA,(show(0:Int)<26 by decide),gV,_,ou,w1,_,kA,_,kA,_,kA,hz,w2,f⟩
   ·unfold fW;rw[aX];have:=h _ (SJ C S (k:=k) (t:=t) (s:=s) (m:=m) ql jq hG);rw[aX]at this;exact this
def Le:Ft P w base T.D_70 3 Qy:=by
 refine nA T.D_70.F Oc λt nd ds Q h=>?_;obtain⟨ns,f,v,rfl,s,ux,uy,vm,vn,h⟩:=h;refine⟨_,(aS (ss 3 nd (cE bM eA aP (cd (nM T) t (aB (aF 0) (aB (aF 1) aH)))))
 (aS (ss 4 nd (cd (WP T) t (aB (aF 0) (aB (aF 3) aH))))
 (aS (so 5 nd aH)
 (aS (sf (tX (aB (aF 3) aH) (λh=>qR kA T.b_range h)) (dF (pn 6 nd))
 (aS (ss 7 nd (cE bM eA aP (cd (nM T) t (aB (aF 0) (aB (cE rR II (aF 2) aP) aH)))))
 (aS (ss 8 nd (aF 4))
 (aS (gU (xN (CS (dE AU pG (aF 7) (aF 3)) (zJ (dE AU pG (cd (nM T) t (aB (aF 0) (aB aP aH))) aP))))
 (bH (ss 8 nd (cd (WP T) t (aB (aF 0) (aB (aF 7) aH)))))
 fE)
 (bH (qB (i:=5) (pv 5) (dZ (aB (bJ aW cH (aF 4) (aF 6)) (aB (cY nQ (aB (fP jA pC (aF 8) iK (gC (aF 7))) aH) gI T.b_tuple kX) aH))) (pb:=λh=>jM (iJ cA eI eG kE (pv 5) h))))))))
 (oM 5 (bH (cG (dZ (aB (cY nQ (aB (aF 5) aH) gI T.b_tuple kX) (aB (cY nQ (aB (cd (WP T) t (aB (aF 0) (aB (cE bM eA aP (cd (nM T) t (aB (aF 0) (aB aP aH)))) aH))) aH) gI T.b_tuple kX) aH)))))))))),?_⟩
 show gL _ _ _ [.val (kK ns),.val (.int f),.val (.int v),.un,.un,.un,.un,.un,.un];refine fC (λd=>∃m:Nat,d=.int (m:Int)/\1<=m/\m<=f) (λq c=>⟨_,kA,_,kA,ns,(f:Int),kA,s,hG,hG,λr h0 y=>c _ ⟨(1+r).toNat,by rw[eM hG],hG,hG⟩⟩) ?_;rintro _ ⟨m,rfl,mr,vh⟩;refine fC (λd=>∃a,HC m a/\d=.list (a.map aL)) (λq c=>⟨_,kA,_,kA,ns,m,kA,s,mr,hG,λa u=>c _ ⟨a,u,kA⟩⟩) ?_;rintro _ ⟨a,u,rfl⟩;refine lC [] gV (λq c=>c) ?_
 refine jZ (ts:=fW m) (λR h=>⟨_,kA,(m:Int),kA,hG,hG,by simpa using h⟩)
  (λj σ=>∃(fs:List (Str×List Str))(s6 s7 s8:Sl),σ=[.val (kK ns),.val (.int f),.val (.int v),.val (.int m),.val (.list (a.map aL)),.own (fs.map iN),s6,s7,s8]/\fs.map (·.1)=a.take j/\∀x∈fs,2<=x.2.length/\x.2.length<=v/\HC x.2.length x.2) ⟨[],_,_,_,kA,hH,λx hx=>by simp at hx⟩ (λj x t6 hx N=>?_) λt6 N=>?_
 ·obtain⟨hj,rfl⟩:=D0 hx;obtain⟨fs,s6,s7,s8,rfl,l,p⟩:=N;have E:j<a.length:=by rw[u.1];exact hj
  have C:fs.length<=j:=by
   have:=e5 jK l;rw[aA,bD]at this;lia
  refine fC (λd=>∃k:Nat,d=.int (k:Int)/\2<=k/\k<=v) (λq c=>⟨_,kA,_,kA,ns,(v:Int)-1,kA,s,hG,hG,λr h0 y=>c _ ⟨(2+r).toNat,by rw[eM hG],hG,hG⟩⟩) ?_;rintro _ ⟨k,rfl,U,qo⟩;refine bX (.list (a.map aL)) (λq c=>⟨_,kA,c⟩) ?_
  have fin:∀(o:List Str)(n:Nat),HC n o->k<=n->∃(g:List (Str×List Str)),g.map (·.1)=a.take (j+1)/\(∀x∈g,2<=x.2.length/\x.2.length<=v/\HC x.2.length x.2)/\g.map iN=fs.map iN++[iN (a[j],o.take k)]:=λo n hw W=>by
   have hk:=SL hw W;refine⟨fs++[(a[j],o.take k)],?_,λx hx=>?_,by rw[bT];rfl⟩
   ·rw[bT,l,cI,aD E];rfl
   ·rcases cL.mp hx with hx | hx
    ·exact p x hx
    ·rw[bP.mp hx];show 2<=(o.take k).length/\(o.take k).length<=v/\HC (o.take k).length (o.take k);rw[hk.1];exact⟨U,qo,hk⟩
  have H:L2.atI (a.map aL) (j:Int)=some (.str a[j]):=ZJ E;refine eZ (λb=>b=false->k<=m) (λq c=>?_) (λ_=>?_) λhF=>?_
  ·refine⟨_,kA,_,kA,?_⟩;show(if decide ((k:Int)>(m:Int))=true then _ else _);by_cases e:(k:Int)>(m:Int)
   ·rw[a9 (b0 e)];exact c _ λz=>by cases z
   ·rw[a8 (by simpa using e)];exact⟨_,kA,ns,4,kA,s,gV,gV,λr _ _=>c _ λ_=>by lia⟩
  ·refine⟨_,kA,_,kA,ns,k,kA,s,hG,hG,λo hw=>?_⟩;obtain⟨g,y,J,L⟩:=fin o k hw (aN _);refine pB (ts:=fs.map iN) (iN (a[j],o.take k)) kA (by rw[aA];lia) (λq c=>⟨_,kA,_,kA,_,H,_,kA,_,kA,?_⟩) ⟨g,_,_,_,by rw[L];rfl,y,J⟩;show _/\q (.tuple [.str a[j],.tuple (iH (o.map aL) none (some (k:Int)))]);rw[kB,oE];exact⟨hI,c⟩
  ·unfold iI;dsimp only;obtain⟨g,y,J,L⟩:=fin a m u (hF kA);refine pB (ts:=fs.map iN) (iN (a[j],a.take k)) kA (by rw[aA];lia) (λq c=>⟨_,kA,_,kA,_,H,_,kA,_,kA,?_⟩) ⟨g,_,_,_,by rw[L];rfl,y,J⟩;show _/\q (.tuple [.str a[j],.tuple (iH (a.map aL) none (some (k:Int)))]);rw[kB,oE];exact⟨hI,c⟩
 ·obtain⟨fs,s6,s7,s8,rfl,l,p⟩:=N;rw[oA,fF (by rw[u.1];exact aN _)]at l
  have C:fs.length=m:=by
   have:=e5 jK l;rw[aA,u.1]at this;exact this
  refine⟨_,kA,_,kA,_,kA,_,kA,ns,3,kA,s,gV,gV,λr h0 y=>⟨ns,(2+r).toNat,by rw[eM hG],s,hG,hG,λan ha=>⟨hI,?_⟩⟩⟩;have S:=ha.1;refine h fs an ⟨hG,hG,by rw[l,C];exact u,λx hx=>?_,hG,hG,by rw[S];exact ha,hG⟩ hG λx hx=>(p x hx).2.1;obtain⟨x1,x2,x3⟩:=p x hx;exact⟨x1,hG,x3⟩
def Dq:Ft P w base T.D_78 2 Rh:=by
 refine nA T.D_78.F Ol λU nd ds Q h=>?_;obtain⟨ns,fs,an,rfl,N,F,h⟩:=h;refine⟨_,(aS (so 2 nd aH)
 (aS (sf (dP (bJ aW cH (aF 1) aP)) (lV (mW kA (eF (pn 3 nd) (eF (pn 4 nd) kQ))))
 (aS (ss 5 nd (bJ aW cH (aF 4) (cd (nM T) U (aB (aF 0) (aB (cB iS (aB (aF 4) aH) cO T.b_len fX) aH)))))
 (aS (gU (dE iL lO (cd (nM T) U (aB (aF 0) (aB aP aH))) aP)
 (bH (ss 5 nd oB))
 fE)
 (bH (qB (i:=2) (pv 2) (aF 5) (pb:=λh=>jM (iJ cA eI eG kE (pv 2) h)))))))
 (oM 2 (bH (cG (dZ (aB (cY nQ (aB (aF 2) aH) gI T.b_tuple kX) (aB (bJ aW cH (bJ aW cH (aF 1) aP) (cd (nM T) U (aB (aF 0) (aB (cB iS (aB (bJ aW cH (aF 1) aP) aH) cO T.b_len fX) aH)))) aH)))))))),?_⟩
 show gL _ _ _ [.val (kK ns),.val (dY fs an),.un,.un,.un,.un];have n5:=F.n5;refine lC [] hI (λq n=>n) ?_
 refine jZ (ts:=fs.map iN) (λR h=>⟨_,kA,_,kA,_,kA,h⟩)
  (λi W=>∃(b:List D)(s3 p s:Sl),W=[.val (kK ns),.val (dY fs an),.own b,s3,p,s]/\b.length=i/\∀(k:Nat) f c,fs[k]?=some f->b[k]?=some c->KJ f c=true) ⟨[],_,_,_,kA,kA,λk f c _ e=>by simp at e⟩ (λi x t6 hx y=>?_) λt6 y=>?_
 ·obtain⟨b,s3,p,s,rfl,l,m⟩:=y;rw[aM]at hx;obtain⟨f,H,rfl⟩:=bZ.mp hx;have o:=aV H;have qh:=(aG.mp H).1;have v2:=(F.vs f o).1;have v5:=(F.vs f o).2.1;refine⟨_,_,kA,?_⟩
  have next:∀d:D,KJ f d=true->(∃(j:List D)(s3 p s:Sl),[Sl.val (kK ns),.val (dY fs an),.own (b++[d]),.val (.str f.1),.val (.tuple (f.2.map aL)),.val d]=[.val (kK ns),.val (dY fs an),.own j,s3,p,s]/\j.length=i+1/\∀(k:Nat) g c,fs[k]?=some g->j[k]?=some c->KJ g c=true):=λd hd=>
   ⟨_,_,_,_,kA,by rw[aZ];show _+1=_;lia,λk g c J e=>by
    by_cases hk:k<b.length
    ·rw[eE hk]at e;exact m k g c J e
    ·rw[dW hG]at e
     have L:k=i:=by
      have:=(aG.mp e).1;simp at this;lia
     subst L;rw[H]at J;cases J;rw[show k-b.length=0 by lia]at e;cases e;exact hd⟩
  refine fC (λd=>KJ f d=true) (λq n=>⟨_,kA,_,kA,_,kA,ns,(f.2.length:Int),by rw[aA],N,hG,hG,λr u v=>?_⟩) ?_
  ·obtain⟨t,S,C,_⟩:=ER (xs:=f.2.map aL) (i:=r) u (by rw[aA];exact v);obtain⟨z,hz,rfl⟩:=aQ.mp S;exact⟨_,C,n _ (b0 hz)⟩
  intro d hd;refine Zh (λ_=>True) (λW=>∃d:D,KJ f d=true/\W=[.val (kK ns),.val (dY fs an),.own b,.val (.str f.1),.val (.tuple (f.2.map aL)),.val d]) (λq n=>⟨_,kA,ns,5,kA,N,gV,gV,λr _ _=>n _ trivial⟩) (λ_ uk hD=>hD _ ⟨.none,kA,kA⟩) (λ_=>⟨d,hd,kA⟩) ?_;rintro _ ⟨d,hd,rfl⟩;exact pB d kA hG (λq n=>⟨_,kA,n⟩) (next d hd)
 ·obtain⟨b,s3,p,s,rfl,l,m⟩:=y;rw[aA]at l;refine⟨_,kA,_,kA,_,kA,_,kA,_,kA,_,kA,_,kA,ns,(an.length:Int),by rw[aA],N,by have:=F.a2;lia,by have:=F.a4;lia,λr u v=>?_⟩;obtain⟨t,S,C,_⟩:=ER (xs:=an.map aL) (i:=r) u (by rw[aA];exact v);obtain⟨a,E,rfl⟩:=aQ.mp S;exact⟨_,C,hI,h (b,a) ⟨Kb l m,E⟩⟩
def P0:Ft P w base T.D_73 1 Rb:=by
 refine nA T.D_73.F Of λW nd ds Q h=>?_;obtain⟨fs,an,k,n,v,s,jN,t,rfl,F,g,hs,hc,h⟩:=h;refine⟨_,(aS (Yl (bJ aW cH (aF 1) aP) (GY (mW kA (eF (pn 3 nd) (eF (pn 4 nd) (eF (pn 5 nd) kQ))))) (λhe hg=>DA he hg))
 (aS (ss 6 nd (vD (el (fr:=[none]) (N':=["_law_field"]) (dP (bJ aW cH (aF 0) aP)) (λb=>⟨(dF (pk 0)),fR,(bJ aW cH (aF 0) aP)⟩)) (aB (aF 4) aH) (λh y=>iJ cA nC nB (uX W) h y)))
 (aS (ss 7 nd (bJ aW cH (bJ aW cH (bJ aW cH (aF 0) aP) (aF 6)) aP))
 (aS (gU (dE IE P4 (bJ aW cH (aF 2) (aF 6)) oB)
 (bH (cG (bJ aW cH (aF 1) aP)))
 fE)
 (aS (gU (xN (CS (dE iL lO (bJ aW cH (aF 2) (aF 6)) (aF 5)) (zJ (xN (NB (dE iL lO (aF 3) cN) (HN (dE PZ pG (EA (aF 7) (aB (bJ aW cH (aF 2) (aF 6)) aH) (λh y=>iJ qI qH qG (DM W) h y)) (EA (aF 7) (aB (aF 5) aH) (λh y=>iJ qI qH qG (DM W) h y)))))))))
 (bH (cG cN))
 fE)
 (bH (cG cN))))))),?_⟩
 show gL _ _ _ [.val (dY fs an),.val (.tuple (.str "ask"::.tuple [.str k,.str n,.str v]::.str s::jN)),.val (.tuple t),.un,.un,.un,.un,.un];obtain⟨kl,L⟩:=lQ hc;have n5:=F.n5;obtain⟨d,r,m,p,C,S⟩:=I0 F g
 generalize jx fs n=j at r
 have kr:=(aG.mp r).1;have ej:(fs.map (·.1)).idxOf n=j:=by rw[<- p];exact B6 F r
 have U:n∈fs.map (·.1):=aQ.mpr ⟨d,m,p⟩;have i:t[j]?=some t[j]:=aD hG
 generalize ml:t[j]=c at i
 have o:L2.atI t (j:Int)=some c:=L2.eK i;have N:L2.atI (fs.map iN) (j:Int)=some (iN d):=L2.eK (by rw[aM,r];rfl);have hok:=L j d c r i;rw[xQ F r i p]at h;refine VJ (a:=.str k) (b:=.str n) (c:=.str v) (λq g=>⟨_,kA,_,L2.eK (j:=1) kA,g⟩) ?_;refine bX (.int (j:Int)) (λq g=>?_) ?_
 ·dsimp only[CH];refine gD (ts:=fs.map iN) (λR h=>⟨_,kA,_,kA,_,kA,h⟩) fst (by rw[aA];lia) (λx q hx g=>?_) ?_
  ·obtain⟨f,hf,rfl⟩:=aQ.mp hx;exact⟨_,kA,_,kA,g⟩
  ·have e:(fs.map iN).map fst=(fs.map (·.1)).map aL:=by rw[aX,aX];rfl
   rw[e];have:=qT F.nd.2.1 U;rw[ej]at this;exact⟨_,kA,_,kA,_,j,kA,this,hG,g⟩
 refine bX (.tuple (d.2.map aL)) (λq g=>⟨_,kA,_,kA,_,kA,_,N,_,kA,g⟩) ?_;refine eZ (λb=>b=rY c) (λq g=>⟨_,kA,_,kA,_,o,g _ kA⟩) (λJ=>?_) λH=>?_
 ·cases c with
  |none=>exact⟨_,kA,_,L2.eK (j:=2) kA,h⟩
  |_=>cases J
 try unfold iI
 dsimp only
 cases c with
 |none=>cases H
 |str z=>
  have hz:z∈d.2:=b8 hok;have i1:=qT (F.vals m) hz;have i2:=qT (F.vals m) C;have vq:=(F.vs d m).2.2.2.2;have u:Q (.str (if k="is" then(if z=v then "yes" else "no")else if d.2.idxOf z<=d.2.idxOf v then "yes" else "no")):=h
  have key:(if(decide (z=v)||(decide (k="upto")&&decide ((d.2.idxOf z:Int)<(d.2.idxOf v:Int))))=true then("yes":Str)else "no")=(if k="is" then(if z=v then("yes":Str)else "no")else if d.2.idxOf z<=d.2.idxOf v then("yes":Str)else "no"):=by
   by_cases e:z=v
   ·subst e;rw[b0 kA,aJv,a9 rfl];split
    ·exact(a9 kA).symm
    ·exact(a9 (aN _)).symm
   ·rw[b7 e,zB];rcases S with rfl | rfl
    ·rw[a9 kA,a8 e,a8];rw[b7 eH];simp
    ·rw[a8 (show¬("upto":Str)="is" by decide +kernel),b0 kA,lJ]
     have bn:d.2.idxOf z≠d.2.idxOf v:=λz'=>e (by
      have h1:=nF (kC.mpr hz);have h2:=nF (kC.mpr C);rw[<- h1,<- h2];congr 1)
     by_cases l:d.2.idxOf z<=d.2.idxOf v
     ·rw[a9 l,a9 (b0 hG)]
     ·rw[a8 l,a8 (by rw[b7 hG];decide)]
  rw[<- key]at u;refine eZ (λb=>b=(decide (z=v)||(decide (k="upto")&&decide ((d.2.idxOf z:Int)<(d.2.idxOf v:Int))))) (λq g=>⟨_,kA,_,kA,_,o,_,kA,?_⟩) (λJ=>?_) λH=>?_
  ·show(if decide (z=v)=true then q true else _);by_cases e:z=v
   ·rw[a9 (b0 e)];exact g _ (by rw[b0 e];rfl)
   ·rw[a8 (by rw[b7 e];decide)];refine⟨_,kA,?_⟩;show(if decide (k="upto")=true then _ else q false);by_cases E:k="upto"
    ·rw[a9 (b0 E)];refine⟨_,kA,_,kA,_,kA,_,kA,_,o,_,_,kA,i1,_,kA,_,kA,_,kA,_,_,kA,i2,?_⟩;refine g _ ?_;rw[b7 e,b0 E];rfl
    ·rw[a8 (by rw[b7 E];decide)];exact g _ (by rw[b7 e,b7 E];rfl)
  ·rw[<- J,a9 rfl]at u;exact u
  ·try unfold iI
   dsimp only;rw[<- H,a8 gV]at u;exact u
 |_=>cases hok
def Mh:Ft P w base T.D_74 1 Rc:=by
 refine nA T.D_74.F Og λL nd J Q h=>?_;obtain⟨fs,an,rfl,F,h⟩:=h;refine⟨_,(aS (so 1 nd aH)
 (aS (sf (dP (bJ aW cH (aF 0) aP)) (lV (mW kA (eF (pn 2 nd) (eF (pn 3 nd) kQ))))
 (bH (gU (dE iL lO (cB iS (aB (aF 3) aH) cO T.b_len fX) aP)
 (bH (qB (i:=1) (pv 1) (dZ (aB cN (aB (aF 2) (aB (bJ aW cH (aF 3) aP) aH)))) (pb:=λh=>jM (iJ cA eI eG kE (pv 1) h))))
 (aS (sF 1 nd (QM (pv 1) (el (fr:=[none,some 2]) (N':=["_law_value","_law_name"]) (dP (aF 3)) (λb=>⟨(dF (pk 0)),fR,(dZ (aB cN (aB (aF 1) (aB (aF 0) aH))))⟩))))
 (bH (sF 1 nd (QM (pv 1) (el (fr:=[none,some 2]) (N':=["_law_value","_law_name"]) (dP (fP jA pC (aF 3) (gC aP) (gC (cE rR II (cB iS (aB (aF 3) aH) cO T.b_len fX) aP)))) (λb=>⟨(dF (pk 0)),fR,(dZ (aB cN (aB (aF 1) (aB (aF 0) aH))))⟩)))))))))
 (oM 1 (bH (cG (aF 1)))))),?_⟩
 show gL _ _ _ [.val (dY fs an),.un,.un,.un];have n5:=F.n5;refine lC [] hI (λq a=>a) ?_
 refine jZ (ts:=fs.map iN) (λR h=>⟨_,kA,_,kA,_,kA,h⟩)
  (λi H=>∃k s3:Sl,H=[.val (dY fs an),.own (gG (fs.take i)),k,s3]) ⟨_,_,kA⟩ (λi x l d j=>?_) λl j=>?_
 ·obtain⟨k,s3,rfl⟩:=j;rw[aM]at d;obtain⟨f,c,rfl⟩:=bZ.mp d;have y:=aV c;obtain⟨S,U,E⟩:=F.vs f y;have v:=mY F (fs.take i) λg z=>dU z;have C:(fs.take i).length<=5:=by rw[bD];lia
  have e:gG (fs.take (i+1))=gG (fs.take i)++KI f:=by
   unfold gG;rw[cI,c,bT,UE];show _++[KI f].flatten=_;rw[M3]
  refine⟨_,_,kA,?_⟩;by_cases m:f.2.length=2
  ·refine rT (λb=>b=true) (λq a=>⟨_,kA,a _ (b0 (by rw[aA];lia))⟩) (λ_=>?_) λt=>by cases t
   have n:f.2[0]?=some (f.2[0]' hG):=aD hG
   have s:KI f=[wj "is" f (f.2[0]' hG)]:=by
    have p:vP f=[]:=by
     unfold vP;rw[show f.2.length-3=0 by lia];rfl
    unfold KI;rw[p];unfold C7;rw[a9 m]
    have o:f.2.take 1=[f.2[0]' hG]:=by
     rw[cI,n];rfl
    rw[o];rfl
   refine pB (wj "is" f (f.2[0]' hG)) kA hG (λq a=>⟨_,kA,_,kA,_,L2.eK (by rw[aM,n];rfl),hI,a⟩) ⟨.val (.str f.1),.val (.tuple (f.2.map aL)),?_⟩;rw[e,s];rfl
  ·refine rT (λb=>b=false) (λq a=>⟨_,kA,a _ (b7 (by rw[aA];lia))⟩) (λu=>by cases u) λ_=>?_;refine(show gL (GE 1 _) _ _ _ from⟨_,kA,?_⟩);refine gD (ts:=f.2.map aL) (λR h=>⟨_,kA,_,kA,h⟩) (λx=>.tuple [.str "is",.str f.1,x]) (by rw[aA];lia) (λx q d a=>⟨_,kA,_,kA,hI,a⟩) ?_;rw[aX];refine⟨_,kA,by rw[aA];lia,?_⟩;dsimp only;refine(show GE 1 _ _ _ from⟨_,kA,?_⟩)
   have r:iH (f.2.map aL) (some 1) (some (((f.2.map aL).length:Int)-2))=(vP f).map aL:=by
    rw[aA,show(f.2.length:Int)-2=((f.2.length-2:Nat):Int) by lia];have:=Y4 (f.2.map aL) 1 (f.2.length-2);rw[show f.2.length-2-1=f.2.length-3 by lia]at this;unfold vP;rw[aJc,aJd];exact this
   have N:(vP f).length<=5:=by unfold vP;rw[bD,eP];lia
   refine gD (ts:=(vP f).map aL) (λR h=>?_) (λx=>.tuple [.str "upto",.str f.1,x]) (by rw[aA];lia) (λx q d a=>⟨_,kA,_,kA,hI,a⟩) ?_
   ·rw[<- r]at h;exact⟨_,kA,_,kA,_,kA,h⟩
   rw[aX];refine⟨_,kA,by rw[aZ,aA,aA];lia,.val (.str f.1),.val (.tuple (f.2.map aL)),?_⟩;rw[e];unfold KI C7;rw[a8 m,<- iA];rfl
 ·obtain⟨k,s3,rfl⟩:=j;rw[aA,dB];exact⟨_,kA,_,kA,by rw[<- B2];exact h⟩
def Dp:Ft P w base T.D_75 1 Re:=by
 refine nA T.D_75.F Oh λg nd j Q h=>?_;obtain⟨fs,an,c,rfl,F,hok,i,h⟩:=h;refine⟨_,(bH (cG (el (fr:=[none,some 1]) (N':=["_law_answer","_law_rows"]) (dP (bJ aW cH (aF 0) aP)) (λb=>⟨(dF (pk 0)),fR,(cB iS (aB (el (fr:=[none,some 0]) (N':=["_law_row","_law_answer"]) (dP (aF 1)) (λb=>⟨(dF (pk 0)),(pI (dE iL lO (bJ aW cH (aF 0) aP) (aF 1))),(aF 0)⟩)) aH) cO T.b_len fX)⟩)))),?_⟩;have a4:=F.a4;refine(gD (ts:=an.map aL) (λR h=>⟨_,kA,_,kA,_,kA,h⟩) (xz c) (by rw[aA];lia) (λx q f d=>?_) ?_)
 ·obtain⟨a,k,rfl⟩:=aQ.mp f;show kG (f1 Bd) _ _ _;dsimp only[kG,pA,vS];refine nO (ts:=c.map cV) (λR h=>⟨_,kA,_,kA,h⟩) (λx=>match x with | .tuple [_,.str z]=>decide (z=a) | _=>false) id (by rw[aA];lia) (λx q f d=>?_) (λx q f d=>⟨_,kA,d⟩) ?_
  ·obtain⟨r,g,rfl⟩:=aQ.mp f;exact⟨_,kA,_,kA,_,kA,d⟩
  ·rw[mG,lH]
   have e:((c.filter ((λx:D=>match x with | .tuple [_,.str z]=>decide (z=a) | _=>false)∘cV)).map cV).length=sR c a:=by
    rw[aA];unfold sR;rw[FH];rfl
   show q (.int ((((c.filter ((λx:D=>match x with | .tuple [_,.str z]=>decide (z=a) | _=>false)∘cV)).map cV).length:Nat):Int));rw[e];exact d
 ·show Q _
  have e:(an.map aL).map (xz c)=(iO an c).map bO:=by
   unfold iO;rw[aX,aX];rfl
  rw[e];exact h
def WO:Ft P w base T.D_76 2 Rf:=by
 refine nA T.D_76.F Oi λp nd s Q h=>?_;obtain⟨fs,an,d,rfl,F,hok,k,h⟩:=h;refine⟨_,(aS (ss 2 nd (cd (Dp T) p (aB (aF 0) (aB (aF 1) aH))))
 (bH (cG (cE rR II (cE fJ mM (cB iS (aB (aF 1) aH) cO T.b_len fX) (cB iS (aB (aF 1) aH) cO T.b_len fX)) (cB Cg (aB (el (fr:=[none]) (N':=["_law_count"]) (dP (aF 2)) (λb=>⟨(dF (pk 0)),fR,(cE fJ mM (aF 0) (aF 0))⟩)) aH) (wD kA) T.b_sum ZD))))),?_⟩
 show gL _ _ _ [.val (dY fs an),.val (.list (d.map cV)),.un];have a4:=F.a4;refine bX (.list ((iO an d).map bO)) (λq j=>⟨_,kA,_,kA,fs,an,d,kA,F,hok,k,j⟩) ?_;have g:(iO an d).length=an.length:=by unfold iO;rw[aA]
 have i:∀c∈iO an d,0<=c/\c<=(d.length:Int):=λc f=>by
  unfold iO at f;obtain⟨a,_,rfl⟩:=aQ.mp f;have:=Y6 d a;lia
 refine⟨_,kA,_,kA,.inl ⟨by rw[aA];lia,by rw[aA];lia⟩,?_⟩;show kG (f1 Be) _ _ _;dsimp only[kG,pA,vS];refine gD (ts:=(iO an d).map bO) (λR h=>⟨_,kA,_,kA,h⟩) Am (by rw[aA,g];lia) (λx q r j=>?_) ?_
 ·obtain⟨c,f,rfl⟩:=aQ.mp r;have:=i c f;exact⟨_,kA,_,kA,.inl ⟨hG,hG⟩,j⟩
 ·have e:((iO an d).map bO).map Am=((iO an d).map λc=>c*c).map bO:=by
   rw[aX,aX];rfl
  rw[e];refine⟨_,kA,λn o=>?_,by rw[aA,g];lia,?_⟩
  ·obtain⟨c,f,rfl⟩:=aQ.mp o;have:=i c f;have m:0<=c*c:=xG hG hG;have t:c*c<=60*60:=aJf hG hG hG hG;exact⟨m,hG⟩
  ·have l:=Uv F hok;show Q (.int ((((d.map cV).length:Nat):Int)*(((d.map cV).length:Nat):Int)-((iO an d).map λc=>c*c).sum));rw[aA,l];exact h
def Yu(dd:Nat)
  (W:Ft P w base T.D_77 (8+dd) (tF dd)):Fj P w base T.D_77 (8+dd+1) (jO K (tF (dd+1))):=by
 refine nA T.D_77.F Oj λL nd ds Q h=>?_;obtain⟨fs,an,f,d,m,rfl,F,o,hl,hd,hm,h⟩:=h;refine⟨_,(aS (ss 4 nd (cd (hk:=by lia) (Dp T) L (aB (aF 0) (aB (aF 1) aH))))
 (aS (ss 5 nd (dZ (aB cN (aB (bJ aW cH (bJ aW cH (aF 0) aP) (vD (aF 4) (aB (cB Cf (aB (aF 4) aH) (wE kA) T.b_max ZE) aH) (λh ha=>iJ cA nC nB (uX L) h ha))) aH))))
 (aS (gU (xN (CS (dE (DI L) qE (aF 2) aP) (zJ (dE (DI L) qE (aF 1) (mJ aH)))))
 (bH (cG (aF 5)))
 fE)
 (aS (ss 6 nd oB)
 (aS (ss 7 nd (cd (hk:=by lia) (WO T) L (aB (aF 0) (aB (aF 1) aH))))
 (aS (ss 8 nd (cB iS (aB (aF 1) aH) cO T.b_len fX))
 (aS (sf (dP (cd (hk:=by lia) (Mh T) L (aB (aF 0) aH))) (dF (pn 9 nd))
 (bH (sf (dP (mJ (aB cN (aB cN aH)))) (dF (pn 10 nd))
 (aS (ss 11 nd (dZ (aB cN (aB (aF 9) (aB (aF 10) aH)))))
 (aS (kD (i:=12) (fr:=[none,some 0,some 11]) (N':=["_law_row","_law_form_here","_law_knot"]) (dP (aF 1)) (λb=>⟨(dF (pk 0)),(pI (dE iL lO (cd (hk:=by lia) (P0 T) L (aB (aF 1) (aB (aF 2) (aB (bJ aW cH (aF 0) aP) aH)))) cN)),(aF 0)⟩) (λhi hY=>iP (show mZ _ (aU (top 97)) ["_law_form_here","_law_rows","_law_deep","_law_few","_law_counts_here","_law_leaf","_law_chosen","_law_least_top","_law_least_bottom","_law_question","_law_stray","_law_knot","_law_yes","_law_no","_law_top","_law_bottom"] ["_law_row","_law_form_here","_law_knot"] [none,some 0,some 11]=true from by decide +kernel) nd kA (by first | exact h9 kA | exact g6 kA) kA hi hY kA))
 (aS (kD (i:=13) (fr:=[none,some 0,some 11]) (N':=["_law_row","_law_form_here","_law_knot"]) (dP (aF 1)) (λb=>⟨(dF (pk 0)),(pI (dE iL lO (cd (hk:=by lia) (P0 T) L (aB (aF 1) (aB (aF 2) (aB (bJ aW cH (aF 0) aP) aH)))) cN)),(aF 0)⟩) (λhi hY=>iP (show mZ _ (aU (top 97)) ["_law_form_here","_law_rows","_law_deep","_law_few","_law_counts_here","_law_leaf","_law_chosen","_law_least_top","_law_least_bottom","_law_question","_law_stray","_law_knot","_law_yes","_law_no","_law_top","_law_bottom"] ["_law_row","_law_form_here","_law_knot"] [none,some 0,some 11]=true from by decide +kernel) nd kA (by first | exact h9 kA | exact g6 kA) kA hi hY kA))
 (bH (gU (xN (NB (dE GI pG (cB iS (aB (aF 12) aH) cO T.b_len fX) (aF 3)) (HN (dE GI pG (cB iS (aB (aF 13) aH) cO T.b_len fX) (aF 3)))))
 (aS (ss 14 nd (cE bM eA (cE fJ mM (cd (hk:=by lia) (WO T) L (aB (aF 0) (aB (aF 12) aH))) (cB iS (aB (aF 13) aH) cO T.b_len fX)) (cE fJ mM (cd (hk:=by lia) (WO T) L (aB (aF 0) (aB (aF 13) aH))) (cB iS (aB (aF 12) aH) cO T.b_len fX))))
 (aS (ss 15 nd (cE fJ mM (cB iS (aB (aF 12) aH) cO T.b_len fX) (cB iS (aB (aF 13) aH) cO T.b_len fX)))
 (bH (gU (dE PZ pG (cE fJ mM (aF 14) (aF 8)) (cE fJ mM (aF 7) (aF 15)))
 (aS (ss 6 nd (dZ (aB (aF 11) (aB (aF 12) (aB (aF 13) aH)))))
 (aS (ss 7 nd (aF 14))
 (bH (ss 8 nd (aF 15)))))
 fE))))
 fE))))))))
 (aS (gU (dE IE P4 (aF 6) oB)
 (bH (cG (aF 5)))
 fE)
 (aS (ss 12 nd (cd (hk:=by lia) W L (aB (aF 0) (aB (bJ aW cH (aF 6) aP) (aB (cE rR II (aF 2) aP) (aB (aF 3) aH))))))
 (bH (cG (cE bM eA (bJ aW cH (aF 6) aP) (dZ (aB (aF 12) (aB (cd (hk:=by lia) W L (aB (aF 0) (aB (bJ aW cH (aF 6) aP) (aB (cE rR II (aF 2) aP) (aB (aF 3) aH))))) aH))))))))))))))),?_⟩
 show gL _ _ _ [.val (dY fs an),.val (.list (f.map cV)),.val (.int d),.val (.int m),.un,.un,.un,.un,.un,.un,.un,.un,.un,.un,.un,.un];have a2:=F.a2;have a4:=F.a4;refine bX (.list ((iO an f).map bO)) (λq k=>⟨_,kA,_,kA,fs,an,f,kA,F,o,hl,k⟩) ?_;refine fC (λv=>∃a,uI an f a/\v=gE (.say a)) (λq k=>?_) ?_
 ·have bn:iO an f≠[]:=λz=>by
   have:=e5 jK z;unfold iO at this;rw[aA]at this;simp at this;rw[this]at a2;simp at a2
  refine⟨_,kA,_,kA,_,kA,_,kA,_,kA,_,kA,bn,λm hm jp=>?_⟩;obtain⟨j,hj,mu⟩:=D6 (iO an f) m hm;have kr:=(aG.mp hj).1;have on:(iO an f).length=an.length:=by unfold iO;rw[aA]
  have kj:an[j]?=some an[j]:=aD hG;have mm:(iO an f)[j]?=some ((sR f an[j]:Nat):Int):=by unfold iO;rw[aM,kj];rfl
  rw[hj]at mm;have em:m=((sR f an[j]:Nat):Int):=c5 mm;refine⟨_,j,kA,GJ hj mu,hG,_,L2.eK (by rw[aM,kj];rfl),hI,k _ ⟨_,⟨j,kj,λi b hb=>?_,λi b hi hb=>?_⟩,kA⟩⟩
  ·have:=jp ((sR f b:Nat):Int) (aV (i:=i) (by unfold iO;rw[aM,hb];rfl));lia
  ·have jk:(iO an f)[i]?=some ((sR f b:Nat):Int):=by unfold iO;rw[aM,hb];rfl
   have h1:=jp _ (aV jk);have h2:((sR f b:Nat):Int)≠m:=λz=>mu i hi (by rw[jk,z]);lia
 rintro _ ⟨a,ha,rfl⟩;have lj:=Bw F o hl
 have leaf:mE fs f m=none\/d=0->Q (gE (.say a)):=λz=>h _ (by
  cases d with
  |zero=>exact⟨a,ha,kA⟩
  |succ e=>
   unfold Gr;rw[z.resolve_right hG];exact⟨a,ha,kA⟩)
 refine eZ (λb=>b=(decide (d=0)||decide (f=[]))) (λq k=>?_) (λhT=>?_) λhF=>?_
 ·refine⟨_,kA,⟨kA,kA,hI⟩,?_⟩;show(if((d:Int)==0)=true then q true else _);by_cases z:d=0
  ·rw[a9 (by simp[z])];exact k _ (by rw[b0 z];rfl)
  ·rw[a8 (by simp[z])];refine⟨_,kA,hI,⟨lj.lay,kA,bE (sS _ _) hI⟩,?_⟩;refine k _ ?_;rw[b7 z,zB]
   cases f with
   |nil=>rfl
   |cons r f=>rfl
 ·refine⟨_,kA,leaf ?_⟩;have:=hT.symm;rw[jT,c6,c6]at this;rcases this with z | z
  ·exact .inr z
  ·subst z;exact .inl (ZI fs m)
 have hz:=hF.symm;rw[mH,z7,z7]at hz;obtain⟨oy,ry⟩:=hz;have hR:0<f.length:=UD.mpr ry
 try unfold iI
 dsimp only;refine bX .none (λq k=>k) ?_;refine bX (.int ((BF f f:Nat):Int)) (λq k=>⟨_,kA,_,kA,fs,an,f,kA,F,o,hl,k⟩) ?_;refine bX (.int (f.length:Nat)) (λq k=>⟨_,kA,?_⟩) ?_
 ·show q (.int (((f.map cV).length:Nat):Int));rw[aA];exact k
 have st:∀(S:Option Ch)(s9 s u C E H J:Sl),∃σ:List Sl,σ=[.val (dY fs an),.val (.list (f.map cV)),.val (.int d),.val (.int m),.val (.list ((iO an f).map bO)),.val (gE (.say a)),.val (yf fs f S),.val (.int ((ww fs f S:Nat):Int)),.val (.int ((wn fs f S:Nat):Int)),s9,s,u,C,E,H,J]:=λ_ _ _ _ _ _ _ _=>⟨_,kA⟩;clear st;have N:∀(p:Rw->Bool),(f.filter p).length<=60:=λp=>bE (bK _ _) hl
 refine jZ (ts:=(qs fs).map qD) (λR h=>⟨_,kA,fs,an,kA,F,_,kA,h⟩)
  (λi σ=>∃(s9 s u C E H J:Sl),σ=[.val (dY fs an),.val (.list (f.map cV)),.val (.int d),.val (.int m),.val (.list ((iO an f).map bO)),.val (gE (.say a)),.val (yf fs f ((((qs fs).take i).flatMap pQ).foldl (E9 fs f m) none)),.val (.int ((ww fs f ((((qs fs).take i).flatMap pQ).foldl (E9 fs f m) none):Nat):Int)),.val (.int ((wn fs f ((((qs fs).take i).flatMap pQ).foldl (E9 fs f m) none):Nat):Int)),s9,s,u,C,E,H,J]) ⟨_,_,_,_,_,_,_,kA⟩ (λi x t6 U hP=>?_) λt6 hP=>?_
 ·obtain⟨s9,s,u,C,E,H,J,rfl⟩:=hP;rw[aM]at U;obtain⟨q0,kx,rfl⟩:=bZ.mp U;have rn:=aV kx;have la:=IA rn
  have eT:((qs fs).take (i+1)).flatMap pQ=((qs fs).take i).flatMap pQ++pQ q0:=by
   rw[cI,kx,xJ];simp
  generalize ((qs fs).take i).flatMap pQ=pre at *
  rw[eT];refine(show VN _ _ _ _ _ from ?_)
  refine Bb (ts:=[.str "yes",.str "no"]) (λR h=>⟨hI,_,kA,h⟩)
   (λj σ=>∃(s u C E H J:Sl),σ=[.val (dY fs an),.val (.list (f.map cV)),.val (.int d),.val (.int m),.val (.list ((iO an f).map bO)),.val (gE (.say a)),.val (yf fs f ((pre++(pQ q0).take j).foldl (E9 fs f m) none)),.val (.int ((ww fs f ((pre++(pQ q0).take j).foldl (E9 fs f m) none):Nat):Int)),.val (.int ((wn fs f ((pre++(pQ q0).take j).foldl (E9 fs f m) none):Nat):Int)),.val (qD q0),s,u,C,E,H,J]) ?_ (λj x t6 U hP=>?_) λt6 hP=>?_
  ·rw[aF1,dH];exact⟨_,_,_,_,_,_,kA⟩
  ·obtain⟨s,u,C,E,H,J,rfl⟩:=hP
   obtain⟨st,rfl,lh,hc⟩:∃st:Str,x=.str st/\(st="yes"\/st="no")/\(pQ q0)[j]?=some (q0,st):=by
    have hj:j<2:=(aG.mp U).1;rcases(show j=0\/j=1 by lia)with rfl | rfl
    ·cases U;exact⟨_,kA,.inl kA,kA⟩
    ·cases U;exact⟨_,kA,.inr kA,kA⟩
   have e1:pre++(pQ q0).take (j+1)=(pre++(pQ q0).take j)++[(q0,st)]:=by
    rw[cI,hc,<- iA];rfl
   have e2:(pre++(pQ q0).take (j+1)).foldl (E9 fs f m) none=E9 fs f m ((pre++(pQ q0).take j).foldl (E9 fs f m) none) (q0,st):=by
    rw[e1,rC];rfl
   rw[e2]
   generalize (pre++(pQ q0).take j).foldl (E9 fs f m) none=S
   have g:∀l:List Rw,((((l.map cV).length:Nat)):Int)=(l.length:Int):=λl=>by rw[aA]
   refine(show gL _ _ _ _ from ?_);refine bX (.tuple [.str "ask",qD q0,.str st]) (λq k=>⟨_,kA,_,kA,hI,k⟩) ?_;refine bX (.list ((yR fs (q0,st) f).map cV)) (λq k=>?_) ?_
   ·refine nO (ts:=f.map cV) (λR h=>⟨_,kA,_,kA,h⟩) (yt fs q0 st "yes") id (by rw[aA];lia) (λx q U k=>?_) (λx q U k=>⟨_,kA,k⟩) ?_
    ·obtain⟨r,L,rfl⟩:=aQ.mp U;exact⟨_,kA,_,kA,_,kA,_,kA,fs,an,q0.1,q0.2.1,q0.2.2,st,[],r.1,kA,F,la,lh,(o r L).1,k⟩
    ·rw[QN];exact k
   refine bX (.list ((nR fs (q0,st) f).map cV)) (λq k=>?_) ?_
   ·refine nO (ts:=f.map cV) (λR h=>⟨_,kA,_,kA,h⟩) (yt fs q0 st "no") id (by rw[aA];lia) (λx q U k=>?_) (λx q U k=>⟨_,kA,k⟩) ?_
    ·obtain⟨r,L,rfl⟩:=aQ.mp U;exact⟨_,kA,_,kA,_,kA,_,kA,fs,an,q0.1,q0.2.1,q0.2.2,st,[],r.1,kA,F,la,lh,(o r L).1,k⟩
    ·rw[QN,xZ F la lh o];exact k
   have ly:(yR fs (q0,st) f).length<=60:=N (wh fs (q0,st));have ln:(nR fs (q0,st) f).length<=60:=N (λr=>!wh fs (q0,st) r);refine rT (λb=>b=okC fs f m (q0,st)) (λq k=>⟨_,kA,_,kA,?_⟩) (λhT=>?_) λhF=>?_
   ·show(if decide ((((((yR fs (q0,st) f).map cV).length:Nat)):Int)>=m)=true then _ else q false);rw[g];unfold okC at k;by_cases z:m<=((yR fs (q0,st) f).length:Int)
    ·rw[a9 (b0 z)];refine⟨_,kA,_,kA,?_⟩;refine k _ ?_;rw[b0 z,lJ,g]
    ·rw[a8 (by rw[b7 z];decide)];exact k _ (by rw[b7 z];rfl)
   ·have hok:=hT.symm;have uu:=VP (fs:=fs) hl (q0,st);have uv:=Ua (fs:=fs) hl S;refine bX (.int ((MX fs f (q0,st):Nat):Int)) (λq k=>⟨_,kA,_,kA,fs,an,yR fs (q0,st) f,kA,F,o.filt _,N _,_,kA,.inr ⟨by rw[g];lia,by rw[g];lia⟩,_,kA,_,kA,fs,an,nR fs (q0,st) f,kA,F,o.filt _,N _,_,kA,.inr ⟨by rw[g];lia,by rw[g];lia⟩,?_⟩) ?_
    ·have e:((MX fs f (q0,st):Nat):Int)=((BF (yR fs (q0,st) f) (yR fs (q0,st) f):Nat):Int)*(((nR fs (q0,st) f).map cV).length:Int)+((BF (nR fs (q0,st) f) (nR fs (q0,st) f):Nat):Int)*(((yR fs (q0,st) f).map cV).length:Int):=by
      unfold MX;rw[g,g,gS,dA,dA]
     rw[e]at k;exact k
    refine bX (.int ((KH fs f (q0,st):Nat):Int)) (λq k=>⟨_,kA,_,kA,.inr ⟨by rw[g];lia,by rw[g];lia⟩,?_⟩) ?_
    ·have e:((KH fs f (q0,st):Nat):Int)=(((yR fs (q0,st) f).map cV).length:Int)*(((nR fs (q0,st) f).map cV).length:Int):=by
      unfold KH;rw[g,g,dA]
     rw[e]at k;exact k
    have es:E9 fs f m S (q0,st)=if MX fs f (q0,st)*wn fs f S<ww fs f S*KH fs f (q0,st)then some (q0,st)else S:=a9 hok;rw[es];refine rT (λb=>b=decide (MX fs f (q0,st)*wn fs f S<ww fs f S*KH fs f (q0,st))) (λq k=>⟨_,kA,_,kA,.inr ⟨hG,hG⟩,_,kA,_,kA,.inr ⟨hG,hG⟩,?_⟩) (λhT=>?_) λhF=>?_
    ·refine k _ ?_;rw[i4,<- dA,<- dA,aRo]
    ·rw[a9 (b8 hT.symm)];refine bX (yf fs f (some (q0,st))) (λq k=>⟨_,kA,_,kA,_,kA,hI,k⟩) ?_;refine bX (.int ((MX fs f (q0,st):Nat):Int)) (λq k=>⟨_,kA,k⟩) ?_;exact rS (.int ((KH fs f (q0,st):Nat):Int)) (λq k=>⟨_,kA,k⟩) ⟨_,_,_,_,_,_,kA⟩
    ·rw[a8 (d9 hF.symm)];exact⟨_,_,_,_,_,_,kA⟩
   ·have es:E9 fs f m S (q0,st)=S:=a8 (by rw[<- hF];decide);rw[es];exact⟨_,_,_,_,_,_,kA⟩
  ·obtain⟨s,u,C,E,H,J,rfl⟩:=hP;exact⟨_,_,_,_,_,_,_,kA⟩
 ·obtain⟨s9,s,u,C,E,H,J,rfl⟩:=hP
  have eq:((qs fs).take ((qs fs).map qD).length).flatMap pQ=JP fs:=by
   rw[aA,dB];rfl
  rw[eq,Wi hm hR]
  cases eb:mE fs f m with
  |none=>
   refine eZ (λb=>b=true) (λq k=>⟨_,kA,k _ kA⟩) (λ_=>?_) λhF=>by cases hF
   exact⟨_,kA,leaf (.inl eb)⟩
  |some c=>
   refine eZ (λb=>b=false) (λq k=>⟨_,kA,k _ kA⟩) (λhT=>by cases hT) λ_=>?_
   try unfold iI
   dsimp only
   cases d with
   |zero=>exact b9 kA oy
   |succ e=>
    have es:((e+1:Nat):Int)-1=((e:Nat):Int):=by lia
    refine fC (λv=>∃y,Gr fs an m e (yR fs c f) y/\v=gE y) (λq de=>⟨_,kA,_,kA,_,kA,_,kA,_,kA,fs,an,_,e,m,by rw[<- es]<;>rfl,F,o.filt _,N _,hG,hm,λt ht=>de _ ⟨t,ht,kA⟩⟩) ?_;rintro _ ⟨y,h0,rfl⟩;refine⟨_,kA,_,kA,_,kA,_,kA,_,kA,_,kA,_,kA,_,kA,fs,an,_,e,m,by rw[<- es]<;>rfl,F,o.filt _,N _,hG,hm,λn h1=>⟨hI,hI,h (.ask c.1.1 c.1.2.1 c.1.2.2 c.2 y n) ?_⟩⟩;unfold Gr;rw[eb];exact⟨y,n,h0,h1,kA⟩
def Mi:Ft P w base T.D_77 15 Rg:=by
 have h:∀a:Nat,Ft P w base T.D_77 (8+a) (tF a):=λa=>by
  induction a with
  |zero=>exact uA oO λc Q h=>W9 h
  |succ a b=>exact Yu T a b
 exact h 7
def Gy:Fm P w K mg base pK 18 ir ["self","form","deep","least"] (IS B A K Bu):=by
 exact Fh T.D_0.F Hj kA T.C_Desk T.n_Desk_form T.n_Desk_book λa c outer s H E b=>(nJ (rQ (pv 0) (pv 1) kA) (B3 (rQ (pv 0) (PV T.K_Book (Hb T) (b.mono gV) kA T.x_Book T.D_4.d .nil kW (lE (pv 1) (lE (pv 2) (lE (pv 3) qC)))) kA)))
def Dh:Ft P w base T.D_47 3 Qc:=by
 refine nA T.D_47.F Nd λg nd i Q h=>?_;obtain⟨fs,an,fa,d,rfl,F,c,b,f,h⟩:=h;refine⟨_,(bH (cG (dZ (aB cN (aB (cd (Eg T) g (aB (aF 0) (aB (aF 1) aH))) aH))))),?_⟩;show BE _ _ [.val (dY fs an),.val (.list (d.map cV))]
 exact⟨_,kA,_,kA,fs,an,d,kA,F,b,f,λa e=>by
  rw[e.uniq (c d b)];exact⟨hI,h⟩⟩
def Di:Ft P w base T.D_48 5 Qd:=by
 refine nA T.D_48.F Nf λp nd H Q h=>?_;obtain⟨fs,an,k,n,v,s,y,m,c,rfl,F,o,t,e,g,h⟩:=h;refine⟨_,(bH (cG (el (fr:=[none,some 2]) (N':=["numbers","rows"]) (dP (YX (cQ (WT T) p (aB (aF 0) (aB (bJ aW cH (aF 1) aP) (aB (bJ aW cH (aF 1) aP) (aB (aF 2) aH))))))) (λb=>⟨(dF (pk 0)),fR,(cd (WS T) p (aB (aF 1) (aB (aF 0) aH)))⟩)))),?_⟩;show BE _ _ [.val (dY fs an),.val (gE (.ask k n v s y m)),.val (.list (c.map cV))];have J:(c.filter λr=>decide (eJ fs k n v s r.1="yes"))=c.filter (jD fs k n v s):=rfl;refine IW (ts:=[.list (iG fs k n v s c "yes"),.list (iG fs k n v s c "no")]) (λR h=>⟨_,kA,_,kA,_,kA,_,kA,_,kA,_,kA,fs,an,k,n,v,s,c,kA,F,o,t,e,g,_,kA,h⟩) (λi _ y=>(i=0->y=.list ((c.filter (jD fs k n v s)).map cV))/\(i=1->y=.list ((c.filter λr=>!jD fs k n v s r).map cV))) hI (λi x q j d=>?_) λE l f=>?_
 ·have L:i<2:=(aG.mp j).1;rcases(show i=0\/i=1 by lia)with rfl | rfl
  ·cases j;exact⟨_,kA,_,kA,fs,k,n,v,s,"yes",c,kA,g,d _ ⟨λ_=>rfl,λz=>by cases z⟩⟩
  ·cases j;refine⟨_,kA,_,kA,fs,k,n,v,s,"no",c,kA,g,?_⟩;rw[xZ F o t e];exact d _ ⟨(λz=>by cases z),λ_=>rfl⟩
 ·match E,l,f with
  |[a,b],_,f=>
   have u:=(f 0 _ a kA kA).1 kA;have C:=(f 1 _ b kA kA).2 kA;rw[u,C];exact h
def Dd:Ft P w base T.D_39 1 Pu:=by
 refine nA T.D_39.F Mv λb nd a Q h=>?_;obtain⟨k,n,v,s,y,m,sd,rfl,h⟩:=h;refine⟨_,(bH (cG (uC (dE iL lO (aF 1) cN) (bJ aW cH (aF 0) aP) (bJ aW cH (aF 0) aP)))),?_⟩;show BE _ _ [.val (gE (.ask k n v s y m)),.val (.str sd)];refine⟨_,kA,?_⟩;show(if decide (sd="yes")=true then _ else _);by_cases e:sd="yes"
 ·rw[a9 (b0 e)];rw[a9 e]at h;exact⟨_,kA,_,kA,h⟩
 ·rw[a8 (by simpa using e)];rw[a8 e]at h;exact⟨_,kA,_,kA,h⟩
def Kl:Fj P w base T.D_41 4 (iE K Pw):=by
 refine rA T.D_41.F Mx λj nd S Q h=>?_;obtain⟨fs,an,t,b,rfl,F,J,f,hd,h⟩:=h;refine⟨_,(aS (so 3 nd aH)
 (aS (ss 4 nd (aF 1))
 (aS (CZ (wL (tv (cd (xY T) j (aB (aF 4) aH))))
 (aS (ss 5 nd (cd (CD T) j (aB (aF 0) (aB (bJ aW cH (aF 4) aP) (aB (bJ aW cH (aF 4) aP) (aB (aF 2) aH))))))
 (aS (qB (i:=3) (pv 3) (dZ (aB (bJ aW cH (aF 4) aP) (aB (aF 5) aH))) (pb:=λh=>jM (iJ cA eI eG kE (pv 3) h)))
 (bH (ss 4 nd (cd (Dd T) j (aB (aF 4) (aB (aF 5) aH))))))) (λf x=>C8 o8 f x))
 (bH (qN (pv 3)))))),?_⟩
 show gL _ _ _ [.val (dY fs an),.val (gE t),.val (.tuple b),.un,.un,.un];refine lC [] gV (λq c=>c) ?_;refine bX (gE t) (λq c=>⟨_,kA,c⟩) ?_;refine zM (λn N=>∃(p:Tr)(done:List D)(l:Sl),N=[.val (dY fs an),.val (gE t),.val (.tuple b),.own done,.val (gE p),l]/\n=p.dep/\lZ fs an p/\done++sX fs p b=sX fs t b/\done.length+p.dep<=40) t.dep ⟨t,[],_,kA,kA,J,kA,by show 0+t.dep<=40;lia⟩ λn R u=>?_;obtain⟨p,done,l,rfl,rfl,E,d,z⟩:=u;refine⟨!QF p,λq c=>⟨_,kA,p,kA,c⟩,?_⟩
 cases p with
 |say a=>
  show(if false=true then _ else _);rw[a8 gV];have e:sX fs (.say a) b=[]:=rfl;rw[e,dH]at d;subst d;exact⟨_,kA,h⟩
 |ask k n v s y m=>
  show(if true=true then _ else _);rw[a9 rfl];obtain⟨c,H,L,C⟩:=E;have o:(Tr.ask k n v s y m).dep=max y.dep m.dep+1:=rfl;rw[o]at z |-
  refine bX (.str (eJ fs k n v s b)) (λq g=>⟨_,kA,_,kA,_,kA,_,kA,_,kA,_,kA,fs,an,k,n,v,s,b,kA,F,c,H,f,g⟩) ?_;refine Zg (ts:=done) (.tuple [.tuple [.str k,.str n,.str v],.str (eJ fs k n v s b)]) kA hG (λq c=>⟨_,kA,_,kA,_,kA,aC kA,c⟩) ?_;refine rS (gE (if eJ fs k n v s b="yes" then y else m)) (λq c=>⟨_,kA,_,kA,k,n,v,s,y,m,_,kA,c⟩) ?_
  have r:done++[.tuple [.tuple [.str k,.str n,.str v],.str (eJ fs k n v s b)]]++(if eJ fs k n v s b="yes" then sX fs y b else sX fs m b)=sX fs t b:=by
   rw[<- d,iA];rfl
  refine⟨(if eJ fs k n v s b="yes" then y else m).dep,?_,if eJ fs k n v s b="yes" then y else m,_,_,kA,kA,?_,?_,?_⟩
  ·split<;>lia
  ·split
   ·exact L
   ·exact C
  ·rw[<- r];congr 1;split<;>rfl
  ·rw[aZ,oQ];split<;>lia
def Km:Ft P w base T.D_42 5 Px:=by
 refine nA T.D_42.F My λf nd i Q h=>?_;obtain⟨fs,an,t,c,rfl,F,g,d,hd,h⟩:=h;refine⟨_,(bH (cG (cY nQ (aB (el (fr:=[none,none]) (N':=["question","side"]) (dP (wB (cF (Kl T) f (aB (aF 0) (aB (aF 1) (aB (aF 2) aH)))))) (λb=>⟨(lV (mW kA (eF (pk 0) (eF (pk 1) kQ)))),fR,(aF 1)⟩)) aH) gI T.b_tuple kX))),?_⟩;show kG (f1 wV) _ _ Q;dsimp only[kG,pA,vS];have j:=HJ (fs:=fs) t c;refine CA (ts:=sX fs t c) (λR h=>⟨_,kA,_,kA,_,kA,fs,an,t,c,kA,F,g,d,hd,_,kA,h⟩) RU hG (zI t c) (λa b q k e=>⟨_,kA,e⟩) ?_;rw[zH];exact h
def Ko:Ft P w base T.D_44 2 Pz:=by
 refine nA T.D_44.F Na λu nd W Q h=>?_;obtain⟨t,p,g,rfl,H,hd,h⟩:=h;refine⟨_,(aS (ss 2 nd (aF 0))
 (aS (sf (dP (aF 1)) (dF (pn 3 nd))
 (aS (gU (xN (CS (tv (cd (xY T) u (aB (aF 2) aH))) (zJ (dE (xW u) qE (aF 3) (CG kA T.c_SIDES T.t_SIDES)))))
 (bH vY)
 fE)
 (bH (ss 2 nd (cd (Dd T) u (aB (aF 2) (aB (aF 3) aH)))))))
 (bH (cG (aF 2))))),?_⟩
 show gL _ _ _ [.val (gE t),.val (.tuple (g.map aL)),.un,.un];have C:=ID H;refine bX (gE t) (λq j=>⟨_,kA,j⟩) ?_
 refine jZ (ts:=g.map aL) (λR h=>⟨_,kA,_,kA,h⟩)
  (λk U=>∃(x:Tr)(s3:Sl),U=[.val (gE t),.val (.tuple (g.map aL)),.val (gE x),s3]/\sM x (g.drop k)=some p) ⟨t,_,kA,H⟩ (λk d E J l=>?_) λE l=>?_
 ·obtain⟨x,s3,rfl,f⟩:=l;rw[aM]at J;obtain⟨sd,i,rfl⟩:=bZ.mp J;have o:=(aG.mp i).1
  have N:g.drop k=sd::g.drop (k+1):=by
   rw[KE o];congr 1;exact(aG.mp i).2
  rw[N]at f;have z:=C sd (aV i)
  cases x with
  |say a=>cases f
  |ask L n v s y m=>
   have c:(if sd="yes" then sM y (g.drop (k+1))else if sd="no" then sM m (g.drop (k+1))else none)=some p:=f;refine eZ (λb=>b=false) (λq j=>⟨_,kA,.ask L n v s y m,kA,?_⟩) (λS=>by cases S) λ_=>?_
   ·show(if false=true then _ else _);rw[a8 gV]
    have r:uW sd=true:=by
     rcases z with rfl | rfl
     ·exact IL
     ·exact P5
    refine⟨_,kA,IH (ys:=["yes","no"]) (λy hy=>?_) ((jR r (n:=8) (m:=0) (aN _)).cd gV),j _ ?_⟩
    ·rcases aR.mp hy with rfl | hy
     ·exact IL
     ·rw[bP.mp hy];exact P5
    ·have e:FM (.str sd) (.tuple ((["yes","no"]:List Str).map aL))=wA ["yes","no"] (.str sd):=yU _ _;show(!FM (.str sd) (.tuple ((["yes","no"]:List Str).map aL)))=false;rw[e]
     have:wA ["yes","no"] (.str sd)=true:=by
      refine b0 ?_;rcases z with rfl | rfl<;>simp
     rw[this];rfl
   try unfold iI
   dsimp only;refine rS (gE (if sd="yes" then y else m)) (λq j=>⟨_,kA,_,kA,L,n,v,s,y,m,sd,kA,j⟩) ⟨if sd="yes" then y else m,_,kA,?_⟩;rcases z with rfl | rfl
   ·rw[a9 rfl]at c |-
    exact c
   ·rw[a8 NZ,a9 rfl]at c;rw[a8 NZ];exact c
 ·obtain⟨x,s3,rfl,f⟩:=l;rw[aA,List.drop_length]at f;have:x=p:=by cases x<;>exact c5 f
  subst this;exact⟨_,kA,h⟩
def Kn:Ft P w base T.D_43 6 Py:=by
 refine nA T.D_43.F Mz λc nd e Q h=>?_;obtain⟨fs,an,t,a,rfl,F,d,b,hd,h⟩:=h;refine⟨_,(bH (cG (bJ aW cH (cd (Ko T) c (aB (aF 1) (aB (cd (Km T) c (aB (aF 0) (aB (aF 1) (aB (aF 2) aH)))) aH))) aP))),?_⟩;exact⟨_,kA,_,kA,_,kA,_,kA,fs,an,t,a,kA,F,d,b,hd,t,.say (vR fs t a),rM fs t a,kA,wQ F b t d,hd,_,kA,h⟩
def Yp(d:Nat)
  (c:Ft P w base T.D_40 (1+d) (qO d)):Fj P w base T.D_40 (1+d+1) (jO K (qO (d+1))):=by
 refine nA T.D_40.F Mw λf nd p Q h=>?_;obtain⟨t,rfl,hk,hd,h⟩:=h;refine⟨_,(aS (gU (tv (cd (hk:=by lia) (xY T) f (aB (aF 0) aH)))
 (bH (cG aP))
 fE)
 (bH (cG (cE bM eA (cE bM eA aP (cd (hk:=by lia) c f (aB (bJ aW cH (aF 0) aP) aH))) (cd (hk:=by lia) c f (aB (bJ aW cH (aF 0) aP) aH)))))),?_⟩
 show gL _ _ _ [.val (gE t)]
 cases t with
 |say a=>exact eZ (λb=>b=true) (λq e=>⟨_,kA,.say a,kA,e _ kA⟩) (λ_=>h) λl=>by cases l
 |ask k n v s y m=>
  have i:(Tr.ask k n v s y m).dep=max y.dep m.dep+1:=rfl;have g:(Tr.ask k n v s y m).kn=y.kn+m.kn+1:=rfl;rw[i]at hd;rw[g]at hk;refine eZ (λb=>b=false) (λq e=>⟨_,kA,.ask k n v s y m,kA,e _ kA⟩) (λo=>by cases o) λ_=>?_
  try unfold iI
  dsimp only;refine⟨_,kA,_,kA,y,kA,hG,hG,_,kA,_,kA,m,kA,hG,hG,?_⟩
  have j:(1:Int)+(y.kn:Int)+(m.kn:Int)=(((Tr.ask k n v s y m).kn:Nat):Int):=by
   rw[g];lia
  show Q (.int (1+(y.kn:Int)+(m.kn:Int)));rw[j];exact h
def WQ:Ft P w base T.D_40 42 Pv:=by
 have h:∀a:Nat,Ft P w base T.D_40 (1+a) (qO a):=λa=>by
  induction a with
  |zero=>exact uA oO λc Q h=>LR h
  |succ a b=>exact Yp T a b
 exact h 41
def P1:Ft P w base T.D_46 43 Qb:=by
 refine nA T.D_46.F Nc λd nd v Q h=>?_;obtain⟨fs,an,t,e,a,b,rfl,F,n,g,j,f,y,o,p,s,u,h⟩:=h;refine⟨_,(aS (kD (i:=4) (fr:=[none,some 0,some 1]) (N':=["row","form","tree"]) (dP (aF 2)) (λb=>⟨(dF (pk 0)),(pI (dE PY ya (cd (Kn T) d (aB (aF 1) (aB (aF 2) (aB (bJ aW cH (aF 0) aP) aH)))) (bJ aW cH (aF 0) aP))),(aF 0)⟩) (λm l=>iP (show mZ _ (aU (top 52)) ["form","tree","rows","prices","slips"] ["row","form","tree"] [none,some 0,some 1]=true from by decide +kernel) nd kA (by first | exact h9 kA | exact g6 kA) kA m l kA))
 (bH (cG (cE bM eA (cE fJ mM (bJ aW cH (aF 3) aP) (cB iS (aB (aF 4) aH) cO T.b_len fX)) (cE fJ mM (bJ aW cH (aF 3) aP) (cd (WQ T) d (aB (aF 1) aH))))))),?_⟩
 show gL _ _ _ [.val (dY fs an),.val (gE t),.val (.list (e.map cV)),.val (.tuple [.int a,.int b]),.un];refine bX (.list ((e.filter λr=>!decide (vR fs t r.1=r.2)).map cV)) (λq c=>?_) ?_
 ·refine nO (ts:=e.map cV) (λR h=>⟨_,kA,_,kA,h⟩) (λx=>match x with | .tuple [.tuple cs,.str w]=>!decide (vR fs t cs=w) | _=>false) id (by rw[aA];lia) (λx q k c=>?_) (λx q k c=>⟨_,kA,c⟩) ?_
  ·obtain⟨r,d,rfl⟩:=aQ.mp k;exact⟨_,kA,_,kA,_,kA,_,kA,fs,an,t,r.1,kA,F,n,(f r d).1,g,_,kA,_,kA,c⟩
  ·rw[mG,lH];exact c
 refine⟨_,kA,_,kA,_,kA,.inl ⟨hG,hG⟩,_,kA,_,kA,_,kA,t,kA,j,hG,.inl ⟨hG,hG⟩,?_⟩;show Q (.int (a*((((e.filter λr=>!decide (vR fs t r.1=r.2)).map cV).length:Nat):Int)+b*(t.kn:Nat)));rw[aA];exact h
def Kp:Ft P w base T.D_49 1 Qe:=by
 refine nA T.D_49.F Ng λd nd c Q h=>?_;obtain⟨a,b,rfl,h⟩:=h;refine⟨_,(bH (cG (dZ (aB (bJ aW cH (aF 0) aP) (aB (bJ aW cH (aF 0) aP) aH))))),?_⟩;show BE _ _ [.val (.tuple [a,b])];exact⟨_,kA,_,kA,_,kA,_,kA,hI,h⟩
def Yr(C:Nat)
  (g:Ft P w base T.D_51 (44+C) (tI C)):Fj P w base T.D_51 (44+C+1) (jO K (tI (C+1))):=by
 refine nA T.D_51.F Ni λj nd ds Q h=>?_;obtain⟨fs,an,fa,t,c,a,b,rfl,F,f,L,hd,e,E,o,p,u,x,h⟩:=h;refine⟨_,(aS (gU (tv (cd (hk:=by lia) (xY T) j (aB (aF 1) aH)))
 (bH (cG (dZ (aB (cd (hk:=by lia) (P1 T) j (aB (aF 0) (aB (aF 1) (aB (aF 2) (aB (aF 3) aH))))) (aB (aF 1) aH)))))
 fE)
 (aS (ss 4 nd (cd (hk:=by lia) (Dh T) j (aB (aF 0) (aB (aF 2) aH))))
 (aS (ss 5 nd (cd (hk:=by lia) (P1 T) j (aB (aF 0) (aB (aF 4) (aB (aF 2) (aB (aF 3) aH))))))
 (aS (ss 6 nd (cd (hk:=by lia) (Di T) j (aB (aF 0) (aB (aF 1) (aB (aF 2) aH)))))
 (aS (ss 7 nd (cd (hk:=by lia) g j (aB (aF 0) (aB (bJ aW cH (aF 1) aP) (aB (bJ aW cH (aF 6) aP) (aB (aF 3) aH))))))
 (aS (ss 8 nd (cd (hk:=by lia) g j (aB (aF 0) (aB (bJ aW cH (aF 1) aP) (aB (bJ aW cH (aF 6) aP) (aB (aF 3) aH))))))
 (aS (ss 9 nd (cE bM eA (cE bM eA (bJ aW cH (aF 3) aP) (bJ aW cH (aF 7) aP)) (bJ aW cH (aF 8) aP)))
 (aS (gU (dE LK pG (aF 5) (aF 9))
 (bH (cG (dZ (aB (aF 5) (aB (aF 4) aH)))))
 fE)
 (bH (cG (dZ (aB (aF 9) (aB (cE bM eA (fP jA pC (aF 1) iK (gC aP)) (dZ (aB (bJ aW cH (aF 7) aP) (aB (bJ aW cH (aF 8) aP) aH)))) aH))))))))))))),?_⟩
 show gL _ _ _ [.val (dY fs an),.val (gE t),.val (.list (c.map cV)),.val (.tuple [.int a,.int b]),.un,.un,.un,.un,.un,.un]
 have N:∀z:Str,a*(fT fs (.say z) c:Nat)+b*(((Tr.say z).kn:Nat):Int)=a*(fT fs (.say z) c:Nat):=λz=>by
  show _+b*0=_;rw[BV,O4]
 cases t with
 |say z=>
  refine eZ (λb=>b=true) (λq l=>⟨_,kA,.say z,kA,l _ kA⟩) (λ_=>?_) λS=>by cases S
  refine⟨_,kA,_,kA,_,kA,_,kA,fs,an,.say z,c,a,b,kA,F,L,cJ _,cJ _,e,E,o,p,u,x,_,kA,hI,?_⟩;rw[N];exact h
 |ask k n v s y m=>
  have R:(Tr.ask k n v s y m).dep=max y.dep m.dep+1:=rfl;rw[R]at hd;obtain⟨l,hs,hy,hm⟩:=L;have l1:=bK (jD fs k n v s) c;have l2:=bK (λr=>!jD fs k n v s r) c
  have H:lZ fs an (.say (fa c)):=by
   obtain⟨i,W,_⟩:=f c e;exact aV W
  refine eZ (λb=>b=false) (λq l=>⟨_,kA,.ask k n v s y m,kA,l _ kA⟩) (λU=>by cases U) λ_=>?_
  try unfold iI
  dsimp only;refine bX (gE (.say (fa c))) (λq d=>⟨_,kA,_,kA,fs,an,fa,c,kA,F,f,e,E,d⟩) ?_;refine bX (.int (a*(fT fs (.say (fa c)) c:Nat))) (λq d=>⟨_,kA,_,kA,_,kA,_,kA,fs,an,.say (fa c),c,a,b,kA,F,H,cJ _,cJ _,e,E,o,p,u,x,by rw[N];exact d⟩) ?_;refine bX (.list [.list ((c.filter (jD fs k n v s)).map cV),.list ((c.filter λr=>!jD fs k n v s r).map cV)]) (λq d=>⟨_,kA,_,kA,_,kA,fs,an,k,n,v,s,y,m,c,kA,F,l,hs,e,E,d⟩) ?_;refine bX (.tuple [.int (lw fs fa a b y (c.filter (jD fs k n v s))).1,gE (lw fs fa a b y (c.filter (jD fs k n v s))).2]) (λq d=>⟨_,kA,_,kA,_,kA,_,kA,_,kA,_,kA,fs,an,fa,y,_,a,b,kA,F,f,hy,hG,e.filt _,hG,o,p,u,x,d⟩) ?_;refine bX (.tuple [.int (lw fs fa a b m (c.filter λr=>!jD fs k n v s r)).1,gE (lw fs fa a b m (c.filter λr=>!jD fs k n v s r)).2]) (λq d=>⟨_,kA,_,kA,_,kA,_,kA,_,kA,_,kA,fs,an,fa,m,_,a,b,kA,F,f,hm,hG,e.filt _,hG,o,p,u,x,d⟩) ?_;refine bX (.int (b+(lw fs fa a b y (c.filter (jD fs k n v s))).1+(lw fs fa a b m (c.filter λr=>!jD fs k n v s r)).1)) (λq d=>⟨_,kA,_,kA,_,kA,_,kA,_,kA,_,kA,d⟩) ?_;have el:lw fs fa a b (.ask k n v s y m) c=if a*(fT fs (.say (fa c)) c:Nat)<=b+(lw fs fa a b y (c.filter (jD fs k n v s))).1+(lw fs fa a b m (c.filter λr=>!jD fs k n v s r)).1 then(a*(fT fs (.say (fa c)) c:Nat),.say (fa c))else(b+(lw fs fa a b y (c.filter (jD fs k n v s))).1+(lw fs fa a b m (c.filter λr=>!jD fs k n v s r)).1,.ask k n v s (lw fs fa a b y (c.filter (jD fs k n v s))).2 (lw fs fa a b m (c.filter λr=>!jD fs k n v s r)).2):=rfl;rw[el]at h;refine eZ (λz=>z=decide (a*(fT fs (.say (fa c)) c:Nat)<=b+(lw fs fa a b y (c.filter (jD fs k n v s))).1+(lw fs fa a b m (c.filter λr=>!jD fs k n v s r)).1)) (λq d=>⟨_,kA,_,kA,d _ kA⟩) (λJ=>?_) λJ=>?_
  ·rw[a9 (b8 J.symm)]at h;exact⟨_,kA,_,kA,hI,h⟩
  ·rw[a8 (d9 J.symm)]at h
   try unfold iI
   dsimp only;refine⟨_,kA,_,kA,_,kA,_,kA,_,kA,_,kA,hI,?_⟩;show xu (.tuple (iH [aL "ask",.tuple [.str k,.str n,.str v],.str s,gE y,gE m] none (some 3))) _ _;rw[Gg];exact⟨hI,hI,h⟩
def Kq:Ft P w base T.D_51 57 Qg:=by
 have h:∀a:Nat,Ft P w base T.D_51 (44+a) (tI a):=λa=>by
  induction a with
  |zero=>exact uA oO λc Q h=>XC h
  |succ a b=>exact Yr T a b
 exact h 13
def Dj:Ft P w base T.D_50 58 Qf:=by
 refine nA T.D_50.F Nh λe nd n Q h=>?_;obtain⟨fs,an,fa,t,f,a,b,rfl,F,c,m,hd,d,l,g,i,j,k,h⟩:=h;refine⟨_,(bH (cG (bJ aW cH (cd (Kq T) e (aB (aF 0) (aB (aF 1) (aB (aF 2) (aB (cd (Kp T) e (aB (aF 3) aH)) aH))))) aP))),?_⟩;show BE _ _ [.val (dY fs an),.val (gE t),.val (.list (f.map cV)),.val (.tuple [.int b,.int a])];exact⟨_,kA,_,kA,_,kA,_,kA,_,_,kA,fs,an,fa,t,f,a,b,kA,F,c,m,hd,d,l,g,i,j,k,_,kA,h⟩
def Ys(C:Nat)
  (l:Ft P w base T.D_54 (44+C) (tH C)):Fj P w base T.D_54 (44+C+1) (jO K (tH (C+1))):=by
 refine nA T.D_54.F Nl λg nd ds Q h=>?_;obtain⟨fs,an,fa,t,a,rfl,F,f,J,hd,o,p,d,u,j,h⟩:=h;refine⟨_,(aS (gU (tv (cd (hk:=by lia) (xY T) g (aB (aF 1) aH)))
 (bH (cG (dZ (aB (cd (hk:=by lia) (P1 T) g (aB (aF 0) (aB (aF 1) (aB (aF 2) (aB (dZ (aB aP (aB aP aH))) aH))))) (aB (mJ aH) aH)))))
 fE)
 (aS (ss 3 nd (cd (hk:=by lia) (Di T) g (aB (aF 0) (aB (aF 1) (aB (aF 2) aH)))))
 (aS (ss 4 nd (cd (hk:=by lia) l g (aB (aF 0) (aB (bJ aW cH (aF 1) aP) (aB (bJ aW cH (aF 3) aP) aH)))))
 (aS (ss 5 nd (cd (hk:=by lia) l g (aB (aF 0) (aB (bJ aW cH (aF 1) aP) (aB (bJ aW cH (aF 3) aP) aH)))))
 (aS (ss 6 nd (cE bM eA (bJ aW cH (aF 4) aP) (bJ aW cH (aF 5) aP)))
 (aS (ss 7 nd (cE rR II (cd (hk:=by lia) (P1 T) g (aB (aF 0) (aB (cd (hk:=by lia) (Dh T) g (aB (aF 0) (aB (aF 2) aH))) (aB (aF 2) (aB (dZ (aB aP (aB aP aH))) aH))))) (aF 6)))
 (bH (cG (dZ (aB (aF 6) (aB (cE bM eA (cE bM eA (mJ (aB (cd (hk:=by lia) (WU T) g (aB (aF 7) (aB (cd (hk:=by lia) (WQ T) g (aB (aF 1) aH)) aH))) aH)) (bJ aW cH (aF 4) aP)) (bJ aW cH (aF 5) aP)) aH))))))))))),?_⟩
 show gL _ _ _ [.val (dY fs an),.val (gE t),.val (.list (a.map cV)),.un,.un,.un,.un,.un];have one:∀z:Str,(1:Int)*(fT fs (.say z) a:Nat)+0*(((Tr.say z).kn:Nat):Int)=(fT fs (.say z) a:Nat):=λz=>by rw[aR6,Int.zero_mul,O4]
 cases t with
 |say z=>
  refine eZ (λb=>b=true) (λq x=>⟨_,kA,.say z,kA,x _ kA⟩) (λ_=>?_) λhF=>by cases hF
  refine⟨_,kA,_,kA,_,kA,hI,fs,an,.say z,a,1,0,kA,F,J,cJ _,cJ _,d,u,gV,gV,gV,gV,hI,hI,?_⟩;rw[one];exact h
 |ask k n v s y m=>
  have S:(Tr.ask k n v s y m).dep=max y.dep m.dep+1:=rfl;have U:(Tr.ask k n v s y m).kn=y.kn+m.kn+1:=rfl;have L:BD fs fa (.ask k n v s y m) a=((fT fs (.say (fa a)) a:Int)-(fT fs (.ask k n v s y m) a:Nat),(Tr.ask k n v s y m).kn)::(BD fs fa y (a.filter (jD fs k n v s))++BD fs fa m (a.filter λr=>!jD fs k n v s r)):=rfl;have ur:=J;obtain⟨x,hs,hy,hm⟩:=J;have l1:=bK (jD fs k n v s) a;have l2:=bK (λr=>!jD fs k n v s r) a
  have E:lZ fs an (.say (fa a)):=by
   obtain⟨i,hi,_⟩:=f a d;exact aV hi
  rw[L]at j;have vd:=p;have uw:=o;rw[S]at hd o;rw[U]at p;refine eZ (λb=>b=false) (λq x=>⟨_,kA,.ask k n v s y m,kA,x _ kA⟩) (λhT=>by cases hT) λ_=>?_
  try unfold iI
  dsimp only;refine bX (.list [.list ((a.filter (jD fs k n v s)).map cV),.list ((a.filter λr=>!jD fs k n v s r).map cV)]) (λq c=>⟨_,kA,_,kA,_,kA,fs,an,k,n,v,s,y,m,a,kA,F,x,hs,d,u,c⟩) ?_;refine bX (.tuple [.int (fT fs y (a.filter (jD fs k n v s)):Nat),.list ((BD fs fa y (a.filter (jD fs k n v s))).map λe=>JG (lN e))]) (λq c=>⟨_,kA,_,kA,_,kA,_,kA,_,kA,fs,an,fa,y,_,kA,F,f,hy,hG,hG,hG,d.filt _,hG,λe H=>j e (aJ _ (jV _ H)),c⟩) ?_;refine bX (.tuple [.int (fT fs m (a.filter λr=>!jD fs k n v s r):Nat),.list ((BD fs fa m (a.filter λr=>!jD fs k n v s r)).map λe=>JG (lN e))]) (λq c=>⟨_,kA,_,kA,_,kA,_,kA,_,kA,fs,an,fa,m,_,kA,F,f,hm,hG,hG,hG,d.filt _,hG,λe H=>j e (aJ _ (cZ _ H)),c⟩) ?_;refine bX (.int (fT fs (.ask k n v s y m) a:Nat)) (λq c=>⟨_,kA,_,kA,_,kA,_,kA,by rw[C2]at c;exact c⟩) ?_;refine bX (.int ((fT fs (.say (fa a)) a:Int)-(fT fs (.ask k n v s y m) a:Nat))) (λq c=>⟨_,kA,_,kA,_,kA,fs,an,fa,a,kA,F,f,d,u,_,kA,hI,fs,an,.say (fa a),a,1,0,kA,F,E,cJ _,cJ _,d,u,gV,gV,gV,gV,_,kA,by rw[one];exact c⟩) ?_;have N:=j _ (aO ..);dsimp only at N;have vk:fT fs (.say (fa a)) a<=60:=bE (bK _ _) u;have big:(1000000000000:Nat)<2^190:=by decide +kernel
  have W:[bO ((fT fs (.say (fa a)) a:Int)-(fT fs (.ask k n v s y m) a:Nat)),.int ((Tr.ask k n v s y m).kn:Nat)]=[.int (((fT fs (.say (fa a)) a:Int)-(fT fs (.ask k n v s y m) a:Nat)).toNat:Nat),.int ((Tr.ask k n v s y m).kn:Nat)]:=by rw[eM N]
  have R:=CU (fs:=fs) (fa:=fa) y (a.filter (jD fs k n v s));have s2:=CU (fs:=fs) (fa:=fa) m (a.filter λr=>!jD fs k n v s r);refine⟨_,kA,_,kA,_,kA,.ask k n v s y m,kA,hG,hG,_,_,W,hG,hG,hG,hI,_,kA,_,kA,?_⟩;refine⟨by rw[aA,R];show 1+_<=_;lia,_,kA,_,kA,by rw[aZ,aA,aA,R,s2];show 1+_+_<=_;lia,hI,?_⟩;rw[L,bI,bT]at h;exact h
def Ks:Ft P w base T.D_54 57 Ru:=by
 have h:∀a:Nat,Ft P w base T.D_54 (44+a) (tH a):=λa=>by
  induction a with
  |zero=>exact uA oO λc Q h=>XB h
  |succ a b=>exact Ys T a b
 exact h 13
def Kr:Ft P w base T.D_53 58 Qi:=by
 refine nA T.D_53.F Nk λS nd ds Q h=>?_;obtain⟨fs,an,fa,t,a,rfl,F,o,ht,hd,hk,hL,C,hl,E,h⟩:=h;refine⟨_,(aS (ss 3 nd (bJ aW cH (cd (Ks T) S (aB (aF 0) (aB (aF 1) (aB (aF 2) aH)))) aP))
 (aS (ss 4 nd (bJ aW cH (aF 3) aP))
 (aS (sf (dP (aF 3)) (dF (pn 5 nd))
 (bH (gU (tv (cd (Ej T) S (aB (aF 5) (aB (aF 4) aH))))
 (bH (ss 4 nd (aF 5)))
 fE)))
 (bH (cG (aF 4)))))),?_⟩
 show gL _ _ _ [.val (dY fs an),.val (gE t),.val (.list (a.map cV)),.un,.un,.un]
 have f:∀p∈(BD fs fa t a).map lN,p.1<=60:=λp u=>by
  obtain⟨e,he,rfl⟩:=aQ.mp u;have:=(sZ t a e he).1;have h2:(lN e).1<=e.1.toNat:=pN _ _;lia
 have hn:∃x l,(BD fs fa t a).map lN=x::l/\fA fs fa t a=kR x (x::l):=by
  cases t with
  |say z=>cases hL
  |ask k n v s y m=>exact⟨_,_,kA,kA⟩
 have N:=CU (fs:=fs) (fa:=fa) t a;refine bX (.list (((BD fs fa t a).map lN).map JG)) (λq c=>⟨_,kA,_,kA,_,kA,fs,an,fa,t,a,kA,F,o,ht,hG,hG,hG,C,hl,E,_,kA,by rw[aX]at c;exact c⟩) ?_;obtain⟨x,l,e,U⟩:=hn;rw[U]at h;rw[e]at f |-
 have h0:L2.atI ((x::l).map JG) 0=some (JG x):=L2.eK (j:=0) kA;refine bX (JG x) (λq c=>⟨_,kA,_,h0,c⟩) ?_
 refine jZ (ts:=(x::l).map JG) (λR h=>⟨_,kA,_,kA,h⟩)
  (λi σ=>∃J:Sl,σ=[.val (dY fs an),.val (gE t),.val (.list (a.map cV)),.val (.list ((x::l).map JG)),.val (JG (kR x ((x::l).take i))),J]) ⟨_,kA⟩ (λi d L H g=>?_) λL g=>?_
 ·obtain⟨J,rfl⟩:=g;have r:i<(x::l).length:=by have:=(aG.mp H).1;rw[aA]at this;exact this
  have ex:d=JG (x::l)[i]:=by rw[aM,aD r]at H;exact(c5 H).symm
  subst ex;have W:(x::l).take (i+1)=(x::l).take i++[(x::l)[i]]:=by rw[cI,aD r];rfl
  have hz:(kR x ((x::l).take i)).1<=60:=by
   rcases wT ((x::l).take i) x with z | z
   ·rw[z];exact f x (aO ..)
   ·exact f _ (dU z)
  have u:=f _ (fL r);rw[W,AX]
  generalize (x::l)[i]=p at u
  generalize kR x ((x::l).take i)=z at hz
  refine rT (λb=>b=decide (p.1*z.2<z.1*p.2)) (λq c=>⟨_,kA,_,kA,p,z,kA,hG,hG,c _ kA⟩) (λhT=>?_) λhF=>?_
  ·refine rS (JG p) (λq c=>⟨_,kA,c⟩) ⟨.val (JG p),?_⟩;unfold oU;rw[a9 (b8 hT.symm)]
   rfl
  ·try unfold iI
   dsimp only;refine⟨.val (JG p),?_⟩;unfold oU;rw[a8 (d9 hF.symm)]
   rfl
 ·obtain⟨J,rfl⟩:=g;rw[aA,dB];exact⟨_,kA,h⟩
def Dk:Fj P w base T.D_52 59 (iE K Qh):=by
 refine rA T.D_52.F Nj λl nd ds Q h=>?_;obtain⟨fs,an,fa,U,a,rfl,F,d,C,hd,hk,f,k,h⟩:=h;refine⟨_,(aS (ss 3 nd (dZ (aB aP (aB aP aH))))
 (aS (ss 4 nd (cd (Dj T) l (aB (aF 0) (aB (aF 1) (aB (aF 2) (aB (aF 3) aH))))))
 (aS (so 5 nd (aB (dZ (aB (aF 3) (aB (aF 4) aH))) aH))
 (aS (CZ (wL (tv (cd (xY T) l (aB (aF 4) aH))))
 (aS (ss 3 nd (cd (Kr T) l (aB (aF 0) (aB (aF 4) (aB (aF 2) aH)))))
 (aS (ss 4 nd (cd (Dj T) l (aB (aF 0) (aB (aF 4) (aB (aF 2) (aB (aF 3) aH))))))
 (bH (qB (i:=5) (pv 5) (dZ (aB (aF 3) (aB (aF 4) aH))) (pb:=λh=>jM (iJ cA eI eG kE (pv 5) h)))))) (λN L=>C8 o8 N L))
 (bH (qN (pv 5))))))),?_⟩
 show gL _ _ _ [.val (dY fs an),.val (gE U),.val (.list (a.map cV)),.un,.un,.un];have o:=(P8 d 1 0 U a C f).1;have R:=IR (fs:=fs) (fa:=fa) 1 0 U a;have W:=(AW (fs:=fs) (fa:=fa) 1 0 U a).1;have z:OkS fs fa U a ((0,1),(lw fs fa 1 0 U a).2):=⟨show Nat.gcd 0 1=1 by decide,show 0<1 by decide,show 1<=12 by decide,show 0<=60 by decide,kA⟩;refine bX (JG (0,1)) (λq c=>⟨hI,c⟩) ?_;refine bX (gE (lw fs fa 1 0 U a).2) (λq c=>⟨_,kA,_,kA,_,kA,_,kA,fs,an,fa,U,a,1,0,kA,F,d,C,hG,f,k,gV,gV,gV,gV,c⟩) ?_;refine lC [oD ((0,1),(lw fs fa 1 0 U a).2)] hI (λq c=>⟨_,kA,_,kA,hI,c⟩) ?_;have H:oS fs fa U a=pF fs fa a (lw fs fa 1 0 U a).2.kn (0,1) (lw fs fa 1 0 U a).2:=rfl;rw[H]at h;refine zM (λn σ=>∃(pre:List Q8)(x:Nat×Nat)(p:Tr),σ=[.val (dY fs an),.val (gE U),.val (.list (a.map cV)),.val (JG x),.val (gE p),.own ((pre++[(x,p)]).map oD)]/\pre++pF fs fa a n x p=pF fs fa a (lw fs fa 1 0 U a).2.kn (0,1) (lw fs fa 1 0 U a).2/\OkS fs fa U a (x,p)/\lZ fs an p/\p.dep<=12/\p.kn<=n/\p.kn<=12/\pre.length+n<=12) (lw fs fa 1 0 U a).2.kn ⟨[],(0,1),(lw fs fa 1 0 U a).2,kA,kA,z,o,hG,aN _,hG,by show 0+_<=12;lia⟩ λn t6 J=>?_;obtain⟨pre,x,p,rfl,g,ok,r,t,vj,u,jw⟩:=J;refine⟨!QH p,λq c=>⟨_,kA,p,kA,by cases p<;>exact c⟩,?_⟩
 cases b:QH p with
 |true=>
  show(if false=true then _ else _);rw[a8 gV]
  have e:pF fs fa a n x p=[(x,p)]:=by
   cases n with
   |zero=>rfl
   |succ n=>show(x,p)::(if QH p=true then[]else _)=_;rw[a9 b]
  rw[e]at g;rw[<- g]at h;exact⟨_,kA,h⟩
 |false=>
  show(if true=true then _ else _);rw[a9 rfl]
  obtain⟨n,rfl⟩:∃m,n=m+1:=⟨n-1,by
   cases n with
   |zero=>rw[X7 hG]at b;cases b
   |succ n=>rfl⟩
  have e:pF fs fa a (n+1) x p=(x,p)::pF fs fa a n (fA fs fa p a) (lw fs fa ((fA fs fa p a).2:Nat) ((fA fs fa p a).1:Nat) p a).2:=by
   show(x,p)::(if QH p=true then[]else _)=_;rw[a8 (by rw[b];decide)]
  obtain⟨j,lk⟩:=P6 hk k ok b
  have v:St fs fa (x.2:Nat) (x.1:Nat) p a:=by
   have E:p=(lw fs fa (x.2:Nat) (x.1:Nat) U a).2:=ok.tr;rw[E];exact K7 _ _ U a
  have kx:0<x.2:=ok.q0
  have y:∀e∈BD fs fa p a,0<=e.1:=λe S=>by
   have h1:=(wN _ _ p a).mp v e S;have h3:(0:Int)<=(x.1:Nat)*(e.2:Nat):=xG hG hG;by_cases hn:0<=e.1
   ·exact hn
   ·have:=kZ (show e.1<=0 by lia) (show(0:Int)<=(x.2:Nat) by lia);rw[BV]at this;lia
  have q1:(fA fs fa p a).2<=12:=j.q1;have p1:(fA fs fa p a).1<=60:=j.p1;have vc:(lw fs fa ((fA fs fa p a).2:Nat) ((fA fs fa p a).1:Nat) p a).2.kn<p.kn:=lk.kn;have s:=(P8 d ((fA fs fa p a).2:Nat) ((fA fs fa p a).1:Nat) p a r f);refine bX (JG (fA fs fa p a)) (λq c=>⟨_,kA,_,kA,_,kA,fs,an,fa,p,a,kA,F,d,r,t,u,b,f,k,y,c⟩) ?_;refine bX (gE (lw fs fa ((fA fs fa p a).2:Nat) ((fA fs fa p a).1:Nat) p a).2) (λq c=>⟨_,kA,_,kA,_,kA,_,kA,fs,an,fa,p,a,((fA fs fa p a).2:Nat),((fA fs fa p a).1:Nat),kA,F,d,r,hG,f,k,hG,hG,hG,hG,c⟩) ?_;refine pB (ts:=(pre++[(x,p)]).map oD) (oD (fA fs fa p a,(lw fs fa ((fA fs fa p a).2:Nat) ((fA fs fa p a).1:Nat) p a).2)) kA (by rw[aA,aZ];show _+1<=_;lia) (λq c=>⟨_,kA,_,kA,hI,c⟩) ?_;refine⟨n,mR _,pre++[(x,p)],fA fs fa p a,(lw fs fa ((fA fs fa p a).2:Nat) ((fA fs fa p a).1:Nat) p a).2,?_,?_,j,s.1,hG,hG,hG,by rw[aZ];show _+1+n<=12;lia⟩
  ·rw[bT (l₁:=pre++[(x,p)])];rfl
  ·rw[iA,<- g,e];rfl
def Ku:Ft P w base T.D_56 2 Ev:=by
 refine nA T.D_56.F Nn λd nd j Q h=>?_;obtain⟨fs,an,rfl,F,h⟩:=h;refine⟨_,(bH (cG (cY nQ (aB (el (fr:=[none]) (N':=["field"]) (dP (bJ aW cH (aF 0) aP)) (λb=>⟨(dF (pk 0)),fR,(cd (WV T) d (aB (aF 0) aH))⟩)) aH) gI T.b_tuple kX))),?_⟩;have n5:=F.n5;have e:(fs.map iN).map (λx=>match x with | .tuple [_,.tuple vs]=>.tuple (vs++[.none]) | _=>x)=(fs.map gX).map bS:=by rw[aX,aX];rfl
 show kG (f1 wV) _ _ Q;dsimp only[kG,pA,vS];refine gD (ts:=fs.map iN) (λR h=>⟨_,kA,_,kA,_,kA,h⟩) (λx=>match x with | .tuple [_,.tuple vs]=>.tuple (vs++[.none]) | _=>x) (by rw[aA];lia) (λx q g c=>?_) ?_
 ·obtain⟨f,a,rfl⟩:=aQ.mp g;have i:=(F.vs f a).2.1;exact⟨_,kA,f,kA,i,c⟩
 ·show Q (.tuple _);rw[e];exact h
def Do:Ft P w base T.D_71 1 Qz:=by
 refine nA T.D_71.F Od λi nd g Q h=>?_;obtain⟨fs,an,rfl,F,h⟩:=h;refine⟨_,(bH (cG (cY nQ (aB (el (fr:=[none]) (N':=["_law_field"]) (dP (bJ aW cH (aF 0) aP)) (λb=>⟨(dF (pk 0)),fR,(cE bM eA (bJ aW cH (aF 0) aP) (dZ (aB oB aH)))⟩)) aH) gI T.b_tuple kX))),?_⟩;have n5:=F.n5;have e:(fs.map iN).map (λx=>match x with | .tuple [_,.tuple vs]=>.tuple (vs++[.none]) | _=>x)=(fs.map gX).map bS:=by rw[aX,aX];rfl
 show kG (f1 wV) _ _ Q;dsimp only[kG,pA,vS];refine gD (ts:=fs.map iN) (λR h=>⟨_,kA,_,kA,_,kA,h⟩) (λx=>match x with | .tuple [_,.tuple vs]=>.tuple (vs++[.none]) | _=>x) (by rw[aA];lia) (λx q d c=>?_) ?_
 ·obtain⟨f,a,rfl⟩:=aQ.mp d;have j:=(F.vs f a).2.1;exact⟨_,kA,_,kA,hI,by rw[aA];show _+1<=_;lia,c⟩
 ·show Q (.tuple _);rw[e];exact h
def Kw:Ft P w base T.D_58 1 Ry:=by
 refine nA T.D_58.F Pb λk nd f Q h=>?_;obtain⟨L,j,g,e,rfl,d,i,h⟩:=h;refine⟨_,(bH (cG (cE bM eA (cE bM eA (fP jA pC (aF 0) iK (gC (aF 1))) (dZ (aB (aF 2) aH))) (fP jA pC (aF 0) (gC (cE bM eA (aF 1) aP)) iK)))),?_⟩;have a:iH (L.map bS) none (some (j:Int))=(L.take j).map bS:=by rw[kB,oE]
 have b:iH (L.map bS) (some ((j:Int)+1)) none=(L.drop (j+1)).map bS:=by
  have:=AC L (j+1);rw[kB];exact e5 _ this
 have c:yB (eR L j g)=.tuple ((L.take j).map bS++[.tuple (e.filter g)]++(L.drop (j+1)).map bS):=by
  unfold yB;rw[D8 d,bT,bI,iA];rfl
 rw[c]at h;refine⟨_,kA,_,kA,_,kA,hI,?_,_,kA,_,kA,?_,?_⟩
 ·rw[a,aA,bD];show _+1<=_;lia
 ·rw[a,b,aZ,aA,aA,bD,eP];show _+1+_<=_;lia
 ·show Q (.tuple (iH (L.map bS) none (some (j:Int))++[.tuple (e.filter g)]++iH (L.map bS) (some ((j:Int)+1)) none));rw[a,b];exact h
def Yt(dd:Nat)
  (J:Fj P w base T.D_57 (3+dd) (iE K (tG dd))):Fj P w base T.D_57 (3+dd+1) (iE K (tG (dd+1))):=by
 refine rA T.D_57.F Pa λE nd ds Q h=>?_;obtain⟨fs,an,t,L,rfl,F,ht,H,hn,jy,sr,h⟩:=h;refine⟨_,(aS (gU (tv (cd (hk:=by lia) (xY T) E (aB (aF 1) aH)))
 (bH (uQ (YK (aB (dZ (aB (aF 2) (aB (bJ aW cH (aF 1) aP) aH))) aH))))
 fE)
 (aS (ss 3 nd (cd (hk:=by lia) (Da T) E (aB (aF 0) (aB (bJ aW cH (aF 1) aP) aH))))
 (aS (ss 4 nd (cd (hk:=by lia) (Db T) E (aB (bJ aW cH (aF 1) aP) (aB (bJ aW cH (aF 1) aP) (aB (bJ aW cH (bJ aW cH (aF 0) aP) (aF 3)) aH)))))
 (aS (ss 5 nd (cY nQ (aB (el (fr:=[none,some 4]) (N':=["entry","held"]) (dP (bJ aW cH (aF 2) (aF 3))) (λb=>⟨(dF (pk 0)),(pI (dE (DH E) LO (aF 0) (aF 1))),(aF 0)⟩)) aH) gI T.b_tuple kX))
 (aS (ss 6 nd (cY nQ (aB (el (fr:=[none,some 4]) (N':=["entry","held"]) (dP (bJ aW cH (aF 2) (aF 3))) (λb=>⟨(dF (pk 0)),(pI (dE (xW E) qE (aF 0) (aF 1))),(aF 0)⟩)) aH) gI T.b_tuple kX))
 (aS (so 7 nd aH)
 (aS (sf (dP (dZ (aB (dZ (aB (aF 5) (aB (bJ aW cH (aF 1) aP) aH))) (aB (dZ (aB (aF 6) (aB (bJ aW cH (aF 1) aP) aH))) aH)))) (lV (mW kA (eF (pn 8 nd) (eF (pn 9 nd) kQ))))
 (bH (gU (dE AU pG (cB iS (aB (aF 8) aH) cO T.b_len fX) aP)
 (bH (B0 (i:=7) (pv 7) (wB (cF (hk:=by lia) J E (aB (aF 0) (aB (aF 9) (aB (cd (hk:=by lia) (Kw T) E (aB (aF 2) (aB (aF 3) (aB (aF 8) aH)))) aH))))) (pb:=λh=>jM (iJ cA mQ mP B7 (pv 7) h))))
 fE)))
 (bH (qN (pv 7)))))))))),?_⟩
 show gL _ _ _ [.val (dY fs an),.val (gE t),.val (yB L),.un,.un,.un,.un,.un,.un,.un];have n5:=F.n5
 cases t with
 |say a=>
  refine eZ (λb=>b=true) (λq j=>⟨_,kA,.say a,kA,j _ kA⟩) (λ_=>?_) λU=>by cases U
  have e:dS fs (.say a) L=[(L,a)]:=by show(if gJ L then[]else _)=_;rw[hn];rfl
  rw[e]at h;exact⟨_,kA,_,kA,_,kA,hI,hI,h⟩
 |ask k n v s y m=>
  refine eZ (λb=>b=false) (λq j=>⟨_,kA,.ask k n v s y m,kA,j _ kA⟩) (λhT=>by cases hT) λ_=>?_
  try unfold iI
  dsimp only;obtain⟨j,hs,hy,hm⟩:=ht;have e1:(Tr.ask k n v s y m).dep=max y.dep m.dep+1:=rfl;obtain⟨f,C,r,qd,hv,hk⟩:=I0 F j;have v5:=(F.vs f r).2.1;have kr:jx fs n<L.length:=by rw[H.1];exact(aG.mp C).1
  have mi:L.length<=5:=by rw[H.1];exact n5
  obtain⟨e,z⟩:∃e,L[jx fs n]?=some e:=⟨_,aD kr⟩;have o:=H.sub C z;have gn:∀x∈e,FR x:=λx d=>yN F r x (o x d)
  have pq:e.length<=6:=by
   obtain⟨p,rfl⟩:=H.2 _ f e C z;have h5:=bK p (gX f);have h6:(gX f).length=f.2.length+1:=by unfold gX;rw[aZ,aA];rfl
   lia
  have pz:L2.atI (fs.map iN) ((jx fs n:Nat):Int)=some (iN f):=L2.eK (by rw[aM,C];rfl);have W:L2.atI (L.map bS) ((jx fs n:Nat):Int)=some (.tuple e):=L2.eK (by rw[aM,z];rfl);refine bX (.int ((jx fs n:Nat):Int)) (λq c=>⟨_,kA,_,kA,_,kA,fs,an,k,n,v,f,jx fs n,kA,F,C,qd,c⟩) ?_;refine bX (.tuple (oK k v s f)) (λq c=>⟨_,kA,_,kA,_,kA,_,kA,_,kA,_,kA,_,kA,_,pz,k,n,v,s,f,kA,F.vals r,hv,v5,c⟩) ?_;have ni:∀x∈e,wR x (.tuple (oK k v s f)):=λx d=>LM (F.vals r) hv (((gn x d).th (n:=8) (m:=0) (aN 8)).cd gV);refine bX (.tuple (e.filter (fN fs k n v s))) (λq c=>?_) ?_
  ·show kG (f1 wV) _ _ q;dsimp only[kG,pA,vS];refine nO (ts:=e) (λR h=>⟨_,kA,_,kA,_,W,_,kA,h⟩) (fN fs k n v s) id hG (λx q d j=>⟨_,kA,_,kA,yI (ni x d) ?_⟩) (λx q d j=>⟨_,kA,j⟩) ?_
   ·show q (FM x (.tuple (oK k v s f)));rw[LA F C hs (o x d)];exact j
   ·rw[mG];exact c
  refine bX (.tuple (e.filter λx=>!fN fs k n v s x)) (λq c=>?_) ?_
  ·show kG (f1 wV) _ _ q;dsimp only[kG,pA,vS];refine nO (ts:=e) (λR h=>⟨_,kA,_,kA,_,W,_,kA,h⟩) (λx=>!fN fs k n v s x) id hG (λx q d j=>⟨_,kA,_,kA,ni x d,?_⟩) (λx q d j=>⟨_,kA,j⟩) ?_
   ·show q (!FM x (.tuple (oK k v s f)));rw[LA F C hs (o x d)];exact j
   ·rw[mG];exact c
  refine lC [] hI (λq j=>j) ?_
  have eT:dS fs (.ask k n v s y m) L=dS fs y (eR L (jx fs n) (fN fs k n v s))++dS fs m (eR L (jx fs n) λx=>!fN fs k n v s x):=by
   show(if gJ L then[]else _)=_;rw[hn];rfl
  rw[eT]at h;have ky:=y.kn_dep;have km:=m.kn_dep;have py:2^y.dep<=2^5:=eS gV hG;have pm:2^m.dep<=2^5:=eS gV hG;have ly:=kT fs y (eR L (jx fs n) (fN fs k n v s));have lm:=kT fs m (eR L (jx fs n) λx=>!fN fs k n v s x)
  have N:∀(g:D->Bool)(u:Tr),¬((e.filter g).length:Int)>0->dS fs u (eR L (jx fs n) g)=[]:=λg u l=>DS (by
   rw[uF hn z]
   cases d:e.filter g with
   |nil=>rfl
   |cons a b=>rw[d]at l;simp at l)
  have S:∀g:D->Bool,((e.filter g).length:Int)>0->gJ (eR L (jx fs n) g)=false:=λg l=>by
   rw[uF hn z]
   cases d:e.filter g with
   |nil=>rw[d]at l;simp at l
   |cons a b=>rfl
  refine jZ (ts:=[.tuple [.tuple (e.filter (fN fs k n v s)),gE y],.tuple [.tuple (e.filter λx=>!fN fs k n v s x),gE m]]) (λR h=>⟨_,kA,_,kA,_,kA,hI,_,kA,_,kA,_,kA,hI,hI,_,kA,h⟩)
   (λi σ=>∃s8 s9:Sl,σ=[.val (dY fs an),.val (gE (.ask k n v s y m)),.val (yB L),.val (.int ((jx fs n:Nat):Int)),.val (.tuple (oK k v s f)),.val (.tuple (e.filter (fN fs k n v s))),.val (.tuple (e.filter λx=>!fN fs k n v s x)),.own (((if 0<i then dS fs y (eR L (jx fs n) (fN fs k n v s))else[])++(if 1<i then dS fs m (eR L (jx fs n) λx=>!fN fs k n v s x)else[])).map pS),s8,s9]) ⟨_,_,kA⟩ (λi x t6 d hP=>?_) λt6 hP=>?_
  ·obtain⟨s8,s9,rfl⟩:=hP
   match i,d with
   |0,d=>
    cases d;refine⟨_,_,kA,?_⟩;refine rT (λb=>b=decide (((e.filter (fN fs k n v s)).length:Int)>0)) (λq j=>⟨_,kA,j _ kA⟩) (λhT=>?_) λU=>?_
    ·have l:=b8 hT.symm;refine tR (ts:=[]) (us:=(dS fs y (eR L (jx fs n) (fN fs k n v s))).map pS) kA (by rw[aA];show 0+_<=_;lia) (λq c=>⟨_,kA,_,kA,_,kA,_,kA,_,kA,L,jx fs n,fN fs k n v s,e,kA,z,mi,fs,an,y,_,kA,F,hy,H.filt _ _,S _ l,hG,hG,c⟩) ⟨.val (.tuple (e.filter (fN fs k n v s))),.val (gE y),?_⟩;show _=[_,_,_,_,_,_,_,Sl.own ((dS fs y _++[]).map pS),_,_];rw[dH];rfl
    ·have l:=N (fN fs k n v s) y (d9 U.symm);refine⟨.val (.tuple (e.filter (fN fs k n v s))),.val (gE y),?_⟩;show _=[_,_,_,_,_,_,_,Sl.own ((dS fs y _++[]).map pS),_,_];rw[l];rfl
   |1,d=>
    cases d;refine⟨_,_,kA,?_⟩;refine rT (λb=>b=decide (((e.filter λx=>!fN fs k n v s x).length:Int)>0)) (λq j=>⟨_,kA,j _ kA⟩) (λhT=>?_) λU=>?_
    ·have l:=b8 hT.symm;refine tR (ts:=(dS fs y (eR L (jx fs n) (fN fs k n v s))++[]).map pS) (us:=(dS fs m (eR L (jx fs n) λx=>!fN fs k n v s x)).map pS) kA (by rw[dH,aA,aA];lia) (λq c=>⟨_,kA,_,kA,_,kA,_,kA,_,kA,L,jx fs n,(λx=>!fN fs k n v s x),e,kA,z,mi,fs,an,m,_,kA,F,hm,H.filt _ _,S _ l,hG,hG,c⟩) ⟨.val (.tuple (e.filter λx=>!fN fs k n v s x)),.val (gE m),?_⟩;show _=[_,_,_,_,_,_,_,Sl.own ((dS fs y _++dS fs m _).map pS),_,_];simp only[dH,bT];rfl
    ·have l:=N (λx=>!fN fs k n v s x) m (d9 U.symm);refine⟨.val (.tuple (e.filter λx=>!fN fs k n v s x)),.val (gE m),?_⟩;show _=[_,_,_,_,_,_,_,Sl.own ((dS fs y _++dS fs m _).map pS),_,_];rw[l];rfl
  ·obtain⟨s8,s9,rfl⟩:=hP;exact⟨_,kA,h⟩
def Kv:Fj P w base T.D_57 9 (iE K Rx):=by
 have h:∀a:Nat,Fj P w base T.D_57 (3+a) (iE K (tG a)):=λa=>by
  induction a with
  |zero=>exact Wh S9 λc Q h=>XA h
  |succ a b=>exact Yt T a b
 exact h 6
def Kt:Fj P w base T.D_55 10 (iE K Rv):=by
 refine rA T.D_55.F Nm λd nd g Q h=>?_;obtain⟨fs,an,t,rfl,F,f,a,h⟩:=h;refine⟨_,(aS (sF 2 nd (cF (Kv T) d (aB (aF 0) (aB (aF 1) (aB (cd (Ku T) d (aB (aF 0) aH)) aH)))))
 (aS (gU (F4 2 (dE AU pG (cB iS (aB (aF 2) aH) cO T.b_len fX) (JK kA T.c_MOST_RULES)))
 (bH vY)
 fE)
 (bH (qN (pv 2))))),?_⟩
 show gL _ _ _ [.val (dY fs an),.val (gE t),.un];have i:=t.kn_dep;have pt:2^t.dep<=2^5:=eS gV a;have lt:=kT fs t (fs.map gX);refine VL ((dS fs t (fs.map gX)).map pS) (λq c=>⟨_,kA,_,kA,_,kA,fs,an,kA,F,fs,an,t,fs.map gX,kA,F,f,jC.whole fs,M9 fs,hG,a,c⟩) ?_;refine eZ (λb=>b=false) (λq c=>⟨_,kA,_,kA,c _ (b7 ?_)⟩) (λe=>by cases e) λ_=>?_
 ·rw[aA];lia
 try unfold iI
 dsimp only;exact⟨_,kA,h⟩
def Mg:Ft P w base T.D_72 2 Ra:=by
 refine nA T.D_72.F Oe λhr nd ds Q h=>?_;obtain⟨fs,an,rfl,F,S,h⟩:=h;refine⟨_,(aS (ss 1 nd (mJ (aB (dZ aH) aH)))
 (aS (sf (dP (cd (Do T) hr (aB (aF 0) aH))) (dF (pn 2 nd))
 (aS (so 3 nd aH)
 (aS (sf (dP (aF 1)) (dF (pn 4 nd))
 (bH (B0 (i:=3) (pv 3) (el (fr:=[none,some 4]) (N':=["_law_value","_law_case"]) (dP (aF 2)) (λb=>⟨(dF (pk 0)),fR,(cE bM eA (aF 1) (dZ (aB (aF 0) aH)))⟩)) (pb:=λh=>jM (iJ cA mQ mP B7 (pv 3) h)))))
 (oM 3 (bH (ss 1 nd (aF 3)))))))
 (bH (cG (aF 1))))),?_⟩
 show gL _ _ _ [.val (dY fs an),.un,.un,.un,.un];obtain⟨f3,H⟩:=S
 have g:∀i,(((fs.map gX).take i).foldl iD [[]]).length<=125:=λi=>by
  rw[wW]
  have u:=DD ((fs.map gX).take i) 5 λe U=>by
   obtain⟨f,y,rfl⟩:=aQ.mp (dU U);have:=H f y;unfold gX;rw[aZ,aA];show _+1<=5;lia
  have h2:5^((fs.map gX).take i).length<=5^3:=eS gV (by rw[bD,aA];lia);lia
 refine bX (oV [[]]) (λq d=>⟨hI,hI,d⟩) ?_
 refine jZ (ts:=(fs.map gX).map bS) (λR h=>⟨_,kA,fs,an,kA,F,_,kA,h⟩)
  (λi C=>∃z s3 m:Sl,C=[.val (dY fs an),.val (oV (((fs.map gX).take i).foldl iD [[]])),z,s3,m]) ⟨_,_,_,kA⟩ (λi x n o k=>?_) λn k=>?_
 ·obtain⟨z,s3,m,rfl⟩:=k;rw[aM]at o;obtain⟨e,s,rfl⟩:=bZ.mp o;have L:=g i;have u:=g (i+1);have t:((fs.map gX).take (i+1)).foldl iD [[]]=iD (((fs.map gX).take i).foldl iD [[]]) e:=by rw[cI,s];show(_++[e]).foldl iD [[]]=_;rw[rC];rfl
  rw[t]at u
  have v:e.length<=5:=by
   obtain⟨f,y,rfl⟩:=aQ.mp (aV s);have:=H f y;unfold gX;rw[aZ,aA];show _+1<=5;lia
  have r:∀c∈(((fs.map gX).take i).foldl iD [[]]),c.length<=3:=λc E=>by
   rw[wW,tV]at E;rw[(yW E).1,bD,aA];lia
  generalize ((fs.map gX).take i).foldl iD [[]]=cs at L u t r
  refine lC [] hI (λq d=>d) ?_
  refine jZ (ts:=cs.map bS) (λR h=>⟨_,kA,_,kA,h⟩)
   (λj C=>∃m:Sl,C=[.val (dY fs an),.val (oV cs),.val (.tuple e),.own ((iD (cs.take j) e).map bS),m]) ⟨_,kA⟩ (λj x n o k=>?_) λn k=>?_
  ·obtain⟨m,rfl⟩:=k;rw[aM]at o;obtain⟨c,p,rfl⟩:=bZ.mp o;have N:=r c (aV p)
   have W:(iD (cs.take j) e).length<=1000:=by
    have:∀l:List (List D),(iD l e).length=l.length*e.length:=λl=>by
     unfold iD
     induction l with
     |nil=>simp
     |cons a l ih=>rw[fU,aZ,ih,aA,bN,nU];lia
    rw[this,bD];have h6:min j cs.length*e.length<=125*5:=iV hG v;lia
   refine tR (ts:=(iD (cs.take j) e).map bS) (us:=(e.map λx=>c++[x]).map bS) kA (by rw[aA,aA,aA];lia) (λq d=>?_) ⟨.val (.tuple c),?_⟩
   ·refine gD (ts:=e) (λR h=>⟨_,kA,_,kA,h⟩) (λx=>.tuple (c++[x])) hG (λx q o d=>⟨_,kA,_,kA,hI,by show _+1<=_;lia,d⟩) ?_;rw[aX]at d;exact d
   ·have J:iD (cs.take (j+1)) e=iD (cs.take j) e++e.map λx=>c++[x]:=by
     rw[cI,p];unfold iD;rw[xJ];show _++((e.map λx=>c++[x])++[])=_;rw[dH]
    rw[J,bT];rfl
  ·obtain⟨m,rfl⟩:=k;refine⟨_,kA,?_⟩;refine rS (oV (iD cs e)) (λq d=>⟨_,kA,?_⟩) ⟨_,_,_,by rw[t];rfl⟩;rw[aA,dB];exact d
 ·obtain⟨z,s3,m,rfl⟩:=k;rw[aA,dB,wW];exact⟨_,kA,h⟩
def Yv(N:Nat)
  (r:Ft P w base T.D_81 (2+N) (tE N)):Fj P w base T.D_81 (2+N+1) (jO K (tE (N+1))):=by
 refine nA T.D_81.F Oo λE nd ds Q h=>?_;obtain⟨fs,an,t,L,rfl,F,S,H,U,jy,sr,h⟩:=h;refine⟨_,(aS (gU (dE (DI E) qE (aF 2) (mJ aH))
 (bH (cG (mJ aH)))
 fE)
 (aS (gU (dE iL lO (bJ aW cH (aF 1) aP) cN)
 (bH (cG (mJ (aB (dZ (aB (aF 2) (aB (bJ aW cH (aF 1) aP) aH))) aH))))
 fE)
 (aS (kD (i:=3) (fr:=[none,some 0,some 1]) (N':=["_law_case","_law_form_here","_law_tree"]) (dP (aF 2)) (λb=>⟨(dF (pk 0)),(pI (dE iL lO (cd (hk:=by lia) (P0 T) E (aB (aF 1) (aB (aF 2) (aB (aF 0) aH)))) cN)),(aF 0)⟩) (λhi hY=>iP (show mZ _ (aU (top 101)) ["_law_form_here","_law_tree","_law_cases_here","_law_yes","_law_no"] ["_law_case","_law_form_here","_law_tree"] [none,some 0,some 1]=true from by decide +kernel) nd kA (by first | exact h9 kA | exact g6 kA) kA hi hY kA))
 (aS (kD (i:=4) (fr:=[none,some 0,some 1]) (N':=["_law_case","_law_form_here","_law_tree"]) (dP (aF 2)) (λb=>⟨(dF (pk 0)),(pI (dE iL lO (cd (hk:=by lia) (P0 T) E (aB (aF 1) (aB (aF 2) (aB (aF 0) aH)))) cN)),(aF 0)⟩) (λhi hY=>iP (show mZ _ (aU (top 101)) ["_law_form_here","_law_tree","_law_cases_here","_law_yes","_law_no"] ["_law_case","_law_form_here","_law_tree"] [none,some 0,some 1]=true from by decide +kernel) nd kA (by first | exact h9 kA | exact g6 kA) kA hi hY kA))
 (bH (cG (cE bM eA (cd (hk:=by lia) r E (aB (aF 0) (aB (bJ aW cH (aF 1) aP) (aB (aF 3) aH)))) (cd (hk:=by lia) r E (aB (aF 0) (aB (bJ aW cH (aF 1) aP) (aB (aF 4) aH))))))))))),?_⟩
 show gL _ _ _ [.val (dY fs an),.val (gE t),.val (oV (eQ L)),.un,.un];have l:∀c∈eQ L,gH fs (.tuple c)=true:=λc o=>GN U ((tV L c).mp o);have kd:=C1 S U
 have C:dI ((eQ L).map bS)=true:=by
  obtain⟨_,_,_,_,_,b6⟩:=rJ (n:=54) (m:=1) (ts:=(eQ L).map bS) λd hd=>by
   obtain⟨c,o,rfl⟩:=aQ.mp hd;have kl:=(lQ (l c o)).1;have n5:=F.n5;exact sY 8 0 5 (EO F (l c o) (aN 8)) hG gV gV
  exact b6
 refine eZ (λb=>b=gJ L) (λq p=>⟨_,kA,hI,⟨C,kA,by show min _ 1<=60;lia⟩,p _ ?_⟩) (λhT=>?_) λW=>?_
 ·have e:∀J:List (List D),cM (.list (J.map bS)) (.list [])=J.isEmpty:=λJ=>by cases J<;>rfl
  show cM (.list ((eQ L).map bS)) (.list [])=_;rw[e,dN,List.isEmpty_iff];exact DB L
 ·rw[DS hT.symm]at h;exact⟨hI,h⟩
 have hn:gJ L=false:=W.symm
 try unfold iI
 dsimp only
 cases t with
 |say a=>
  refine eZ (λb=>b=true) (λq p=>⟨_,kA,_,kA,p _ kA⟩) (λ_=>?_) λW=>by cases W
  have e:dS fs (.say a) L=[(L,a)]:=by show(if gJ L then[]else _)=_;rw[hn];rfl
  rw[e]at h;exact⟨_,kA,_,kA,_,kA,hI,hI,h⟩
 |ask k n v s y m=>
  refine eZ (λb=>b=false) (λq p=>⟨_,kA,_,kA,p _ kA⟩) (λhT=>by cases hT) λ_=>?_
  try unfold iI
  dsimp only;have sj:=H;obtain⟨p,hs,hy,hm⟩:=sj;have e1:(Tr.ask k n v s y m).dep=max y.dep m.dep+1:=rfl
  have eT:dS fs (.ask k n v s y m) L=dS fs y (eR L (jx fs n) (fN fs k n v s))++dS fs m (eR L (jx fs n) λx=>!fN fs k n v s x):=by
   show(if gJ L then[]else _)=_;rw[hn];rfl
  rw[eT,bT]at h;have vx:∀(w:Str)(x:D),(match x with | .tuple c=>decide (eJ fs k n v s c=w) | _=>false)=(match x with | .tuple c=>decide (eJ fs k n v s c=w) | _=>false):=λ_ _=>rfl
  have filt:∀(w:Str)(g:List D->Bool),(∀c∈eQ L,decide (eJ fs k n v s c=w)=g c)->((eQ L).map bS).filter (λx=>match x with | .tuple c=>decide (eJ fs k n v s c=w) | _=>false)=((eQ L).filter g).map bS:=λw g hg=>by
   rw[lH];congr 1;apply nY;intro c o;exact hg c o
  have jl:∀c∈eQ L,jx fs n<c.length:=λc o=>by
   obtain⟨f,hf,_⟩:=I0 F p;rw[(lQ (l c o)).1];exact(aG.mp hf).1
  have sy:∀c∈eQ L,decide (eJ fs k n v s c="yes")=Q6 c (jx fs n) (fN fs k n v s):=λc o=>by
   rw[GD F p hs (l c o)]
   cases Q6 c (jx fs n) (fN fs k n v s)with
   |true=>exact b0 kA
   |false=>exact b7 (show¬("no":Str)="yes" by decide +kernel)
  have sn:∀c∈eQ L,decide (eJ fs k n v s c="no")=Q6 c (jx fs n) (λx=>!fN fs k n v s x):=λc o=>by
   rw[GD F p hs (l c o),Q4 (jl c o)]
   cases Q6 c (jx fs n) (fN fs k n v s)with
   |true=>exact b7 (show¬("yes":Str)="no" by decide +kernel)
   |false=>exact b0 kA
  have u:∀(w:Str)(g:D->Bool)(q:D->Prop),(∀c∈eQ L,decide (eJ fs k n v s c=w)=Q6 c (jx fs n) g)->q (oV (eQ (eR L (jx fs n) g)))->q (.list ((((eQ L).map bS).filter (λx=>match x with | .tuple c=>decide (eJ fs k n v s c=w) | _=>false)).map id)):=λw g q hg j=>by
   rw[filt w _ hg,A4,mG];exact j
  have zp:∀(w:Str)(x:D)(q:Bool->Prop),x∈(eQ L).map bS->q (match x with | .tuple c=>decide (eJ fs k n v s c=w) | _=>false)->∃c,x=.tuple c/\gH fs (.tuple c)=true/\q (decide (eJ fs k n v s c=w)):=λw x q z j=>by
   obtain⟨c,o,rfl⟩:=aQ.mp z;exact⟨c,kA,l c o,j⟩
  refine bX (oV (eQ (eR L (jx fs n) (fN fs k n v s)))) (λq j=>?_) ?_
  ·refine nO (ts:=(eQ L).map bS) (λR h=>⟨_,kA,_,kA,h⟩) (λx=>match x with | .tuple c=>decide (eJ fs k n v s c="yes") | _=>false) id (by rw[aA];lia) (λx q z j=>?_) (λx q z j=>⟨_,kA,j⟩) (u "yes" _ q sy j);obtain⟨c,rfl,o,j⟩:=zp "yes" x q z j;exact⟨_,kA,_,kA,_,kA,fs,an,k,n,v,s,[gE y,gE m],c,kA,F,H.1,H.2.1,o,j⟩
  refine bX (oV (eQ (eR L (jx fs n) λx=>!fN fs k n v s x))) (λq j=>?_) ?_
  ·refine nO (ts:=(eQ L).map bS) (λR h=>⟨_,kA,_,kA,h⟩) (λx=>match x with | .tuple c=>decide (eJ fs k n v s c="no") | _=>false) id (by rw[aA];lia) (λx q z j=>?_) (λx q z j=>⟨_,kA,j⟩) (u "no" _ q sn j);obtain⟨c,rfl,o,j⟩:=zp "no" x q z j;exact⟨_,kA,_,kA,_,kA,fs,an,k,n,v,s,[gE y,gE m],c,kA,F,H.1,H.2.1,o,j⟩
  have ky:=y.kn_dep;have km:=m.kn_dep;have py:2^y.dep<=2^5:=eS gV hG;have pm:2^m.dep<=2^5:=eS gV hG;have ly:=kT fs y (eR L (jx fs n) (fN fs k n v s));have lm:=kT fs m (eR L (jx fs n) λx=>!fN fs k n v s x);exact⟨_,kA,_,kA,_,kA,_,kA,fs,an,y,_,kA,F,S,hy,U.filt _ _,hG,hG,_,kA,_,kA,_,kA,_,kA,fs,an,m,_,kA,F,S,hm,U.filt _ _,hG,hG,by rw[aA,aA];lia,h⟩
def Mj:Ft P w base T.D_81 8 Rk:=by
 have h:∀a:Nat,Ft P w base T.D_81 (2+a) (tE a):=λa=>by
  induction a with
  |zero=>exact uA oO λc Q h=>W8 h
  |succ a b=>exact Yv T a b
 exact h 6
def Yw(d:Nat)
  (c:Ft P w base T.D_83 (0+d) (tD d)):Fj P w base T.D_83 (0+d+1) (jO K (tD (d+1))):=by
 refine nA T.D_83.F Oq λg nd p Q h=>?_;obtain⟨t,rfl,hk,hd,h⟩:=h;refine⟨_,(aS (gU (dE iL lO (bJ aW cH (aF 0) aP) cN)
 (bH (cG aP))
 fE)
 (bH (cG (cE bM eA (cE bM eA aP (cd (hk:=by lia) c g (aB (bJ aW cH (aF 0) aP) aH))) (cd (hk:=by lia) c g (aB (bJ aW cH (aF 0) aP) aH)))))),?_⟩
 show gL _ _ _ [.val (gE t)]
 cases t with
 |say a=>exact eZ (λb=>b=true) (λq e=>⟨_,kA,_,kA,e _ eH⟩) (λ_=>h) λl=>by cases l
 |ask k n v s y m=>
  have i:(Tr.ask k n v s y m).dep=max y.dep m.dep+1:=rfl;have f:(Tr.ask k n v s y m).kn=y.kn+m.kn+1:=rfl;rw[i]at hd;rw[f]at hk;refine eZ (λb=>b=false) (λq e=>⟨_,kA,_,kA,e _ eH⟩) (λo=>by cases o) λ_=>?_
  try unfold iI
  dsimp only;refine⟨_,kA,_,kA,y,kA,hG,hG,_,kA,_,kA,m,kA,hG,hG,?_⟩
  have j:(1:Int)+(y.kn:Int)+(m.kn:Int)=(((Tr.ask k n v s y m).kn:Nat):Int):=by
   rw[f];lia
  show Q (.int (1+(y.kn:Int)+(m.kn:Int)));rw[j];exact h
def Mm:Ft P w base T.D_83 13 Rm:=by
 have h:∀a:Nat,Ft P w base T.D_83 (0+a) (tD a):=λa=>by
  induction a with
  |zero=>exact uA oO λc Q h=>W7 h
  |succ a b=>exact Yw T a b
 exact h 13
def Kz:Ft P w base T.D_63 1 Ew:=by
 refine nA T.D_63.F Pg λc nd b Q h=>?_;obtain⟨x,rfl,a,h⟩:=h;refine⟨_,(bH (cG (uC (dE IE P4 (aF 0) oB) (JJ kA T.c_LACKING) (aF 0)))),?_⟩;rcases a with rfl | ⟨z,d,rfl⟩
 ·exact⟨_,kA,h⟩
 ·exact⟨_,kA,_,kA,h⟩
def Dr:Ft P w base T.D_79 1 Ri:=by
 refine nA T.D_79.F Om λc nd b Q h=>?_;obtain⟨x,rfl,a,h⟩:=h;refine⟨_,(bH (cG (uC (dE R9 WX (aF 0) oB) (aF 0) cN))),?_⟩;rcases a with rfl | ⟨z,d,rfl⟩
 ·exact⟨_,kA,h⟩
 ·exact⟨_,kA,_,kA,h⟩
def Ky:Ft P w base T.D_62 1 Sc:=by
 refine nA T.D_62.F Pf λi nd f Q h=>?_;obtain⟨d,rfl,g,h⟩:=h;refine⟨_,(bH (cG (cY nQ (aB (el (fr:=[none]) (N':=["word"]) (dP (aF 0)) (λb=>⟨(dF (pk 0)),fR,(uC (dE iL lO (aF 0) (JJ kA T.c_LACKING)) oB (aF 0))⟩)) aH) gI T.b_tuple kX))),?_⟩;show kG (f1 wV) _ _ Q;dsimp only[kG,pA,vS];refine gD (ts:=d.map aL) (λR h=>⟨_,kA,_,kA,h⟩) (λx=>match x with | .str w=>wf w | _=>x) (by rw[aA];lia) (λx q c a=>?_) ?_
 ·obtain⟨w,hw,rfl⟩:=aQ.mp c;refine⟨_,kA,?_⟩;show(if decide (w="-")=true then _ else _);have a:q (wf w):=a;unfold wf at a;by_cases e:w="-"
  ·rw[a9 e]at a;rw[a9 (b0 e)];exact a
  ·rw[a8 e]at a;rw[a8 λz=>e (b8 z)];exact⟨_,kA,a⟩
 ·rw[aX];exact h
def Dm:Ft P w base T.D_61 2 Sb:=by
 refine nA T.D_61.F Pe λe nd f Q h=>?_;obtain⟨b,a,rfl,g,h⟩:=h;refine⟨_,(bH (cG (cE bM eA (dZ (aB (cd (Ky T) e (aB (fP jA pC (aF 0) iK (gC (JI aP))) aH)) aH)) (cY nQ (aB (fP jA pC (aF 0) (gC (JI aP)) iK) aH) gI T.b_tuple kX)))),?_⟩;have c:iH ((b++[a]).map aL) none (some (-1))=b.map aL:=by rw[kB,Y5]
 have d:iH ((b++[a]).map aL) (some (-1)) none=[.str a]:=by rw[kB,XX];rfl
 refine⟨_,kA,b,by show[vJ (iH _ none (some (-1)))]=_;rw[c],hG,hI,_,kA,?_⟩;show xu (.tuple [.tuple (b.map wf)]) (.tuple (iH ((b++[a]).map aL) (some (-1)) none)) Q;rw[d];exact⟨hI,h⟩
def Dl:Ft P w base T.D_60 1 Sa:=by
 refine nA T.D_60.F Pd λp nd o Q h=>?_;obtain⟨w,rfl,g,h⟩:=h;refine⟨_,(aS (gU (xN (CS (wL (U8 LK LK pG pG aP (cB iS (aB (aF 0) aH) cO T.b_len fX) (JK kA T.c_MOST_FIGURES))) (zJ (wL (tv (cB Ce (aB (el (fr:=[none]) (N':=["sign"]) (dP (aF 0)) (λb=>⟨(dF (pk 0)),fR,(oC tQ WY (aF 0) (JJ kA T.c_FIGURES))⟩)) aH) (yT kA) T.b_all ZG))))))
 (bH (cG EB))
 fE)
 (bH (cG (Jh (oC iL lO (aF 0) cN) (AA (Wc (YV (aF 0) (aB cN aH) (λh m=>iJ dG CN CM GL h m)))))))),?_⟩
 show gL _ _ _ [.val (.str w)];unfold GW at h;refine eZ (λb=>b=!(decide (1<=w.length)&&decide (w.length<=9)&&(xw w).all id)) (λq a=>?_) (λl=>?_) λk=>?_
 ·refine⟨_,kA,g,?_⟩;have i:decide ((1:Int)<=(w.length:Nat))=decide (1<=w.length):=by rw[i4];lia
  have j:decide (((w.length:Nat):Int)<=9)=decide (w.length<=9):=by rw[i4];lia
  show(if decide ((1:Int)<=(w.length:Nat))=true then _ else _);rw[i]
  cases d:decide (1<=w.length)with
  |false=>exact a _ (by rw[d];rfl)
  |true=>
   rw[a9 rfl];show(if(!decide (((w.length:Nat):Int)<=9))=true then q true else _);rw[j]
   cases f:decide (w.length<=9)with
   |false=>exact a _ (by rw[d,f];rfl)
   |true=>
    rw[a8 gV];dsimp only[Bh,MM,kG,pA,vS];refine gD (ts:=AQ w) (λR h=>⟨_,kA,_,kA,h⟩) Jv (by unfold AQ;rw[aA];exact g) (λx q n a=>?_) ⟨xw w,by unfold xw AQ;rw[aX,aX];rfl,a _ (by rw[d,f];rfl)⟩;obtain⟨c,_,rfl⟩:=aQ.mp n;exact⟨_,kA,a⟩
 ·have:=l.symm;rw[Bool.not_eq_true']at this;rw[this]at h;exact h
 ·have:=k.symm;rw[Bool.not_eq_false']at this;rw[this,lJ]at h
  try unfold iI
  dsimp only;refine⟨_,kA,?_⟩;show(if decide (w="0")=true then Q (.bool true)else _);by_cases e:w="0"
  ·rw[b0 e]at h |-;exact h
  ·rw[b7 e]at h |-
   exact⟨_,kA,_,kA,h⟩
def Kx:Ft P w base T.D_59 2 Rz:=by
 refine nA T.D_59.F Pc λi nd k Q h=>?_;obtain⟨w,r,rfl,g,h⟩:=h;refine⟨_,(aS (gU (dE tQ WY (bJ aW cH (aF 0) aP) (CG kA T.c_SINGLE_WORDS T.t_SINGLE_WORDS))
 (bH (cG (oC iL lO (cB iS (aB (aF 0) aH) cO T.b_len fX) aP)))
 fE)
 (aS (gU (dE iL lO (bJ aW cH (aF 0) aP) cN)
 (bH (cG (EE (oC iL lO (cB iS (aB (aF 0) aH) cO T.b_len fX) aP) (AA (cd (Dl T) i (aB (bJ aW cH (aF 0) aP) aH))))))
 fE)
 (aS (gU (dE iL lO (bJ aW cH (aF 0) aP) cN)
 (bH (cG (EE (oC GI pG (cB iS (aB (aF 0) aH) cO T.b_len fX) aP) (AA (cd (Dl T) i (aB (bJ aW cH (aF 0) aP) aH))))))
 fE)
 (bH (cG (oC tQ WY (bJ aW cH (aF 0) aP) (dZ (aB cN (aB cN (aB cN aH)))))))))),?_⟩
 have f:atI ((w::r).map aL) 0=some (.str w):=L2.eK (j:=0) kA;show gL _ _ _ [.val (.list ((w::r).map aL))];unfold tY at h;rw[uO,aF2]at h;refine eZ (λb=>b=decide (w∈(["tree","rows","rules","steps"]:List Str))) (λq d=>⟨_,kA,_,f,_,kA,d _ kA⟩) (λc=>?_) λa=>?_
 ·rw[a9 (b8 c.symm)]at h;have e:decide (((((w::r).map aL).length:Nat):Int)=1)=decide ((w::r).length=1):=by rw[i4,aA];lia
  rw[<- e]at h;exact⟨_,kA,h⟩
 rw[a8 (d9 a.symm)]at h
 try unfold iI
 dsimp only;refine eZ (λb=>b=decide (w="out")) (λq d=>⟨_,kA,_,f,d _ kA⟩) (λc=>?_) λa=>?_
 ·rw[a9 (b8 c.symm)]at h;refine⟨_,kA,?_⟩;rcases r with _ | ⟨x,_ | ⟨y,r⟩⟩
  ·exact h
  ·exact⟨_,kA,_,kA,x,kA,g x (aO ..),h⟩
  ·exact h
 rw[a8 (d9 a.symm)]at h
 try unfold iI
 dsimp only;refine eZ (λb=>b=decide (w="turn")) (λq d=>⟨_,kA,_,f,d _ kA⟩) (λc=>?_) λa=>?_
 ·rw[a9 (b8 c.symm)]at h;refine⟨_,kA,?_⟩;rcases r with _ | ⟨x,r⟩
  ·exact h
  ·show(if decide (2<=((((w::x::r).map aL).length:Nat):Int))=true then _ else Q (.bool false));rw[a9 (by rw[aA];simp;lia)];rw[b0 (show 2<=(w::x::r).length by simp),lJ]at h;exact⟨_,kA,_,L2.eK (j:=1) kA,x,kA,g x (aO ..),h⟩
 rw[a8 (d9 a.symm)]at h
 try unfold iI
 dsimp only;exact⟨_,kA,_,f,hI,["put","judge","why"],kA,h⟩
def Ds:Ft P w base T.D_80 2 Rj:=by
 refine nA T.D_80.F On λi nd j Q h=>?_;obtain⟨fs,an,r,rfl,F,a,h⟩:=h;refine⟨_,(bH (cG (oI cN (aB (cE bM eA (el (fr:=[none]) (N':=["_law_value"]) (dP (bJ aW cH (aF 0) aP)) (λb=>⟨(dF (pk 0)),fR,(cd (Dr T) i (aB (aF 0) aH))⟩)) (mJ (aB (bJ aW cH (aF 0) aP) aH))) aH) (λh d=>iJ dG eX eW oH h d)))),?_⟩;obtain⟨w,n,e,hw,l⟩:=qQ F a;have k:=(tN F a).2;have m:=qA λx c=>(hw x c).2;refine⟨_,kA,?_⟩;dsimp only[pA,vS,wz];refine gD (ts:=r.1) (λR h=>⟨_,kA,_,kA,_,kA,h⟩) (λx=>.str (sN x)) hG (λx q c g=>⟨_,kA,x,kA,yO F a.1 x c,g⟩) ?_;refine⟨_,kA,_,kA,hI,by rw[aA];show _+1<=_;lia,r.1.map sN++[r.2],by rw[bT,aX];rfl,?_,h⟩;have f:pV.length=1:=by decide +kernel
 show _+_*pV.length<=_;rw[e,f];rw[bN]at *;lia
def Lb:Ft P w base T.D_65 2 Sf:=by
 refine nA T.D_65.F Pi λo nd r Q h=>?_;obtain⟨f,e,rfl,g,a,l,h⟩:=h;refine⟨_,(bH (cG (cE bM eA (cE bM eA (bJ aW cH (aF 0) aP) cN) (oI cN (aB (el (fr:=[none]) (N':=["entry"]) (dP (aF 1)) (λb=>⟨(dF (pk 0)),fR,(cd (Kz T) o (aB (aF 0) aH))⟩)) aH) (λh k=>iJ dG eX eW oH h k))))),?_⟩;have s:=(wS g).2.2
 have p:=qA (n:=8) (ws:=e.map sN) λw hw=>by
  obtain⟨x,c,rfl⟩:=aQ.mp hw;exact(ES (a x c)).2.2
 rw[aA]at p;have i:(" in ":Str).length=4:=by decide +kernel
 have j:("/":Str).length=1:=by decide +kernel
 have d:=DR g a l;unfold FL at d;rw[eU]at d;refine⟨_,kA,_,kA,by rw[i];lia,_,kA,?_⟩;refine gD (ts:=e) (λR h=>⟨_,kA,_,kA,h⟩) (λx=>.str (sN x)) hG (λx q c m=>⟨_,kA,x,kA,a x c,m⟩) ?_;refine⟨e.map sN,by rw[aX];rfl,by rw[aA,j];lia,hG,h⟩
def Lc:Ft P w base T.D_66 43 Qu:=by
 refine nA T.D_66.F Pj λe nd i Q h=>?_;obtain⟨z,rfl,j,k,l,m,h⟩:=h;refine⟨_,(bH (cG (cE bM eA (cE bM eA (cE bM eA (cE bM eA (cY sC (aB (bJ aW cH (aF 0) aP) aH) lX T.b_str sD) cN) (cY sC (aB (bJ aW cH (aF 0) aP) aH) lX T.b_str sD)) cN) (cY sC (aB (cd (WQ T) e (aB (aF 1) aH)) aH) lX T.b_str sD)))),?_⟩;obtain⟨f,a2⟩:=mT z.1.1 hG;obtain⟨g,c⟩:=mT z.1.2 hG;obtain⟨c1,d⟩:=mT z.2.kn hG;have a:("/":Str).length=1:=by decide +kernel
 have b:(" ":Str).length=1:=by decide +kernel
 refine⟨_,kA,_,kA,a2,?_⟩;refine⟨by show(jH _).length+_<=_;rw[a];lia,_,kA,_,kA,c,?_⟩;refine⟨by show(jH _++_).length+(jH _).length<=_;rw[eU,a];lia,?_⟩;refine⟨by show(jH _++_++jH _).length+_<=_;rw[eU,eU,a,b];lia,_,kA,z.2,kA,hG,hG,d,?_⟩;exact⟨by show(jH _++_++jH _++_).length+(jH _).length<=_;rw[eU,eU,eU,a,b];lia,h⟩
def La:Ft P w base T.D_64 3 Se:=by
 refine nA T.D_64.F Ph λC nd ds Q h=>?_;obtain⟨fs,an,r,rfl,F,m,t,h⟩:=h;refine⟨_,(aS (kD (i:=2) (fr:=[none,none]) (N':=["field","let"]) (Xy (aB (bJ aW cH (aF 0) aP) (aB (bJ aW cH (aF 1) aP) aH)) (λh=>Xr kA T.b_zip h)) (λb=>⟨(lV (mW kA (eF (pk 0) (eF (pk 1) kQ)))),(pI (dE (NW C) qE (aF 1) (cd (WV T) C (aB (aF 0) aH)))),(cd (Lb T) C (aB (aF 0) (aB (aF 1) aH)))⟩) (λN L=>iP (show mZ _ (aU (top 83)) ["form","rule","narrow","lets"] ["field","let"] [none,none]=true from by decide +kernel) nd kA (by first | exact h9 kA | exact g6 kA) kA N L kA))
 (aS (ss 3 nd (uC (F3 (aF 2) (λh=>LG h (λ_=>rfl))) (oI cN (aB (aF 2) aH) (λh t=>iJ dG eX eW oH h t)) cN))
 (bH (cG (cE bM eA (cE bM eA (aF 3) cN) (bJ aW cH (aF 1) aP)))))),?_⟩
 show gL _ _ _ [.val (dY fs an),.val (pS r),.un,.un];have n5:=F.n5;obtain⟨v,y⟩:=zS F m;have S:=JY v y;have el:((fs.zip r.1).map λp=>(.tuple [iN p.1,.tuple p.2]:D)).length<=5:=by rw[aA,FF];lia
 refine bX (.list ((iT fs r.1).map aL)) (λq c=>?_) ?_
 ·refine LW (ts:=(fs.zip r.1).map λp=>.tuple [iN p.1,.tuple p.2]) (λR h=>⟨_,kA,_,kA,_,kA,_,kA,_,_,.inl kA,by rw[Vs];exact h⟩)
   (λx=>match x with | .tuple [.tuple [_,.tuple vs],.tuple e]=>decide (e≠vs++[.none]) | _=>false) (λx=>match x with | .tuple [.tuple [.str n,_],.tuple e]=>.str (n++" in "++Txt.join "/" (e.map sN)) | _=>x) hG (λx j=>?_) (λa b q u c=>?_) (λa b q u c=>?_) ?_
  ·obtain⟨⟨f,e⟩,_,rfl⟩:=aQ.mp j;exact⟨_,_,kA⟩
  ·obtain⟨⟨f,e⟩,g,z⟩:=aQ.mp u;cases z;obtain⟨k,o,s⟩:=qU F m g;have d:=yN F k;have U:=(F.vs f k).2.1;have J:Th 60 2 (.tuple e):=sY 8 1 6 (λx j=>(o x j).th (aN 8)) s gV gV;have W:Th 60 2 (.tuple (gX f)):=sY 8 1 6 (λx j=>(d x j).th (aN 8)) (by unfold gX;rw[aZ,aA];show _+1<=6;lia) gV gV;refine⟨_,kA,_,kA,f,kA,U,⟨J.lay,W.lay,bE (Nat.min_le_left _ _) (bE J.depth gV)⟩,?_⟩
   ·show q (!HF e (gX f));rw[yM d];have c:q (decide (e≠gX f)):=c;rw[decide_not]at c;exact c
  ·obtain⟨⟨f,e⟩,g,z⟩:=aQ.mp u;cases z;obtain⟨k,o,s⟩:=qU F m g;exact⟨_,kA,_,kA,f,e,kA,F.name k,o,s,c⟩
  ·rw[lH,aX];unfold iT at c;rw[aX]at c;exact c
 refine bX (.str (if iT fs r.1=[]then("all":Str)else Txt.join " and " (iT fs r.1))) (λq c=>?_) ?_
 ·refine⟨_,kA,_,kA,?_⟩;have E:∀(l:List Str)(a b:Prop),(if l=[]then a else b)->(if(!(l.map aL).isEmpty)=true then b else a):=λl a b h=>by cases l<;>exact h
  refine E (iT fs r.1) _ _ ?_;by_cases z:iT fs r.1=[]
  ·rw[a9 z]at c |-;exact c
  ·rw[a8 z]at c |-
   exact⟨_,kA,_,kA,iT fs r.1,kA,hG,c⟩
 ·have e1:(" : ":Str).length=3:=by decide +kernel
  have H:=zN F m t;unfold oN at H h;rw[eU]at H;refine⟨_,kA,by rw[<- eU];lia,_,kA,_,kA,hG,h⟩
def Ml:Ft P w base T.D_82 9 Rl:=by
 refine nA T.D_82.F Op λo nd ds Q h=>?_;obtain⟨fs,an,t,rfl,F,S,ht,jy,jq,h⟩:=h;refine⟨_,(aS (so 2 nd aH)
 (aS (sf (dP (cd (Mj T) o (aB (aF 0) (aB (aF 1) (aB (cd (Mg T) o (aB (aF 0) aH)) aH))))) (lV (mW kA (eF (pn 3 nd) (eF (pn 4 nd) kQ))))
 (aS (so 5 nd aH)
 (aS (sf (X5 (aB (cd (Do T) o (aB (aF 0) aH)) aH) (λh=>WA kA T.b_enumerate h)) (lV (mW kA (eF (pn 6 nd) (eF (pn 7 nd) kQ))))
 (aS (ss 8 nd (el (fr:=[none,some 6]) (N':=["_law_case","_law_at"]) (dP (aF 3)) (λb=>⟨(dF (pk 0)),fR,(bJ aW cH (aF 0) (aF 1))⟩)))
 (aS (kD (i:=9) (fr:=[none,some 8]) (N':=["_law_value","_law_there"]) (dP (aF 7)) (λb=>⟨(dF (pk 0)),(pI (dE (DH o) LO (aF 0) (aF 1))),(cd (Dr T) o (aB (aF 0) aH))⟩) (λhi hY=>iP (show mZ _ (aU (top 102)) ["_law_form_here","_law_tree","_law_texts","_law_cases_here","_law_answer","_law_some","_law_at","_law_values","_law_there","_law_part"] ["_law_value","_law_there"] [none,some 8]=true from by decide +kernel) nd kA (by first | exact h9 kA | exact g6 kA) kA hi hY kA))
 (bH (gU (dE PZ pG (cB iS (aB (aF 9) aH) cO T.b_len fX) (cB iS (aB (aF 7) aH) cO T.b_len fX))
 (bH (qB (i:=5) (pv 5) (cE bM eA (cE bM eA (bJ aW cH (bJ aW cH (bJ aW cH (aF 0) aP) (aF 6)) aP) cN) (oI cN (aB (aF 9) aH) (λh y=>iJ dG eX eW oH h y))) (pb:=λh=>jM (iJ cA eI eG kE (pv 5) h))))
 fE)))))
 (oM 5 (bH (qB (i:=2) (pv 2) (cE bM eA (cE bM eA (oI cN (aB (cE bM eA (aF 5) (fP jA pC (mJ (aB cN aH)) iK (gC (cY Ka (aB (oC (DI o) qE (aF 5) (mJ aH)) aH) TX T.b_int ZF)))) aH) (λh y=>iJ dG eX eW oH h y)) cN) (aF 4)) (pb:=λh=>jM (iJ cA eI eG kE (pv 2) h))))))))
 (oM 2 (bH (cG (oI cN (aB (aF 2) aH) (λh y=>iJ dG eX eW oH h y))))))),?_⟩
 show gL _ _ _ [.val (dY fs an),.val (gE t),.un,.un,.un,.un,.un,.un,.un,.un];have n5:=F.n5;have lt:=kT fs t (fs.map gX);have nh:=uZ t (jC.whole fs);have ng:∀r∈dS fs t (fs.map gX),r.2∈an:=λr o=>rW t ht o;unfold tM at h
 generalize oj:dS fs t (fs.map gX)=Ls at *
 refine lC [] hI (λq d=>d) ?_
 refine jZ (ts:=Ls.map CB) (λR h=>⟨_,kA,_,kA,_,kA,fs,an,kA,F,S,fs,an,t,fs.map gX,kA,F,S,ht,jC.whole fs,hG,jy,_,kA,by rw[oj];exact h⟩)
  (λi σ=>∃s3 s4 s5 s6 s7 s8 s9:Sl,σ=[.val (dY fs an),.val (gE t),.own (((Ls.take i).map (oN fs)).map aL),s3,s4,s5,s6,s7,s8,s9]) ⟨_,_,_,_,_,_,_,kA⟩ (λi x t6 f C=>?_) λt6 C=>?_
 ·obtain⟨s3,s4,s5,s6,s7,s8,s9,rfl⟩:=C;rw[aM]at f;obtain⟨⟨L,a⟩,W,rfl⟩:=bZ.mp f;have mw:=aV W;obtain⟨g,hn,_⟩:=nh _ mw;have y:a∈an:=ng _ mw;have lf:=zN F (r:=(L,a)) g y
  replace g:jC fs L:=g
  replace hn:gJ L=false:=hn
  have qh:=(aG.mp W).1;have kd:=C1 S g;have H:∀c∈eQ L,gH fs (.tuple c)=true:=λc E=>GN g ((tV L c).mp E);have et:Ls.take (i+1)=Ls.take i++[(L,a)]:=by rw[cI,W];rfl
  refine⟨_,_,kA,?_⟩;refine lC [] hI (λq d=>d) ?_
  refine jZ (ts:=wC ((fs.map gX).map bS)) (λR h=>⟨_,kA,fs,an,kA,F,_,kA,h⟩)
   (λj σ=>∃s6 s7 s8 s9:Sl,σ=[.val (dY fs an),.val (gE t),.own (((Ls.take i).map (oN fs)).map aL),.val (oV (eQ L)),.val (.str a),.own ((iT (fs.take j) (L.take j)).map aL),s6,s7,s8,s9]) ⟨_,_,_,_,kA⟩ (λj x t6 f C=>?_) λt6 C=>?_
  ·obtain⟨s6,s7,s8,s9,rfl⟩:=C
   have u:j<fs.length:=by
    have:=(aG.mp f).1;rw[lW,aA,aA]at this;exact this
   have U:fs[j]?=some fs[j]:=aD u;have s:=fL u;rw[qW (a:=.tuple (gX fs[j])) (by rw[aM,aM,U];rfl)]at f;cases f;obtain⟨e,J⟩:∃e,L[j]?=some e:=⟨_,aD (by rw[g.1];exact u)⟩;have k:=yN F s
   have pq:(gX fs[j]).length<=6:=by
    have:=(F.vs _ s).2.1;unfold gX;rw[aZ,aA];show _+1<=6;lia
   refine⟨_,_,kA,?_⟩;refine bX (.list ((eQ L).map λc=>(c[j]?).getD .none)) (λq d=>?_) ?_
   ·refine gD (ts:=(eQ L).map bS) (λR h=>⟨_,kA,_,kA,h⟩) (λx=>match x with | .tuple c=>(c[j]?).getD .none | _=>.none) (by rw[aA];lia) (λx q f d=>?_) ?_
    ·obtain⟨c,E,rfl⟩:=aQ.mp f;have kl:=(lQ (H c E)).1;have m:c[j]?=some c[j]:=aD hG;have mv:q ((c[j]?).getD .none):=d;rw[m]at mv;exact⟨_,kA,_,kA,_,L2.eK m,mv⟩
    ·rw[aX];exact d
   have there:∀x,x∈(eQ L).map (λc=>(c[j]?).getD .none)↔x∈e:=λx=>by
    rw[aQ];constructor
    ·rintro⟨c,E,rfl⟩;have mq:=(tV L c).mp E;have qi:j<c.length:=by rw[(yW mq).1,g.1];exact u
     have m:c[j]?=some c[j]:=aD qi;rw[m];exact(yW mq).2 j e _ J m
    ·intro f;obtain⟨c,E,ox⟩:=LH hn j e x J f;exact⟨c,E,by rw[ox];rfl⟩
   have my:∀x∈(eQ L).map (λc=>(c[j]?).getD .none),FR x:=λx f=>k x (g.sub U J x ((there x).mp f))
   have qa:(gX fs[j]).filter (λx=>decide (x∈(eQ L).map λc=>(c[j]?).getD .none))=e:=by
    obtain⟨p,rfl⟩:=g.2 j _ e U J;apply nY;intro x f;rw[dN,c6,there x,cW];exact⟨λz=>z.2,λz=>⟨f,z⟩⟩
   refine bX (.list ((e.map sN).map aL)) (λq d=>?_) ?_
   ·refine nO (ts:=gX fs[j]) (λR h=>⟨_,kA,_,kA,h⟩) (λx=>decide (x∈(eQ L).map λc=>(c[j]?).getD .none)) (λx=>.str (sN x)) hG (λx q f d=>⟨_,kA,_,kA,YR (WW (k x f) my).1 ?_⟩) (λx q f d=>⟨_,kA,x,kA,k x f,d⟩) ?_
    ·show q (((eQ L).map λc=>(c[j]?).getD .none).any λz=>cM z x);rw[Q7 (k x f) my];exact d
    ·rw[qa];rw[aX]at d;exact d
   have jv:decide ((((e.map sN).map aL).length:Int)<((gX fs[j]).length:Int))=decide (e≠gX fs[j]):=by
    obtain⟨p,rfl⟩:=g.2 j _ e U J;rw[<- Wf,i4,aA,aA];lia
   have ho:=qU F g (aV (i:=j) (eD.mpr ⟨U,J⟩));have ju:=DR (F.name s) ho.2.1 ho.2.2
   have rz:=qA (n:=8) (ws:=e.map sN) λw hw=>by
    obtain⟨x,f,rfl⟩:=aQ.mp hw;exact(ES (ho.2.1 x f)).2.2
   have pu:=ho.2.2;rw[aA]at rz;have l8:=(wS (F.name s)).2.2;have c1:(" in ":Str).length=4:=by decide +kernel
   have c2:("/":Str).length=1:=by decide +kernel
   rw[LS U J];refine rT (λb=>b=decide (e≠gX fs[j])) (λq d=>⟨_,kA,_,kA,d _ jv⟩) (λhT=>?_) λhF=>?_
   ·rw[a9 (b8 hT.symm)];refine pB (ts:=(iT (fs.take j) (L.take j)).map aL) (.str (FL fs[j] e)) kA ?_ (λq d=>?_) ⟨_,_,_,_,by rw[bT];rfl⟩
    ·have:=bK (λp:(Str×List Str)×List D=>decide (p.2≠gX p.1)) ((fs.take j).zip (L.take j));unfold iT;rw[aA,aA];rw[FF,bD]at this;lia
    ·unfold FL at ju d;rw[eU]at ju;exact⟨_,kA,_,kA,_,kA,_,L2.eK (v:=iN fs[j]) (by rw[aM,U];rfl),_,kA,by rw[c1];lia,_,kA,_,kA,e.map sN,kA,by rw[aA,c2];lia,hG,d⟩
   ·rw[a8 (d9 hF.symm),dH];exact⟨_,_,_,_,kA⟩
  ·obtain⟨s6,s7,s8,s9,rfl⟩:=C;rw[lW,aA,aA,dB,<- g.1,dB];obtain⟨m1,m2⟩:=zS F g;have m3:=JY m1 m2;have m4:=N0 F g;have c3:(" : ":Str).length=3:=by decide +kernel
   refine⟨_,kA,?_⟩;refine pB (ts:=((Ls.take i).map (oN fs)).map aL) (.str (oN fs (L,a))) kA (by rw[aA,aA,bD];lia) (λq d=>?_) ⟨_,_,_,_,_,_,_,by rw[et,bT,bT];rfl⟩;unfold oN at d lf;rw[eU,eU,c3]at lf;dsimp only at d lf;have h8:=(wS (F.an.2.1 _ y)).2.2;refine⟨_,kA,_,kA,hI,_,kA,hI,⟨m4,kA,bE (sS _ _) hI⟩,?_⟩;rw[QP]
   have key:∀N:List Str,N.map aL++iH [aL "all"] none (some (if(N.map aL).isEmpty=true then 1 else 0))=(if N=[]then([("all":Str)]:List Str)else N).map aL/\Txt.join " and " (if N=[]then([("all":Str)]:List Str)else N)=if N=[]then("all":Str)else Txt.join " and " N:=λN=>by
    cases N with
    |nil=>exact⟨kA,kA⟩
    |cons x l=>exact⟨dH _,kA⟩
   obtain⟨k1,k2⟩:=key (iT fs L);refine⟨?_,(if iT fs L=[]then([("all":Str)]:List Str)else iT fs L),k1,?_,?_⟩
   ·show((iT fs L).map aL).length+(iH [aL "all"] none (some (if((iT fs L).map aL).isEmpty=true then 1 else 0))).length<=_;rw[<- aZ,k1,aA];split
    ·exact hI
    ·lia
   ·split
    ·exact hI
    ·exact bE m3 hI
   ·rw[k2];exact⟨by rw[c3];lia,_,kA,by rw[eU,c3];lia,d⟩
 ·obtain⟨s3,s4,s5,s6,s7,s8,s9,rfl⟩:=C;rw[aA,dB];exact⟨_,kA,_,kA,_,kA,_,kA,GF F (λr o=>⟨(nh r o).1,ng r o⟩) hG,h⟩
def Gz:Fm P w K mg base pK 18 iy ["self","words"] (iQ K (Hv B A)):=by
 refine YL (F:=oF A) T.D_2.F Iv λf nd b n H Q h=>?_;obtain⟨fs,an,m,d,v,g,t,U,x,rfl,W,h⟩:=h;refine⟨_,(eY (oZ (HL (dE iL lO (bJ aW cH (aF 1) aP) cN))
 (gT (lL (Ji sC (lY (Jj aW cH (yK eH (wX (K:=K) kA (aF 0)) (AG (aB (cd (Dm T) f (aB (fP jA pC (aF 1) (gC aP) iK) aH)) aH)) (λh l=>nK h T.C_Book T.M_5 (Hc T) (f.mono gV) T.D_5.d .nil kW l)) (rZ aP)) AH) (λh=>uU lX kA T.b_str sD h))))
 mV)
 (eY (oZ (HL (dE iL lO (bJ aW cH (aF 1) aP) cN))
 (gT (vO vY))
 (gT (BZ (yK eH (wX (K:=K) kA (aF 0)) (AG (aB (cY Ss (aB (bJ aW cH (aF 1) aP) aH) TW T.b_int ZF) (aB (cd (Dm T) f (aB (fP jA pC (aF 1) (gC aP) iK) aH)) aH))) (λh l=>nK h T.C_Book T.M_6 (Hd T) (f.mono gV) T.D_6.d .nil kW l)) (λh=>jM h))))
 (gT (lL (rZ cN))))),?_⟩
 obtain rfl:b=v:=kU x;have F:=W.F;have hh:=W.hh;have c:=W.tr;have S:=W.d4;rcases h with⟨r,a,J,rfl,h⟩ | ⟨k,r,a,hk,rfl,h⟩
 ·have u:=U1 (yO F a.1);have i:iH ((("put":Str)::(r.1.map sN++[r.2])).map aL) (some 1) none=(r.1.map sN++[r.2]).map aL:=AC _ 1;show zF _ _ _ _ _ [.val (MY B b),.val (.list ((("put":Str)::(r.1.map sN++[r.2])).map aL))];refine mI true (λq e=>⟨_,kA,_,L2.eK (j:=0) kA,?_⟩) (λ_=>?_) λz=>by cases z
  ·show q n (decide (("put":Str)="put"));rw[b0 rfl];exact e
  refine⟨_,kA,B,_,_,pJ b,kA,T.C_Desk,T.n_Desk_book,kA,kA,_,kA,r.1.map sN,r.2,by show[vJ (iH _ (some 1) none)]=_;rw[i],by rw[aA];have:=(tN F a).2;lia,?_⟩;refine⟨fs,an,d,m,b,g,g.length,r,t,kA,by rw[u];rfl,F,W.fm,W.dp,W.ls,hh.kv,hh.ok,hG,hG,hh.st,c.1,hG,hh.fol,hG,W.num.new,a,Y8 F a,λs o C=>?_⟩;exact⟨_,kA,(mT g.length hG).2,h s o⟩
 ·have u:=U1 (yO F a.1);have E:=W.few;obtain⟨L,N,y,R⟩:=IJ k hG;have i:iH ((("turn":Str)::jH (k:Nat)::(r.1.map sN++[r.2])).map aL) (some 2) none=(r.1.map sN++[r.2]).map aL:=AC _ 2;show zF _ _ _ _ _ [.val (MY B b),.val (.list ((("turn":Str)::jH (k:Nat)::(r.1.map sN++[r.2])).map aL))];refine mI false (λq e=>⟨_,kA,_,L2.eK (j:=0) kA,?_⟩) (λz=>by cases z) λ_=>zn ?_
  ·show q n (decide (("turn":Str)="put"));rw[b7 eH];exact e
  dsimp only;refine mI false (λq e=>⟨_,kA,_,L2.eK (j:=0) kA,?_⟩) (λz=>by cases z) λ_=>?_
  ·show q n (decide (("turn":Str)="out"));rw[b7 eH];exact e
  refine⟨_,kA,B,_,_,pJ b,kA,T.C_Desk,T.n_Desk_book,kA,kA,_,kA,_,L2.eK (j:=1) kA,_,y,hG,_,kA,r.1.map sN,r.2,by show[vJ (iH _ (some 2) none)]=_;rw[i],by rw[aA];have:=(tN F a).2;lia,?_⟩;have p:=YG W.num hk;refine⟨fs,an,d,m,b,g,k,_,r,t,kA,by rw[u];rfl,F,W.fm,W.dp,W.ls,hh.kv,hh.ok,hG,hG,hh.st,c.1,hG,p,a,Y8 F a,λs o C=>?_⟩;exact h s o
def Ha:Fm P w K mg base pK 61 iz ["self","word"] (iQ K (Hw B A)):=by
 refine YL (F:=oF A) T.D_3.F Iw λf nd g n ds Q h=>?_;obtain⟨fs,an,m,d,Bo,j,t,fa,w,ht,rfl,k,W,h⟩:=h;refine⟨_,(eY (HP (i:=2) (yJ eH (wX (K:=K) kA (aF 0)) (λh=>xV h T.C_Book T.M_8 (Hf T) (f.mono gV) T.D_8.d .nil kW)) (λh=>rP (i:=2) nd kA (by first | exact h9 kA | exact g6 kA) h))
 (eY (oZ (HL (dE iL lO (aF 1) cN))
 (gT (vO vY))
 mV)
 (eY (oZ (HL (dE iL lO (aF 1) cN))
 (gT (vO vY))
 mV)
 (eY (oZ (HL (dE iL lO (aF 1) cN))
 (gT (lL (rZ (oI cN (aB (el (fr:=[none,some 0]) (N':=["rule","self"]) (dP (wB (cF (Kt T) f (aB (wX (K:=K) kA (aF 0)) (aB (aF 2) aH))))) (λb=>⟨(dF (pk 0)),fR,(cd (La T) f (aB (wX (K:=K) kA (aF 1)) (aB (aF 0) aH)))⟩)) aH) (λh E=>iJ dG eX eW oH h E)))))
 mV)
 (eY (Vb (i:=3) (fr:=[none,none]) (N':=["number","row"]) (yJ eH (wX (K:=K) kA (aF 0)) (λh=>xV h T.C_Book T.M_7 (He T) (f.mono gV) T.D_7.d .nil kW)) (λb=>⟨(lV (mW kA (eF (pk 0) (eF (pk 1) kQ)))),fR,(aF 1)⟩) (λhi hY=>iP (show mZ _ (aU (iU (top 75) 3)) ["self","word","tree","rows"] ["number","row"] [none,none]=true from by decide +kernel) nd kA (by first | exact h9 kA | exact g6 kA) kA hi hY kA))
 (gT (lL (rZ (oI cN (aB (el (fr:=[none,none]) (N':=["price","part"]) (dP (wB (cF (Dk T) f (aB (wX (K:=K) kA (aF 0)) (aB (aF 2) (aB (aF 3) aH)))))) (λb=>⟨(lV (mW kA (eF (pk 0) (eF (pk 1) kQ)))),fR,(cd (Lc T) f (aB (aF 0) (aB (aF 1) aH)))⟩)) aH) (λh E=>iJ dG eX eW oH h E)))))))))),?_⟩
 obtain rfl:g=Bo:=kU ht;have F:=W.F;have hh:=W.hh;obtain⟨u,g2,g3⟩:=W.tr;have nt:=W.few;have ne:∀{x y:Str}(q:O1->Bool->Prop),x≠y->q n false->q n (decide (x=y)):=λq h z=>by rw[b7 h];exact z
 show zF _ _ _ _ _ [.val (MY B g),.val (.str w),.un,.un];refine HI (gE t) (λq c=>⟨_,kA,B,_,_,pJ g,kA,T.C_Desk,T.n_Desk_book,kA,kA,g,kA,kA,by rw[hh.st];exact c⟩) ?_;have U:w≠"tree"/\w≠"rows":=by rcases h with⟨rfl,_⟩ | ⟨rfl,_⟩<;>decide +kernel
 refine mI false (λq c=>⟨_,kA,ne q U.1 c⟩) (λz=>by cases z) λ_=>zn ?_;dsimp only;refine mI false (λq c=>⟨_,kA,ne q U.2 c⟩) (λz=>by cases z) λ_=>zn ?_;dsimp only;rcases h with⟨rfl,h⟩ | ⟨rfl,h⟩
 ·refine mI true (λq c=>⟨_,kA,by show q n (decide (("rules":Str)="rules"));rw[b0 rfl];exact c⟩) (λ_=>?_) λz=>by cases z
  have lt:=kT fs t (fs.map gX);have s:=uZ t (jC.whole fs);have p:∀r∈dS fs t (fs.map gX),r.2∈an:=λr f=>rW t u f;unfold tM at h;refine⟨_,kA,?_⟩;dsimp only[pA,vS];refine gD (ts:=(dS fs t (fs.map gX)).map pS) (λR h=>⟨_,kA,B,_,_,g.fm,kA,T.C_Desk,T.n_Desk_form,kA,_,kA,fs,an,t,by rw[W.fm],F,u,hG,_,kA,h⟩) (λx=>match x with | .tuple [.tuple ls,.str a]=>.str (oN fs (wv ls,a)) | _=>x) (by rw[aA];lia) (λx q l c=>?_) ?_
  ·obtain⟨r,f,rfl⟩:=aQ.mp l;have c:q (.str (oN fs (wv (r.1.map bS),r.2))):=c;rw[HK]at c;exact⟨_,kA,B,_,_,g.fm,kA,T.C_Desk,T.n_Desk_form,kA,_,kA,fs,an,r,by rw[W.fm],F,(s r f).1,p r f,c⟩
  ·refine⟨(dS fs t (fs.map gX)).map (oN fs),?_,GF F (λr f=>⟨(s r f).1,p r f⟩) hG,h⟩;rw[aX,aX];apply iC;intro r _;show aL (oN fs (wv (r.1.map bS),r.2))=_;rw[HK];rfl
 ·refine mI false (λq c=>⟨_,kA,ne q eH c⟩) (λz=>by cases z) λ_=>zn ?_;dsimp only;have N:fK fs an (j.map (·.2)):=hh.ok;refine HI (.list ((j.map (·.2)).map cV)) (λq c=>⟨_,kA,B,_,_,pJ g,kA,T.C_Desk,T.n_Desk_book,kA,kA,g,j,kA,kA,hh.kv,_,kA,?_⟩) ?_
  ·refine CA (ti:=λ_ Q=>Q (SH j)) (Q:=λd=>q n d) (λR h=>h) RU (by rw[WZ];lia) (λx l=>?_) (λa b q S c=>⟨_,kA,c⟩) ?_
   ·obtain⟨e,he,rfl⟩:=aQ.mp l;exact⟨_,_,kA⟩
   ·have e:(SH j).map RU=(j.map (·.2)).map cV:=by unfold SH;rw[aX,aX];rfl
    rw[e];exact c
  obtain⟨v,s2,_,_⟩:=GB k u N hG hG (by rw[aA];lia);unfold CY at h
  generalize C:oS fs fa t (j.map (·.2))=ST at v s2 h
  refine⟨_,kA,?_⟩;dsimp only[pA,vS];refine CA (ts:=ST.map oD) (λR h=>⟨_,kA,B,_,_,g.fm,kA,T.C_Desk,T.n_Desk_form,kA,_,kA,_,kA,fs,an,fa,t,j.map (·.2),by rw[W.fm],F,k,u,hG,hG,N,by rw[aA];lia,_,kA,by rw[C];exact h⟩) zt (by rw[aA];lia) (λx l=>?_) (λa b q S c=>?_) ?_
  ·obtain⟨e,he,rfl⟩:=aQ.mp l;exact⟨_,_,kA⟩
  ·obtain⟨z,o,e⟩:=aQ.mp S;cases e;obtain⟨H,J,L,z4⟩:=v z o;have c:q (zt (oD z)):=c;rw[PB z4]at c;exact⟨_,kA,_,kA,z,kA,H,J,L,z4,c⟩
  ·refine⟨ST.map mD,?_,?_,h⟩
   ·rw[aX,aX];exact iC λz o=>PB (v z o).2.2.2
   ·have h1:=qA (n:=20) (ws:=ST.map mD) λw hw=>by
     obtain⟨z,o,rfl⟩:=aQ.mp hw;obtain⟨H,J,L,_⟩:=v z o;exact GC H J L
    have e:(", ":Str).length=2:=by decide +kernel
    rw[e];rw[aA]at *;lia
def yb:Fm P w K mg base pK 62 iu ["self","text"] (iQ K (Jb B A)):=by
 refine YL (F:=oF A) T.D_1.F Hk λl nd b n L Q h=>?_;obtain⟨fs,an,m,d,s,k,t,fa,x,H,rfl,i,W,f,h⟩:=h;refine⟨_,(eY (vO (ss 2 nd (YW (aF 1) (aB cN aH) (λh g=>iJ dG PySem.F.slot_str_split PySem.F.type_str_split XG h g))))
 (eY (oZ (HL (wL (tv (cd (Kx T) l (aB (aF 2) aH)))))
 (gT (vO vY))
 mV)
 (eY (oZ (HL (dE tQ WY (bJ aW cH (aF 2) aP) (CG kA T.c_SINGLE_WORDS T.t_SINGLE_WORDS)))
 (gT (lL (qV (aF 0) (AG (aB (bJ aW cH (aF 2) aP) aH)) (λh g=>nK h T.C_Desk T.M_3 (Ha T) (l.mono gV) T.D_3.d .nil kW g))))
 mV)
 (eY (oZ (HL (dE tQ WY (bJ aW cH (aF 2) aP) (dZ (aB cN (aB cN aH)))))
 (gT (vO vY))
 mV)
 (gT (lL (qV (aF 0) (AG (aB (aF 2) aH)) (λh g=>nK h T.C_Desk T.M_2 (Gz T) (l.mono gV) T.D_2.d .nil kW g)))))))),?_⟩
 obtain rfl:b=s:=kU H;have F:=W.F;have p:=W.few;have a:∀(w:Str)(r:List Str),atI ((w::r).map aL) 0=some (.str w):=λw r=>L2.eK (j:=0) kA;show zF _ _ _ _ _ [.val (MY B b),.val (.str x),.un];refine uP (bX (.list ((Txt.split x pV).map aL)) (λq c=>⟨_,kA,_,kA,eH,hG,c⟩) ?_)
 obtain⟨w,r,u,E,o,hw⟩:∃w r,Txt.split x pV=w::r/\tY (w::r)=true/\(∀x∈r,x.length<=100000)/\((r=[]/\w="rules"/\Q n (.str (tM fs t)))\/(r=[]/\w="steps"/\Q n (.str (CY fs fa t (k.map (·.2)))))\/((w="put"\/w="turn")/\ZK fs an m d k n (w::r) Q)):=by
  rcases h with⟨rfl,h⟩ | ⟨rfl,h⟩ | h
  ·exact⟨_,_,rL 32 gV "rules" [] (λx f=>by rw[bP.mp f];decide +kernel),eH,(λx f=>by cases f),.inl ⟨kA,kA,h⟩⟩
  ·exact⟨_,_,rL 32 gV "steps" [] (λx f=>by rw[bP.mp f];decide +kernel),eH,(λx f=>by cases f),.inr (.inl ⟨kA,kA,h⟩)⟩
  ·obtain⟨w,r,e,v,y,C⟩:=h.line F p;rw[e]at h;exact⟨w,r,e,v,y,.inr (.inr ⟨C,h⟩)⟩
 rw[u];refine mI false (λq c=>⟨_,kA,w,r,kA,o,by rw[E];exact c⟩) (λz=>by cases z) λ_=>zn ?_;dsimp only;rcases hw with⟨rfl,rfl,h⟩ | ⟨rfl,rfl,h⟩ | ⟨hw,h⟩
 ·refine mI true (λq c=>⟨_,kA,_,a _ _,_,kA,by show q n (decide _);rw[b0 eH];exact c⟩) (λ_=>?_) λz=>by cases z
  exact⟨_,kA,["form","book"],[b.fm,pJ b],kA,eH,_,kA,_,a _ _,fs,an,m,d,b,k,t,fa,_,kA,kA,i,W,.inl ⟨kA,h⟩⟩
 ·refine mI true (λq c=>⟨_,kA,_,a _ _,_,kA,by show q n (decide _);rw[b0 eH];exact c⟩) (λ_=>?_) λz=>by cases z
  exact⟨_,kA,["form","book"],[b.fm,pJ b],kA,eH,_,kA,_,a _ _,fs,an,m,d,b,k,t,fa,_,kA,kA,i,W,.inr ⟨kA,h⟩⟩
 ·have n1:w∉(["tree","rows","rules","steps"]:List Str):=by rcases hw with rfl | rfl<;>decide +kernel
  have J:w∉(["judge","why"]:List Str):=by rcases hw with rfl | rfl<;>decide +kernel
  refine mI false (λq c=>⟨_,kA,_,a _ _,_,kA,by show q n (decide _);rw[b7 n1];exact c⟩) (λz=>by cases z) λ_=>zn ?_;dsimp only;refine mI false (λq c=>⟨_,kA,_,a _ _,hI,["judge","why"],kA,by show q n (decide _);rw[b7 J];exact c⟩) (λz=>by cases z) λ_=>zn ?_;dsimp only;exact⟨_,kA,["form","book"],[b.fm,pJ b],kA,eH,_,kA,fs,an,m,d,b,k,t,_,kA,kA,W,h⟩
def Dt:Fj P w base T.D_84 64 (iQ K (Ro B A)):=by
 refine YL (F:=oF A) T.D_84.F Os λk nd c n ds Q h=>?_;obtain⟨fs,an,m,d,Bo,a,t,ht,rfl,S,W,h⟩:=h;refine⟨_,(eY (vO (ss 5 nd (cd (Mi T) k (aB (aF 1) (aB (aF 2) (aB (aF 3) (aB (aF 4) aH)))))))
 (eY (oZ (HM PY ya (qV (aF 0) (AG (aB cN aH)) (λh e=>nK h T.C_Desk T.M_1 (yb T) (k.mono gV) T.D_1.d .nil kW e)) (rZ (cd (Ml T) k (aB (aF 1) (aB (aF 5) aH)))))
 (gT (lL (rZ EB)))
 mV)
 (eY (vO (so 6 nd aH))
 (eY (vO (sf (dP (wB (cF (Dk T) k (aB (aF 1) (aB (aF 5) (aB (cY Su (aB (aF 2) aH) JQ T.b_list JT) aH)))))) (lV (mW kA (eF (pn 7 nd) (eF (pn 8 nd) kQ))))
 (bH (qB (i:=6) (pv 6) (cE bM eA (cE bM eA (cE bM eA (cE bM eA (cY sC (aB (bJ aW cH (aF 7) aP) aH) lX T.b_str sD) cN) (cY sC (aB (bJ aW cH (aF 7) aP) aH) lX T.b_str sD)) cN) (cY sC (aB (cd (Mm T) k (aB (aF 8) aH)) aH) lX T.b_str sD)) (pb:=λh=>jM (iJ cA eI eG kE (pv 6) h))))))
 (K1 6 (gT (lL (YU (Tc iL lO (qV (aF 0) (AG (aB cN aH)) (λh e=>nK h T.C_Desk T.M_1 (yb T) (k.mono gV) T.D_1.d .nil kW e)) (rZ (oI cN (aB (aF 6) aH) (λh e=>iJ dG eX eW oH h e)))) (YU (rZ (YV (bJ aW cH (aF 6) aP) (aB cN aH) (λh e=>iJ dG CN CM GL h e))) (Tf (rZ (YV (bJ aW cH (aF 6) (JI aP)) (aB cN aH) (λh e=>iJ dG PySem.F.slot_str_endswith PySem.F.type_str_endswith Xb h e))))))))))))),?_⟩
 obtain rfl:c=Bo:=kU ht;have F:=W.F;have hh:=W.hh;have w4:=W.d4;have nt:=W.few;obtain⟨r,g2,g3⟩:=W.tr;obtain⟨fa,b⟩:=Cp F;have u:fK fs an (a.map (·.2)):=hh.ok;have y:(a.map (·.2)).length<=60:=by rw[aA];lia
 show zF _ _ _ _ _ [.val (MY B c),.val (dY fs an),.val (.list ((a.map (·.2)).map cV)),.val (.int (d:Nat)),.val (.int m),.un,.un,.un,.un];refine uP (bX (gE t) (λq g=>⟨_,kA,_,kA,_,kA,_,kA,fs,an,a.map (·.2),d,m,kA,F,u,y,hG,W.m1,λt' C=>by rw[JE d (List.Perm.refl _) C hh.gr];exact g⟩) ?_);refine mI false (λq g=>⟨_,kA,["form","book"],[c.fm,pJ c],kA,eH,fs,an,m,d,c,a,t,fa,"rules",kA,kA,b,W,eH,.inl ⟨kA,_,kA,_,kA,fs,an,t,kA,F,S,r,hG,hG,?_⟩⟩) (λz=>by cases z) λ_=>zn ?_
 ·show q n (!decide (tM fs t=tM fs t));rw[b0 rfl];exact g
 dsimp only;refine uP (lC [] hI (λq g=>g) ?_);obtain⟨l,s2,⟨l0,s3⟩,s4⟩:=GB b r u hG hG y;have hw:FA fs an fa/\CY fs fa t (a.map (·.2))=Txt.join ", " ((oS fs fa t (a.map (·.2))).map mD):=⟨b,kA⟩
 generalize v:oS fs fa t (a.map (·.2))=ST at l s2 s3 s4 hw
 have c1:("/":Str).length=1:=by decide +kernel
 have L:(" ":Str).length=1:=by decide +kernel
 refine uP (jZ (ts:=ST.map oD) (λR h=>⟨_,kA,_,kA,_,kA,fs,an,fa,t,a.map (·.2),kA,F,b,r,hG,hG,u,y,_,kA,by rw[v];exact h⟩)
  (λi σ=>∃E H:Sl,σ=[.val (MY B c),.val (dY fs an),.val (.list ((a.map (·.2)).map cV)),.val (.int (d:Nat)),.val (.int m),.val (gE t),.own (((ST.take i).map mD).map aL),E,H]) ⟨_,_,kA⟩ (λi x J U s=>?_) λJ s=>?_)
 ·obtain⟨E,H,rfl⟩:=s;rw[aM]at U;obtain⟨z,f,rfl⟩:=bZ.mp U;obtain⟨o,p,z3,z4⟩:=l z (aV f);have et:ST.take (i+1)=ST.take i++[z]:=by rw[cI,f];rfl
  obtain⟨a1,a2⟩:=mT z.1.1 hG;obtain⟨b1,b2⟩:=mT z.1.2 hG;obtain⟨d1,d2⟩:=mT z.2.kn hG;refine⟨_,_,kA,?_⟩;refine pB (ts:=((ST.take i).map mD).map aL) (.str (mD z)) kA (by rw[aA,aA,bD];lia) (λq g=>?_) ⟨_,_,by rw[et,bT,bT];rfl⟩;refine⟨_,kA,_,kA,a2,?_⟩;refine⟨by show(jH _).length+_<=_;rw[c1];lia,_,kA,_,kA,b2,?_⟩;refine⟨by show(jH _++_).length+(jH _).length<=_;rw[eU,c1];lia,?_⟩;refine⟨by show(jH _++_++jH _).length+_<=_;rw[eU,eU,c1,L];lia,_,kA,z.2,kA,hG,hG,d2,?_⟩;exact⟨by show(jH _++_++jH _++_).length+(jH _).length<=_;rw[eU,eU,eU,c1,L];lia,g⟩
 ·obtain⟨E,H,rfl⟩:=s;rw[aA,dB];have k0:=(AW (fs:=fs) (fa:=fa) 1 0 t (a.map (·.2))).1;have e0:L2.atI ((ST.map mD).map aL) 0=some (.str (mD ((0,1),(lw fs fa 1 0 t (a.map (·.2))).2))):=L2.eK (j:=0) (by rw[s3];rfl);obtain⟨z,f⟩:∃z,ST[ST.length-1]?=some z:=⟨_,aD (by rw[s3];simp)⟩;have e1:L2.atI ((ST.map mD).map aL) (-1)=some (.str (mD z)):=MT (by rw[aA,aA,aM,aM,f];rfl);obtain⟨o,p,_,_⟩:=l z (aV f)
  have N:=qA (n:=20) (ws:=ST.map mD) λw hw=>by
   obtain⟨z,f,rfl⟩:=aQ.mp hw;obtain⟨o,p,z3,_⟩:=l z f;exact GC o p z3
  have c3:(", ":Str).length=2:=by decide +kernel
  refine⟨_,kA,_,kA,["form","book"],[c.fm,pJ c],kA,eH,fs,an,m,d,c,a,t,fa,"steps",kA,kA,b,W,eH,.inr (.inl ⟨kA,_,kA,_,kA,ST.map mD,kA,?_,_,kA,?_⟩)⟩
  ·rw[c3];rw[aA]at *;lia
  ·rw[a9 (b0 hw.2)];refine⟨_,kA,_,e0,_,kA,_,kA,?_⟩;rw[OH hG,a9 rfl];refine⟨_,kA,_,e1,_,kA,?_⟩;show Q n (.bool (Txt.endswith (mD z) " 0"));rw[SW o p (s4 z f)];exact h
def T0:Ft P w base T.D_law 66 C0:=by
 refine nA T.D_law.F Vp λg nd ds Q h=>?_;obtain⟨ns,rfl,o,h⟩:=h;refine⟨_,(aS (ss 1 nd (TB (cF (Ld T) g (aB (aF 0) aH))))
 (aS (ss 2 nd (cd (Le T) g (aB (aF 1) (aB aP (aB aP aH)))))
 (aS (ss 3 nd (cd (nM T) g (aB (aF 1) (aB aP aH))))
 (aS (ss 4 nd (cE bM eA aP (cd (nM T) g (aB (aF 1) (aB aP aH)))))
 (Za (i:=5) (aB (aF 2) (aB (aF 3) (aB (aF 4) aH))) (λh=>rP (i:=5) nd kA (by first | exact h9 kA | exact g6 kA) (PV T.K_Desk (Gy T) (g.mono gV) kA T.x_Desk T.D_0.d .nil kW h))
 (eY (vO (so 6 nd aH))
 (eY (Va (tX (aB (cd (nM T) g (aB (aF 1) (aB aP aH))) aH) (λh=>qR kA T.b_range h)) (dF (pn 7 nd))
 (eY (vO (qB (i:=6) (pv 6) (cd (Dq T) g (aB (aF 1) (aB (aF 2) aH))) (pb:=λh=>jM (iJ cA eI eG kE (pv 6) h))))
 (gT (oZ (HM PY ya (qV (aF 5) (AG (aB (cE bM eA cN (cd (Ds T) g (aB (MA (pv 6) (aF 7)) aH))) aH)) (λh U=>nK h T.C_Desk T.M_1 (yb T) (g.mono gV) T.D_1.d .nil kW U)) (rZ (cY sC (aB (aF 7) aH) lX T.b_str sD)))
 (gT (lL (rZ EB)))
 mV))) (λn y hb=>V6 o8 kA n y hb))
 (eY (oZ (RK 6 (U3 (U2 (QO (k:=0) (f:=(EU mg "_law_right")) (fd:=(JH K (EU mg "_law_right"))) (pn:=[]) (AG (aB (aF 5) (aB (aF 2) (aB (aF 6) (aB (aF 3) (aB (aF 4) aH)))))) (λh=>pT (Dt T) (g.mono gV) kA T.D_84.m T.D_84.k T.D_84.d .nil kW h)) (λh=>NO h))))
 (gT (lL (rZ EB)))
 mV)
 (eY (oZ (HL (F4 6 (dE (NW g) qE (aF 6) (mJ aH))))
 (eY (vO (ss 8 nd (cd (nM T) g (aB (aF 1) (aB (TF 6 (cB iS (aB (aF 6) aH) cO T.b_len fX)) aH)))))
 (eY (vO (Uz (i:=6) (pv 6) (aF 8) (cd (Dq T) g (aB (aF 1) (aB (aF 2) aH))) (λhe n=>DA he (IB (pv 6) n xR))))
 (gT (oZ (HM PY ya (qV (aF 5) (AG (aB (cE bM eA (cE bM eA (cE bM eA cN (cY sC (aB (aF 8) aH) lX T.b_str sD)) cN) (cd (Ds T) g (aB (MA (pv 6) (aF 8)) aH))) aH)) (λh U=>nK h T.C_Desk T.M_1 (yb T) (g.mono gV) T.D_1.d .nil kW U)) (rZ cN))
 (gT (lL (rZ EB)))
 mV))))
 mV)
 (K1 6 (gT (lL (QO (k:=0) (f:=(EU mg "_law_right")) (fd:=(JH K (EU mg "_law_right"))) (pn:=[]) (AG (aB (aF 5) (aB (aF 2) (aB (aF 6) (aB (aF 3) (aB (aF 4) aH)))))) (λh=>pT (Dt T) (g.mono gV) kA T.D_84.m T.D_84.k T.D_84.d .nil kW h)))))))))))))),?_⟩
 show gL _ _ _ [.val (.list (ns.map bO)),.un,.un,.un,.un,.un,.un,.un,.un];refine fC (λd=>d=kK ns) (λq l=>⟨_,kA,ns,kA,o,λc hc=>⟨ns,c,kA,hc,l _ kA⟩⟩) ?_;rintro _ rfl;refine fC (λd=>∃fs an,eV fs an/\HB fs/\d=dY fs an) (λq l=>⟨_,kA,ns,3,4,kA,o,gV,gV,gV,gV,λfs an F s1 s2=>l _ ⟨fs,an,F,⟨s1,s2⟩,kA⟩⟩) ?_;rintro _ ⟨fs,an,F,S,rfl⟩;refine fC (λv=>∃d:Nat,d<=4/\v=.int (d:Nat)) (λq l=>⟨_,kA,ns,5,kA,o,gV,gV,λr s L=>l _ ⟨r.toNat,hG,by rw[eM s]⟩⟩) ?_;rintro _ ⟨d,hd,rfl⟩;refine fC (λv=>∃m:Int,1<=m/\v=.int m) (λq l=>⟨_,kA,ns,3,kA,o,gV,gV,λr s L=>l _ ⟨_,hG,kA⟩⟩) ?_;rintro _ ⟨m,hm,rfl⟩;obtain⟨fa,u⟩:=Cp F;refine⟨_,kA,_,kA,_,kA,dY fs an,d,m,kA,fs,an,d,m,kA,F,hG,λt0 sk Tb hf ph qt=>?_⟩;show zF _ _ _ _ _ [.val (.list (ns.map bO)),.val (kK ns),.val (dY fs an),.val (.int (d:Nat)),.val (.int m),.val (MY B Tb),.un,.un,.un];refine uP (lC [] hI (λq l=>l) ?_);refine⟨_,kA,ns,11,kA,o,gV,gV,λN s L=>⟨N,kA,hG,hG,?_⟩⟩;have hN:N.toNat<=10:=by lia
 refine⟨λi H σ=>∃(a:List (Nat×Rw))(t:Tr)(J:Sl),a.length=i/\uJ fs an m d Tb a t H/\σ=[.val (.list (ns.map bO)),.val (kK ns),.val (dY fs an),.val (.int (d:Nat)),.val (.int m),.val (MY B Tb),.own ((a.map (·.2)).map cV),J,.un],⟨[],t0,.un,kA,⟨F,hf,ph,qt,hd,hm,cJ _,⟨kA,kA,kA,(λr g=>by cases g),sk,cJ _⟩,(λi e n=>by simp at n)⟩,kA⟩,λi H x t6 hx R=>?_,λH t6 R=>?_⟩
 ·obtain⟨a,t,J,n,W,rfl⟩:=R
  obtain⟨uz,rfl⟩:i<N.toNat/\x=.int (i:Nat):=by
   unfold fW at hx;rw[aM]at hx;obtain⟨j,hj,rfl⟩:=bZ.mp hx;obtain⟨C,E⟩:=aG.mp hj;rw[US]at E;rw[nX]at C;subst E;exact⟨C,kA⟩
  subst n;refine⟨_,kA,_,kA,_,kA,ns,fs,an,kA,o,F,λr b=>⟨by rw[aA,aA];lia,?_⟩⟩;dsimp only;have e1:(a.map (·.2)).map cV++[cV r]=((a++[(a.length,r)]).map (·.2)).map cV:=by rw[bT,bT];rfl
  have p:L2.atI ((a.map (·.2)).map cV++[cV r]) (a.length:Nat)=some (cV r):=L2.eK (by rw[dW (by rw[aA,aA];exact aN _),aA,aA,aRk];rfl);refine⟨_,kA,["form","book"],[Tb.fm,pJ Tb],kA,eH,⟨_,kA,_,kA,(a.length:Nat),cV r,kA,p,fs,an,r,kA,F,b,?_⟩⟩;have pl:=Xx F b;rw[eU]at pl;refine⟨hG,fs,an,m,d,Tb,a,t,fa,_,kA,kA,u,W,by rw[eU];lia,.inr (.inr (.inl ⟨r,b,hG,Zl F b,λt' y=>?_⟩))⟩;refine⟨_,kA,(mT a.length hG).2,?_⟩;show(if(!decide (jH (a.length:Nat)=jH (a.length:Nat)))=true then _ else _);rw[b0 kA,a8 gV];exact⟨_,t',_,by rw[aZ];rfl,W.put b hG y,by rw[e1];rfl⟩
 ·obtain⟨a,t,J,n,W,rfl⟩:=R;have nt:=W.few;dsimp only;refine mI false (λq l=>⟨_,kA,?_⟩) (λz=>by cases z) λ_=>zn ?_
  ·refine⟨_,kA,_,kA,_,kA,_,kA,_,kA,fs,an,m,d,Tb,a,t,kA,kA,S,W,W.nl,l⟩
  dsimp only;refine Vt (decide (a≠[])) (λnn σ=>∃(a:List (Nat×Rw))(t:Tr)(s8:Sl),uJ fs an m d Tb a t nn/\σ=[.val (.list (ns.map bO)),.val (kK ns),.val (dY fs an),.val (.int (d:Nat)),.val (.int m),.val (MY B Tb),.own ((a.map (·.2)).map cV),J,s8]) (λq l=>?_) (λhb uj hD=>?_) (λ_=>⟨a,t,_,W,kA⟩) ?_
  ·have lj:=Bw F W.hh.ok (by rw[aA];lia);refine⟨_,kA,_,kA,hI,⟨lj.lay,kA,bE (sS _ _) hI⟩,?_⟩;show q H (!cM (.list ((a.map (·.2)).map cV)) (.list []));rw[QP];have e:(!((a.map (·.2)).map cV).isEmpty)=decide (a≠[]):=by cases a<;>rfl
   rw[e];exact l
  ·have bn:a.length≠0:=λz=>b8 hb (kN.mp z);refine uP (fC (λv=>∃k:Nat,k<a.length/\v=.int (k:Nat)) (λq l=>⟨_,kA,_,kA,_,kA,kA,ns,((a.length:Nat):Int),by rw[aA,aA],o,hG,hG,λr s L=>l _ ⟨r.toNat,hG,by rw[eM s]⟩⟩) ?_);rintro _ ⟨k,hk,rfl⟩;refine⟨_,kA,_,kA,_,kA,ns,fs,an,kA,o,F,λr b=>⟨_,kA,k,kA,by rw[aA,aA];exact hk,?_⟩⟩;dsimp only;rw[U7 W];have p:L2.atI (((mC k r a).map (·.2)).map cV) (k:Nat)=some (cV r):=L2.eK (by rw[<- U7 W,bV (by rw[aA,aA];exact hk)]);obtain⟨l1,l2,l3⟩:=RN F b (show k<10 by lia);refine⟨_,kA,["form","book"],[Tb.fm,pJ Tb],kA,eH,_,kA,(mT k hG).2,by rw[<- eU];exact bE l1 hI,by rw[<- eU];exact bE l2 hI,_,kA,_,kA,(k:Nat),cV r,kA,p,fs,an,r,kA,F,b,by rw[<- eU];exact bE l3 hI,?_⟩;refine⟨fs,an,m,d,Tb,a,t,fa,_,kA,kA,u,W,bE l3 hI,.inr (.inr (.inr ⟨k,r,b,hk,Yg F b hG,λt' y=>?_⟩))⟩;exact hD _ _ ⟨mC k r a,t',_,W.turn b y,kA⟩
  ·rintro vp _ ⟨tx,t2,s8,W2,rfl⟩;exact⟨_,kA,_,kA,_,kA,_,kA,_,kA,_,kA,fs,an,m,d,Tb,tx,t2,kA,kA,S,W2,h⟩
def To:Ft P w base T.D_law 66 C0:=T0 T
def aI1{l:ao}{fa:Addr}(a:mg "law"=some (.ref fa)):∃b:hX,(∀s(v:Value),BindsTo s b ⟨[v],[]⟩ [("_law_script",v)])/\∀base:Heap,K.In base->base.Ns gQ mg->mB l.prog w K mg base pK 66 fa b ["_law_script"] (jO K C0):=by
 have e:=a.symm.trans T.D_law.m;cases e;refine⟨(JH K (EU mg "law")),?_,λbase _ _=>To T⟩;obtain⟨_,_,_,_,_,_,_,_,_,e,_⟩:=T.D_law.F.ex;rw[e]
 exactλs v=>.of_eq kA
omit T
def X0{t n:Nat}(l:K.lookup t=some ⟨.type "tuple",none,.seq #[.str "yes" k0,.str "no" k1] n,s⟩):ZM K t ["yes","no"]:=⟨_,_,_,l,kA,kA,kA,(by show 2<=bF;decide),.cons ⟨_,kA⟩ (.cons ⟨_,kA⟩ (.nil))⟩
def BG{t n:Nat}(l:K.lookup t=some ⟨.type "tuple",none,.seq #[.str "tree" k0,.str "rows" k1,.str "rules" k2,.str "steps" k3] n,s⟩):ZM K t ["tree","rows","rules","steps"]:=⟨_,_,_,l,kA,kA,kA,(by show 4<=bF;decide),.cons ⟨_,kA⟩ (.cons ⟨_,kA⟩ (.cons ⟨_,kA⟩ (.cons ⟨_,kA⟩ (.nil))))⟩
def XJ:bB H (mask H []):=λb o e=>by
 unfold mask;rw[a8 hH];exact e
theorem GX{K}:∀ns:List Int,Reps K H (ns.map bO) (ns.map V.int)
|[]=>.nil
|n::ns=>.cons (.int n) (GX ns)
def aSj{l:ao}{g:(Str->Option Value)->Heap->Prop}{b:e6->Heap->Prop}{d:DefRec}{K:Params->aI}(t:l.most=some 63)(c:d.params.defaults=[])
  (m:∀(w:e6)(h:Heap),b w h->(K w.params).In h) (j:∀(w:e6)(h:Heap),b w h->∀P,tabA=some P->h.get? P=some { cls:=.none,data:=.fields #[] }/\(K w.params).lookup P=none/\z9 h P)
  (F:∀(w:e6)(mg:Str->Option Value)(fa:Addr)(h:Heap),(K w.params).In h->h.Ns gQ mg->mg d.name=some (.ref fa) ->
   ∃e:hX,(∀s(u:Value),BindsTo s e ⟨[u],[]⟩ [("_law_script",u)])/\∀base:Heap,(K w.params).In base->base.Ns gQ mg->mB l.prog w (K w.params) mg base pK 66 fa e ["_law_script"] (jO (K w.params) C0)) :
  ZZ q loose g b l.row.toRowW d [] (λf vs=>ec f vs):=
 L2.Z7 (n:=63) (k:=66) (x:="_law_script") (CX:=λ_=>pK) (sp:=λw=>jO (K w.params) C0) t gV c ⟨kA,gV,gV,kA⟩ m j F
  (λw H a ns o _ i=>⟨[],[.list (ns.map bO)],λd=>d=.bool true,λp y=>by simp at y,.cons (.list (L2.bB.seq XJ i) (GX ns)) .nil,⟨ns,kA,o,kA⟩,λd v C _ r q=>by subst q;cases r;rfl⟩) λ_ _ _ _ _ z=>z
end
end K74
open L2
namespace PySem.W.Fast
theorem mt:True:=⟨⟩
def tw4780000996435511481:=mt
def tw8062242288537257773:=mt
def tw1140586355351617908:=mt
def tw15792078995548601143:=mt
def tw13134097762948281388:=mt
def tw3801289408610578633:=mt
def tw17085568414641010991:=mt
def tw6130541675045968287:=mt
def tw12423789890817854591:=mt
def tw12624101026294193793:=mt
def tw12345050266779940463:=mt
def tw16910461370789853784:=mt
def tw6157508138635399379:=mt
def tw13952337215204462955:=mt
def tw11610075640296306072:=mt
def tw9016513244985096344:=mt
def tw137330441208888870:=mt
def tw17257645617759331303:=mt
def tw6884198417079747414:=mt
def tw17463601368304927298:=mt
def tw477111611743031130:=mt
def tw17627074462687087186:=mt
def tw3048461925534509578:=mt
def tw1789732398460534132:=mt
def tw2711128078247686762:=mt
def tw13443848887745355926:=mt
def tw17314738159355605227:=mt
def tw17132779169970542356:=mt
def tw12277154178402928181:=mt
def tw11854306861446958928:=mt
def tw10297998415281456557:=mt
def tw16092180333906004254:=mt
def tw13240775158737326582:=mt
def tw13763973916991774775:=mt
def tw16986182287204638707:=mt
def tw204280899909467904:=mt
def tw14226681440610173860:=mt
def tw4797743192971756654:=mt
def tw10750101848511897828:=mt
def tw1319593652621575886:=mt
def tw1915759955828527843:=mt
def tw11661985225118849261:=mt
def tw10242000707374536182:=mt
def tw1589730567458892509:=mt
def tw10453122276456032804:=mt
def tw3421457553703171992:=mt
def tw8249924145115759226:=mt
def tw15589269763361662293:=mt
def tw11087044504344127598:=mt
def tw11333900476014909893:=mt
def tw4264401193877889983:=mt
def tw18002206126744094683:=mt
def tw2843984541571163265:=mt
def tw15467642591835660455:=mt
def tw16347240408960526184:=mt
def tw15145188978848918417:=mt
def tw12620032070636541052:=mt
def tw6493469226479458638:=mt
def tw15120164365162851405:=mt
def tw15420539836492201488:=mt
def tw7800213419200522288:=mt
def tw13686930790627253876:=mt
def tw7198526759117029958:=mt
def tw3922270851060436190:=mt
def tw10637121714828687195:=mt
def tw1148613703562105887:=mt
def tw11966721494768176610:=mt
def tw17250503070261924356:=mt
def tw17056868994270589870:=mt
def tw12465762249091672249:=mt
def tw16021780501823524634:=mt
def tw17529827609294065257:=mt
def tw3038198775288474689:=mt
def tw1031348949761099605:=mt
def tw12611486909346421393:=mt
def tw6249611961977482344:=mt
def tw7066267918522571048:=mt
def tw8829016548428379850:=mt
def tw10680820070281637083:=mt
def tw11833725485178084115:=mt
def tw1192124002231091128:=mt
def tw12552163086065493252:=mt
def tw4371569853727241084:=mt
def tw13794633716808161391:=mt
def tw4400457514478076937:=mt
def tw79515592018866963:=mt
def tw12052808464558398756:=mt
def tw1434878373813887367:=mt
def tw5061979818912177021:=mt
def tw183655315551772605:=mt
def tw13011457693817178350:=mt
def tw14551760277008764563:=mt
def tw12342270070503164224:=mt
def tw4790164217291020969:=mt
def tw17179637783535098818:=mt
def tw11464271056750551616:=mt
def tw1847695857287489048:=mt
def tw10737433319965483334:=mt
def tw8269383752230295312:=mt
def tw9776088961608244614:=mt
def tw16856213788057393184:=mt
def tw18257741818379872940:=mt
def tw1476554221483420837:=mt
def tw13547337410828084372:=mt
def tw11110867291799467325:=mt
def tw17128047785778878979:=mt
def tw6030200085511539319:=mt
def tw15106052090934727015:=mt
def tw7628700348553389480:=mt
def tw15118988257007091574:=mt
def tw3725529873770895745:=mt
def tw11124500291007904343:=mt
def tw13074801669218878588:=mt
def tw13258462973246093434:=mt
def tw926889769469389561:=mt
def tw8828839822725425039:=mt
def tw11062629522041992687:=mt
def tw16788427043389027679:=mt
def tw14005889506365611126:=mt
def tw13208882316199752207:=mt
def tw4880926929056569616:=mt
def tw3687812704520285862:=mt
def tw13528035242459170269:=mt
def tw11458180010609697420:=mt
def tw12650265037990911144:=mt
def tw15370389904592046151:=mt
def tw6566102095038753941:=mt
def tw3310531268986232354:=mt
def tw7696665285758015267:=mt
def tw12651508622674660950:=mt
def tw9658878758902780944:=mt
def tw335800027604247319:=mt
def tw4551344240968182143:=mt
def tw11696289776187224058:=mt
def tw13518610236882796013:=mt
def tw11474180171593185574:=mt
def tw15392802647775594572:=mt
def tw9622390331561728328:=mt
def tw5486119749009370749:=mt
def tw9767001623238134963:=mt
def tw15820977281772497741:=mt
def tw1418589597824673693:=mt
def tw12624571546818298214:=mt
def tw14369994377692867050:=mt
def tw4903792990724040612:=mt
def tw18152299873865709545:=mt
def tw17569924045869414546:=mt
def tw4700120080326439538:=mt
def tw13342751752435274466:=mt
def tw17585688949271717124:=mt
def tw499587667457712105:=mt
def tw11824848572067590250:=mt
def tw7194999218660187008:=mt
def tw1435564184375237513:=mt
def tw9533539061699759891:=mt
def tw2554476853006599203:=mt
def tw16561823755049154084:=mt
def tw17614483902083866413:=mt
def tw14351650146269310322:=mt
def tw5029692001823864428:=mt
def tw2535402869761507144:=mt
def tw3958409219423767957:=mt
def tw18074028235504112767:=mt
def tw17905732011767664203:=mt
def tw14788227057608582157:=mt
def tw4110726682879641080:=mt
def tw9182816230682175608:=mt
def tw3490160485975885267:=mt
def tw9546201050502590576:=mt
def tw5686820479369016002:=mt
def tw17939091451358338448:=mt
def tw13528147118656574716:=mt
def tw3632272950084914960:=mt
def tw17254715254398052916:=mt
def tw4758101450954118355:=mt
def tw187900517182119176:=mt
def tw16763309239509709677:=mt
def tw1785062803566046814:=mt
def tw17126477566611519932:=mt
def tw11796829924747923744:=mt
def tw6449239694754320092:=mt
def tw12852509065803221582:=mt
def tw11481782860826847976:=mt
def tw17865608716871110597:=mt
def tw6210773669814903232:=mt
def tw1757025604876621558:=mt
def tw5605089160186088492:=mt
def tw12870576751899618831:=mt
def tw13632609001120267903:=mt
def tw13127871598461018567:=mt
def tw11994060243697752297:=mt
def tw7463565971980114884:=mt
def tw13201134991639653803:=mt
def tw8309905349062379342:=mt
def tw1696590277623778449:=mt
def tw6966160663863610674:=mt
def tw17420031457553366939:=mt
def tw5997499196484178373:=mt
def tw234723100405634452:=mt
def tw3873677030129769635:=mt
def tw4202714065299333938:=mt
def tw1905934139993441730:=mt
def tw9434738781233263146:=mt
def tw9563983825708376601:=mt
def tw2129923129577645997:=mt
def tw3525964457580936402:=mt
def tw17126150453770449968:=mt
def tw1311279353458912278:=mt
def tw8495210400784868217:=mt
def tw12629053736201084761:=mt
def tw934693542997429518:=mt
def tw3394620905401847275:=mt
def tw3394035852102673099:=mt
def tw11013115642666421278:=mt
def tw9555873376090004362:=mt
def tw8886917623189912793:=mt
def tw6194460877219686609:=mt
def tw6241826691922197734:=mt
def tw12405786228758753221:=mt
def tw7352977141195185003:=mt
def tw15922704702857255662:=mt
def tw13144968699572981375:=mt
def tw10382062716864535018:=mt
def tw5406677845033865989:=mt
def tw14105658802708137907:=mt
def tw14119087015936149544:=mt
def tw7550158461973985164:=mt
def tw622640066693792838:=mt
def tw2638456375207434469:=mt
def tw17479450978083093799:=mt
def tw3943759087642964405:=mt
def tw12051680222682561097:=mt
def tw1276207429895856929:=mt
def tw10463811387758725199:=mt
def tw3097077234141870242:=mt
def tw2016528926660175140:=mt
def tw13721503107857800857:=mt
def tw675648217198894993:=mt
def tw5084794364430760085:=mt
def tw960588248025425464:=mt
def tw6610581916022555277:=mt
def tw16140606333661832938:=mt
def tw992208543066701065:=mt
def tw17548316826305822157:=mt
def tw16785973643250911530:=mt
def tw8047977794462367476:=mt
def tw647856705204642794:=mt
def tw512313394808332207:=mt
def tw12538643065067443960:=mt
def tw16532812993226253928:=mt
def tw435884212501517780:=mt
def tw10429089021369188982:=mt
def tw18034493057819401165:=mt
def tw3275530025789972059:=mt
def tw2117431720026462778:=mt
def tw497134295568185472:=mt
def tw8246298410108171515:=mt
def tw14750486059775556548:=mt
def tw8106053414201607035:=mt
def tw4587688006535054340:=mt
def tw15564861278709859305:=mt
def tw6868854509213004639:=mt
def tw14083265661180179458:=mt
def tw5376547951499628251:=mt
def tw12734223616838860300:=mt
def tw3924243091309343972:=mt
def tw5633258214337177828:=mt
def tw170336792111603664:=mt
def tw11026888225391988484:=mt
def tw12702206100356868716:=mt
def tw12851684155465371101:=mt
def tw14910836313269293766:=mt
def tw5527288760349819083:=mt
def tw7747483262880973589:=mt
def tw1803596796887161492:=mt
def tw6618719696698189968:=mt
def tw6377722790013386411:=mt
def tw9569898680789593850:=mt
def tw10784490803095764199:=mt
def tw9268716683830449038:=mt
def tw13581053965058694117:=mt
def tw15022281528353658010:=mt
def tw455559144879372637:=mt
def tw6483422268965928344:=mt
def tw9858819162298469585:=mt
def tw8598540504771649438:=mt
def tw1771304624320248027:=mt
def tw8496755644891824131:=mt
def tw11536657226761031438:=mt
def tw10689658788469827977:=mt
def tw5049494467698443655:=mt
def tw16355738377065546198:=mt
def tw10774114366384663359:=mt
def tw17269147168864778825:=mt
def tw2164150963346233315:=mt
def tw11861147817292830467:=mt
def tw8691045237798129562:=mt
def tw4472170786939463178:=mt
def tw8244981245610241372:=mt
def tw17704304480429327764:=mt
def tw15486803892770124799:=mt
def tw10370437647765357994:=mt
def tw17493630109828518644:=mt
def tw5044517974845889186:=mt
def tw15526669953357088265:=mt
def tw3712993528160114905:=mt
def tw8137432096149568046:=mt
def tw13363809170275400890:=mt
def tw14099431525352527599:=mt
def tw13747265324055584506:=mt
def tw17766848589485537154:=mt
def tw10081518102704983437:=mt
def tw434966781604242534:=mt
def tw9677878681585255150:=mt
end PySem.W.Fast
open PySem PySem.W PyProof.Rows
set_option maxRecDepth 100000 in
set_option maxHeartbeats 0 in
theorem PySem.Challenge.cw_leafjudge_k74_rules_and_steps_as_texts_holds : PySem.Challenge.rw_leafjudge_k74_rules_and_steps_as_texts.Holds := by
  w_on; o_law; k_head; (case hw => w_witness2)
  k_fill
  refine K74.aSj (l := PySem.Challenge.rw_leafjudge_k74_rules_and_steps_as_texts) rfl rfl (λw h Y => PySem.W.km_in_of Y) (λw h Y P e => ?T) ?F
  case T =>
    cases e
    exact ⟨km_tabs_of Y 228 (aO ..), by kernel_rfl, L2.aGm (codeHd_of_K (c := 230) (P := 228) (km_in_of Y) (by kernel_rfl)) (km_tabs_of Y 228 (aO ..))⟩
  case F =>
    intro w mg fa h KX G qv
    refine' K74.aI1 ⟨dr KX G ?_,⟨?_, ?_, ?_, ?_⟩,⟨?_, ?_, ?_, ?_⟩,na ?_,na ?_,na ?_,na ?_,na ?_,na ?_,⟨?_, ?_, ?_⟩,⟨?_, ?_, ?_⟩,⟨?_, ?_, ?_⟩,⟨?_, ?_, ?_⟩,⟨?_, ?_, ?_⟩,⟨?_, ?_, ?_⟩,⟨?_, ?_, ?_⟩,dr KX G ?_,⟨?_, ?_, ?_, ?_⟩,⟨?_, ?_, ?_, ?_⟩,na ?_,na ?_,⟨?_, ?_, ?_⟩,⟨?_, ?_, ?_⟩,⟨?_, ?_, ?_⟩,dg wd ?_ ?_ ?_,dg vG ?_ ?_ ?_,dg vG ?_ ?_ ?_,dg vG ?_ ?_ ?_,dg wd ?_ ?_ ?_,dg vG ?_ ?_ ?_,dg MQ ?_ ?_ ?_,dg BL ?_ ?_ ?_,dg BL ?_ ?_ ?_,dg vG ?_ ?_ ?_,dg vG ?_ ?_ ?_,dg BL ?_ ?_ ?_,df KX G MQ ?_ ?_ ?_ ?_,df KX G vG ?_ ?_ ?_ ?_,df KX G vG ?_ ?_ ?_ ?_,df KX G BL ?_ ?_ ?_ ?_,df KX G vG ?_ ?_ ?_ ?_,df KX G vG ?_ ?_ ?_ ?_,df KX G vG ?_ ?_ ?_ ?_,df KX G vG ?_ ?_ ?_ ?_,df KX G vG ?_ ?_ ?_ ?_,df KX G vG ?_ ?_ ?_ ?_,df KX G vG ?_ ?_ ?_ ?_,df KX G BL ?_ ?_ ?_ ?_,df KX G BL ?_ ?_ ?_ ?_,df KX G BL ?_ ?_ ?_ ?_,df KX G BL ?_ ?_ ?_ ?_,df KX G wd ?_ ?_ ?_ ?_,df KX G vG ?_ ?_ ?_ ?_,df KX G MQ ?_ ?_ ?_ ?_,df KX G vG ?_ ?_ ?_ ?_,df KX G wd ?_ ?_ ?_ ?_,df KX G vG ?_ ?_ ?_ ?_,df KX G vG ?_ ?_ ?_ ?_,df KX G MQ ?_ ?_ ?_ ?_,df KX G vG ?_ ?_ ?_ ?_,df KX G MQ ?_ ?_ ?_ ?_,df KX G wd ?_ ?_ ?_ ?_,df KX G BL ?_ ?_ ?_ ?_,df KX G vG ?_ ?_ ?_ ?_,df KX G BL ?_ ?_ ?_ ?_,df KX G MQ ?_ ?_ ?_ ?_,df KX G MQ ?_ ?_ ?_ ?_,df KX G MQ ?_ ?_ ?_ ?_,df KX G vG ?_ ?_ ?_ ?_,df KX G vG ?_ ?_ ?_ ?_,df KX G wd ?_ ?_ ?_ ?_,df KX G vG ?_ ?_ ?_ ?_,df KX G MQ ?_ ?_ ?_ ?_,df KX G BL ?_ ?_ ?_ ?_,df KX G wd ?_ ?_ ?_ ?_,df KX G wd ?_ ?_ ?_ ?_,df KX G MQ ?_ ?_ ?_ ?_,df KX G MQ ?_ ?_ ?_ ?_,df KX G MQ ?_ ?_ ?_ ?_,df KX G vG ?_ ?_ ?_ ?_,df KX G BL ?_ ?_ ?_ ?_,df KX G MQ ?_ ?_ ?_ ?_,df KX G MQ ?_ ?_ ?_ ?_,df KX G BL ?_ ?_ ?_ ?_,df KX G BL ?_ ?_ ?_ ?_,df KX G BL ?_ ?_ ?_ ?_,df KX G BL ?_ ?_ ?_ ?_,df KX G BL ?_ ?_ ?_ ?_,df KX G vG ?_ ?_ ?_ ?_,df KX G vG ?_ ?_ ?_ ?_,df KX G vG ?_ ?_ ?_ ?_,df KX G BL ?_ ?_ ?_ ?_,df KX G vG ?_ ?_ ?_ ?_,df KX G vG ?_ ?_ ?_ ?_,df KX G MQ ?_ ?_ ?_ ?_,df KX G BL ?_ ?_ ?_ ?_,df KX G BL ?_ ?_ ?_ ?_,df KX G MQ ?_ ?_ ?_ ?_,df KX G BL ?_ ?_ ?_ ?_,df KX G vG ?_ ?_ ?_ ?_,df KX G vG ?_ ?_ ?_ ?_,df KX G wd ?_ ?_ ?_ ?_,df KX G vG ?_ ?_ ?_ ?_,df KX G BL ?_ ?_ ?_ ?_,df KX G BL ?_ ?_ ?_ ?_,df KX G MQ ?_ ?_ ?_ ?_,df KX G vG ?_ ?_ ?_ ?_,df KX G BL ?_ ?_ ?_ ?_,df KX G Ga ?_ ?_ ?_ ?_,df KX G BL ?_ ?_ ?_ ?_,dr KX G ?_,K74.X0 ?_,dr KX G ?_,dr KX G ?_,dr KX G ?_,dr KX G ?_,dr KX G ?_,K74.BG ?_,dr KX G ?_,Ts KX G ?_ ?_ (Tt ?y_34 rfl),i8 KX G ?_,i8 KX G ?_,i8 KX G ?_,i8 KX G ?_,i8 KX G ?_,i8 KX G ?_,i8 KX G ?_,i8 KX G ?_,i8 KX G ?_,i8 KX G ?_,i8 KX G ?_,i8 KX G ?_,i8 KX G ?_,i8 KX G ?_⟩ qv
    (case y_34 => kernel_rfl)
    all_goals try k_is

end
end
noncomputable section