import PyProof.Rows.All
import Wide.All
import OpenK.AllK
import Wide.FinOn
import Lean
import PyProof.EqAt
import PyProof.EqKinds
import PyProof.TupleCall
import PyProof.P3In
import PyProof.NeData
import KE.KSortKey
import PyProof.Rows.SortRuns
import KE.KLam
import KE.KNestM
import PyProof.FitsReplace
import PyProof.StrBlockL
import KE.KDictList
import KE.KItemsList
import PyProof.DictWalks
import PyProof.DictRoadsH
import PyProof.DictCopy
import PyProof.NsDelKeeps
import KE.KTryMore
import PySem.Challenge.RW_leafjudge_k70_whole_books_grown_anew
set_option Elab.async false
set_option linter.all false
set_option compiler.extract_closed false
set_option bootstrap.genMatcherCode false
set_option maxRecDepth 100000
theorem Cu{p:Prop}(h:p:=by decide +kernel):p:=h
theorem Cv{p:Prop}(h:p:=by decide):p:=h
theorem Cw{p:Prop}(h:p:=by lia):p:=h
theorem Cy{p:Prop}(h:p:=by simp):p:=h
theorem Da{a b:Nat}(h:Nat.ble a b=true:=by rfl):a<=b:=Nat.le_of_ble_eq_true h
theorem Db{α:Sort u}{a:α}:a=a:=rfl
open Option.some renaming inj->c8
open PySem.Value renaming ref->c9,none->g8,int->m6,type->n7,str->ae,builtin->aq,bool->ax,float->gh
open PySem.Str renaming ofString->d7,length->bd
open PySem.Builtin.SmallTypes renaming nextOf->d8,ownedTupleIsFree->i5,ownedTupleHandOut->u9
open PySem renaming Around->d9,bootBuiltins->e4,wpAny_field->f6,World->f7,compareOp->f8,attributeBase->h7,behindInMarks->h8,mem_of_lookup->i0,wpAny_pyIter_list->i4,backTo->i9,foldedSetIterable->j2,wpAny_callSpecial?_slot->j3,binaryOp->j8,wpAny_truthy_bool->k6,sysModules->k8,wpAny_seqItems->k9,wpAny_setField_rec->l6,NameKind->m3,wpAny_passesOwn->m4,wpAny_holding->m5,wpAny_execs_cons->n9,rawInt->r8,letOwnedTupleGo->t4,builtinsNs->t5,wpAny_Call_Name_kw->t6,wpAny_rule->t7,wpAny_getItem_str_slice->t8,Builtin->u4,ExceptHandler->u5,sliceBounds->u8,wpAny_execs_nil->v0,cLine->v7,codeAny->x6,cellsFrom->y0,IsZip->y3,wpAny_setField->y4,getItem->y8,wpAny_pyIter_zip->z9,assignEach->ag,call_meets->ah,codeAny_mono->ai,holding->al,post_val_or_str->ar,codeAny_handlers_test->ay,isCodeTable->bf,recursionLimit->bg,sizeLine_eq->bh,wpAny_updateSeq_pair->bi,valueAt->bt,wpAny_handleBy_cons->bw,wpAny_onRaise->bz,assign->cf,tupleKind_room_in1->cg,wpAny_pyIter_tuple->ci,call_meetsIn->cm,callerA->cn,concat_meets->cq,leaving->cr,standAt->cu,DictEntry->dz,getMethod->ef,noFill_tuple_add->eh,noteFrame->ek,pushCells->eo,tupleKind->er,wpAny_Try_except->eu,keywordEach->fh,subscripted->fi,wpAny_letGo->fj,Within->fo,wpAny_loadPart'->fx,ZipApart->gi,atKey->gq,field->ig,newFunctionEnv->ii,pyNext->ij,wpAny_call->ik,codeAny_handlers_suite_as->iq,call->ir,seq_tuple_add->jj,wpAny_attempt->jl,wpAny_comprehension_free->jm,wpAny_newList->jn,wpAny_standAt->jo,callType_new->jv,seqIndex_neg->ko,spliced->kq,wpAny_typeOf->kt,wpAny_isTrue_Compare1->lh,again->nz,backToKw->oa,excClassObj->og,seqIndex_of->qv,wpAny_Tuple_spliced->rn,pyIter->sk,sliceRange->sr,typeIs_str->sv,wpAny_Name->sw,wpAny_load->sx,wpAny_Assign_Name->ua,wpAny_assign_Name->uc,wpAny_pyIter_enum->ud,wpAny_sequenceKey->ue
open Classical renaming choose_spec->e5,choose->l4
open PySem.NameKind renaming cell->e6,free->f9
open True renaming intro->e7
open PySem.Obj renaming mapSeq->e8,mapFields->m9,data_mapFields->q9,isFreed_of_fields->z7,cls_mapFields->kx
open PyProof.Rows renaming seqObj->g3,wpS_bind->g4,envOfC->i3,callWith_type1->i7,wpS_pure->j0,slot_tuple_getitem->j6,reverseSlice'->u6,AllBare->v9,wpS_forRange->x8,arrOf->z8,Keyed->am,pendingOf->br,listUpdate_at->bx,get?_update_seq->fu,failedOf->ie,wpS_modify->il,subscriptTail->jk,subscriptTail_builtinR->kr,zipApart_new->ku,wpS_mono->qw,entry_tuple_getitem->qz,Subscript_->ry,args_tuple_getitem->rz,setPending->sq,IsTup->sy,wpS_get->uf
open ForInStep renaming yield->g6,done->u2
open False renaming elim->g7
open Ne renaming symm->i6
open Or renaming inr->j1,inl->j7
open PySem.W renaming mg_none_of->j5,OpenLaw->bu
open PySem.Builtin.Slice renaming slicePlaces->l0,sliceAdjust->t9,sliceApplied->au
open PySem.Builtin.Tuple renaming tupleExact->l3,tupleItemsOf->av
open PySem.Builtin.List renaming listTooLong->l7
open Sum renaming inl->l8,inr->ao
open PySem.Builtin.Str renaming occurrences->m7,strSliceIndices->ba
open PySem.F renaming slot_tuple_iterator_next->m8,slot_zip_next->aa,args_tuple_iterator_next_1->ed,entry_tuple_iterator_next->fe,typeOf_object_class->jq,args_object_init_3->jr,args_zip_next_1->qx
open PySem.PassesOwn renaming never->x9
open PySem.Shared renaming heap->z6
open PySem.Paired renaming length->af
open PySem.Calls renaming spliced_cons->aw,Name_function_global->cj,callWith_builtin->fk,evalArgs_plain->gg
open PySem.Around renaming under->az,frames_deeper->gb,under_plainId->gc
open Sum.inl renaming inj->bj
open LawfulBEq renaming eq_of_beq->bo
open PySem.EntryCells renaming newEntry->ec
open PySem.Code renaming isFrame->gf
open PySem.Data renaming fields->im
open Prod renaming ext->io,fst->ip
open PySem.Walks renaming list->iu
open PySem.SeqAt renaming readOf->kl,readsAll_map->km,items_eqAt->sh
open ForIn renaming forIn->tx
def a8:=@if_neg
def a9:=@if_pos
def b7:=@decide_eq_true
def b8:=@of_decide_eq_true
def b9:=@decide_eq_false
def c7:=@absurd
def d0:=@decide_eq_true_eq
def e9:=@or_false
def h9:=@congrArg
def j9:=@of_decide_eq_false
def l9:=@decide_eq_false_iff_not
def n8:=@if_true
def s0:=@if_false
def v8:=@decide_eq_decide
def aj:=@decide_true
def bb:=@beq_self_eq_true
def bn:=@decide_false
def bq:=@getElem?_pos
def ff:=@beq_iff_eq
open Nat renaming le_of_ble_eq_true->aA,le_refl->aM,le_trans->bL,lt_of_lt_of_le->bT,zero_le->cD,ne_of_lt->cL,mul_left_comm->dO,lt_irrefl->eO,mul_assoc->eX,mul_comm->fG,mul_lt_mul_of_pos_right->gR,ne_of_gt->hU,le_of_lt->hV,lt_of_mul_lt_mul_right->jT,le_of_eq->lU,pow_le_pow_right->mO,mul_le_mul->mP,lt_succ_self->mV,lt_trichotomy->oK,le_succ->pW,lt_of_le_of_lt->rN,mul_pos->sM,lt_succ_of_lt->sO,add_mul->sP,gcd_pos_of_pos_right->tX,le_add_right->uH,lt_asymm->vP,min_eq_left->wS,mul_le_mul_right->yK,mod_lt->BD,gcd_dvd_right->CG,min_le_right->E9,min_eq_right->FA,not_lt_zero->FV,div_eq_of_eq_mul_right->JD,mul_div_cancel_left->MD,zero_add->OH,sub_zero->OI,lt_trans->OJ,not_lt->Y7,le_succ_of_le->ZK,le_of_not_lt->aDd,le_max_right->aDe,le_max_left->aFe,div_le_self->aFf,le_of_dvd->aI7,dvd_trans->aI8,zero_mul->aO7,gcd_comm->aO8,div_zero->aO9,one_mul->aPw,log2_lt->aPx
open List renaming length_map->aC,getElem?_eq_getElem->aG,getElem?_eq_some_iff->aI,mem_cons_of_mem->aJ,mem_cons->aK,mem_cons_self->aN,getElem?_map->aO,mem_singleton->aP,mem_map->aS,size_toArray->bA,mem_of_getElem?->bB,getElem?_set_ne->bC,map_map->bD,getElem?_set_self->bF,length_take->bN,length_append->bP,not_mem_nil->bR,map_cons->bS,mem_append_right->bW,length_filter_le->bY,mem_append->cC,lookup_cons->cE,mem_filter->cH,getElem?_of_mem->cT,map_append->cX,take_add_one->dG,getD_eq_getElem?_getD->dH,length_drop->dP,length_cons->dQ,mem_of_mem_take->dU,append_nil->dW,getElem?_append_right->eD,getElem?_append_left->eG,getElem?_eq_none->eR,take_length->eU,filter_cons->fA,take_of_length_le->fS,getElem?_zip_eq_some->fW,range->fX,sum_cons->gE,all_eq_true->gO,mem_append_left->iY,foldl_cons->jE,find?_cons->jF,map_congr_left->jI,getElem_mem->jO,filter_append->jQ,nodup_cons->kE,mem_of_mem_drop->kF,lookup->kG,length->kH,ext_getElem?->kI,idxOf_lt_length_iff->kN,getElem?_range->kZ,filterMap_cons->lA,getElem?_replicate->lE,length_pos_iff->mY,getElem_idxOf->nF,getElem?_take->nG,getElem?_drop->nH,pairwise_map->nX,map_nil->nY,length_singleton->pB,any_cons->pK,mem_range->qY,reverse_cons->sJ,length_range->sK,filter_congr->sL,set->uB,length_eq_zero_iff->uC,any_eq_true->uD,forIn_cons->vQ,filter_map->vR,mem_iff_getElem->xK,map_id->xL,take_sublist->BS,length_eq_countP_add_countP->BT,foldl_append->BU,append_assoc->BV,of_mem_zip->FD,length_set->FE,length_nil->FF,countP_eq_length_filter->FG,replicate->G4,find?_map->G5,drop_zero->G6,pairwise_iff_getElem->JE,getElem?_eq_none_iff->JF,Pairwise->JQ,flatten_singleton->ME,drop_eq_nil_of_le->MF,countP_le_length->OL,mem_map_of_mem->TC,flatten_append->TD,flatMap_append->TF,zip_cons_cons->T5,mem_filterMap->T6,find?_eq_none->T7,filterMap_map->T8,flatten_cons->Y8,flatMap_cons->Y9,zipIdx_cons->ZL,getElem_inj->ZM,Perm->ZN,zipIdx_nil->aDf,range_succ->aDg,countP_map->aDh,any_append->aDi,take_zero->aFg,forIn_nil->aFh,foldl_nil->aFi,map_take->aIr,map_drop->aIs,all_map->aI9,range'->aPa,Nodup->aPy,map->aSi
open PySem.Heap renaming get?_push_of_some->aD,get?_push_size->aU,lt_size->aY,size_push->dX,SameBut->fF,get?_update_other->fT,get?_none_of_le->mN,get?_update_self->pC,size_update->C5,IsList->FB,IsTuple->MG,Ns->ZA,ExtBut->aPc
open PySem renaming wpAny_bind->aE,wpAny_pure->aZ,sizeLine->bG,starEach->bI,Program->cW,wpAny_mono->dN,mainGlobals->eB,wpAny_newObj_type->iD,FuncData->iF,wpAny_call_entry->lR,swapsWith->lT
open PySem.W renaming Frag->aF,mroIn->bJ,kitOne->bX,findIn->dL,kia_one->eF,exmOne->eJ,nsIn->fC,typeIn->gA,keepIn->gB,clsIn->gD,emptyDict->gX,kitAny->jN,instObj->jV,mg_of->kC,kitMeta->lP,InstAt->mJ,fnOf->nO,looks_findIn->pA,codeIn->qG,callWith_K->qH,kitx_list->qX,Looks->rH,plainGet->sG,envX->tV,methodCall_KW->uF,nsOkIn->vL,notCls->vM,lookIn->vN,kitCls->vO,plainGet_of->wW,methodObj->AJ,hasDictIn->AK,codeHdIn->BC,takerIn->CA,kla_obj->CB,exm_one->CC,isFn->JA,cellsFrom_some->JB,kitx_tuple->OF,isNs_of_in->OG,plainOver->QR,kitx_dict->QS,handedIn->S9,makesIn->T3,CodeHd->Y6,subIn->ZH,WalkO->ZI
open PySem.PyData renaming str->aR,eqv->bK,int->bM,canLayAll0->eK,depthAll->eQ,tuple->iN,hasDictAll->mC,dict->pD,bulkAll->wR,none->CD,bool->CF,leavesShortAll->L6,list->MC,showableAll->QT,strOk->aFd
open PySem.F renaming plainAttrs_list->cO,type_list_append->iL,slot_list_append->iM,plainAttrs_dict->kX,type_list_index->nD,slot_list_index->nE,type_tuple_index->rJ,slot_tuple_index->rK,plainAttrs_tuple->rL,args_tuple_add_2->rM,entry_tuple_add->sI,slot_tuple_add->tW,slot_dict_pop->uG,type_list_extend->FR,slot_list_extend->FS,slot_dict_values->FU,slot_dict_items->G2,plain_list_iadd->G3,type_dict_pop->JN,slot_dict_get->JO
open Bool renaming false_ne_true->dA,and_eq_true->dR,eq_iff_iff->eL,false_eq_true->fL,true_and->pL,or_eq_true->vS,or_eq_false_iff->xN,eq_false_iff->BW,and_false->G7,false_or->JR,false_and->aFj,or_false->aIv,true_or->aJa
open Option renaming map_eq_some_iff->dS,filter_some->yN,bind_eq_some_iff->JC,map_eq_none_iff->JP,isSome_some->QU,isSome_map->TB,getD_none->T4,map_map->ZJ
open Array renaming length_toList->fB,getElem?_toList->jR,getElem?_eq_some_iff->mM,getElem?_eq_none->nS,getElem?_setIfInBounds_ne->BX,toList_append->QW,forIn_toList->TJ,find?_toList->TK,append_assoc->TM,size_append->T9,all_toList->ZB,toList->aIw
open Int renaming natCast_mul->fP,toNat_of_nonneg->hZ,emod_lt_of_pos->iS,ofNat->kJ,emod_nonneg->kK,natCast_add->mD,le_refl->nQ,toNat_natCast->oM,natCast_ediv->uI,fdiv_eq_ediv_of_nonneg->JG,add_mul->TH,mul_nonneg->aIt,mul_le_mul->aIu,ofNat_lt->aPb
section
open PySem PySem.Spec PyProof.Rows
namespace SS
structure GS(a0:Array am)(g:Nat->Nat)(pd:Array (Nat×Nat×Nat))(st:SortSt):Prop where
 size:(z8 st).size=a0.size
 get:∀p,p<a0.size->(z8 st)[p]?=a0[g p]?
 rng:∀p,p<a0.size->g p<a0.size
 kind:kindOf st=oneType'
 fail:ie st=none
 pend:br st=pd
def Lx(a:Array am)(i j:Nat):Prop:=K a i<K a j\/(K a i=K a j/\i<j)
def Sd(a:Array am)(g:Nat->Nat)(lo b:Nat):Prop:=∀p q,lo<=p->p<q->q<b->Lx a (g p) (g q)
def In(g:Nat->Nat)(lo a:Nat):Prop:=∀p,lo<=p->p<a->lo<=g p/\g p<a
noncomputable def BH(g:Nat->Nat)(i j:Nat):Nat->Nat:=λk=>if i<=k/\k<j then g (i+j-1-k)else g k
noncomputable def Dj(g:Nat->Nat)(b a:Nat):Nat->Nat:=λk=>if k=a then g b else if a<k/\k<=b then g (k-1)else g k
section
variable{prog:cW}{w:f7}{A:d9}{E:Value->Shared->Prop}{s:Shared}{d:Array am}{g:Nat->Nat}{f:Array (Nat×Nat×Nat)}{st:SortSt}
def N7(b:IntKeys d){i:Nat}(c:i<d.size):∃t q,d[i]?=some (.int (K d i) t,q):=by
 obtain⟨n,t,h⟩:=b d[i] Cy;have e:d[i]?=some d[i]:=bq _ i c;refine⟨t,d[i].2,?_⟩;have a:d[i]=(.int n t,d[i].2):=io h Db;unfold K;rw[e,a]
 rfl
def GS.mirr(h:GS d g f st){i j:Nat}(hj:j<=d.size):GS d (BH g i j) f (setArr st (mirror (z8 st) i j ((j-i) / 2))) where
 size:=(mirror_size _ _ _ _).trans h.size
 get:=λp hp=>by
  refine(getElem?_mirror_all (by rw[h.size];exact hj) p).trans ?_;unfold BH;split
  ·exact h.get _ Cw
  ·exact h.get _ hp
 rng:=λp hp=>by
  unfold BH;split
  ·exact h.rng _ Cw
  ·exact h.rng _ hp
 kind:=h.kind
 fail:=h.fail
 pend:=h.pend
def GS.bubb(h:GS d g f st){src um:Nat}(hs:src<d.size)(hd:um<=src):GS d (Dj g src um) f (setArr st (bubble (z8 st) src (src-um))) where
 size:=(bubble_size _ _ _).trans h.size
 get:=λp hp=>by
  refine(getElem?_bubble (by rw[h.size];exact hs) _ Cw p).trans ?_;rw[show src-(src-um)=um by lia];unfold Dj;split
  ·exact h.get _ hs
  ·split
   ·exact h.get _ Cw
   ·exact h.get _ hp
 rng:=λp hp=>by
  unfold Dj;split
  ·exact h.rng _ hs
  ·split
   ·exact h.rng _ Cw
   ·exact h.rng _ hp
 kind:=h.kind
 fail:=h.fail
 pend:=h.pend
def yQ{p q:Nat}{Q:Option Bool->SortSt->Prop}(h:GS d g f st)(a:IntKeys d)(b:p<d.size)(c:q<d.size)
  (k:Q (some (decide (K d (g p)<K d (g q)))) st):wpS (model prog w) A E s (ltAt' p q) Q st:=by
 obtain⟨t,x,e⟩:=N7 a (h.rng p b);obtain⟨u,y,i⟩:=N7 a (h.rng q c);exact wpS_ltAt h.kind ((h.get p b).trans e) ((h.get q c).trans i) k
noncomputable def SY(lo a c:Nat):StateT SortSt Sem AscSt:=
 tx [a:c] ((none,a):AscSt) λ_ z=>do
  let x <- ltAt' (lo+z.snd) (lo+z.snd-1)
  match x with
  |some b=>if b=true then pure (u2 (none,z.snd))else pure (g6 (none,z.snd+1))
  |_=>pure (u2 (some none,z.snd))
noncomputable def F5(lo n a:Nat):StateT SortSt Sem (Option Nat):=do
 u6 lo (lo+n)
 let z <- SY lo n a
 match z.fst with
 |some r=>pure r
 |none=>pure (some z.snd)
noncomputable def QG(lo n a:Nat):StateT SortSt Sem DescSt:=
 tx [n:a] ((none,n,0):DescSt) λ_ z=>do
  let x <- ltAt' (lo+z.snd.fst) (lo+z.snd.fst-1)
  match x with
  |some b=>
   if b=true then
    if z.snd.snd>0 then do
     u6 (lo+z.snd.fst-(z.snd.snd+1)) (lo+z.snd.fst)
     pure (g6 (none,z.snd.fst+1,0))
    else pure (g6 (none,z.snd.fst+1,0))
   else do
    let x <- ltAt' (lo+z.snd.fst-1) (lo+z.snd.fst)
    match x with
    |some c=>
     if c=true then pure (u2 (none,z.snd.fst,z.snd.snd))
     else pure (g6 (none,z.snd.fst+1,z.snd.snd+1))
    |_=>pure (u2 (some none,z.snd.fst,z.snd.snd))
  |_=>pure (u2 (some none,z.snd.fst,z.snd.snd))
noncomputable def KM(lo n a:Nat):StateT SortSt Sem (Option Nat):=do
 liftM (rule "list.sort.descending-run")
 let z <- QG lo (n+1) a
 match z.fst with
 |some r=>pure r
 |none=>
  if z.snd.snd>0 then do
   u6 (lo+z.snd.fst-(z.snd.snd+1)) (lo+z.snd.fst)
   F5 lo z.snd.fst a
  else F5 lo z.snd.fst a
def SJ(lo a:Nat):countRun' lo a=(do
  let z <- SY lo 1 a
  match z.fst with
  |some r=>pure r
  |none=>
   if(z.snd==a)=true then pure (some z.snd)
   else if z.snd>1 then do
    let x <- ltAt' lo (lo+z.snd-1)
    match x with
    |some b=>if b=true then pure (some z.snd)else do
      u6 lo (lo+z.snd)
      KM lo z.snd a
    |_=>pure none
   else KM lo z.snd a):=by
 have j:∀(n:Nat),F5 lo n a=(do
   u6 lo (lo+n)
   let z <- SY lo n a
   match z with
   | (some r,_)=>pure r
   | (none,m)=>pure (some m)):=λn=>by
  unfold F5;congr 1;funext _;congr 1;funext z;obtain⟨r,m⟩:=z;cases r<;>rfl
 rw[countRun'_eq];unfold KM;simp only[j];unfold SY QG;congr 1;funext z;obtain⟨r,n⟩:=z
 cases r with
 |some r=>rfl
 |none=>
  dsimp only;split
  ·rfl
  ·split
   ·congr 1;funext x
    cases x with
    |none=>rfl
    |some b=>
     dsimp only;split
     ·rfl
     ·congr 1;funext _;congr 1;funext _;congr 1;congr 1;funext y;obtain⟨e,h,i⟩:=y
      cases e with
      |some e=>rfl
      |none=>
       dsimp only;split
       ·congr 1;funext _;congr 1;funext _;congr 1;funext u;obtain⟨c,n3⟩:=u;cases c<;>rfl
       ·congr 1;funext _;congr 1;funext u;obtain⟨c,n3⟩:=u;cases c<;>rfl
   ·congr 1;funext _;congr 1;congr 1;funext y;obtain⟨e,h,i⟩:=y
    cases e with
    |some e=>rfl
    |none=>
     dsimp only;split
     ·congr 1;funext _;congr 1;funext _;congr 1;funext u;obtain⟨c,n3⟩:=u;cases c<;>rfl
     ·congr 1;funext _;congr 1;funext u;obtain⟨c,n3⟩:=u;cases c<;>rfl
end
section
variable{prog:cW}{w:f7}{A:d9}{E:Value->Shared->Prop}{s:Shared}{f:Array am}{g g0:Nat->Nat}{t:Array (Nat×Nat×Nat)}{st:SortSt}{lo n o:Nat}
structure Rn(f:Array am)(g0 g:Nat->Nat)(lo m:Nat):Prop where
 sd:Sd f g lo (lo+m)
 inn:In g lo (lo+m)
 bef:∀p,p<lo->g p=g0 p
 aft:∀p,lo+m<=p->g p=p
def Rn.snoc{m:Nat}(r:Rn f g0 g lo m)(h1:1<=m)(h:¬K f (g (lo+m))<K f (g (lo+m-1))):Rn f g0 g lo (m+1) where
 sd:=λp q h2 h3 h4=>by
  by_cases hq:q<lo+m
  ·exact r.sd p q h2 h3 hq
  ·have e:q=lo+m:=by lia
   have e2:=r.aft q Cw;have i1:=(r.inn p h2 Cw).2;rw[<- e,e2]at h;unfold Lx;rw[e2]
   have:K f (g p)<=K f (g (q-1)):=by
    by_cases hp:p=q-1
    ·rw[hp];exact nQ _
    ·rcases r.sd p (q-1) h2 Cw Cw with z | z
     ·lia
     ·lia
   lia
 inn:=λp h2 h3=>by
  by_cases hp:p<lo+m
  ·have:=r.inn p h2 hp;lia
  ·have:=r.aft p Cw;lia
 bef:=r.bef
 aft:=λp h2=>r.aft p Cw
def JS{a:Nat}{Q:AscSt->SortSt->Prop}(j:IntKeys f)(r:lo+o<=f.size)(q:1<=a)(e:a<=o)(k:GS f g t st)(l:Rn f g0 g lo a)
  (h:∀m,a<=m->m<=o->Rn f g0 g lo m->(m=o\/K f (g (lo+m))<K f (g (lo+m-1)))->Q (none,m) st):wpS (model prog w) A E s (SY lo a o) Q st:=by
 unfold SY;refine x8 (I:=λx c z=>z=st/\c=(none,x)/\Rn f g0 g lo x) ?step ?fin ⟨Db,Db,l⟩
 case fin=>
  rintro c z ⟨rfl,rfl,b⟩;rw[show max a o=o by lia]at b |-
  exact h o e (aM _) b (.inl Db)
 case step=>
  rintro x c z i p ⟨rfl,rfl,b⟩;dsimp only;refine g4 (yQ k j Cw Cw ?_);by_cases d:K f (g (lo+x))<K f (g (lo+x-1))
  ·simp only[d,aj,n8];exact j0 (h x i Cw b (.inr d))
  ·simp only[d,bn,fL,s0];exact j0 ⟨Db,Db,b.snoc Cw d⟩
structure Dn(f:Array am)(g0 g:Nat->Nat)(lo x ne:Nat):Prop where
 le:ne+1<=x
 fall:∀p q,lo<=p->p<q->q<lo+(x-(ne+1))->Lx f (g q) (g p)
 inn:In g lo (lo+(x-(ne+1)))
 low:∀p,lo<=p->p<lo+(x-(ne+1))->K f (lo+x-1)<K f (g p)
 alike:∀p,lo+(x-(ne+1))<=p->p<lo+x->K f p=K f (lo+x-1)
 bef:∀p,p<lo->g p=g0 p
 aft:∀p,lo+(x-(ne+1))<=p->g p=p
def Dn.turn{x ne:Nat}(d:Dn f g0 g lo x ne) :
  (∀p q,lo<=p->p<q->q<lo+x->Lx f (BH g (lo+x-(ne+1)) (lo+x) q) (BH g (lo+x-(ne+1)) (lo+x) p))/\In (BH g (lo+x-(ne+1)) (lo+x)) lo (lo+x) /\
  (∀p,lo<=p->p<lo+x->K f (lo+x-1)<=K f (BH g (lo+x-(ne+1)) (lo+x) p))/\(∀p,p<lo->BH g (lo+x-(ne+1)) (lo+x) p=g0 p)/\∀p,lo+x<=p->BH g (lo+x-(ne+1)) (lo+x) p=p:=by
 have m:=d.le;have l:lo+x-(ne+1)=lo+(x-(ne+1)):=by lia
 have up:∀p,lo+(x-(ne+1))<=p->p<lo+x->BH g (lo+x-(ne+1)) (lo+x) p=lo+(x-(ne+1))+(lo+x)-1-p:=λp a e=>by
  unfold BH;rw[a9 Cw,d.aft _ Cw];lia
 have c:∀p,p<lo+(x-(ne+1))->BH g (lo+x-(ne+1)) (lo+x) p=g p:=λp a=>by
  unfold BH;rw[a8 Cw]
 have k:∀p,lo+x<=p->BH g (lo+x-(ne+1)) (lo+x) p=p:=λp a=>by
  unfold BH;rw[a8 Cw,d.aft _ Cw]
 refine⟨λp q a e i=>?_,λp a e=>?_,λp a e=>?_,λp a=>?_,k⟩
 ·by_cases h:q<lo+(x-(ne+1))
  ·rw[c q h,c p Cw];exact d.fall p q a e h
  ·rw[up q Cw i];have j:=d.alike (lo+(x-(ne+1))+(lo+x)-1-q) Cw Cw;by_cases b:p<lo+(x-(ne+1))
   ·rw[c p b];have:=d.low p a b
    left;lia
   ·rw[up p Cw Cw];have r:=d.alike (lo+(x-(ne+1))+(lo+x)-1-p) Cw Cw
    right;lia
 ·by_cases b:p<lo+(x-(ne+1))
  ·rw[c p b];have:=d.inn p a b;lia
  ·rw[up p Cw e];lia
 ·by_cases b:p<lo+(x-(ne+1))
  ·rw[c p b];have:=d.low p a b;lia
  ·rw[up p Cw e];have j:=d.alike (lo+(x-(ne+1))+(lo+x)-1-p) Cw Cw;lia
 ·rw[c p Cw];exact d.bef p a
def PU{x:Nat}(a:1<=x):BH g (lo+x-(0+1)) (lo+x)=g:=by
 funext k;unfold BH;split
 ·congr 1;lia
 ·rfl
def yP{i j:Nat}{Q:Unit->SortSt->Prop}(h:Q () (setArr st (mirror (z8 st) i j ((j-i) / 2)))):wpS (model prog w) A E s (u6 i j) Q st:=by
 rw[reverseSlice'_eq];exact il h
def QX{Q:DescSt->SortSt->Prop}(u:IntKeys f)(S:lo+o<=f.size)(R:1<=n)(q:n<=o)(C:GS f g t st)(H:Dn f g0 g lo n 0)
  (h:∀m ne d i,GS f d t i->n<=m->m<=o->Dn f g0 d lo m ne->Q (none,m,ne) i):wpS (model prog w) A E s (QG lo n o) Q st:=by
 unfold QG;refine x8 (I:=λx c z=>∃ne d,c=(none,x,ne)/\GS f d t z/\Dn f g0 d lo x ne) ?step ?fin ⟨0,g,Db,C,H⟩
 case fin=>
  rintro c z ⟨ne,d,rfl,a,hd⟩;rw[show max n o=o by lia]at hd |-
  exact h o ne d z a q (aM _) hd
 case step=>
  rintro x c z l J ⟨ne,d,rfl,a,hd⟩;dsimp only;have F:=hd.le;have ex:=hd.aft (lo+x) Cw;have r:=hd.aft (lo+x-1) Cw;refine g4 (yQ a u Cw Cw ?_);rw[ex,r];by_cases y:K f (lo+x)<K f (lo+x-1)
  ·simp only[y,aj,n8];obtain⟨L,M,N,O,P⟩:=hd.turn
   have nx:Dn f g0 (BH d (lo+x-(ne+1)) (lo+x)) lo (x+1) 0:=by
    have b:x+1-(0+1)=x:=by lia
    refine⟨Cw,?_,?_,?_,?_,O,?_⟩
    ·rw[b];exact L
    ·rw[b];exact M
    ·rw[b];intro p j k;have:=N p j k;rw[show lo+(x+1)-1=lo+x by lia];lia
    ·rw[b];intro p j k;congr 1;lia
    ·rw[b];exact P
   by_cases e:ne>0
   ·rw[a9 e];exact g4 (yP (j0 ⟨0,_,Db,a.mirr Cw,nx⟩))
   ·rw[a8 e];have B:ne=0:=by lia
    subst B;rw[PU Cw]at nx;exact j0 ⟨0,_,Db,a,nx⟩
  ·simp only[y,bn,fL,s0];refine g4 (yQ a u Cw Cw ?_);rw[ex,r];by_cases v:K f (lo+x-1)<K f (lo+x)
   ·simp only[v,aj,n8];exact j0 (h x ne d z a l Cw hd)
   ·simp only[v,bn,fL,s0];have b:x+1-(ne+1+1)=x-(ne+1):=by lia
    have el:lo+(x+1)-1=lo+x:=by lia
    have eq:K f (lo+x)=K f (lo+x-1):=by lia
    refine j0 ⟨ne+1,d,Db,a,⟨Cw,?_,?_,?_,?_,hd.bef,?_⟩⟩
    ·rw[b];exact hd.fall
    ·rw[b];exact hd.inn
    ·rw[b,el,eq];exact hd.low
    ·rw[b,el];intro p j k;by_cases G:p=lo+x
     ·rw[G]
     ·rw[eq];exact hd.alike p j Cw
    ·rw[b];exact hd.aft
def FX{Q:Option Nat->SortSt->Prop}(z:IntKeys f)(F:lo+o<=f.size)(B:1<=n)(k:n<=o)(C:GS f g t st)
  (f1:∀p q,lo<=p->p<q->q<lo+n->Lx f (g q) (g p)) (v:In g lo (lo+n)) (x:∀p,p<lo->g p=g0 p) (y:∀p,lo+n<=p->g p=p)
  (h:∀m l e,GS f l t e->1<=m->m<=o->Rn f g0 l lo m->Q (some m) e):wpS (model prog w) A E s (F5 lo n o) Q st:=by
 unfold F5;refine g4 (yP ?_);have d:=C.mirr (i:=lo) (j:=lo+n) Cw;have up:∀p,lo<=p->p<lo+n->BH g lo (lo+n) p=g (lo+(lo+n)-1-p):=λp a b=>by unfold BH;rw[a9 ⟨a,b⟩]
 have u:∀p,(p<lo\/lo+n<=p)->BH g lo (lo+n) p=g p:=λp a=>by unfold BH;rw[a8 Cw]
 refine g4 (JS z F B k d (g0:=g0) ⟨λp q a b c=>?_,λp a b=>?_,λp a=>?_,λp a=>?_⟩ λm m1 G r _=>j0 (h m _ _ d Cw G r))
 ·rw[up p a Cw,up q Cw c];exact f1 _ _ Cw Cw Cw
 ·rw[up p a b];exact v _ Cw Cw
 ·rw[u p (.inl a)];exact x p a
 ·rw[u p (.inr a)];exact y p a
def FY{Q:Option Nat->SortSt->Prop}(e:IntKeys f)(i:lo+o<=f.size)(j:n+1<=o)(v:GS f g t st)(x:Dn f g0 g lo (n+1) 0)
  (h:∀m d a,GS f d t a->1<=m->m<=o->Rn f g0 d lo m->Q (some m) a):wpS (model prog w) A E s (KM lo n o) Q st:=by
 unfold KM;refine g4 (wpS_lift (t7 ⟨Db,?_⟩));refine g4 (QX e i Cw j v x λm ne d a b m1 r hd=>?_);dsimp only;obtain⟨k,l,y,p,q⟩:=hd.turn;by_cases c:ne>0
 ·rw[a9 c];exact g4 (yP (FX e i Cw r (b.mirr Cw) k l p q h))
 ·rw[a8 c];have u:ne=0:=by lia
  subst u;rw[PU Cw]at k l p q;exact FX e i Cw r b k l p q h
def ML{Q:Option Nat->SortSt->Prop}(x:IntKeys f)(y:lo+o<=f.size)(H:1<=o)(k:GS f g t st)(bef:∀p,p<lo->g p=g0 p)(aft:∀p,lo<=p->g p=p)
  (h:∀m C v,GS f C t v->1<=m->m<=o->Rn f g0 C lo m->Q (some m) v):wpS (model prog w) A E s (countRun' lo o) Q st:=by
 rw[SJ];refine g4 (JS x y (aM 1) H k (g0:=g0) ⟨λp q a b c=>by lia,λp a b=>by rw[aft p a];lia,bef,λp a=>aft p Cw⟩ λm m1 F r B=>?_);dsimp only;by_cases j:m=o
 ·rw[a9 (by simpa using j)];exact j0 (h m g st k m1 F r)
 ·rw[a8 (by simpa using j)];have i:=B.resolve_left j;rw[aft _ Cw,aft (lo+m-1) Cw]at i;by_cases u:m>1
  ·rw[a9 u];refine g4 (yQ k x Cw Cw ?_);rw[aft lo Cw,aft (lo+m-1) Cw];by_cases d:K f lo<K f (lo+m-1)
   ·simp only[d,aj,n8];exact j0 (h m g st k m1 F r)
   ·simp only[d,bn,fL,s0]
    have le:∀p q,lo<=p->p<=q->q<lo+m->K f p<=K f q:=λp q a b c=>by
     by_cases e:p=q
     ·rw[e];exact nQ _
     ·have:=r.sd p q a Cw c;rw[aft p a,aft q Cw]at this;rcases this with z | z<;>lia
    have all:∀p,lo<=p->p<lo+m->K f p=K f (lo+m-1):=λp a b=>by
     have I:=le lo p Cw a b;have J:=le p (lo+m-1) a Cw Cw;lia
    have l:m+1-(0+1)=m:=by lia
    have el:lo+(m+1)-1=lo+m:=by lia
    have up:∀p,lo<=p->p<lo+m->BH g lo (lo+m) p=lo+(lo+m)-1-p:=λp a b=>by unfold BH;rw[a9 ⟨a,b⟩,aft _ Cw]
    refine g4 (yP (FY x y Cw (k.mirr Cw) (g0:=g0) ⟨Cw,?_,?_,?_,?_,?_,?_⟩ h))
    ·rw[l];intro p q a b c;rw[up p a Cw,up q Cw c];have I:=all (lo+(lo+m)-1-p) Cw Cw;have J:=all (lo+(lo+m)-1-q) Cw Cw
     right;lia
    ·rw[l];intro p a b;rw[up p a b];lia
    ·rw[l,el];intro p a b;rw[up p a b,all (lo+(lo+m)-1-p) Cw Cw];exact i
    ·rw[l];intro p a b;congr 1;lia
    ·intro p a;unfold BH;rw[a8 Cw];exact bef p a
    ·rw[l];intro p a;unfold BH;rw[a8 Cw];exact aft p Cw
  ·rw[a8 u];have G:m=1:=by lia
   subst G;refine FY x y Cw k (g0:=g0) ⟨Cw,λp q a b c=>by lia,λp a b=>by rw[aft p a];lia,λp a b=>?_,λp a b=>by congr 1;lia,bef,λp a=>aft p Cw⟩ h;rw[aft p a];have:p=lo:=by lia
   subst this;exact i
def UM{ok:Nat}{Q:Bool->SortSt->Prop}(R:IntKeys f)(hn:lo+n<=f.size)(hok:ok<=n)(h1:1<=ok)(S:GS f g t st)(Y:Rn f g0 g lo ok)
  (h:∀d F,GS f d t F->Rn f g0 d lo n->Q true F):wpS (model prog w) A E s (binarySort' lo n ok) Q st:=by
 rw[binarySort'_eq]
 refine g4 (qw (x8 (I:=λk c z=>c=(none,())/\∃d,GS f d t z/\Rn f g0 d lo (min k n))
  (Q:=λc z=>c=(none,())/\∃d,GS f d t z/\Rn f g0 d lo n) ?step ?fin ?init) ?post)
 case post=>
  rintro c z ⟨rfl,d,u,m⟩;exact j0 (h d z u m)
 case init=>
  refine⟨Db,g,S,?_⟩;rw[show min (max ok 1) n=ok by lia];exact Y
 case fin=>
  rintro c z ⟨U,d,u,m⟩;rw[show min (max (max ok 1) n) n=n by lia]at m;exact⟨U,d,u,m⟩
 case step=>
  rintro k c z T X ⟨rfl,d,u,m⟩;rw[show min k n=k by lia]at m;have N:=m.aft (lo+k) (aM _)
  refine g4 (qw (x8 (I:=λx c y=>y=z/\∃l r,c=(none,l,r)/\l<=r/\r<=k/\r-l<=k-x /\
    (∀i,i<l->K f (d (lo+i))<=K f (lo+k))/\∀i,r<=i->i<k->K f (lo+k)<K f (d (lo+i)))
   (Q:=λc y=>y=z/\∃l r,c=(none,l,r)/\l<=k/\(∀i,i<l->K f (d (lo+i))<=K f (lo+k))/\∀i,l<=i->i<k->K f (lo+k)<K f (d (lo+i))) ?istep ?ifin ?iinit) ?ipost)
  case iinit=>exact⟨Db,0,k,Db,Cw,Cw,Cw,λi hi=>by lia,λi a b=>by lia⟩
  case ifin=>
   rintro c y ⟨rfl,l,r,rfl,O,a2,P,a4,B⟩;have:l=r:=by lia
   subst this;exact⟨Db,l,l,Db,a2,a4,B⟩
  case istep=>
   rintro x c y _ Z ⟨rfl,l,r,rfl,O,a2,P,a4,B⟩;dsimp only
   have le:∀i j,i<=j->j<k->K f (d (lo+i))<=K f (d (lo+j)):=λi j a b=>by
    by_cases e:i=j
    ·rw[e];exact nQ _
    ·rcases m.sd (lo+i) (lo+j) Cw Cw Cw with q | q<;>lia
   by_cases C:l>=r
   ·rw[a9 C];have:l=r:=by lia
    subst this;exact j0 ⟨Db,l,l,Db,a2,a4,B⟩
   ·rw[a8 C];refine g4 (yQ u R Cw Cw ?_);rw[N];by_cases L:K f (lo+k)<K f (d (lo+(l+r) / 2))
    ·simp only[L,aj,n8];refine j0 ⟨Db,l,(l+r) / 2,Db,Cw,Cw,Cw,a4,λi v J=>?_⟩;exact Int.lt_of_lt_of_le L (le _ _ v J)
    ·simp only[L,bn,fL,s0];refine j0 ⟨Db,(l+r) / 2+1,r,Db,Cw,Cw,Cw,λi v=>?_,B⟩;have:=le i ((l+r) / 2) Cw Cw;lia
  case ipost=>
   rintro c y ⟨rfl,l,r,rfl,a2,a4,B⟩;show wpS _ _ _ _ (do moveDown' (lo+k) (lo+l);pure (g6 (none,()))) _ _;rw[moveDown'_eq];refine g4 (il (j0 ⟨Db,_,u.bubb Cw Cw,?_⟩));rw[show min (k+1) n=k+1 by lia];have M:Dj d (lo+k) (lo+l) (lo+l)=lo+k:=by unfold Dj;rw[a9 Db,N]
   have G:∀p,lo+l<p->p<=lo+k->Dj d (lo+k) (lo+l) p=d (p-1):=λp a b=>by unfold Dj;rw[a8 Cw,a9 ⟨a,b⟩]
   have H:∀p,(p<lo+l\/lo+k<p)->Dj d (lo+k) (lo+l) p=d p:=λp a=>by unfold Dj;rw[a8 Cw,a8 Cw]
   have lw:∀p,lo<=p->p<lo+l->K f (d p)<=K f (lo+k):=λp a b=>by
    have:=a4 (p-lo) Cw;rwa [show lo+(p-lo)=p by lia]at this
   have W:∀p,lo+l<=p->p<lo+k->K f (lo+k)<K f (d p):=λp a b=>by
    have:=B (p-lo) Cw Cw;rwa [show lo+(p-lo)=p by lia]at this
   refine⟨λp q v J b3=>?_,λp v J=>?_,λp v=>?_,λp v=>?_⟩
   ·rcases oK p (lo+l)with c1 | c1 | c1
    ·rw[H p (.inl c1)];rcases oK q (lo+l)with c2 | c2 | c2
     ·rw[H q (.inl c2)];exact m.sd p q v J Cw
     ·rw[c2,M];have:=lw p v c1;have:=(m.inn p v Cw).2;unfold Lx;lia
     ·rw[G q c2 Cw];exact m.sd p (q-1) v Cw Cw
    ·rw[c1,M,G q Cw Cw]
     left;exact W _ Cw Cw
    ·rw[G p c1 Cw,G q Cw Cw];exact m.sd _ _ Cw Cw Cw
   ·rcases oK p (lo+l)with c1 | c1 | c1
    ·rw[H p (.inl c1)];have:=m.inn p v Cw;lia
    ·rw[c1,M];lia
    ·rw[G p c1 Cw];have:=m.inn (p-1) Cw Cw;lia
   ·rw[H p (.inl Cw)];exact m.bef p v
   ·rw[H p (.inr Cw)];exact m.aft p Cw
end
section
variable{a:Type}{le:a->a->Bool}
noncomputable abbrev mg(le:a->a->Bool)(b c:List a):List a:=List.merge b c le
end
section
def D4{a:Array am}(c:IntKeys a){i:Nat}(b:i<a.size):∃t,a[i].1=.int (K a i) t:=by
 obtain⟨t,q,e⟩:=N7 c b;rw[bq a i b]at e;exact⟨t,h9 ip (c8 e)⟩
end
structure Two(a b:Array am):Prop where
 ia:IntKeys a
 ib:IntKeys b
 sa:∀i j,i<=j->j<a.size->K a i<=K a j
 sb:∀i j,i<=j->j<b.size->K b i<=K b j
 na:0<a.size
 nb:0<b.size
 last:∀j,j<b.size->K b j<K a (a.size-1)
 first:∀i,i<a.size->K b 0<K a i
section
variable{a:Array am}
def AB{i:Nat}(h:i<a.size):a.toList.drop i=a[i]::a.toList.drop (i+1):=by
 rw[List.drop_eq_getElem_cons (by simpa using h)];simp
end
structure JK(n:Nat)(ky:Nat->Int)(J:List Nat):Prop where
 ord:J.Pairwise λi j=>ky i<ky j\/(ky i=ky j/\i<j)
 lt:∀i∈J,i<n
 len:J.length=n
noncomputable def fa(a:Array am)(i:Nat):am:=(a[i]?).getD (.none,.none)
section
variable{prog:cW}{w:f7}{A:d9}{E:Value->Shared->Prop}{s:Shared}{a0:Array am}{g:Nat->Nat}{b:Array (Nat×Nat×Nat)}{st:SortSt}
def GS.list(h:GS a0 g b st):(z8 st).toList=((fX a0.size).map g).map (fa a0):=by
 apply kI;intro q;rw[jR,bD,aO];by_cases a:q<a0.size
 ·rw[h.get q a,kZ a];show _=some (fa a0 (g q));unfold fa;rw[bq a0 _ (h.rng q a)];rfl
 ·rw[eR (by simp;lia),nS (by rw[h.size];lia)];rfl
def aAh(hB:GS a0 g b st)(hs:Sd a0 g 0 a0.size):JK a0.size (K a0) ((fX a0.size).map g) where
 ord:=by
  rw[JE];intro i j hi hj zz;simp only[aC,sK]at hi hj;simp only[List.getElem_map,List.getElem_range];exact hs i j (cD _) zz hj
 lt:=λi hi=>by
  obtain⟨p,hp,rfl⟩:=aS.mp hi;exact hB.rng p (qY.mp hp)
 len:=by simp
def RZ{n:Nat}(h:n<64)(a:2<=n):minRun' n n 0=n:=by
 obtain⟨f,rfl⟩:∃f,n=f+2:=⟨n-2,Cw⟩;rw[show f+2=(f+1)+1 by lia,minRun'_succ,a9 Cw]
def Ih(a0:Array am)(st:SortSt):Prop:=∃g,GS a0 g #[(0,a0.size,0)] st/\Sd a0 g 0 a0.size
def GS.setP(h:GS a0 g b st)(q:Array (Nat×Nat×Nat)):GS a0 g q (sq st q):=⟨h.size,h.get,h.rng,h.kind,h.fail,Db⟩
def UL{Q:Unit->SortSt->Prop}(o:IntKeys a0)(q:GS a0 (λp=>p) #[] st)(H:2<=a0.size)(k:a0.size<64)
  (h:∀i J,ie i=none->(z8 i).toList=J.map (fa a0)->JK a0.size (K a0) J->Q () i):wpS (model prog w) A E s sortRuns' Q st:=by
 have L:=RZ k H;rw[sortRuns'_eq];refine g4 (uf ?_);dsimp only;simp only[q.size]
 generalize minRun' a0.size a0.size 0=mn at L
 refine g4 (qw (x8
  (I:=λx c z=>(x=0/\c=(none,0)/\GS a0 (λp=>p) #[] z)\/(1<=x/\c=(none,a0.size)/\Ih a0 z))
  (Q:=λc z=>c=(none,a0.size)/\Ih a0 z) ?step ?fin (.inl ⟨Db,Db,q⟩)) ?post)
 case fin=>
  rintro c z (⟨t,_,_⟩ | ⟨_,hc,l⟩)
  ·lia
  ·exact⟨hc,l⟩
 case step=>
  rintro x c z _ t (⟨rfl,rfl,hB'⟩ | ⟨x1,rfl,l⟩)
  ·dsimp only;rw[a8 Cw];simp only[OI,OH]
   have next:∀(m:Nat)(j:Nat->Nat)(f:SortSt),GS a0 j #[] f->m=a0.size->Rn a0 (λp=>p) j 0 m ->
     (1=0/\((none,m):Option Unit×Nat)=(none,0)/\GS a0 (λp=>p) #[] (sq f ((br f).push (0,m,0)))) \/
     (1<=1/\((none,m):Option Unit×Nat)=(none,a0.size)/\Ih a0 (sq f ((br f).push (0,m,0)))):=λm j f d e r=>by
    have F:=d.setP #[(0,m,0)];rw[show(br f).push (0,m,0)=#[(0,m,0)] by rw[d.pend];rfl];subst e;refine .inr ⟨Cw,Db,j,F,?_⟩;have:=r.sd
    rwa [OH]at this
   refine g4 (ML o Cw Cw hB' (g0:=λp=>p) (λp a=>rfl) (λp a=>rfl) λm j f d u N r=>?_);dsimp only;by_cases n:m<mn
   ·rw[a9 n];refine g4 (wpS_lift (t7 ⟨Db,?_⟩));refine g4 (UM o Cw Cw u d r λG z2 c1 M=>?_);simp only[Bool.not_true,fL,s0];refine g4 (uf ?_);rw[show(br z2).back?=none by rw[c1.pend];rfl];dsimp only;exact g4 (il (j0 (next _ G z2 c1 Cw M)))
   ·rw[a8 n];refine g4 (uf ?_);rw[show(br f).back?=none by rw[d.pend];rfl];dsimp only;exact g4 (il (j0 (next _ j f d Cw r)))
  ·dsimp only;rw[a9 (aM _)];exact j0 ⟨Db,l⟩
 case post=>
  rintro c z ⟨rfl,l⟩;dsimp only
  refine g4 (qw (x8 (I:=λx c y=>c=(none,())/\x=0/\y=z)
   (Q:=λc y=>c=(none,())/\ie y=none/\∃J,(z8 y).toList=J.map (fa a0)/\JK a0.size (K a0) J) ?_ ?_ ⟨Db,Db,Db⟩) ?_)
  ·rintro x c y _ _ ⟨rfl,rfl,rfl⟩;refine g4 (uf ?_);obtain⟨g,d,sd⟩:=l;rw[a9 (by rw[d.pend];exact aM 1)];exact j0 ⟨Db,d.fail,_,d.list,aAh d sd⟩
  ·rintro c y ⟨rfl,t,_⟩;lia
  ·rintro c y ⟨rfl,v,J,B,C⟩;exact j0 (h y J v B C)
end
end SS
set_option maxHeartbeats 4000000
namespace SS
section
variable{prog:cW}{w:f7}{A:d9}{E:Value->Shared->Prop}{s:Shared}{a kS f:Addr}{vs:List Value}{g:List Int}{P:PySem.Fin->Shared->Prop}{d:Shared->Prop}{lo:Nat}
structure S3(d:Shared->Prop)(lo:Nat):Prop where
 up:∀(s':Shared)(x:Addr)h'(tk:Nat),d s'->lo<=x->fF x s'.heap h'->d { s' with heap:=h',toks:=tk }
 push:∀(s':Shared)(o:Obj),d s'->d { s' with heap:=s'.heap.push o }
def jB(prog:cW)(w:f7)(A:d9)(d:Shared->Prop)(lo:Nat)(f:Addr)(vs:List Value)(g:List Int):Prop:=∀(i:Nat)(v:Value)(k:Int)(c:Shared),vs[i]?=some v->g[i]?=some k->d c ->
 wpAny (model prog w) A (call (.ref f) [v]) (λu e=>∃t,u=.int k t/\d e/\∀b o,lo<=b->c.heap.get? b=some o->e.heap.get? b=some o) (λ_ _=>False) c
def UC{keys:Array Value}(c:IntsAre keys.toList g)(m:g.length=vs.length):(keys.zip vs.toArray).size=vs.length/\∀i,i<vs.length->K (keys.zip vs.toArray) i=g.getD i 0/\(fa (keys.zip vs.toArray) i).2=vs.getD i .none:=by
 have j:keys.size=vs.length:=by have:=c.length;rw[fB]at this;lia
 have l:(keys.zip vs.toArray).size=vs.length:=by rw[Array.size_zip,j,bA,Nat.min_self]
 refine⟨l,λi b=>?_⟩;obtain⟨t,h⟩:=c.get i (g[i]' Cw) (aG Cw);rw[jR]at h;have k:vs.toArray[i]?=some vs[i]:=by simp[b]
 have e:(keys.zip vs.toArray)[i]?=some (.int (g[i]' Cw) t,vs[i]):=by
  rw[Array.getElem?_zip_eq_some];exact⟨h,k⟩
 constructor
 ·unfold K;rw[e];show numOf (m6 (g[i]' Cw) t)=_;rw[dH,aG Cw];rfl
 ·unfold fa;rw[e,dH,aG b];rfl
def JK.congr{n:Nat}{k1 k2:Nat->Int}(h:JK n k1 J)(e:∀i,i<n->k1 i=k2 i):JK n k2 J where
 ord:=h.ord.imp_of_mem λ{i j} hi hj q=>by rw[<- e i (h.lt i hi),<- e j (h.lt j hj)];exact q
 lt:=h.lt
 len:=h.len
def OV{st:SortSt}{keys:Array Value}{e k:Nat}{J:List Nat}(T:S3 d lo)(C:d s)(ok:s.heap.get? kS=some (g3 "list" keys e))(z:s.heap.get? a=some (g3 "list" #[] k))(n:kS≠a)(y:lo<=kS)(x:lo<=a)
  (o:keys.size<=bG) (p:(z8 st).toList.map (·.2)=J.map λi=>vs.getD i .none) (u:J.length<=bG) (t:ie st=none)
  (h:∀l r out c,d { s with heap:=l,toks:=r }->l.get? a=some (g3 "list" out c)->out.toList=(J.map λi=>vs.getD i .none)->P (.done (.ret .none)) { s with heap:=l,toks:=r }) :
  wpAny (model prog w) A (ksk_tail a false k (.ref kS) st) P E s:=by
 have q:=fF.update s.heap kS (e8 λ_=>(#[]:Array Value));have b:(s.heap.update kS (e8 λ_=>(#[]:Array Value))).get? a=some (g3 "list" #[] k):=(q.2 a n.symm).trans z;have B:=fF.update (s.heap.update kS (e8 λ_=>(#[]:Array Value))) a (e8 λ_=>(z8 st).map (·.2));obtain⟨j,m⟩:∃j,((s.heap.update kS (e8 λ_=>(#[]:Array Value))).update a (e8 λ_=>(z8 st).map (·.2))).get? a=some (g3 "list" ((z8 st).map (·.2)) j):=⟨_,fu b λ_=>(z8 st).map (·.2)⟩
 have v:((z8 st).map (·.2)).size=J.length:=by
  have:=h9 kH p;simpa using this
 unfold ksk_tail
 try dsimp only
 refine aE (bx ok Db ?_ o (cD _));refine aE (fj ?_);refine aE (seqEpoch_at b Db ?_);refine aE (bx b Db ?_ (cD _) (by simp only[fL,s0];rw[v];exact ZK u));rw[t];simp only[bne_self_eq_false,fL,s0];exact aZ (h _ _ _ j (T.up { s with heap:=s.heap.update kS (e8 λ_=>(#[]:Array Value)) } a _ s.toks (T.up s kS _ s.toks C y q) x B) m (by rw[Array.toList_map];exact p))
def Yd{keys:Array Value}{e H:Nat}(T:S3 d lo)(N:d s)(ok:s.heap.get? kS=some (g3 "list" keys e))(M:s.heap.get? a=some (g3 "list" #[] H))(r:kS≠a)(L:lo<=kS)(I:lo<=a)
  (v:IntsAre keys.toList g) (X:g.length=vs.length) (p:vs.length<64)
  (h:∀k o out c J,d { s with heap:=k,toks:=o }->k.get? a=some (g3 "list" out c)->JK vs.length (λi=>g.getD i 0) J->out.toList=(J.map λi=>vs.getD i .none)->P (.done (.ret .none)) { s with heap:=k,toks:=o }) :
  wpAny (model prog w) A (ksk_end a false vs.toArray H (.ref kS) keys) P E s:=by
 obtain⟨n,t⟩:=UC (vs:=vs) v X;have z:keys.size=vs.length:=by have:=v.length;rw[fB]at this;lia
 have u:(2:Nat)^24=bG:=rfl
 have snd:∀J:List Nat,(∀i∈J,i<vs.length)->(J.map (fa (keys.zip vs.toArray))).map (·.2)=J.map λi=>vs.getD i .none:=λJ x=>by
  rw[bD];exact jI λi l=>(t i (x i l)).2
 unfold ksk_end
 try dsimp only
 simp only[fL,s0];by_cases m:vs.toArray.size<2
 ·rw[a9 m,a9 m];refine aE (aZ ?_);rw[StateT.run_pure];refine aE (aZ ?_)
  try dsimp only
  rw[bA]at m
  have S:(keys.zip vs.toArray).toList=(fX vs.length).map (fa (keys.zip vs.toArray)):=by
   apply kI;intro q;rw[jR,aO];by_cases y:q<vs.length
   ·rw[kZ y,bq _ q (by rw[n];exact y)];show _=some (fa _ q);unfold fa;rw[bq _ q (by rw[n];exact y)];rfl
   ·rw[eR (by simp;lia),nS (by rw[n];lia)];rfl
  have sb:JK vs.length (λi=>g.getD i 0) (fX vs.length):=⟨by
   rw[JE];intro i j l W U;simp only[sK]at l W;lia,λi l=>qY.mp l,Cy⟩
  exact OV (st:=SortSt.mk' general' (keys.zip vs.toArray) #[] 7 none) (J:=fX vs.length) T N ok M r L I (by rw[z,<- u];lia) (by
   show(keys.zip vs.toArray).toList.map (·.2)=_;rw[S];exact snd _ sb.lt) (by simp only[sK];rw[<- u];lia) Db λk o out c C F G=>h k o out c _ C F sb G
 ·rw[a8 m,a8 m];rw[bA]at m;rw[ksk_kind v (by rw[z];lia)];refine aE (aZ ?_)
  refine aE (dN (UL (a0:=keys.zip vs.toArray) (st:=SortSt.mk' oneType' (keys.zip vs.toArray) #[] 7 none)
   (Q:=λ_ b=>ie b=none/\∃J,(z8 b).toList=J.map (fa (keys.zip vs.toArray))/\JK (keys.zip vs.toArray).size (K (keys.zip vs.toArray)) J)
   (ksk_intKeys v) ⟨Db,λ_ _=>rfl,λ_ Y=>Y,Db,Db,Db⟩ (by rw[n];lia) (by rw[n];exact p) λb J O a2 R=>⟨O,J,a2,R⟩) ?_ λ_ _ e=>e)
  rintro⟨⟨⟩,b⟩ s' ⟨rfl,hf,J,x,sb⟩
  try dsimp only
  rw[n]at sb;have B:=sb.congr λi l=>(t i l).1;exact OV (J:=J) T N ok M r L I (by rw[z,<- u];lia) (by rw[x];exact snd J sb.lt) (by rw[sb.len,<- u];lia) hf λk o out c C F G=>h k o out c _ C F B G
def aAm{z:Nat}(T:S3 d lo)(t0:d s)(ok:s.heap.get? kS=some (g3 "list" #[] 0))(Z:s.heap.get? a=some (g3 "list" #[] z))(p:kS≠a)(C:lo<=kS)(L:lo<=a)
  (W:g.length=vs.length) (o:vs.length<64) (turn:jB prog w A d lo f vs g)
  (h:∀b out c J,d b->b.heap.get? a=some (g3 "list" out c)->JK vs.length (λi=>g.getD i 0) J->out.toList=(J.map λi=>vs.getD i .none)->P (.done (.ret .none)) b) :
  wpAny (model prog w) A (ksk_rest a (.ref f) false vs.toArray z (.ref kS)) P E s:=by
 have I:(2:Nat)^24=bG:=rfl;unfold ksk_rest;refine aE (t7 ?_)
 first
  |rw[List.forIn_toArray]
  | (rw[<- TJ];simp only[List.toList_toArray])
  |rw[<- TJ]
 refine aE (ksk_fold (λi b=>d b/\∃l e,b.heap.get? kS=some (g3 "list" l e)/\b.heap.get? a=some (g3 "list" #[] z)/\IntsAre l.toList (g.take i)) vs 0 s
  ⟨t0,#[],0,ok,Z,by simpa using IntsAre.nil⟩ ?step ?done)
 case step=>
  rintro j x b K ⟨H,l,e,u,F,n⟩;simp only[OH]at n |-
  have hj:j<vs.length:=(aI.mp K).1;obtain⟨k,q⟩:∃k,g[j]?=some k:=⟨_,aG Cw⟩
  have hz:l.size<=vs.length:=by
   have R:=n.length;rw[fB,bN]at R;lia
  refine aE (jl (dN (turn j x k b K q H) (λv t U=>?_) λ_ _ S=>S.elim));obtain⟨m,rfl,t3,keep⟩:=U
  try dsimp only
  have r:=keep kS _ C u;have G:=keep a _ L F;have M:=fF.update t.heap kS (e8 (·.push (.int k m)));obtain⟨y,B⟩:∃y,(t.heap.update kS (e8 (·.push (.int k m)))).get? kS=some (g3 "list" (l.push (.int k m)) y):=⟨_,fu r (·.push (.int k m))⟩;have Q:g.take (j+1)=g.take j++[k]:=by rw[dG,q];simp
  have O:(l.push (m6 k m)).toList=l.toList++[m6 k m]:=by simp
  refine aE (bx r Db ?_ (by rw[<- I];lia) (bL (lU (Array.size_push ..)) (by rw[<- I];lia)));exact aZ ⟨Db,T.up _ kS _ _ t3 C M,l.push (.int k m),y,B,(M.2 a p.symm).trans G,by rw[O,Q];exact ksk_snoc n⟩
 case done=>
  rintro b ⟨H,l,e,u,F,n⟩;have N:g.take (0+vs.length)=g:=fS Cw;rw[N]at n
  try dsimp only
  refine aE (listItems_at u Db ?_);exact Yd T H u F p C L n W o λh' tk out c J m Y sb X=>h _ out c J m Y sb X
def aAl{n:Nat}(T:S3 d lo)(u:d s)(k:s.heap.get? a=some (g3 "list" vs.toArray n))(l:lo<=a)(r:g.length=vs.length)(b:vs.length<64)(turn:jB prog w A d lo f vs g)
  (h:∀m out c J,d m->m.heap.get? a=some (g3 "list" out c)->JK vs.length (λi=>g.getD i 0) J->out.toList=(J.map λi=>vs.getD i .none)->P (.done (.ret .none)) m) :
  wpAny (model prog w) A (ksk_tree a (.ref f) false) P E s:=by
 have p:(2:Nat)^24=bG:=rfl;have q:a<s.heap.objs.size:=aY k;have t:=fF.update s.heap a (e8 λ_=>(#[]:Array Value));obtain⟨o,j⟩:∃o,(s.heap.update a (e8 λ_=>(#[]:Array Value))).get? a=some (g3 "list" #[] o):=⟨_,fu k λ_=>#[]⟩;have e:((s.heap.update a (e8 λ_=>(#[]:Array Value))).push (g3 "tuple" vs.toArray 0)).objs.size=s.heap.objs.size+1:=by rw[size_push',C5]
 unfold ksk_tree;refine aE (listItems_at k Db ?_);refine aE (bx k Db ?_ (by rw[bA,<- p];lia) (cD _));refine aE (seqEpoch_at j Db ?_);refine aE (wpAny_newTuple ?_ (by show vs.length<=_;rw[<- p];lia));refine aE (jn ?_ (cD _));refine m5 ?_
 exact aAm (s:={ s with heap:=((s.heap.update a (e8 λ_=>(#[]:Array Value))).push (g3 "tuple" vs.toArray 0)).push (g3 "list" #[] 0) }) (kS:=((s.heap.update a (e8 λ_=>(#[]:Array Value))).push (g3 "tuple" vs.toArray 0)).objs.size)
  T (T.push { s with heap:=(s.heap.update a (e8 λ_=>(#[]:Array Value))).push (g3 "tuple" vs.toArray 0) } _ (T.push { s with heap:=s.heap.update a (e8 λ_=>(#[]:Array Value)) } _ (T.up s a _ s.toks u l t)))
  (aU _ Db) (aD _ (aD _ j)) (by rw[e];exact hU (sO q)) (by rw[e];exact bL l (hV (sO q))) l r b turn h
def Q7{l:Addr}{Q:Value->Shared->Prop}(T:S3 d lo)(u:d s)(r:s.heap.IsList l vs.toArray)(j:lo<=s.heap.objs.size)(e:g.length=vs.length)(b:vs.length<64)(turn:jB prog w A.in1.in1 d lo f vs g)
  (h:∀p D out c J,d p->s.heap.objs.size<=D->p.heap.get? D=some (g3 "list" out c)->JK vs.length (λi=>g.getD i 0) J->out.toList=(J.map λi=>vs.getD i .none)->Q (.ref D) p) :
  wpAny (model prog w) A (call (.builtin "sorted") [.ref l] [(d7 "key",.ref f)]) Q E s:=by
 have q:(2:Nat)^24=bG:=rfl;refine call_function_entry_kw kind_sorted plain_sorted entry_sorted (ksk_s1 _ _) ?_;unfold u4.«sorted»;refine aE (m:=checkCount "sorted" 1 1 _) (aZ ?_);refine aE (collect_list r ?_ (by rw[<- q];lia));refine aE (jn ?_ (by rw[<- q];lia))
 have n:((s.heap.push (g3 "list" #[] 0)).update s.heap.objs.size (e8 (·++vs.toArray))).objs.size=s.heap.objs.size+1:=by
  rw[C5,size_push']
 have k:(((s.heap.push (g3 "list" #[] 0)).update s.heap.objs.size (e8 (·++vs.toArray))).push (g3 "list" vs.toArray 0)).get? (s.heap.objs.size+1)=some (g3 "list" vs.toArray 0):=by
  rw[<- n];exact aU _ Db
 show wpAny _ _ _ _ _ { s with heap:=((s.heap.push (g3 "list" #[] 0)).update s.heap.objs.size (e8 (·++vs.toArray))).push (g3 "list" vs.toArray 0) };rw[n];refine aE (m5 (wpAny_call_entry_kw slot_list_sort ⟨_,k,Db⟩ entry_list_sort ?body (ksk_l1 _ _)))
 case body=>
  show wpAny (model prog w) A.in1.in1 (u4.«list.sort» ⟨[.ref (s.heap.objs.size+1)],[(d7 "key",.ref f)]⟩) _ _ _;rw[ksk_t1];have v:=T.push { s with heap:=(s.heap.push (g3 "list" #[] 0)).update s.heap.objs.size (e8 (·++vs.toArray)) } (g3 "list" vs.toArray 0) (T.up { s with heap:=s.heap.push (g3 "list" #[] 0) } s.heap.objs.size _ s.toks (T.push s (g3 "list" #[] 0) u) j (fF.update _ _ _));refine aAl (s:={ s with heap:=((s.heap.push (g3 "list" #[] 0)).update s.heap.objs.size (e8 (·++vs.toArray))).push (g3 "list" vs.toArray 0) }) T v k (ZK j) e b turn λp out c J x o sb t=>⟨_,Db,?_⟩;exact aZ ⟨_,Db,h p _ out c J x (pW _) o sb t⟩
end
end SS
noncomputable section
def L2.tabA:Option PySem.Addr:=some 266
namespace L2
abbrev jB:=Sum Int Str
noncomputable def GI:jB->Value->Bool
|.inl k,v=>Value.isInt k v
|.inr x,v=>Value.isStrOf x v
noncomputable def Ob(w:f7):jB->Int
|.inl k=>hashInt k
|.inr x=>hashStr w x
def jH:∀{k v},GI k v=true->(∃i t,k=l8 i/\v=m6 i t)\/(∃x t,k=ao x/\v=ae x t)
|.inl i,v,h=>by
 obtain⟨t,e⟩:=Value.isInt_shape (k:=i) (v:=v) h;exact .inl ⟨i,t,Db,e⟩
|.inr x,v,h=>by
 obtain⟨t,e⟩:=Value.isStrOf_shape (x:=x) (v:=v) h;exact .inr ⟨x,t,Db,e⟩
def R6(i:Int)(t:Tok):GI (.inl i) (.int i t)=true:=by simp[GI,Value.isInt]
def R5(x:Str)(t:Tok):GI (.inr x) (.str x t)=true:=by simp[GI,Value.isStrOf]
def Xa(a b:Int):decide ((l8 a:jB)=l8 b)=(a==b):=by
 by_cases e:a=b
 ·subst e;simp
 ·have h:¬(l8 a:jB)=l8 b:=λq=>e (bj q);rw[b9 h];exact(beq_eq_false_iff_ne.mpr e).symm
def Xe(a b:Str):decide ((ao a:jB)=ao b)=decide (a=b):=by
 by_cases e:a=b
 ·subst e;simp
 ·have h:¬(ao a:jB)=ao b:=λq=>e (Sum.inr.inj q);rw[b9 h,b9 e]
def Xb(a:Int)(b:Str):decide ((l8 a:jB)=ao b)=false:=b9 (λq=>nomatch q)
def Xd(a:Str)(b:Int):decide ((ao a:jB)=l8 b)=false:=b9 (λq=>nomatch q)
noncomputable def fH(prog:cW)(w:f7):PySem.KeyKind prog w jB where
 is:=GI
 hash:=Ob w
 inj:=λv a b ha hb=>by
  rcases jH ha with⟨i,t,rfl,rfl⟩ | ⟨x,t,rfl,rfl⟩
  ·rcases jH hb with⟨j,u,rfl,e⟩ | ⟨y,u,rfl,e⟩
   ·injection e with e1 _;rw[e1]
   ·exact nomatch e
  ·rcases jH hb with⟨j,u,rfl,e⟩ | ⟨y,u,rfl,e⟩
   ·exact nomatch e
   ·injection e with e1 _;rw[e1]
 byValue:=λk v h=>by
  rcases jH h with⟨i,t,rfl,rfl⟩ | ⟨x,t,rfl,rfl⟩<;>rfl
 pyHash:=λhv h=>by
  rcases jH hv with⟨i,t,rfl,rfl⟩ | ⟨x,t,rfl,rfl⟩
  ·exact wpAny_pyHash_int h
  ·exact wpAny_pyHash_str h
 eqBool:=λhu hv h=>by
  rcases jH hu with⟨i,t,rfl,rfl⟩ | ⟨x,t,rfl,rfl⟩
  ·rcases jH hv with⟨j,u,rfl,rfl⟩ | ⟨y,u,rfl,rfl⟩
   ·rw[Xa]at h;exact wpAny_eqBool_int h
   ·rw[Xb]at h;exact SeqAt.EqAt.int_str i t y u _ _ _ _ h
  ·rcases jH hv with⟨j,u,rfl,rfl⟩ | ⟨y,u,rfl,rfl⟩
   ·rw[Xd]at h;exact SeqAt.EqAt.str_int x t j u _ _ _ _ h
   ·rw[Xe]at h;exact wpAny_eqBool_str h
 «strs»:=λk x t v h=>by
  rcases jH h with⟨i,u,rfl,e⟩ | ⟨y,u,rfl,e⟩
  ·exact nomatch e
  ·injection e with e1 _
   subst e1;cases v<;>rfl
def K0(prog:cW)(w:f7)(i:Int)(t:Tok):(fH prog w).is (.inl i) (.int i t)=true:=R6 i t
def KZ(prog:cW)(w:f7)(x:Str)(t:Tok):(fH prog w).is (.inr x) (.str x t)=true:=R5 x t
inductive V where
 |non | bl (b:Bool) | int (i:Int) | str (x:Str) | byt (b:Array UInt8) | flt (b:UInt64) | ref (a:Addr) | ty (n:String)
 deriving DecidableEq
def eZ:V->Value->Prop
|.non,u=>u=g8
|.bl b,u=>u=ax b
|.int i,u=>∃t,u=m6 i t
|.str x,u=>∃t,u=ae x t
|.byt b,u=>∃t,u=Value.bytes b t
|.flt b,u=>∃t,u=gh b t
|.ref a,u=>u=c9 a
|.ty n,u=>u=n7 n
abbrev eW:List V->List Value->Prop:=Paired eZ
theorem eW.length{b:List V}{a:List Value}(r:eW b a):b.length=a.length:=af r
theorem eW.get:∀{xs us}{i:Nat}{x},eW xs us->xs[i]?=some x->∃u,us[i]?=some u/\eZ x u
|_,_,_,_,.nil,e=>by simp at e
|_,_,0,_,.cons r _,e=>by simp at e;subst e;exact⟨_,Db,r⟩
|_,_,i+1,x,.cons _ t,e=>by
 obtain⟨u,a,b⟩:=eW.get (i:=i) (x:=x) t (by simpa using e);exact⟨u,by simpa using a,b⟩
theorem eW.set{x}(r:eZ x u):∀{b:List V}{a:List Value}(i:Nat),eW b a->eW (b.set i x) (a.set i u)
|_,_,_,.nil=>.nil
|_,_,0,.cons _ t=>.cons r t
|_,_,i+1,.cons q t=>.cons q (eW.set r i t)
theorem eW.append:∀{xs ys us ws},eW xs us->eW ys ws->eW (xs++ys) (us++ws)
|_,_,_,_,.nil,s=>s
|_,_,_,_,.cons r t,s=>.cons r (eW.append t s)
theorem eW.take:∀{a:List V}{us:List Value}(n:Nat),eW a us->eW (a.take n) (us.take n)
|_,_,0,_=>.nil
|_,_,_+1,.nil=>.nil
|_,_,n+1,.cons r t=>.cons r (eW.take n t)
theorem eW.drop:∀{b:List V}{a:List Value}(n:Nat),eW b a->eW (b.drop n) (a.drop n)
|_,_,0,r=>r
|_,_,_+1,.nil=>.nil
|_,_,n+1,.cons _ t=>eW.drop n t
def tS:Option V->Option Value->Prop
|some v,some u=>eZ v u
|none,none=>True
|_,_=>False
def KV{a:Type}:List (a×V)->List (a×Value)->Prop:=Paired λ(p:a×V) (q:a×Value)=>p.1=q.1/\eZ p.2 q.2
noncomputable def kV:jB->V
|.inl i=>.int i
|.inr x=>.str x
inductive HO where
 /-- a list -/
 |lst (xs:List V)
 /-- a tuple (never changes) -/
 |tup (xs:List V)
 /-- a dict whose keys are ints and texts;one whose keys are tuples of ints and texts (the empty one is both) -/
 |dK (kvs:List (jB×V)) | dT (kvs:List (List jB×V))
 /-- a set of ints: bc members,bc size -/
 |set (S:Int->Bool) (n:Nat)
 /-- an instance of the class at C,bc dict at dx,bc attributes -/
 |ins (C dx:Addr) (fs:List (Str×V))
 /-- the dict of the instance at x -/
 |own (x:Addr)
 /-- the dict of an exception -/
 |xd (fs:List (Str×V))
 /-- a bound method,f of x -/
 |met (f x:Addr)
 /-- a range object lo,lo+1,.. below hi -/
 |rng (lo hi:Int)
 /-- a thing that is known to the object (the script;a dict while a qu walks it): read,never written while it is so -/
 |frz (o:Obj) (u:HO)
 /-- a code object's table -/
 |tbl (ps:Array Value)
 /-- any other thing,by what is true of bc one object (a def of yk own: SetO a S n:=HO.ext λh=>..) -/
 |ext (φ:Heap->Prop)
abbrev Hp:=Addr->Option HO
noncomputable def eM(H:Hp)(a:Addr)(o:HO):Hp:=λb=>if b=a then some o else H b
def bQ{a:Addr}:eM H a o a=some o:=by unfold eM;rw[a9 rfl]
def bV{a b:Addr}(h:b≠a):eM H a o b=H b:=by unfold eM;rw[a8 h]
def CH{a:Addr}:eM (eM H a o) a u=eM H a u:=by
 funext b;unfold eM;split<;>rfl
def Qr{H:Hp}{a b:Addr}{o u:HO}(h:H a=some o)(c:H b=some u)(d:o≠u):a≠b:=by
 intro e;subst e;rw[h]at c;exact d (c8 c)
def eN{H:Hp}{a b:Addr}{o:HO}(h:H a=some o)(c:H b=none):a≠b:=by
 intro e;subst e;rw[h]at c;cases c
section
variable(P:cW)(w:f7)
def FN(h:Heap)(a:Addr)(b:Array Value):Prop:=∃o,h.get? a=some o/\o.cls=.type "tuple"/\∃n,o.data=.seq b n/\o.dict=none
def FN.tup{h}{a:Addr}{items}(x:FN h a items):sy h a items:=let ⟨o,e,c,n,d,_⟩:=x;⟨o,e,c,n,d⟩
theorem FN.lt{h:Heap}{a:Addr}(x:FN h a items):a<h.objs.size:=x.tup.lt
def FN.new(h:Heap)(a:Array Value):FN (h.push { cls:=.type "tuple",data:=.seq a }) h.objs.size a:=⟨_,aU _ Db,Db,_,Db,Db⟩
def Y4(a:Obj):Prop:=∃(vs:Array Value)(q:Str)(t:Tok),a.data=.fields vs/\vs[1]?=some (.str q t)
def iR(H:Hp)(h:Heap)(a:Addr):HO->Prop
|.lst d=>d.length<=bG/\∃(b:List Value)(n:Nat),eW d b/\h.get? a=some { cls:=.type "list",data:=.seq b.toArray n }
|.tup d=>d.length<=bG/\∃b:List Value,eW d b/\FN h a b.toArray
|.dK kvs=>kvs.length<=bG/\(a==k8)=false/\∃vs,KV kvs vs/\h.DictOf (fH P w) a vs
|.dT kvs=>kvs.length<=bG/\(a==k8)=false/\∃d:List (List jB×Addr×Value),
  Paired (λ(p:List jB×V) (q:List jB×Addr×Value)=>p.1=q.1/\H q.2.1=some (.tup (p.1.map kV))/\eZ p.2 q.2.2) kvs d /\
  ∃o i m,h.get? a=some o/\o.ExactDict/\o.data=.dict i m/\i.toList=d.map (entryOfKey (er (fH P w)))/\(d.map (·.1)).Nodup
|.set S n=>h.SetOf (intKind P w) a S n
|.ins C dx fs=>H dx=some (.own a)/\fs.length<=1000/\dx≠a/\h.get? a=some (jV C dx) /\
  ∃e,h.Ns1 dx e/\(∀f,tS (fs.lookup f) (e f))/\fo e (fs.map (·.1))
|.own _=>∃o,h.get? a=some o
|.xd fs=>∃e,h.Ns1 a e/\∀f,tS (fs.lookup f) (e f)
|.rng lo hi=>∃t u v,h.get? a=some { cls:=.type "range",data:=.fields #[.int lo t,.int hi u,.int 1 v] }
|.frz o u=>h.get? a=some o/\iR H h a u
|.tbl _=>∃qs:Array Value,h.get? a=some { cls:=.none,data:=.fields qs }/\TriplesOk qs.toList/\∀(p:Pos)(c:Value),codeAmong p qs.toList=some c->∃g l,c=.ref g/\H g=some (.frz l (.own a))/\Y4 l
|.met f x=>h.get? a=some (AJ (.ref f) (.ref x))
|.ext φ=>φ h/\(∃o,h.get? a=some o)/\∀j k:Heap,φ j->(∀o,j.get? a=some o->k.get? a=some o)->φ k
def pV(H:Hp)(h:Heap):Prop:=∀a o,H a=some o->iR P w H h a o
end
section
variable{P:cW}{w:f7}{H g:Hp}{h h':Heap}{a:Addr}{o:HO}
theorem iR.lt(x:iR P w H h a o):a<h.objs.size:=by
 cases o with
 |lst b=>obtain⟨_,_,_,_,e⟩:=x;exact aY e
 |tup b=>obtain⟨_,_,_,p⟩:=x;exact p.lt
 |dK kvs=>obtain⟨_,_,_,_,o,_,_,e,_⟩:=x;exact aY e
 |dT kvs=>obtain⟨_,_,_,_,o,_,_,e,_⟩:=x;exact aY e
 |set S n=>obtain⟨o,_,_,_,e,_⟩:=x;exact aY e
 |ins C dx fs=>obtain⟨_,_,_,e,_⟩:=x;exact aY e
 |own y=>obtain⟨_,e⟩:=x;exact aY e
 |xd fs=>obtain⟨_,⟨_,_,_,e,_⟩,_⟩:=x;exact aY e
 |rng lo c=>obtain⟨_,_,_,e⟩:=x;exact aY e
 |frz ob u=>obtain⟨e,_⟩:=x;exact aY e
 |tbl d=>obtain⟨_,e,_⟩:=x;exact aY e
 |met f y=>exact aY (show h.get? a=some _ from x)
 |ext i=>obtain⟨_,⟨_,e⟩,_⟩:=x;exact aY e
theorem Paired.mapP{c d:Type}{F G:c->d->Prop}:∀{l₁ l₂},Paired F l₁ l₂->(∀a b,F a b->G a b)->Paired G l₁ l₂
|_,_,.nil,_=>.nil
|_,_,.cons r t,f=>.cons (f _ _ r) (Paired.mapP t f)
def iR.stay(x:iR P w H h a o)(k:∀b u,(b=a\/H b=some (.own a))->h.get? b=some u->h'.get? b=some u)
  (F:∀b,H b=some (.own a)->g b=some (.own a)) (G:∀b m,H b=some (.tup m)->g b=some (.tup m)) (E:∀b ob u,H b=some (.frz ob u)->g b=some (.frz ob u):=by exactλ_ _ _ q=>q):iR P w g h' a o:=by
 induction o with
 |lst m=>obtain⟨z,l,n,r,e⟩:=x;exact⟨z,l,n,r,k _ _ (.inl Db) e⟩
 |tup m=>obtain⟨z,l,r,ob,e,c⟩:=x;exact⟨z,l,r,ob,k _ _ (.inl Db) e,c⟩
 |dK kvs=>obtain⟨z,y,vs,r,ob,j,i,e,c⟩:=x;exact⟨z,y,vs,r,ob,j,i,k _ _ (.inl Db) e,c⟩
 |dT kvs=>
  obtain⟨z,y,m,r,ob,j,i,e,c⟩:=x;exact⟨z,y,m,Paired.mapP r λp q z=>⟨z.1,G _ _ z.2.1,z.2.2⟩,ob,j,i,k _ _ (.inl Db) e,c⟩
 |set S n=>obtain⟨ob,j,i,t,e,c⟩:=x;exact⟨ob,j,i,t,k _ _ (.inl Db) e,c⟩
 |ins C dx fs=>
  obtain⟨d,z,ne,e,s,⟨A,j,i,B,c⟩,r⟩:=x;exact⟨F _ d,z,ne,k _ _ (.inl Db) e,s,⟨A,j,i,k _ _ (.inr d) B,c⟩,r⟩
 |own y=>obtain⟨ob,e⟩:=x;exact⟨ob,k _ _ (.inl Db) e⟩
 |xd fs=>obtain⟨s,⟨A,j,i,e,c⟩,r⟩:=x;exact⟨s,⟨A,j,i,k _ _ (.inl Db) e,c⟩,r⟩
 |rng lo J=>obtain⟨t,u,v,e⟩:=x;exact⟨t,u,v,k _ _ (.inl Db) e⟩
 |frz ob u I=>obtain⟨e,q⟩:=x;exact⟨k _ _ (.inl Db) e,I q⟩
 |tbl K=>
  obtain⟨qs,e,t,z⟩:=x;exact⟨qs,k a _ (.inl Db) e,t,λp c q=>let ⟨c',oc,h1,h2,h3⟩:=z p c q;⟨c',oc,h1,E _ _ _ h2,h3⟩⟩
 |met f y=>
  have e:h.get? a=some (AJ (.ref f) (.ref y)):=x;show h'.get? a=some (AJ (.ref f) (.ref y));exact k a _ (.inl Db) e
 |ext L=>obtain⟨p,⟨o,e⟩,st⟩:=x;exact⟨st _ _ p λo q=>k _ _ (.inl Db) q,⟨o,k _ _ (.inl Db) e⟩,st⟩
theorem pV.lt(x:pV P w H h)(e:H a=some o):a<h.objs.size:=(x a o e).lt
def pV.fresh(x:pV P w H h)(e:h.objs.size<=a):H a=none:=by
 cases q:H a with
 |none=>rfl
 |some u=>exact c7 (bT (x.lt q) e) (eO _)
def pV.kept(x:pV P w H h)(k:∀b u,h.get? b=some u->h'.get? b=some u):pV P w H h':=λa o e=>
 (x a o e).stay (λb u _ q=>k b u q) (λ_ q=>q) λ_ _ q=>q
def pV.laid(x:pV P w H h)(k:∀b u,h.get? b=some u->h'.get? b=some u)(f:h.objs.size<=a)(new:iR P w (eM H a o) h' a o):pV P w (eM H a o) h':=λb u e=>by
 have d:=x.fresh f;by_cases hb:b=a
 ·subst hb;rw[bQ]at e;cases e;exact new
 ·rw[bV hb]at e;exact(x b u e).stay (λc v _ q=>k c v q) (λc q=>by rw[bV (eN q d)];exact q) (λc i q=>by rw[bV (eN q d)];exact q) λc ob v q=>by rw[bV (eN q d)];exact q
end
def Rd(H:Hp)(a:Addr)(u:HO):Prop:=H a=some u\/∃o,H a=some (.frz o u)
def Rd.ok{h}{a:Addr}(r:Rd H a u)(x:pV P w H h):iR P w H h a u:=by
 rcases r with r | ⟨o,r⟩
 ·exact x a u r
 ·obtain⟨_,q⟩:=x a _ r;exact q
def Et:Option HO->Prop
|some (.lst _)=>True
|some (.dK _)=>True
|some (.dT _)=>True
|some (.set _ _)=>True
|some (.ins _ _ _)=>True
|some (.ext _)=>True
|_=>False
section
variable{P:cW}{w:f7}{H:Hp}{h a:Heap}{x e:Addr}{d:HO}
def pV.write(ok:pV P w H h)(i:Et (H x))(n:e=x\/H e=some (.own x))(k:∀b u,b≠e->h.get? b=some u->a.get? b=some u)(m:∃u,a.get? e=some u)
  (new:iR P w (eM H x d) a x d):pV P w (eM H x d) a:=λb u q=>by
 have g:∀c y,H c=some (.own y)->c≠x:=λc y r z=>by subst z;rw[r]at i;exact i
 have j:∀c l,H c=some (.tup l)->c≠x:=λc l r z=>by subst z;rw[r]at i;exact i
 by_cases hb:b=x
 ·subst hb;rw[bQ]at q;cases q;exact new
 ·rw[bV hb]at q;by_cases f:b=e
  ·have o:H b=some (.own x):=by
    rcases n with z | z
    ·exact c7 (f.trans z) hb
    ·rw[f];exact z
   rw[q]at o;cases o;obtain⟨v,p⟩:=m;exact⟨v,by rw[f];exact p⟩
  ·refine(ok b u q).stay (λc v hc r=>k c v ?_ r) (λc r=>by rw[bV (g c b r)];exact r) (λc l r=>by rw[bV (j c l r)];exact r) λc ob v r=>by rw[bV (λz=>by subst z;rw[r]at i;exact i)];exact r
   rcases hc with rfl | hc
   ·exact f
   ·rintro rfl;rcases n with z | z
    ·exact g c b hc z
    ·rw[hc]at z;cases z;exact hb Db
end
structure Un(fs ex:List Addr)(H H':Hp)(h h':Heap):Prop where
 keep:∀b o,h.get? b=some o->H b=none->b∉fs->b∉ex->h'.get? b=some o
 slot:∀b o,h.get? b=some o->H b=none->b∈fs->b∉ex->∃sl,h'.get? b=some { o with slots:=sl }
 free:∀b o,h.get? b=some o->H b=none->b∉ex->H' b=none
 there:∀b o,h.get? b=some o->b∉ex->∃o',h'.get? b=some o'
 tups:∀b xs,H b=some (.tup xs)->H' b=some (.tup xs)
 frzs:∀b o u,H b=some (.frz o u)->H' b=some (.frz o u)
 tbls:∀b ps,H b=some (.tbl ps)->∃more,H' b=some (.tbl (ps++more))
section
variable{fs ex:List Addr}{H f g:Hp}{h d i h':Heap}{a x e:Addr}{o:HO}
def Un.any(u:Un fs ex H f h d){b:Addr}(q:h.get? b=some ob)(n:H b=none)(c:b∉ex):∃j,d.get? b=some { ob with slots:=j }:=by
 by_cases hb:b∈fs
 ·exact u.slot b ob q n hb c
 ·exact⟨ob.slots,u.keep b ob q n hb c⟩
def Un.trans(a:Un fs ex H f h d)(b:Un fs ex f g d i):Un fs ex H g h i where
 keep:=λc ob q n hc hx=>b.keep c ob (a.keep c ob q n hc hx) (a.free c ob q n hx) hc hx
 slot:=λc ob q n hc hx=>by
  obtain⟨sl,e1⟩:=a.slot c ob q n hc hx;obtain⟨xi,e2⟩:=b.slot c _ e1 (a.free c ob q n hx) hc hx;exact⟨xi,e2⟩
 free:=λc ob q n hx=>by
  obtain⟨o',e1⟩:=a.there c ob q hx;exact b.free c o' e1 (a.free c ob q n hx) hx
 there:=λc ob q hx=>by
  obtain⟨o',e1⟩:=a.there c ob q hx;exact b.there c o' e1 hx
 tups:=λc xs q=>b.tups c xs (a.tups c xs q)
 frzs:=λc ob xs q=>b.frzs c ob xs (a.frzs c ob xs q)
 tbls:=λc ps q=>by
  obtain⟨m1,e1⟩:=a.tbls c ps q;obtain⟨m2,e2⟩:=b.tbls c _ e1;exact⟨m1++m2,by rw[e2,TM]⟩
def Un.kept(k:∀b u,h.get? b=some u->h'.get? b=some u):Un fs ex H H h h':=
 ⟨λb ob q _ _ _=>k b ob q,λb ob q _ _ _=>⟨ob.slots,k b ob q⟩,λ_ _ _ n _=>n,λb ob q _=>⟨ob,k b ob q⟩,λ_ _ q=>q,λ_ _ _ q=>q,λ_ c q=>⟨#[],by rw[q];simp⟩⟩
def Un.refl:Un fs ex H H h h:=Un.kept λ_ _ q=>q
def Un.laid(k:∀b u,h.get? b=some u->h'.get? b=some u)(hp:h.objs.size<=a)(hn:H a=none):Un fs ex H (eM H a o) h h' where
 keep:=λb u q _ _ _=>k b u q
 slot:=λb u q _ _ _=>⟨u.slots,k b u q⟩
 free:=λb u q n _=>by rw[bV (cL (bT (aY q) hp))];exact n
 there:=λb u q _=>⟨u,k b u q⟩
 tups:=λb xs q=>by rw[bV (eN q hn)];exact q
 frzs:=λb u xs q=>by rw[bV (eN q hn)];exact q
 tbls:=λb ps q=>⟨#[],by rw[bV (eN q hn),q];simp⟩
def Un.write(j:Et (H x))(s:e=x\/H e=some (.own x))(k:∀b u,b≠e->h.get? b=some u->h'.get? b=some u)(l:∃u,h'.get? e=some u):Un fs ex H (eM H x o) h h':=by
 have p:∀b,H b=none->b≠x:=λb n z=>by subst z;rw[n]at j;exact j
 have hb:∀b,H b=none->b≠e:=λb n z=>by
  subst z;rcases s with r | r
  ·exact p b n r
  ·rw[n]at r;cases r
 have m:∀b u,H b=some u->¬Et (some u)->b≠x:=λb u q nm z=>by subst z;rw[q]at j;exact nm j
 refine⟨λb u q n _ _=>k b u (hb b n) q,λb u q n _ _=>⟨u.slots,k b u (hb b n) q⟩,λb u q n _=>by rw[bV (p b n)];exact n,λb u q _=>?_,
  λb t q=>by rw[bV (m b _ q λz=>z)];exact q,λb u t q=>by rw[bV (m b _ q λz=>z)];exact q,λb v q=>⟨#[],by rw[bV (m b _ q λz=>z),q];simp⟩⟩
 by_cases c:b=e
 ·subst c;exact l
 ·exact⟨u,k b u c q⟩
end
noncomputable def trk(h:Heap)(H:Hp):List Addr:=(fX h.objs.size).filter λa=>(H a).isSome
noncomputable def IF(h:Heap)(H:Hp):Heap:=PySem.W.hideAll h (trk h H)
def R9(h:Heap)(H:Hp):(IF h H).objs.size=h.objs.size:=PySem.W.hideAll_size _ _
def XX{h:Heap}{b:Addr}(e:h.get? b=some o)(n:H b=none):(IF h H).get? b=some o:=
 PySem.W.hideAll_get _ e λa=>by
  have q:(H b).isSome=true:=(cH.mp a).2;rw[n]at q;simp at q
def aBo{h:Heap}{H:Hp}{b:Addr}(e:(IF h H).get? b=some o):h.get? b=some o/\H b=none:=by
 have a:h.get? b=some o:=PySem.W.of_hideAll (trk h H) e;refine⟨a,?_⟩
 cases q:H b with
 |none=>rfl
 |some x=>
  have c:b∈trk h H:=cH.mpr ⟨qY.mpr (aY a),by simp[q]⟩;have z:(IF h H).get? b=none:=PySem.W.hideAll_none (trk h H) c;rw[z]at e;cases e
noncomputable def aC6(g h:Heap)(L:Addr):List (Addr×Obj):=(fX h.objs.size).filterMap λa=>if a=L\/(g.get? a).isSome=true then none else(h.get? a).map λo=>(a,o)
noncomputable def jK(g h:Heap)(L d:Addr):List (Addr×Obj):=(aC6 g h L).filter λp=>decide (p.1≠d)
structure Mod(K:aF)(mg:Str->Option Value)(base:Heap):Prop where
 kin:K.In base
 glob:base.Ns eB mg
 blt:∃mb,base.Ns t5 mb/\∀x:Str,x≠"__name__"->mb x=e4 x
 nolimit:base.NoLimit
 bmod:∃bm o,mg "__builtins__"=some (.ref bm)/\bm≠t5/\base.get? bm=some o/\o.cls=.type "module"/\o.dict=some t5/\o.data=.plain
structure Cx where
 prog:cW
 w:f7
 K:aF
 mg:Str->Option Value
 base:Heap
 A:d9
 N:List Str
 s₀:Shared
 H₀:Hp
 env:Env
 outer:List Env
 stack:List Env
 ex:List Addr
 fn:Str->Bool
 calm:Bool
 pn:List (Addr×Obj)
 xe:Value->Shared->Prop
noncomputable def pS(l:List Env):List Addr:=l.filterMap (·.frame)
noncomputable abbrev Cx.fs(X:Cx):List Addr:=pS X.outer
def Fq(a:Scope)(x:Str):Prop:=a.names.lookup x=some .local\/a.names.lookup x=some .cell\/a.names.lookup x=some .free
def TY(a:Scope)(x:Str):Prop:=a.names.lookup x=some .local\/a.names.lookup x=some .cell
def Oj(env:Env)(h:Heap)(m:Str->Option Value)(x:Str)(u:Value):Prop:=
 (env.kindOf x=some .local/\m x=some u)\/((env.kindOf x=some .cell\/env.kindOf x=some .free)/\∃c,env.cells.lookup x=some c/\h.IsCell c (some u))
def Tb(H:Hp):Prop:=∀P,tabA=some P->∃a,H P=some (.tbl a)
structure Cx.Ok(X:Cx):Prop where
 mod:Mod X.K X.mg X.base
 kind:X.env.scope.kind=.function
 glob:X.env.globals=eB
 blt:X.env.builtins=t5
 above:X.s₀.heap.objs.size<=X.env.locals
 inj:∀x y c,X.env.cells.lookup x=some c->X.env.cells.lookup y=some c->x=y
 has:∀x,(X.env.kindOf x=some .cell\/X.env.kindOf x=some .free)->∃c,X.env.cells.lookup x=some c
 cab:∀x c,X.fn x=true->X.env.cells.lookup x=some c->X.s₀.heap.objs.size<=c
 hd:X.calm=true->X.A.handled=none
 frames:X.A.frames=some X.stack
 stk:X.stack=X.outer\/(X.stack=X.env::X.outer/\X.env.frame=some X.env.locals)
 exf:∀b∈X.ex,b≠X.env.locals/\∀x c,X.env.cells.lookup x=some c->c≠b
 bs:∀b o,X.base.get? b=some o->X.s₀.heap.get? b=some o/\X.H₀ b=none
 bsz:X.base.objs.size<=X.s₀.heap.objs.size
 noex:∀b o,X.base.get? b=some o->b∉X.ex
 exfs:∀b∈X.ex,b∉X.fs
 funs:X.s₀.heap.FunFrames X.base X.outer
 frf:∀b∈X.fs,X.H₀ b=none
 tab:Tb X.H₀
structure cU(X:Cx)(pins:List (Addr×Obj))(σ:List (Option V))(H:Hp)(s:Shared):Prop where
 ok:X.Ok
 os:s.os=X.s₀.os
 bare:v9 s.gens
 base:Un X.fs X.ex X.H₀ H X.s₀.heap s.heap
 loc:∃m,s.heap.Ns X.env.locals m/\∀(i:Nat)(x:Str)(v:V),X.N[i]?=some x->σ[i]?=some (some v)->Fq X.env.scope x->∃u,eZ v u/\Oj X.env s.heap m x u
 cell:∀x c,X.env.cells.lookup x=some c->∃v,s.heap.IsCell c v
 free:H X.env.locals=none
 freeC:∀x c,X.env.cells.lookup x=some c->H c=none
 pin:∀p∈X.pn++pins,s.heap.get? p.1=some p.2/\H p.1=none/\p.1≠X.env.locals/\p.1∉X.fs/\∀v,p.2.data≠.cell v
 hok:pV X.prog X.w H s.heap
 len:σ.length=X.N.length
section
variable{X:Cx}{f:List (Addr×Obj)}{g:List (Option V)}{H H':Hp}{s:Shared}{h':Heap}
def Cx.Ok.nofr(ok:X.Ok){b:Addr}(e:X.base.get? b=some o):b∉X.fs:=λhb=>by
 have:=(ok.funs.mem hb).1;rw[e]at this;cases this
theorem cU.bs(I:cU X f g H s):∀b o,X.base.get? b=some o->s.heap.get? b=some o/\H b=none:=λb o e=>
 ⟨I.base.keep b o (I.ok.bs b o e).1 (I.ok.bs b o e).2 (I.ok.nofr e) (I.ok.noex b o e),I.base.free b o (I.ok.bs b o e).1 (I.ok.bs b o e).2 (I.ok.noex b o e)⟩
def cU.bk(I:cU X f g H s):∀b o,X.base.get? b=some o->s.heap.get? b=some o:=λb o e=>(I.bs b o e).1
theorem cU.mod(I:cU X f g H s):Mod X.K X.mg X.base:=I.ok.mod
def cU.kIn(I:cU X f g H s):X.K.In s.heap:=I.ok.mod.kin.keeps I.bk
theorem cU.nolimit(I:cU X f g H s):s.heap.NoLimit:=I.ok.mod.nolimit.keeps I.bk
theorem cU.lt(I:cU X f g H s):X.env.locals<s.heap.objs.size:=let ⟨_,hn,_⟩:=I.loc;hn.lt
def cU.sz(I:cU X f g H s):X.s₀.heap.objs.size<=s.heap.objs.size:=bL I.ok.above (hV I.lt)
def cU.nofs(I:cU X f g H s){a:Addr}(h:s.heap.objs.size<=a):a∉X.fs:=λhb=>by
 obtain⟨_,o,b,_⟩:=I.ok.funs.mem hb;exact c7 (bT (aY b) (bL I.sz h)) (eO _)
def cU.cne(I:cU X f g H s):∀x c,X.env.cells.lookup x=some c->c≠X.env.locals:=λx c e z=>by
 obtain⟨v,o,d,hd⟩:=I.cell x c e;obtain⟨m,⟨j,i,h,b,a,_⟩,_⟩:=I.loc;rw[z,b]at d;cases d;rw[a]at hd;cases hd
theorem cU.funs(I:cU X f g H s):s.heap.FunFrames X.base X.outer:=by
 have all:∀l,(∀b∈pS l,b∈X.fs)->X.s₀.heap.FunFrames X.base l->s.heap.FunFrames X.base l:=by
  intro l
  induction l with
  |nil=>intro _ _;trivial
  |cons env r n=>
   intro d i;obtain⟨h,⟨L,o,c,j,k,hd⟩,m⟩:=i;have a:L∈X.fs:=d L (by unfold pS;rw[lA,c];exact aN);obtain⟨p,e⟩:=I.base.slot L o k (I.ok.frf L a) a λz=>I.ok.exfs L z a;exact⟨h,⟨L,_,c,j,e,hd⟩,n (λb hb=>d b (by unfold pS;rw[lA,c];exact aJ _ hb)) m⟩
 exact all X.outer (λ_ hb=>hb) I.ok.funs
theorem cU.stack(I:cU X f g H s):s.heap.FunFrames X.base X.stack:=by
 rcases I.ok.stk with e | ⟨e,a⟩
 ·rw[e];exact I.funs
 ·rw[e];obtain⟨m,b,_⟩:=I.loc;refine .cons (by rw[I.ok.kind];decide) a b ?_ I.funs;exact mN (bL I.ok.bsz I.ok.above)
def cU.stkSub(I:cU X f g H s):∀b∈pS X.stack,b∈X.env.locals::X.fs:=λb hb=>by
 rcases I.ok.stk with e | ⟨e,a⟩
 ·rw[e]at hb;exact aJ _ hb
 ·rw[e]at hb;unfold pS at hb;rw[lA,a]at hb;exact hb
def cU.stkFree(I:cU X f g H s):∀b∈pS X.stack,H b=none:=λb hb=>by
 rcases aK.mp (I.stkSub b hb)with e | hb
 ·rw[e];exact I.free
 ·obtain⟨_,o,a,_⟩:=I.ok.funs.mem hb;exact I.base.free b o a (I.ok.frf b hb) λz=>I.ok.exfs b z hb
def cU.step{g':Array GenState}{t':Nat}{d':Drawn}{ch:List Addr}(I:cU X f g H s)
  (j:∀b∈ch,(b∈X.ex\/X.s₀.heap.objs.size<=b)/\b≠X.env.locals/\(∀x c,X.env.cells.lookup x=some c->c≠b)/\∀p∈X.pn++f,p.1≠b)
  (keep:∀b o,b≠X.env.locals->b∉X.fs->b∉ch->s.heap.get? b=some o->H b=none->h'.get? b=some o)
  (slot:∀b o,b≠X.env.locals->b∈X.fs->b∉ch->s.heap.get? b=some o->H b=none->∃K,h'.get? b=some { o with slots:=K }) (free:∀b o,b∉ch->s.heap.get? b=some o->H b=none->H' b=none)
  (there:∀b o,b∉ch->s.heap.get? b=some o->∃G,h'.get? b=some G)
  (tups:∀b B,H b=some (.tup B)->H' b=some (.tup B)) (frzs:∀b o u,H b=some (.frz o u)->H' b=some (.frz o u)) (tbls:∀b J,H b=some (.tbl J)->∃more,H' b=some (.tbl (J++more)))
  (ns:∀m,s.heap.Ns X.env.locals m->h'.Ns X.env.locals m) (hok:pV X.prog X.w H' h') (Q:v9 g') :
  cU X f g H' { s with heap:=h',gens:=g',drawn:=d',toks:=t' }:=by
 have F:∀b o,X.s₀.heap.get? b=some o->b≠X.env.locals:=λb o e=>cL (bT (aY e) I.ok.above)
 have A:∀b o,X.s₀.heap.get? b=some o->b∉X.ex->b∉ch:=λb o e a hb=>by
  rcases(j b hb).1 with z | z
  ·exact a z
  ·exact c7 (bT (aY e) z) (eO _)
 have h:∀x c,X.env.cells.lookup x=some c->∀v,s.heap.IsCell c v->h'.IsCell c v:=λx c e v ⟨o,C,hd⟩=>by
  have t:c∉ch:=λz=>(j c z).2.2.1 x c e Db;by_cases M:c∈X.fs
  ·obtain⟨K,q⟩:=slot c o (I.cne x c e) M t C (I.freeC x c e);exact⟨_,q,hd⟩
  ·exact⟨o,keep c o (I.cne x c e) M t C (I.freeC x c e),hd⟩
 refine⟨I.ok,I.os,Q,⟨λb o e n hb a=>?_,λb o e n hb a=>?_,λb o e n a=>?_,λb o e a=>?_,λb B e=>tups b B (I.base.tups b B e),λb o B e=>frzs b o B (I.base.frzs b o B e),λb J e=>?_⟩,?_,λx c e=>?_,?_,λx c e=>?_,λp N=>?_,hok,I.len⟩
 ·exact keep b o (F b o e) hb (A b o e a) (I.base.keep b o e n hb a) (I.base.free b o e n a)
 ·obtain⟨K,y⟩:=I.base.slot b o e n hb a;obtain⟨L,E⟩:=slot b _ (F b o e) hb (A b o e a) y (I.base.free b o e n a);exact⟨L,E⟩
 ·obtain⟨G,y⟩:=I.base.there b o e a;exact free b G (A b o e a) y (I.base.free b o e n a)
 ·obtain⟨G,y⟩:=I.base.there b o e a;exact there b G (A b o e a) y
 ·obtain⟨m1,y⟩:=I.base.tbls b J e;obtain⟨T,E⟩:=tbls b _ y;exact⟨m1++T,by rw[E,TM]⟩
 ·obtain⟨m,S,R⟩:=I.loc;refine⟨m,ns m S,λi x v y E P=>?_⟩;obtain⟨u,r,l⟩:=R i x v y E P;refine⟨u,r,?_⟩;rcases l with l | ⟨k,c,e,z⟩
  ·exact .inl l
  ·exact .inr ⟨k,c,e,h x c e _ z⟩
 ·obtain⟨v,z⟩:=I.cell x c e;exact⟨v,h x c e v z⟩
 ·obtain⟨m,⟨o,_,_,C,_⟩,_⟩:=I.loc;exact free _ o (λz=>(j _ z).2.1 Db) C I.free
 ·obtain⟨v,o,C,hd⟩:=I.cell x c e;exact free c o (λz=>(j c z).2.2.1 x c e Db) C (I.freeC x c e)
 ·obtain⟨e,n,ne,O,d⟩:=I.pin p N;have t:p.1∉ch:=λz=>(j p.1 z).2.2.2 p N Db;exact⟨keep p.1 p.2 ne O t e n,free p.1 p.2 t e n,ne,O,d⟩
def cU.un{t':Nat}(I:cU X f g H s)(u:Un X.fs [] H H' s.heap h')(hok:pV X.prog X.w H' h'):cU X f g H' { s with heap:=h',toks:=t' }:=by
 obtain⟨m,⟨o,p,l,h,r⟩,_⟩:=id I.loc;obtain⟨v,i⟩:=u.any h I.free Cy
 exact I.step (g':=s.gens) (d':=s.drawn) (ch:=[]) (λ_ z=>nomatch z) (λb o _ hb _ e n=>u.keep b o e n hb Cy) (λb o _ hb _ e n=>u.slot b o e n hb Cy) (λb o _ e n=>u.free b o e n Cy) (λb o _ e=>u.there b o e Cy) u.tups u.frzs u.tbls (λq j=>by
  obtain⟨t,d,c,a,k⟩:=j;rw[h]at a;cases a;exact⟨_,d,c,i,k⟩) hok I.bare
def cU.call{g':Array GenState}{t':Nat}{d':Drawn}{ch:List Addr}(I:cU X f g H s)(u:Un (pS X.stack) ch H H' s.heap h')(hok:pV X.prog X.w H' h')(q:v9 g')
  (d:∀b∈ch,(b∈X.ex\/X.s₀.heap.objs.size<=b)/\b≠X.env.locals/\(∀x c,X.env.cells.lookup x=some c->c≠b)/\∀p∈X.pn++f,p.1≠b) :
  cU X f g H' { s with heap:=h',gens:=g',drawn:=d',toks:=t' }:=by
 obtain⟨m,⟨o,A,y,l,r⟩,_⟩:=id I.loc;obtain⟨E,k⟩:=u.any l I.free λz=>(d _ z).2.1 Db
 exact I.step (ch:=ch) d (λb o k hb a e n=>u.keep b o e n (λz=>(aK.mp (I.stkSub b z)).elim k hb) a) (λb o _ _ a e n=>u.any e n a) (λb o a e n=>u.free b o e n a) (λb o a e=>u.there b o e a) u.tups u.frzs u.tbls (λB t=>by
  obtain⟨C,j,i,h,v⟩:=t;rw[l]at h;cases h;exact⟨_,j,i,k,v⟩) hok q
def cU.turned{t':Nat}{a:Addr}(I:cU X f g H s)(k:∀b o,b≠a->s.heap.get? b=some o->h'.get? b=some o)(B:H a=none)(i:a≠X.env.locals)
  (t:a∈X.ex\/X.s₀.heap.objs.size<=a) (w:∀x c,X.env.cells.lookup x=some c->c≠a) (y:∀p∈X.pn++f,p.1≠a):cU X f g H { s with heap:=h',toks:=t' }:=by
 have h:∀b u,H b=some u->b≠a:=λb u e z=>by rw[z,B]at e;cases e
 refine I.step (g':=s.gens) (d':=s.drawn) (ch:=[a]) (λb hb=>?_) (λb o _ _ d e _=>k b o (λz=>d (by simp[z])) e) (λb o _ _ d e _=>⟨o.slots,k b o (λz=>d (by simp[z])) e⟩) (λ_ _ _ _ n=>n)
  (λb o d e=>⟨o,k b o (λz=>d (by simp[z])) e⟩) (λ_ _ e=>e) (λ_ _ _ e=>e) (λb E e=>⟨#[],by rw[e];simp⟩) (λm A=>?_) (λb u e=>?_) I.bare
 ·have e:b=a:=by simpa using hb
  subst e;exact⟨t,i,w,y⟩
 ·obtain⟨o,l,j,C,r⟩:=A;exact⟨o,l,j,k _ o (i6 i) C,r⟩
 ·refine(I.hok b u e).stay (λc v d q=>k c v ?_ q) (λ_ q=>q) λ_ _ q=>q;rcases d with z | z
  ·rw[z];exact h b u e
  ·exact h c _ z
def cU.tok(I:cU X f g H s)(t:Nat):cU X f g H { s with toks:=t }:=I.un (h':=s.heap) (t':=t) Un.refl I.hok
theorem cU.kept{t':Nat}(I:cU X f g H s)(k:∀b u,s.heap.get? b=some u->h'.get? b=some u):cU X f g H { s with heap:=h',toks:=t' }:=I.un (Un.kept k) (I.hok.kept k)
theorem cU.laid{a:Addr}{t':Nat}(I:cU X f g H s)(k:∀b u,s.heap.get? b=some u->h'.get? b=some u)(c:s.heap.objs.size<=a)(new:iR X.prog X.w (eM H a o) h' a o) :
  cU X f g (eM H a o) { s with heap:=h',toks:=t' }:=I.un (Un.laid k c (I.hok.fresh c)) (I.hok.laid k c new)
theorem cU.write{x e:Addr}{h:Nat}(I:cU X f g H s)(d:Et (H x))(c:e=x\/H e=some (.own x))(k:∀b u,b≠e->s.heap.get? b=some u->h'.get? b=some u)(a:∃u,h'.get? e=some u)
  (new:iR X.prog X.w (eM H x o) h' x o):cU X f g (eM H x o) { s with heap:=h',toks:=h }:=I.un (Un.write d c k a) (I.hok.write d c k a new)
def cU.pins_of(I:cU X f g H s)(h:∀p∈pins',s.heap.get? p.1=some p.2/\H p.1=none/\p.1≠X.env.locals/\p.1∉X.fs/\∀v,p.2.data≠.cell v):cU X pins' g H s:=
 ⟨I.ok,I.os,I.bare,I.base,I.loc,I.cell,I.free,I.freeC,λp a=>(cC.mp a).elim (λz=>I.pin p (iY _ z)) (h p),I.hok,I.len⟩
def DX{N:List Str}(e:N.Nodup){i j:Nat}{x}(a:N[i]?=some x)(b:N[j]?=some x):i=j:=by
 obtain⟨h,c⟩:=aI.mp a;obtain⟨k,d⟩:=aI.mp b;exact(ZM e).mp (c.trans d.symm)
def F8{E:Value->Shared->Prop}{i:Nat}{x}{Q:Unit->Shared->Prop}(I:cU X f g H s)(hN:X.N.Nodup)(S:X.N[i]?=some x)(C:TY X.env.scope x)(r:eZ v u)
  (h:∀s',cU X f (g.set i (some v)) H s'->(∃a,fF a s.heap s'.heap/\(a=X.env.locals\/X.env.cells.lookup x=some a))->Q () s') (hf:X.fn x=true\/X.env.scope.names.lookup x=some .local:=by first | exact .inl Db | exact .inr Db | assumption):wpAny M A (storeName X.env x u) Q E s:=by
 obtain⟨m,hn,hl⟩:=id I.loc;have R:(X.env.scope.kind==.class||(X.env.scope.kind==.module&&X.env.locals != X.env.globals))=false:=by rw[I.ok.kind];rfl
 have J:i<g.length:=by rw[I.len];exact(aI.mp S).1
 have cne:=I.cne
 have B:∀{a:Addr}{h':Heap},(∃o,s.heap.get? a=some o/\H a=none)->fF a s.heap h'->pV X.prog X.w H h':=λ{a h'} ha l b ob e=>by
  obtain⟨_,_,F⟩:=ha;refine(I.hok b ob e).stay (λc Y hc q=>(l.2 c ?_).trans q) (λ_ q=>q) λ_ _ q=>q;rintro rfl;rcases hc with rfl | hc
  ·rw[F]at e;cases e
  ·rw[F]at hc;cases hc
 rcases C with hk | hk
 ·refine wpAny_storeName_local hk hn (λh' rA l=>?_) R;obtain⟨oL,_,_,tA,_⟩:=id hn;refine h _ ⟨I.ok,I.os,I.bare,⟨λb o e n hb C=>?_,λb o e n hb C=>?_,I.base.free,λb o e C=>?_,I.base.tups,I.base.frzs,I.base.tbls⟩,⟨_,rA,λj y v' t G Z=>?_⟩,λy c e=>?_,I.free,I.freeC,λp hp=>?_,B ⟨oL,tA,I.free⟩ l,by simpa using I.len⟩ ⟨_,l,.inl Db⟩
  ·exact(l.2 b (cL (bT (aY e) I.ok.above))).trans (I.base.keep b o e n hb C)
  ·obtain⟨sl,t⟩:=I.base.slot b o e n hb C;exact⟨sl,(l.2 b (cL (bT (aY e) I.ok.above))).trans t⟩
  ·obtain⟨o',t⟩:=I.base.there b o e C;exact⟨o',(l.2 b (cL (bT (aY e) I.ok.above))).trans t⟩
  ·by_cases L:j=i
   ·subst L;rw[S]at t;cases t;rw[bF J]at G;cases G;exact⟨u,r,.inl ⟨hk,Cy⟩⟩
   ·rw[bC (i6 L)]at G;obtain⟨u',r',q⟩:=hl j y v' t G Z;refine⟨u',r',?_⟩;rcases q with⟨k,e⟩ | ⟨k,c,e,z⟩
    ·refine .inl ⟨k,?_⟩;have:y≠x:=λe=>L (DX hN t (e▸S));simp[this,e]
    ·exact .inr ⟨k,c,e,z.sameBut l (cne y c e)⟩
  ·obtain⟨Y,z⟩:=I.cell y c e;exact⟨Y,z.sameBut l (cne y c e)⟩
  ·obtain⟨e,n,ne,nf,d⟩:=I.pin p hp;exact⟨(l.2 p.1 ne).trans e,n,ne,nf,d⟩
 ·have K:X.fn x=true:=by
   rcases hf with z | z
   ·exact z
   ·rw[z]at hk;cases hk
  obtain⟨c,hc⟩:=I.ok.has x (.inl hk);obtain⟨Y,z⟩:=I.cell x c hc;refine wpAny_storeName_cell I.ok.kind hk hc z (λh' O l=>?_);obtain⟨oc,T,U⟩:=id z;refine h { s with heap:=h' } ⟨I.ok,I.os,I.bare,⟨λb o e n hb C=>?_,λb o e n hb C=>?_,I.base.free,λb o e C=>?_,I.base.tups,I.base.frzs,I.base.tbls⟩,⟨m,hn.sameBut l (i6 (cne x c hc)),λj y v' t G Z=>?_⟩,λy W e=>?_,I.free,I.freeC,λp hp=>?_,B ⟨oc,T,I.freeC x c hc⟩ l,by simpa using I.len⟩ ⟨c,l,.inr hc⟩
  ·exact(l.2 b (cL (bT (aY e) (I.ok.cab x c K hc)))).trans (I.base.keep b o e n hb C)
  ·obtain⟨sl,t⟩:=I.base.slot b o e n hb C;exact⟨sl,(l.2 b (cL (bT (aY e) (I.ok.cab x c K hc)))).trans t⟩
  ·obtain⟨o',t⟩:=I.base.there b o e C;exact⟨o',(l.2 b (cL (bT (aY e) (I.ok.cab x c K hc)))).trans t⟩
  ·by_cases L:j=i
   ·subst L;rw[S]at t;cases t;rw[bF J]at G;cases G;exact⟨u,r,.inr ⟨.inl hk,c,hc,O⟩⟩
   ·rw[bC (i6 L)]at G;obtain⟨u',r',q⟩:=hl j y v' t G Z;refine⟨u',r',?_⟩;rcases q with q | ⟨k,W,e,z'⟩
    ·exact .inl q
    ·refine .inr ⟨k,W,e,z'.sameBut l ?_⟩;rintro rfl;exact L (DX hN t (I.ok.inj _ _ _ e hc▸S))
  ·by_cases P:W=c
   ·subst P;exact⟨_,O⟩
   ·obtain⟨w2,z2⟩:=I.cell y W e;exact⟨w2,z2.sameBut l P⟩
  ·obtain⟨e,n,ne,nf,d⟩:=I.pin p hp;refine⟨(l.2 p.1 ?_).trans e,n,ne,nf,d⟩;intro q;rw[q,T]at e;have q':oc=p.2:=c8 e;exact d Y (by rw[<- q'];exact U)
def yZ{E:Value->Shared->Prop}{i:Nat}{x}{Q:Unit->Shared->Prop}(I:cU X f g H s)(c:X.N.Nodup)(e:X.N[i]?=some x)(j:TY X.env.scope x)(r:eZ v u)
  (h:∀a,cU X f (g.set i (some v)) H a->Q () a) (d:X.fn x=true\/X.env.scope.names.lookup x=some .local:=by first | exact .inl Db | exact .inr Db | assumption):wpAny M A (storeName X.env x u) Q E s:=
 F8 I c e j r (λa b _=>h a b) d
def cU.call'{s':Shared}(I:cU X f g H s)(h:s'.os=s.os)(u:Un (pS X.stack) ch H H' s.heap s'.heap)(hok:pV X.prog X.w H' s'.heap)(d:v9 s'.gens)
  (a:∀b∈ch,(b∈X.ex\/X.s₀.heap.objs.size<=b)/\b≠X.env.locals/\(∀x c,X.env.cells.lookup x=some c->c≠b)/\∀p∈X.pn++f,p.1≠b):cU X f g H' s':=by
 obtain⟨h',g',d',t',i⟩:=s';have e:i=s.os:=h;subst e;exact I.call (g':=g') (t':=t') (d':=d') u hok d a
end
abbrev XK:=Value->Option Addr->Hp->Prop
abbrev St:=List (Option V)
abbrev VK:=V->Hp->Prop
abbrev TE:=St->Hp->VK->Prop
abbrev TT:=St->Hp->(Bool->Hp->Prop)->Prop
abbrev TA:=St->Hp->(List V->Hp->Prop)->Prop
structure BB where
 nx:St->Hp->Prop
 rt:VK
 bk:St->Hp->Prop:=λ_ _=>False
 ct:St->Hp->Prop:=λ_ _=>False
abbrev TS:=BB->St->Hp->Prop
def EP(X:Cx)(a:List (Addr×Obj))(d:St)(Q:VK)(u:Value)(c:Shared):Prop:=∃v b,cU X a d b c/\eZ v u/\Q v b
def TP(X:Cx)(a:List (Addr×Obj))(e:St)(Q:Bool->Hp->Prop)(b:Bool)(d:Shared):Prop:=∃c,cU X a e c d/\Q b c
def AP(X:Cx)(a:List (Addr×Obj))(e:St)(Q:List V->Hp->Prop)(d:List Value)(c:Shared):Prop:=∃vs b,cU X a e b c/\eW vs d/\Q vs b
def SP(X:Cx)(b:List (Addr×Obj))(D:BB)(f:Flow)(d:Shared):Prop:=
 match f with
 |.next=>∃a c,cU X b a c d/\D.nx a c
 |.brk=>∃a c,cU X b a c d/\D.bk a c
 |.cont=>∃a c,cU X b a c d/\D.ct a c
 |.ret u=>∃v a c,cU X b a c d/\eZ v u/\D.rt v c
def PE(X:Cx)(e:Expr)(t:TE):Prop:=
 ∀a s b H Q,cU X a b H s->t b H Q->wpAny (model X.prog X.w) X.A (eval e X.env) (EP X a b Q) X.xe s
def PT(X:Cx)(e:Expr)(t:TT):Prop:=
 ∀pins s σ H(Q:Bool->Hp->Prop),cU X pins σ H s->t σ H Q->wpAny (model X.prog X.w) X.A (isTrue e X.env (eval e X.env)) (TP X pins σ Q) X.xe s
def PW(X:Cx)(e:Expr)(t:TT):Prop:=
 ∀(a:Sem Value)pins s σ H(Q:Bool->Hp->Prop),cU X pins σ H s->t σ H Q->wpAny (model X.prog X.w) X.A (isTrue e X.env a) (TP X pins σ Q) X.xe s
def PW.pt(h:PW X e t):PT X e t:=h _
def PA(X:Cx)(a:List Expr)(t:TA):Prop:=
 ∀(pos:Pos)pins s σ H(Q:List V->Hp->Prop),cU X pins σ H s->t σ H Q->wpAny (model X.prog X.w) X.A (kq (i9 pos (bI a X.env))) (AP X pins σ Q) X.xe s
def PS(X:Cx)(st:Stmt)(t:TS):Prop:=
 ∀pins s σ H(D:BB),cU X pins σ H s->t D σ H->wpAny (model X.prog X.w) X.A (exec st X.env) (SP X pins D) X.xe s
def A9(X:Cx)(st:List Stmt)(t:TS):Prop:=
 ∀pins s σ H(D:BB),cU X pins σ H s->t D σ H->wpAny (model X.prog X.w) X.A (execs st X.env) (SP X pins D) X.xe s
def jG{d:Type}{t}{Q b:d->Shared->Prop}{M A}{E:Value->Shared->Prop}{s}(h:wpAny M A t Q E s)(c:∀a s,Q a s->b a s):wpAny M A t b E s:=dN h c λ_ _ x=>x
section
variable{X:Cx}
def nZ(i:Nat):TE:=λa H Q=>∃v,a[i]?=some (some v)/\Q v H
def tC(v:V):TE:=λ_ H Q=>Q v H
def WB{i:Nat}{x:Str}(g:X.N[i]?=some x)(o:Fq X.env.scope x)(hd:(x==("__debug__":Str))=false:=by decide)(d:(x==("__classdict__":Str))=false:=by decide):PE X (.Name x pos) (nZ i):=by
 intro b s p H Q I h;obtain⟨v,e,h⟩:=h;obtain⟨m,n,j⟩:=I.loc;obtain⟨u,r,l⟩:=j i x v g e o;have fin:EP X b p Q u s:=⟨v,H,I,r,h⟩;rcases l with⟨hk,k⟩ | ⟨hk,c,f,a⟩
 ·exact sw (wpAny_loadName_local I.ok.kind hk n k fin) hd
 ·rcases hk with hk | hk
  ·exact sw (wpAny_loadName_cell I.ok.kind hk f a fin) hd
  ·exact sw (wpAny_loadName_free I.ok.kind hk f a fin d) hd
def mZ:PE X (.Constant (.int i) j pos) (tC (.int i)):=λ_ _ _ H _ I h=>wpAny_Constant_int ⟨.int i,H,I.tok _,⟨_,Db⟩,h⟩
def Rt:PE X (.Constant (.bool b) j pos) (tC (.bl b)):=λ_ _ _ H _ I h=>Constant_bool ⟨.bl b,H,I,Db,h⟩
def Xu:PE X (.Constant .none j pos) (tC .non):=λ_ _ _ H _ I h=>Constant_none ⟨.non,H,I,Db,h⟩
def fD{x}:PE X (.Constant (.str x) j pos) (tC (.str x)):=λ_ _ _ H _ I h=>Calls.Constant_str ⟨.str x,H,I.tok _,⟨_,Db⟩,h⟩
def Gl(X:Cx)(x:Str):Prop:=X.env.kindOf x=some .globalImplicit
def tL{E:Value->Shared->Prop}{x:Str}{Q:Value->Shared->Prop}(I:cU X pins σ H s)(a:Gl X x)(b:X.mg x=some u)(h:Q u s)
  (hd:(x==("__debug__":Str))=false:=by decide):wpAny (model X.prog X.w) X.A (eval (.Name x pos) X.env) Q E s:=
 cj I.ok.kind a (Calls.loadGlobal_global (by rw[I.ok.glob];exact I.mod.glob.keeps I.bk) b h) hd
def uZ{E:Value->Shared->Prop}{x:Str}{Q:Value->Shared->Prop}(I:cU X pins σ H s)(c:Gl X x)(d:X.mg x=none)(f:e4 x=some u)(h:Q u s)
  (e:x≠"__name__":=by decide) (hd:(x==("__debug__":Str))=false:=by decide):wpAny (model X.prog X.w) X.A (eval (.Name x pos) X.env) Q E s:=by
 obtain⟨g,a,b⟩:=I.mod.blt;exact cj I.ok.kind c (Calls.loadGlobal_builtin (by rw[I.ok.glob];exact I.mod.glob.keeps I.bk) d (by rw[I.ok.blt];exact a.keeps I.bk) ((b x e).trans f) h) hd
def lX{x:Str}(a:Gl X x)(b:X.mg x=some u)(r:eZ v u)(hd:(x==("__debug__":Str))=false:=by decide):PE X (.Name x pos) (tC v):=
 λ_ _ _ H _ I h=>tL I a b ⟨v,H,I,r,h⟩ hd
def nI{x:Str}(a:Gl X x)(b:X.mg x=none)(d:e4 x=some u)(r:eZ v u)(c:x≠"__name__":=by decide)(hd:(x==("__debug__":Str))=false:=by decide):PE X (.Name x pos) (tC v):=
 λ_ _ _ H _ I h=>uZ I a b d ⟨v,H,I,r,h⟩ c hd
variable{a b:Expr}{k n:TE}{pos:Pos}
def PC(X:Cx)(g:CmpOp)(a b:Expr)(t:TE):Prop:=
 ∀c s f H Q,cU X c f H s->t f H Q ->
  wpAny (model X.prog X.w) X.A (eval a X.env) (λv d=>wpAny (model X.prog X.w) X.A (eval b X.env) (λu e=>wpAny (model X.prog X.w) X.A (f8 g v u) (EP X c f Q) X.xe e) X.xe d) X.xe s
def WW(b:Expr)(h:op≠.In)(e:op≠.NotIn):h8 op b=false:=by
 have c:(op==CmpOp.In)=false:=by cases op<;>first | rfl | exact c7 Db h
 have d:(op==CmpOp.NotIn)=false:=by cases op<;>first | rfl | exact c7 Db e
 cases b<;>simp[h8,c,d]
def tB(t:TE):TT:=λe H Q=>t e H λx d=>∃c,x=.bl c/\Q c d
def V2(h:PC X op a b t)(f:h8 op b=false:=by first | exact WW _ Cv Cv | rfl):PT X (.Compare a [op] [b] pos) (tB t):=by
 intro e s p H Q I hw;refine lh (jG (h e s p H _ I hw) λv r f=>jG f λu w j=>jG j λc s3 o=>?_) f;obtain⟨x,g,i,m,l⟩:=o;obtain⟨d,rfl,q⟩:=l;cases m;exact k6 ⟨g,i,q⟩
def uT{e:Expr}(h:PE X e t)(j:∀c,isTrue e X.env c=(do let v <- c;cu e.pos;al [v] (truthy v)):=by intro _;rfl):PT X e (tB t):=by
 intro f s p H Q I hw;refine isTrue_plain (jG (h f s p H _ I hw) λv r o=>?_) (j _);obtain⟨x,g,i,m,l⟩:=o;obtain⟨d,rfl,q⟩:=l;cases m;exact k6 ⟨g,i,q⟩
variable{f g:TT}{jK:List Expr}
def Ow(t u:TT):TT:=λe H Q=>t e H λc d=>if c=true then u e d Q else Q false d
def Mw(t u:TT):TT:=λe H Q=>t e H λc d=>if c=true then Q true d else u e d Q
def Oz(t:TT):TT:=λe H Q=>t e H λc d=>Q (!c) d
def aA3(i:PT X a f):PW X (.BoolOp .And [a] pos) f:=by
 intro m d s j H Q I h;refine isTrue_and (jG (i d s j H Q I h) λc l e=>?_)
 cases c with
 |true=>exact isTrue_and_nil e
 |false=>exact e
def VZ(i:PT X a f):PW X (.BoolOp .Or [a] pos) f:=by
 intro m d s j H Q I h;refine isTrue_or (jG (i d s j H Q I h) λc l e=>?_)
 cases c with
 |false=>exact isTrue_or_nil e
 |true=>exact e
def Xx(m:PT X a f)(hb:PW X (.BoolOp .And (b::jK) pos) g):PW X (.BoolOp .And (a::b::jK) pos) (Ow f g):=by
 intro p d s l H Q I h;refine isTrue_and (jG (m d s l H _ I h) λc o q=>?_);obtain⟨e,i,j⟩:=q
 cases c with
 |true=>exact hb p d o l e Q i j
 |false=>exact⟨e,i,j⟩
def Mi(m:PT X a f)(hb:PW X (.BoolOp .Or (b::jK) pos) g):PW X (.BoolOp .Or (a::b::jK) pos) (Mw f g):=by
 intro p d s l H Q I h;refine isTrue_or (jG (m d s l H _ I h) λc o q=>?_);obtain⟨e,i,j⟩:=q
 cases c with
 |true=>exact⟨e,i,j⟩
 |false=>exact hb p d o l e Q i j
def V1(i:PT X a f):PT X (.UnaryOp .Not a pos) (Oz f):=by
 intro d s j H Q I h;exact isTrue_not (i d s j H (λc e=>Q (!c) e) I h)
def Vm(k n:TE):TE:=λe H Q=>k e H λx d=>∃c,x=.bl c/\if c=true then n e d Q else Q (.bl false) d
def WE(h:PE X a t):PE X (.BoolOp op [a] pos) t:=λc s d H Q I hw=>BoolOp_one (h c s d H Q I hw)
def WI(m:PE X a k)(hb:PE X (.BoolOp .And (b::jK) pos) n):PE X (.BoolOp .And (a::b::jK) pos) (Vm k n):=by
 intro d s l H Q I h;refine BoolOp_and (jG (m d s l H _ I h) λv p q=>?_);obtain⟨x,i,j,o,e⟩:=q;obtain⟨c,rfl,e⟩:=e;cases o;refine k6 ?_
 cases c with
 |true=>exact hb d p l i Q j e
 |false=>exact⟨.bl false,i,j,Db,e⟩
def Mx(t:TT)(k n:TE):TE:=λd H Q=>t d H λc e=>if c=true then k d e Q else n d e Q
def KJ(q:PT X c f)(p:PE X a k)(hb:PE X b n):PE X (.IfExp c a b pos) (Mx f k n):=by
 intro e s i H Q I h;refine wpAny_IfExp (jG (q e s i H _ I h) λd o r=>?_);obtain⟨j,l,m⟩:=r
 cases d with
 |true=>exact p e o i j Q l m
 |false=>exact hb e o i j Q l m
end
def mL(K:aF)(H:Hp)(a:Addr)(c:List V):Prop:=
 Rd H a (.lst c) \/
  ∃(o:Obj)(b:Array Value)(n:Nat),K.lookup a=some o/\o.cls=.type "list"/\o.dict=none/\o.data=.seq b n/\b.size<=bG/\eW c b.toList
def pY(K:aF)(H:Hp)(a:Addr)(c:List V):Prop:=
 Rd H a (.tup c) \/
  ∃(o:Obj)(b:Array Value)(n:Nat),K.lookup a=some o/\o.cls=.type "tuple"/\o.dict=none/\o.data=.seq b n/\b.size<=bG/\eW c b.toList
noncomputable def Nr:Value->Option V
|.none=>some .non
|.bool b=>some (.bl b)
|.int i _=>some (.int i)
|.str x _=>some (.str x)
|.bytes b _=>some (.byt b)
|.float b _=>some (.flt b)
|.ref a=>some (.ref a)
|.type n=>some (.ty n)
|_=>none
def eZ.abs{x}(r:eZ x u):Nr u=some x:=by
 cases x with
 |non=>cases r;rfl
 |bl _=>cases r;rfl
 |int _=>obtain⟨t,rfl⟩:=r;rfl
 |str _=>obtain⟨t,rfl⟩:=r;rfl
 |byt _=>obtain⟨t,rfl⟩:=r;rfl
 |flt _=>obtain⟨t,rfl⟩:=r;rfl
 |ref _=>cases r;rfl
 |ty _=>cases r;rfl
theorem eZ.inj{x}(r:eZ x u)(q:eZ y u):x=y:=c8 (r.abs.symm.trans q.abs)
theorem eW.inj:∀{xs ys us},eW xs us->eW ys us->xs=ys
|_,_,_,.nil,.nil=>rfl
|_,_,_,.cons r t,.cons r' t'=>by rw[r.inj r',eW.inj t t']
section
variable{X:Cx}{b:List (Addr×Obj)}{g:St}{H:Hp}{s:Shared}{a:Addr}{f i:List V}
def mL.of{K}(h:H a=some (.lst f)):mL K H a f:=.inl (.inl h)
def pY.of{K}(h:H a=some (.tup f)):pY K H a f:=.inl (.inl h)
def cU.list(I:cU X b g H s)(h:mL X.K H a f):∃c:List Value,eW f c/\PlainL s.heap a c.toArray/\f.length<=bG:=by
 rcases h with h | ⟨o,c,n,j,d,hd,k,l,r⟩
 ·obtain⟨z,c,n,r,e⟩:=h.ok I.hok;exact⟨c,r,⟨_,n,e,Db,Db,Db⟩,z⟩
 ·refine⟨c.toList,r,⟨o,n,I.kIn a o j,d,hd,by simpa using k⟩,?_⟩;have e:=r.length;simp only[fB]at e;lia
def cU.tuple(I:cU X b g H s)(h:pY X.K H a f):∃c:List Value,eW f c/\sy s.heap a c.toArray/\f.length<=bG:=by
 rcases h with h | ⟨o,c,n,j,d,_,k,l,r⟩
 ·obtain⟨z,c,r,p⟩:=h.ok I.hok;exact⟨c,r,p.tup,z⟩
 ·refine⟨c.toList,r,⟨o,I.kIn a o j,d,n,by simpa using k⟩,?_⟩;have e:=r.length;simp only[fB]at e;lia
def cU.tupleN(I:cU X b g H s)(h:pY X.K H a f):∃o,s.heap.get? a=some o/\o.cls=.type "tuple"/\o.dict=none:=by
 rcases h with h | ⟨o,j,n,l,k,hd,_⟩
 ·obtain⟨z,j,r,⟨o,e,c,n,_,d⟩⟩:=h.ok I.hok;exact⟨o,e,c,d⟩
 ·exact⟨o,I.kIn a o l,k,hd⟩
def cU.list_inj(I:cU X b g H s)(h:mL X.K H a f)(p:mL X.K H a i):f=i:=by
 obtain⟨j,r,⟨o,n,e,_,_,d⟩,_⟩:=I.list h;obtain⟨c,q,⟨u,t,l,_,_,k⟩,_⟩:=I.list p;rw[e]at l;cases l;rw[d]at k;injection k with m _
 have:j=c:=by simpa using h9 aIw m
 subst this;exact r.inj q
def cU.tuple_inj(I:cU X b g H s)(h:pY X.K H a f)(p:pY X.K H a i):f=i:=by
 obtain⟨j,r,⟨o,e,_,n,d⟩,_⟩:=I.tuple h;obtain⟨c,q,⟨u,l,_,t,k⟩,_⟩:=I.tuple p;rw[e]at l;cases l;rw[d]at k;injection k with m _
 have:j=c:=by simpa using h9 aIw m
 subst this;exact r.inj q
end
noncomputable abbrev Cx.wish(X:Cx)(E:Value->Shared->Prop):Cx:={ X with xe:=E }
noncomputable abbrev Cx.nox(X:Cx):Cx:=X.wish λ_ _=>False
theorem Cx.Ok.wish{X:Cx}(ok:X.Ok)(E:Value->Shared->Prop):(X.wish E).Ok:=
 ⟨ok.mod,ok.kind,ok.glob,ok.blt,ok.above,ok.inj,ok.has,ok.cab,ok.hd,ok.frames,ok.stk,ok.exf,ok.bs,ok.bsz,ok.noex,ok.exfs,ok.funs,ok.frf,ok.tab⟩
def Cx.Ok.unwish{X:Cx}{E:Value->Shared->Prop}(ok:(X.wish E).Ok):X.Ok:=
 ⟨ok.mod,ok.kind,ok.glob,ok.blt,ok.above,ok.inj,ok.has,ok.cab,ok.hd,ok.frames,ok.stk,ok.exf,ok.bs,ok.bsz,ok.noex,ok.exfs,ok.funs,ok.frf,ok.tab⟩
section
variable{X:Cx}{a:List (Addr×Obj)}{b:St}{H:Hp}{s:Shared}{E:Value->Shared->Prop}
theorem cU.wish(I:cU X a b H s)(E:Value->Shared->Prop):cU (X.wish E) a b H s:=⟨I.ok.wish E,I.os,I.bare,I.base,I.loc,I.cell,I.free,I.freeC,I.pin,I.hok,I.len⟩
theorem cU.unwish(I:cU (X.wish E) a b H s):cU X a b H s:=⟨I.ok.unwish,I.os,I.bare,I.base,I.loc,I.cell,I.free,I.freeC,I.pin,I.hok,I.len⟩
theorem SP.unwish{D}(h:SP (X.wish E) a D f s'):SP X a D f s':=by
 cases f with
 |next=>obtain⟨c,d,I,q⟩:=h;exact⟨c,d,I.unwish,q⟩
 |brk=>obtain⟨c,d,I,q⟩:=h;exact⟨c,d,I.unwish,q⟩
 |cont=>obtain⟨c,d,I,q⟩:=h;exact⟨c,d,I.unwish,q⟩
 |ret u=>obtain⟨v,c,d,I,r,q⟩:=h;exact⟨v,c,d,I.unwish,r,q⟩
theorem A9.nox{st}(h:A9 X.nox st t):A9 X st t:=λa s b H D I hw=>
 dN (h a s b H D (I.wish _) hw) (λ_ _ q=>q.unwish) λ_ _ z=>g7 z
end
section
variable{X:Cx}{st:Stmt}{jK:List Stmt}{t u:TS}{e:Expr}{g:TE}{pos:Pos}
def Vn:TS:=λD a H=>D.nx a H
def Q2(t u:TS):TS:=λD a H=>t { D with nx:=u D } a H
def O5:A9 X [] Vn:=λ_ _ a H _ I h=>v0 ⟨a,H,I,h⟩
def kQ(i:PS X st t)(j:A9 X jK u):A9 X (st::jK) (Q2 t u):=by
 intro a s l H D I h;refine n9 (jG (i a s l H { D with nx:=u D } I h) λf k q=>?_)
 cases f with
 |next=>
  obtain⟨b,c,d,q⟩:=q;exact j a k b c D d q
 |ret v=>exact q
 |brk=>exact q
 |cont=>exact q
def tF(b:PS X st t):A9 X [st] t:=by
 intro a s c H D I h;refine n9 (jG (b a s c H D I h) λf d q=>?_)
 cases f with
 |next=>exact v0 q
 |ret v=>exact q
 |brk=>exact q
 |cont=>exact q
def cU.quiet(I:cU X pins σ H s):interactive X.env=false:=by simp[interactive,I.ok.kind]
def yX(g:TE):TS:=λD a H=>g a H λ_ b=>D.nx a b
def hX(f:PE X e g)(i:lT e none pos.line X.env=pure false:=by rfl):PS X (.Expr e pos) (yX g):=by
 intro a s b H D I h;exact wpAny_Expr_any (jG (f a s b H _ I h) λv l ⟨x,c,d,k,j⟩=>⟨b,c,d,j⟩) I.quiet i
def OK(g:TE):TS:=λD a H=>g a H D.rt
def AQ(f:PE X e g):PS X (.Return (some e) pos) (OK g):=by
 intro a s b H D I h;exact wpAny_Return_some (jG (f a s b H _ I h) λv k ⟨x,c,d,j,i⟩=>⟨x,b,c,d,j,i⟩)
def Ox(c:TT)(t u:TS):TS:=λD a H=>c a H λb d=>if b=true then t D a d else u D a d
def V7(o:PT X c tc)(n:A9 X a t)(hb:A9 X b u):PS X (.If c a b pos) (Ox tc t u):=by
 intro f s i H D I h;refine wpAny_If (jG (o f s i H _ I h) λd m p=>?_);obtain⟨j,k,l⟩:=p
 cases d with
 |true=>exact n f m i j D k l
 |false=>exact hb f m i j D k l
end
abbrev TG:=V->St->Hp->(St->Hp->Prop)->Prop
abbrev Ep:=List V->St->Hp->(St->Hp->Prop)->Prop
def PG(X:Cx)(a:Expr)(t:TG):Prop:=
 ∀pins s σ H(v:V)(u:Value)(Q:St->Hp->Prop),cU X pins σ H s->eZ v u->t v σ H Q ->
  wpAny (model X.prog X.w) X.A (cf a X.env u) (λ_ d=>∃b c,cU X pins b c d/\Q b c) X.xe s
def Fx(X:Cx)(e:List Expr)(t:Ep):Prop:=
 ∀pins s σ H(vs:List V)(c:List Value)(Q:St->Hp->Prop),cU X pins σ H s->eW vs c->t vs σ H Q ->
  wpAny (model X.prog X.w) X.A (assignInOrder ((ag e X.env).map (·.2)) c) (λ_ d=>∃a b,cU X pins a b d/\Q a b) X.xe s
abbrev Io:=V->V->V->Hp->(Hp->Prop)->Prop
def Iz(X:Cx)(t:Io):Prop:=
 ∀pins s(d:St)H(o i v:V)(c b u:Value)(Q:Hp->Prop),cU X pins d H s->eZ o c->eZ i b->eZ v u->t o i v H Q ->
  wpAny (model X.prog X.w) X.A (setItem c b u) (λ_ e=>∃a,cU X pins d a e/\Q a) X.xe s
section
variable{X:Cx}{pos:Pos}
def lO(i:Nat):TG:=λv a H Q=>Q (a.set i (some v)) H
def O7{i:Nat}{x}(c:X.N.Nodup)(e:X.N[i]?=some x)(f:TY X.env.scope x)(d:X.fn x=true\/X.env.scope.names.lookup x=some .local:=by first | exact .inl Db | exact .inr Db | assumption):PG X (.Name x pos) (lO i):=by
 intro a s j H v u Q I r h;exact uc (yZ I c e f r (λg b=>⟨_,H,b,h⟩) d)
def Ha:Ep:=λvs a H Q=>vs=[]/\Q a H
def GN(t:TG)(u:Ep):Ep:=λvs c H Q=>∃v r,vs=v::r/\t v c H λa b=>u r a b Q
def oN:Fx X [] Ha:=by
 intro a s b H vs c Q I r h;obtain⟨e,h⟩:=h;subst e;cases r;exact assignInOrder_nil ⟨b,H,I,h⟩
def fQ(g:PG X e t)(i:Fx X es u)
  (j:(ag (e::es) X.env).map (·.2)=cf e X.env::(ag es X.env).map (·.2):=by rfl):Fx X (e::es) (GN t u):=by
 intro a s o H vs p Q I r h;obtain⟨v,q,f,h⟩:=h;subst f
 cases r with
 |cons r l=>
  rw[j];refine assignInOrder_cons (jG (g a s o H _ _ _ I r h) λ_ m n=>?_);obtain⟨b,c,d,k⟩:=n;exact i a m b c _ _ Q d l k
def Hb(K:aF)(n:Nat)(t:Ep):TG:=λv c H Q=>∃a b,v=.ref a/\pY K H a b/\b.length=n/\t b c H Q
def rD{k:Nat}{n:Nat}(m:X.calm=true)(h:Fx X es t)
  (q:(ag es X.env).length=n:=by rfl) (d:(ag es X.env).findIdx? (·.1)=none:=by rfl):PG X (.Tuple es k pos) (Hb X.K n t):=by
 intro c s g H v u Q I r hw;obtain⟨a,A,j,w,p,hw⟩:=hw;subst j;cases r;obtain⟨z,f,x,B⟩:=I.tuple w;refine assign_Tuple_tuple (I.ok.hd m) x (by simp[q,<- p,f.length]) d λl y=>?_;have i:cU X c g H { s with heap:=l }:=I.kept (t':=s.toks) λb o e=>y b o (cL (aY e)) e;exact h c _ g H A _ Q i (by simpa using f) hw
def Jd(to d:TE)(t:Io):TG:=λv a H Q=>to a H λo b=>d a b λi c=>t o i v c λH3=>Q a H3
def M7{to}(p:PE X o to)(n:PE X i ti)(q:Iz X t)
  (m:∀v,cf (.Subscript o i pos) X.env v=(do
   let b <- al [v] (eval o X.env)
   let c <- al [v,b] (eval i X.env)
   cu pos
   al [v,b,c] (setItem b c v)
   release [v,b,c] []):=by intro _;rfl):PG X (.Subscript o i pos) (Jd to ti t):=by
 intro a s e H v u Q I r h;rw[m];refine aE (m5 (jG (p a s e H _ I h) λb E d=>?_));obtain⟨x,f,j,B,w⟩:=d;refine aE (m5 (jG (n a E e f _ j w) λc F d=>?_));obtain⟨y,g,k,C,z⟩:=d;refine aE (jo (aE (m5 (jG (q a F e g x y v b c u _ k B C r z) λ_ s3 d=>?_))));obtain⟨H3,l,A⟩:=d;exact wpAny_release ⟨e,H3,l,A⟩
def sX(c:TE)(g:TG):TS:=λD a H=>c a H λx b=>g x a b D.nx
def lG(i:PE X e te)(j:PG X tg g)(k:swapsWithSole [tg] e pos.line X.env=pure false:=by rfl)(hw:swappedStores [tg] e X.env=pure none:=by rfl)
  (f:(ag [tg] X.env).map (·.2)=[cf tg X.env]:=by rfl):PS X (.Assign [tg] e pos) (sX te g):=by
 intro a s b H D I h;refine wpAny_Assign_stores (jG (i a s b H _ I h) λv n o=>?_) k hw;obtain⟨x,c,d,m,l⟩:=o;rw[f];exact jG (j a n b c x v _ d m l) λ_ p q=>q
def xW{i:Nat}{x}(f:X.N.Nodup)(k:X.N[i]?=some x)(m:TY X.env.scope x)(g:PE X e te)(l:lT e (some (.Name x pos')) pos.line X.env=pure false:=by rfl)(j:X.fn x=true\/X.env.scope.names.lookup x=some .local:=by first | exact .inl Db | exact .inr Db | assumption) :
  PS X (.Assign [.Name x pos'] e pos) (sX te (lO i)):=by
 intro a s q H D I h;refine ua (jG (g a s q H _ I h) λv r p=>?_) l;obtain⟨y,b,c,o,n⟩:=p;exact yZ c f k m o (λt d=>⟨_,b,d,n⟩) j
end
section
variable{X:Cx}{pos:Pos}
def UX(c:TT)(h:TS):TS:=λD a H=>∃W:Nat->St->Hp->Prop,(∃m,W m a H)/\∀m a H,W m a H ->
 c a H λb f=>if b=true then∃N:St->Hp->Prop,(∀d e,N d e->∃g,g<m/\W g d e)/\h { D with nx:=N,ct:=N,bk:=D.nx } a f else D.nx a f
def V4(x:PassesOwn (model X.prog X.w) X.A X.env X.xe)(z:PT X c tc)(hb:A9 X body tb):PS X (.While c body [] pos) (UX tc tb):=by
 intro a s L H D I h;obtain⟨W,⟨B,G⟩,turn⟩:=h;refine wpAny_While (codeAny_whileLoop (λn C=>∃g p,cU X a g p C/\W n g p) ?_ B ⟨L,H,I,G⟩);rintro n E ⟨e,q,y,J⟩;refine m4 x (jG (z a E e q _ y (turn n e q J)) λb F K=>?_);obtain⟨r,t,i⟩:=K
 cases b with
 |true=>
  obtain⟨N,u,i⟩:=i;rw[a9 rfl];refine m4 x (jG (hb a F e r _ t i) λf s3 j=>?_)
  cases f with
  |next=>
   obtain⟨d,H3,k,n3⟩:=j;obtain⟨m,l,o⟩:=u d H3 n3;exact⟨m,l,d,H3,k,o⟩
  |cont=>
   obtain⟨d,H3,k,n3⟩:=j;obtain⟨m,l,o⟩:=u d H3 n3;exact⟨m,l,d,H3,k,o⟩
  |brk=>exact j
  |ret v=>exact j
 |false=>
  rw[a8 dA];exact v0 ⟨e,r,t,i⟩
end
structure It where
 go:Nat->Hp->Prop
 yld:Nat->Hp->V->Hp->Prop
 stop:Nat->Hp->Prop
def B8(X:Cx)(a:List (Addr×Obj))(H:Hp)(b:Addr):Prop:=
 H b=none/\b≠X.env.locals/\b∉X.fs/\(b∈X.ex\/X.s₀.heap.objs.size<=b)/\(∀x c,X.env.cells.lookup x=some c->c≠b)/\∀p∈X.pn++a,p.1≠b
def cU.fpOk{s:Shared}{b:Addr}(I:cU X pins σ H s)(hb:s.heap.objs.size<=b)(a:H' b=none):B8 X pins H' b:=by
 refine⟨a,hU (bT I.lt hb),I.nofs hb,.inr (bL I.sz hb),λx c e z=>?_,λp d z=>?_⟩
 ·obtain⟨v,q⟩:=I.cell x c e;exact c7 (bT q.lt (by rw[z];exact hb)) (eO _)
 ·exact c7 (bT (aY (I.pin p d).1) (by rw[z];exact hb)) (eO _)
structure L3(P:cW)(w:f7)(K:aF)(tg:Expr)(J:It)(fp:List Addr)(it:Addr)(tn:Nat->Heap->Prop):Prop where
 mem:it∈fp
 obj:∀i h,tn i h->∀b∈fp,∃o,h.get? b=some o/\∀v,o.data≠.cell v
 keep:∀i h h',tn i h->(∀b∈fp,∀o,h.get? b=some o->h'.get? b=some o)->tn i h'
 item:∀(X:Cx),X.prog=P->X.w=w->X.K=K->X.calm=true->∀(i:Nat)pins(s:Shared)σ H E,cU X pins σ H s->(∀b∈fp,B8 X pins H b)->tn i s.heap->J.go i H ->
  wpAny (model P w) X.A (ij (.ref it)) (λr s1=>∃u,r=some u /\
   wpAny (model P w) X.A (t4 tg (.ref it) u) (λ_ s2=>∃x H',cU X pins σ H' s2/\eZ x u/\J.yld i H x H'/\tn (i+1) s2.heap/\∀b∈fp,H' b=none) E s1) E s
 done:∀(X:Cx),X.prog=P->X.w=w->X.K=K->X.calm=true->∀(i:Nat)pins(s:Shared)σ H E,cU X pins σ H s->(∀b∈fp,B8 X pins H b)->tn i s.heap->J.stop i H ->
  wpAny (model P w) X.A (ij (.ref it)) (λr s1=>r=none/\cU X pins σ H s1) E s
 self:∀A(i:Nat)(s:Shared)Q E,tn i s.heap->Q (.ref it) s->wpAny (model P w) A (sk (.ref it)) Q E s
abbrev TI:=St->Hp->(It->Hp->Prop)->Prop
def Ia(X:Cx)(a:List (Addr×Obj))(j:St)(i:Expr)(R:It->Hp->Prop)(d:Value)(g:Shared):Prop:=
 ∃(f:Addr)(e:List Addr)(h:Nat->Heap->Prop)(J:It)(c:Hp),d=.ref f/\cU X a j c g/\L3 X.prog X.w X.K i J e f h/\h 0 g.heap/\(∀b∈e,B8 X a c b)/\R J c
def PI(X:Cx)(b iter:Expr)(c:TI):Prop:=
 ∀pins(s:Shared)σ H(R:It->Hp->Prop),cU X pins σ H s->c σ H R ->
  wpAny (model X.prog X.w) X.A (eval iter X.env) (λv a=>wpAny (model X.prog X.w) X.A (sk v) (Ia X pins σ b R) X.xe a) X.xe s
def X0{E:Value->Shared->Prop}{s:Shared}{b:Addr}{o:Obj}{Q:Unit->Shared->Prop}(e:s.heap.get? b=some o)(c:o.cls=.type n)(hd:o.data=.fields vs)
  (d:["enumerate","zip","dict_itemiterator","dict_reverseitemiterator","odict_iterator","itertools.zip_longest","itertools.pairwise"].contains n=false) (a:Q () s):wpAny M A (t4 tg (.ref b) u) Q E s:=by
 unfold t4
 cases tg<;>first
  |exact aZ a
  | (cases u<;>first
    |exact aZ a
    | (refine aE (sx e ?_)
       rw[c,hd];show wpAny M A (if(["enumerate","zip","dict_itemiterator","dict_reverseitemiterator","odict_iterator","itertools.zip_longest","itertools.pairwise"].contains n&&vs[0]?==some (r8 _))=true then _ else _) Q E s;rw[a8 (by intro h;rw[d,aFj]at h;cases h)];exact aZ a))
noncomputable def Ig(K:aF)(a:Addr):It:=
 ⟨λi H=>∃b x,mL K H a b/\b[i]?=some x,λi H x c=>c=H/\∀b,mL K H a b->b[i]?=some x,λi H=>∃b,mL K H a b/\b.length<=i⟩
noncomputable def Ic(K:aF)(a:Addr):It:=
 ⟨λi H=>∃b x,pY K H a b/\b[i]?=some x,λi H x c=>c=H/\∀b,pY K H a b->b[i]?=some x,λi H=>∃b,pY K H a b/\b.length<=i⟩
noncomputable def Ie(lo:Int)(n:Nat):It:=⟨λi _=>i<n,λi H x a=>a=H/\x=.int (lo+i),λi _=>n<=i⟩
def QZ{K}(a it:Addr):L3 P w K tg (Ig K a) [it] it (λi h=>h.IsListIter it a i) where
 mem:=by simp
 obj:=λi h st b hb=>by
  have e:b=it:=by simpa using hb
  subst e;obtain⟨o,e,c,d⟩:=st;exact⟨o,e,λv z=>by rw[d]at z;cases z⟩
 keep:=λi h h' st k=>st.at λo e=>k it Cy o e
 item:=by
  intro X hP hw hK hc i pins s σ H E I hf st hg;subst hP hw hK;obtain⟨xs,x,hq,hx⟩:=hg;obtain⟨bc,rv,p,hz⟩:=I.list hq;obtain⟨u,hu,ru⟩:=rv.get hx;obtain⟨f0,f1,f2,f3,f4,f5⟩:=hf it Cy;refine wpAny_pyNext_list_item st p.isList (x:=u) (by simpa using hu) λh' lg sb=>?_;have I1:cU X pins σ H { s with heap:=h' }:=I.turned (t':=s.toks) (λb o hb e=>(sb.2 b hb).trans e) f0 f1 f3 f4 f5;obtain⟨o,e,c,d⟩:=id lg;exact⟨u,Db,X0 (s:={ s with heap:=h' }) e c d Cv ⟨x,H,I1,ru,⟨Db,λys hy=>by rw[I.list_inj hy hq];exact hx⟩,lg,λb hb=>(hf b hb).1⟩⟩
 done:=by
  intro X hP hw hK hc i pins s σ H E I hf st hg;subst hP hw hK;obtain⟨xs,hq,hx⟩:=hg;obtain⟨bc,rv,p,hz⟩:=I.list hq;obtain⟨f0,f1,f2,f3,f4,f5⟩:=hf it Cy;have hl:=rv.length;exact wpAny_pyNext_list_end (I.ok.hd hc) st p.isList (by simp;lia) λh' eb=>⟨Db,I.turned (t':=s.toks) (λb o hb e=>eb b o hb e) f0 f1 f3 f4 f5⟩
 self:=λ_ _ _ _ _ st h=>wpAny_pyIter_listiter st h
def MO{K}(a it:Addr):L3 P w K tg (Ic K a) [it] it (λi h=>h.IsTupleIter it a i) where
 mem:=by simp
 obj:=λi h st b hb=>by
  have e:b=it:=by simpa using hb
  subst e;obtain⟨o,e,c,d⟩:=st;exact⟨o,e,λv z=>by rw[d]at z;cases z⟩
 keep:=λi h h' st k=>st.at λo e=>k it Cy o e
 item:=by
  intro X hP hw hK hc i pins s σ H E I hf st hg;subst hP hw hK;obtain⟨xs,x,hq,hx⟩:=hg;obtain⟨bc,rv,p,hz⟩:=I.tuple hq;obtain⟨u,hu,ru⟩:=rv.get hx;obtain⟨f0,f1,f2,f3,f4,f5⟩:=hf it Cy;refine wpAny_pyNext_tuple_item st (show s.heap.IsTuple a bc.toArray from p) (x:=u) (by simpa using hu) λh' lg sb=>?_;have I1:cU X pins σ H { s with heap:=h' }:=I.turned (t':=s.toks) (λb o hb e=>(sb.2 b hb).trans e) f0 f1 f3 f4 f5;obtain⟨o,e,c,d⟩:=id lg;exact⟨u,Db,X0 (s:={ s with heap:=h' }) e c d Cv ⟨x,H,I1,ru,⟨Db,λys hy=>by rw[I.tuple_inj hy hq];exact hx⟩,lg,λb hb=>(hf b hb).1⟩⟩
 done:=by
  intro X hP hw hK hc i pins s σ H E I hf st hg;subst hP hw hK;obtain⟨xs,hq,hx⟩:=hg;obtain⟨bc,rv,p,hz⟩:=I.tuple hq;obtain⟨f0,f1,f2,f3,f4,f5⟩:=hf it Cy;have hl:=rv.length;exact wpAny_pyNext_tuple_end (I.ok.hd hc) st (show s.heap.IsTuple a bc.toArray from p) (by simp;lia) λh' eb=>⟨Db,I.turned (t':=s.toks) (λb o hb e=>eb b o hb e) f0 f1 f3 f4 f5⟩
 self:=λ_ _ _ _ _ st h=>wpAny_pyIter_tupleiter st h
def MP{K}(it:Addr)(lo:Int)(n:Nat):L3 P w K tg (Ie lo n) [it] it (λi h=>IsRangeIter h it (lo+(i:Nat)*1) ((n:Int)-(i:Nat)) 1) where
 mem:=by simp
 obj:=λi h st b hb=>by
  have e:b=it:=by simpa using hb
  subst e
  exact⟨_,st,λv z=>by
   have z':im _=Data.cell v:=z;cases z'⟩
 keep:=λi h h' st k=>k it Cy _ st
 item:=by
  intro X hP hw hK hc i pins s σ H E I hf st hg;subst hP hw hK;obtain⟨f0,f1,f2,f3,f4,f5⟩:=hf it Cy;have W:=Walks.range (prog:=X.prog) (w:=X.w) (I.ok.hd hc) it lo 1 n;refine W.item i s _ _ hg st λv h' tk hv lg kk=>?_;obtain⟨t,rfl⟩:=hv;have I1:cU X pins σ H { s with heap:=h',toks:=tk }:=I.turned (λb o hb e=>kk b o (by simpa using hb) e) f0 f1 f3 f4 f5;refine⟨_,Db,X0 (s:={ s with heap:=h',toks:=tk }) (n:="range_iterator") lg Db Db Cv ⟨.int (lo+i),H,I1,⟨t,?_⟩,⟨Db,Db⟩,lg,λb hb=>(hf b hb).1⟩⟩;rw[Int.mul_one]
 done:=by
  intro X hP hw hK hc i pins s σ H E I hf st hg;subst hP hw hK;obtain⟨f0,f1,f2,f3,f4,f5⟩:=hf it Cy;exact wpAny_pyNext_range_end (I.ok.hd hc) st (by have:n<=i:=hg;lia) λh' eb=>⟨Db,I.turned (t':=s.toks) (λb o hb e=>eb b o hb e) f0 f1 f3 f4 f5⟩
 self:=λ_ _ _ _ _ st h=>wpAny_pyIter_rangeiter st h
section
variable{X:Cx}{c:Expr}
def VU{s:Shared}{R:It->Hp->Prop}{E:Value->Shared->Prop}{lo a:Int}{f:Nat}(I:cU X pins σ H s)(i:-(2^62)<=lo)(j:lo<2^62)(k:-(2^62)<=a)(l:a<2^62)
  (q:R (Ie lo (a-lo).toNat) H):wpAny (model X.prog X.w) X.A (sk (.ref s.heap.objs.size)) (Ia X pins σ c R) E { s with heap:=s.heap.push { cls:=.type "range",data:=.fields #[.int lo t,.int a u,.int 1 v] },toks:=f }:=by
 refine wpAny_pyIter_range (IsRange.new ..) (small_one i j k l) ?_;have d:cU X pins σ H { s with heap:=s.heap.push { cls:=.type "range",data:=.fields #[.int lo t,.int a u,.int 1 v] },toks:=f }:=I.kept λb o e=>aD _ e
 refine⟨(s.heap.push { cls:=.type "range",data:=.fields #[.int lo t,.int a u,.int 1 v] }).objs.size,[(s.heap.push { cls:=.type "range",data:=.fields #[.int lo t,.int a u,.int 1 v] }).objs.size],_,_,H,Db,
  d.kept (t':=f) λb o e=>aD _ e,MP _ lo (a-lo).toNat,?_,λb hb=>?_,q⟩
 ·have g:lo+((0:Nat):Int)*1=lo:=by simp
  have h:(((a-lo).toNat:Nat):Int)-((0:Nat):Int)=Builtin.Range.rangeSize lo a 1:=by rw[rangeSize_one];split<;>lia
  show IsRangeIter _ _ (lo+((0:Nat):Int)*1) ((((a-lo).toNat:Nat):Int)-((0:Nat):Int)) 1;rw[g,h];exact aU _ Db
 ·have e:b=(s.heap.push { cls:=.type "range",data:=.fields #[.int lo t,.int a u,.int 1 v] }).objs.size:=by simpa using hb
  subst e;exact d.fpOk (aM _) (d.hok.fresh (aM _))
def Kf(b:TA):TI:=λd H R=>b d H λvs a=>∃j:Int,vs=[.int j]/\-(2^62)<=j/\j<2^62/\R (Ie 0 j.toNat) a
def oC(i:Gl X "range")(k:X.mg "range"=none)(g:PA X [a] ta)(l:bI [a] X.env=[(false,eval a X.env)]:=by rfl):PI X c (.Call (.Name "range" p) [a] [] pos) (Kf ta):=by
 intro b s v H R I h;refine Call_ (uZ I i k boot_range (i7 (jG (g pos b s v H _ I h) λy x u=>?_) l Db));obtain⟨vs,w,f,n,d⟩:=u;obtain⟨j,e,d,m,q⟩:=d;subst e
 cases n with
 |cons r o=>
  cases o;obtain⟨t,rfl⟩:=r;exact call_range_1 (VU f Cw Cw d m (by simpa using q))
def Hm(l:TI)(g:TG)(k:TS):TS:=λD a H=>l a H λJ h=>∃W:Nat->Nat->St->Hp->Prop,(∃m,W 0 m a h)/\∀i m a H,W i m a H ->
 (J.stop i H/\D.nx a H)\/(J.go i H/\∃N:St->Hp->Prop,(∀d b,N d b->∃f,f<m/\W (i+1) f d b)/\∀x b,J.yld i H x b->g x a b λe j=>k { D with nx:=N,ct:=N,bk:=D.nx } e j)
noncomputable def DR(a:List Addr)(h:Heap):List (Addr×Obj):=a.filterMap λb=>(h.get? b).map λo=>(b,o)
def tK{h:Heap}{b:Addr}(hb:b∈fp)(e:h.get? b=some o):(b,o)∈DR fp h:=T6.mpr ⟨b,hb,by rw[e];rfl⟩
def RP{h:Heap}{p:Addr×Obj}(d:p∈DR fp h):p.1∈fp/\h.get? p.1=some p.2:=by
 obtain⟨b,hb,e⟩:=T6.mp d
 cases q:h.get? b with
 |none=>rw[q]at e;cases e
 |some o=>
  rw[q]at e;have a:(b,o)=p:=c8 e;subst a;exact⟨hb,q⟩
def cU.pinned{s:Shared}(I:cU X pins σ H s)(h:∀b∈fp,B8 X pins H b)(i:∀b∈fp,∃o,s.heap.get? b=some o/\∀v,o.data≠.cell v):cU X (pins++DR fp s.heap) σ H s:=
 I.pins_of λp j=>(cC.mp j).elim (λz=>I.pin p (bW _ z)) λz=>by
  obtain⟨hb,e⟩:=RP z;obtain⟨f,f1,g,_⟩:=h p.1 hb;obtain⟨o,a,d⟩:=i p.1 hb;rw[e]at a;cases a;exact⟨e,f,f1,g,d⟩
def cU.unpinned(I:cU X (pins++pl) σ H s):cU X pins σ H s:=I.pins_of λp a=>I.pin p (bW _ (iY _ a))
def M3{iter}(G:PassesOwn (model X.prog X.w) X.A X.env X.xe)(hc:X.calm=true)(hi:PI X c iter wi)(hg:PG X c g)(hb:A9 X body tb)
  (hs:∀x,j2 iter X.env x=pure x:=by intro _;rfl):PS X (.For c iter body [] pos) (Hm wi g tb):=by
 intro a s σ H D I h;refine wpAny_For (jG (hi a s σ H _ I h) λv s1 h1=>jG h1 λyh s2 h2=>?_) hs;obtain⟨it,E,tn,J,H2,e,I2,T,R,Z,W,⟨m0,w0⟩,turn⟩:=h2;subst e
 -- what stays true of the iterator's objects through the qu
 have p:∀{y:Hp},(∀b∈E,y b=none)->∀b∈E,B8 X a y b:=λhn b hb=>⟨hn b hb,(Z b hb).2⟩;refine codeAny_forLoop_any (λn s'=>∃i q y,cU X a q y s'/\tn i s'.heap/\(∀b∈E,y b=none)/\W i n q y) ?_ m0 ⟨0,σ,H2,I2,R,λb hb=>(Z b hb).1,w0⟩;rintro n s3 ⟨i,t,H3,Y,L,F,w3⟩;rcases turn i n t H3 w3 with⟨stop,qn⟩ | ⟨go,N,hN,step⟩
 ·refine m4 G (jG (T.done X Db Db Db hc i a s3 t H3 X.xe Y (p F) L stop) λr s4 C=>?_);obtain⟨P,I4⟩:=C;subst P;exact v0 ⟨t,H3,I4,qn⟩
 ·refine m4 G (jG (T.item X Db Db Db hc i a s3 t H3 X.xe Y (p F) L go) λr s4 C=>?_);obtain⟨u,P,h4⟩:=C;subst P;refine m4 G (jG h4 λ_ s5 C=>?_);obtain⟨x,U,I5,r5,y5,B,O⟩:=C;have M:=I5.pinned (p O) (T.obj _ _ B);refine m4 G (jG (hg _ s5 t U x u _ M r5 (step x U y5)) λ_ s6 C=>?_);obtain⟨S,H6,I6,q6⟩:=C;refine m4 G (jG (hb _ s6 S H6 _ I6 q6) λf Q z=>?_)
  have nz:∀{j:St}{k:Hp},cU X (a++DR E s5.heap) j k Q->N j k->∃m,m<n/\∃i q y,cU X a q y Q/\tn i Q.heap/\(∀b∈E,y b=none)/\W i m q y:=λ{j k} l K=>by
   obtain⟨m',hm,w7⟩:=hN j k K;refine⟨m',hm,i+1,j,k,l.unpinned,T.keep _ _ _ B λb hb o e=>(l.pin (b,o) (bW _ (bW _ (tK hb e)))).1,λb hb=>?_,w7⟩;obtain⟨o,e,d⟩:=T.obj _ _ B b hb;exact(l.pin (b,o) (bW _ (bW _ (tK hb e)))).2.1
  cases f with
  |next=>obtain⟨j,k,l,K⟩:=z;exact nz l K
  |cont=>obtain⟨j,k,l,K⟩:=z;exact nz l K
  |brk=>obtain⟨j,k,l,z⟩:=z;exact⟨j,k,l.unpinned,z⟩
  |ret v=>obtain⟨x7,j,k,l,r7,z⟩:=z;exact⟨x7,j,k,l.unpinned,r7,z⟩
end
abbrev R2:=V->V->Hp->VK->Prop
def qI(X:Cx)(f:Value->Value->Sem Value)(r:R2):Prop:=
 ∀pins s σ H(x y:V)(v u:Value)Q,cU X pins σ H s->eZ x v->eZ y u->r x y H Q ->
  wpAny (model X.prog X.w) X.A (f v u) (EP X pins σ Q) X.xe s
def Hx(X:Cx)(f:Value->Sem Value)(r:V->Hp->VK->Prop):Prop:=
 ∀pins s σ H(x:V)(v:Value)Q,cU X pins σ H s->eZ x v->r x H Q ->
  wpAny (model X.prog X.w) X.A (f v) (EP X pins σ Q) X.xe s
def lZ(X:Cx)(f:Value)(r:List V->Hp->VK->Prop):Prop:=
 ∀pins s σ H(b:List V)(a:List Value)Q,cU X pins σ H s->eW b a->r b H Q ->
  wpAny (model X.prog X.w) X.A (call f a) (EP X pins σ Q) X.xe s
def Nq(X:Cx)(r:V->Hp->(Bool->Hp->Prop)->Prop):Prop:=
 ∀pins s σ H(x:V)(v:Value)(Q:Bool->Hp->Prop),cU X pins σ H s->eZ x v->r x H Q ->
  wpAny (model X.prog X.w) X.A (truthy v) (TP X pins σ Q) X.xe s
def Dt(r:R2)(d e:TE):TE:=λa H Q=>d a H λx b=>e a b λy c=>r x y c Q
def Mu(r:V->Hp->VK->Prop)(b:TE):TE:=λc H Q=>b c H λx a=>r x a Q
def rI(C:Int->Int->Prop)(g:Int->Int->V):R2:=λx y H Q=>∃i j,x=.int i/\y=.int j/\C i j/\Q (g i j) H
def VX(g:Int->Int->V):R2:=λx y H Q=>∃i j,x=.int i/\y=.int j/\Q (g i j) H
def rU(g:Int->V):V->Hp->VK->Prop:=λx H Q=>∃i,x=.int i/\Q (g i) H
section
variable{X:Cx}{a b:Expr}{c d:TE}{pos:Pos}
def Gz(o:PE X a c)(hb:PE X b d){R:V->V->Hp->Prop}(I:cU X pins σ H s)
  (h:c σ H λx k=>d σ k λy e=>R x y e) {Q:Value->Shared->Prop} {f:Value->Value->Sem Value}
  (p:∀v u j x y e,cU X pins σ e j->eZ x v->eZ y u->R x y e->wpAny (model X.prog X.w) X.A (f v u) Q X.xe j) :
  wpAny (model X.prog X.w) X.A (eval a X.env) (λv g=>wpAny (model X.prog X.w) X.A (eval b X.env) (λu i=>wpAny (model X.prog X.w) X.A (f v u) Q X.xe i) X.xe g) X.xe s:=by
 refine jG (o pins s σ H _ I h) λv B l=>?_;obtain⟨x,k,m,t,q⟩:=l;refine jG (hb pins B σ k _ m q) λu j l=>?_;obtain⟨y,e,n,z,r⟩:=l;exact p v u j x y e n t z r
def KI(j:qI X (j8 op) r)(i:PE X a c)(hb:PE X b d):PE X (.BinOp a op b pos) (Dt r c d):=by
 intro e s n H Q I h;exact wpAny_BinOp (Gz i hb I h λv u m x y f g k l q=>j e m n f x y v u Q g k l q)
def Rv{r:V->Hp->VK->Prop}(k:Hx X (unaryOp op) r)(j:PE X a c):PE X (.UnaryOp op a pos) (Mu r c):=by
 intro e s f H Q I h;exact UnaryOp_ (jG (j e s f H _ I h) λv n ⟨x,g,i,m,l⟩=>k e n f g x v Q i m l)
def El{f:Value->Value->Sem Value}{C:Int->Int->Prop}{g:Int->Int->Int}
  (rule:∀(i j:Int)(t u:Tok)(s:Shared)Q E,C i j->Q (.int (g i j) s.toks) { s with toks:=s.toks+1 }->wpAny (model X.prog X.w) X.A (f (.int i t) (.int j u)) Q E s) :
  qI X f (rI C λi j=>.int (g i j)):=by
 intro e s o H x y v u Q I l m h;obtain⟨i,j,rfl,rfl,k,q⟩:=h;obtain⟨t,rfl⟩:=l;obtain⟨n,rfl⟩:=m;exact rule i j t n s _ _ k ⟨.int (g i j),H,I.tok _,⟨_,Db⟩,q⟩
def Ji{f:Value->Value->Sem Value}{g:Int->Int->Int}
  (rule:∀(i j:Int)(t u:Tok)(s:Shared)Q E,Q (.int (g i j) s.toks) { s with toks:=s.toks+1 }->wpAny (model X.prog X.w) X.A (f (.int i t) (.int j u)) Q E s) :
  qI X f (VX λi j=>.int (g i j)):=by
 intro e s n H x y v u Q I k l h;obtain⟨i,j,rfl,rfl,q⟩:=h;obtain⟨t,rfl⟩:=k;obtain⟨m,rfl⟩:=l;exact rule i j t m s _ _ ⟨.int (g i j),H,I.tok _,⟨_,Db⟩,q⟩
def Fh{f:Value->Value->Sem Value}{g:Int->Int->Bool}
  (rule:∀(i j:Int)(t u:Tok)s Q E,Q (.bool (g i j)) s->wpAny (model X.prog X.w) X.A (f (.int i t) (.int j u)) Q E s) :
  qI X f (VX λi j=>.bl (g i j)):=by
 intro e s n H x y v u Q I k l h;obtain⟨i,j,rfl,rfl,q⟩:=h;obtain⟨t,rfl⟩:=k;obtain⟨m,rfl⟩:=l;exact rule i j t m s _ _ ⟨.bl (g i j),H,I,Db,q⟩
def Gq(i j:Int):Prop:=0<j/\j<1073741824
def Np(i j:Int):Prop:=0<=j/\j<=1000000/\i.natAbs<2^64
def OE(i j:Int):Prop:=(-(2^64)<i/\i<2^64)\/(-(2^64)<j/\j<2^64)
def OE.ok{i j:Int}(h:OE i j):IntMulOk i j:=by
 rcases h with⟨e,f⟩ | ⟨e,f⟩
 ·exact .of_left (intBits_le_64 e f)
 ·exact .of_right (intBits_le_64 e f)
def Yn:qI X (j8 .Add) (VX λi j=>.int (i+j)):=Ji λ_ _ _ _ _ _ _ q=>add_int q
def tG:qI X (j8 .Sub) (VX λi j=>.int (i-j)):=Ji λ_ _ _ _ _ _ _ q=>sub_int q
def WJ:qI X (j8 .Mult) (rI OE λi j=>.int (i*j)):=El λ_ _ _ _ _ _ _ e q=>mul_int q e.ok
def zK:qI X (j8 .FloorDiv) (rI Gq λi j=>.int (i / j)):=El λi j _ _ _ _ _ e q=>by
 have f:(0:Int)<j:=e.1;have g:j<1073741824:=e.2;exact floordiv_int Cw (by rw[JG i Cw];exact q) (.inl (PyProof.noPylong_small Cw))
def pF:qI X (j8 .Mod) (rI (λ_ j=>0<j) λi j=>.int (i%j)):=El λi j _ _ _ _ _ e q=>by
 have f:(0:Int)<j:=e;exact mod_int' Cw (by rw[Int.fmod_eq_emod_of_nonneg i Cw];exact q)
def Xs:qI X (j8 .Pow) (rI Np λi j=>.int (i^j.toNat)):=El λ_ _ _ _ _ _ _ e q=>pow_int_small e.1 e.2.1 e.2.2 q
def Ms{f:Value->Sem Value}{g:Int->Int}
  (rule:∀(i:Int)(t:Tok)(s:Shared)Q E,Q (.int (g i) s.toks) { s with toks:=s.toks+1 }->wpAny (model X.prog X.w) X.A (f (.int i t)) Q E s) :
  Hx X f (rU λi=>.int (g i)):=by
 intro e s k H x v Q I j h;obtain⟨i,rfl,q⟩:=h;obtain⟨t,rfl⟩:=j;exact rule i t s _ _ ⟨.int (g i),H,I.tok _,⟨_,Db⟩,q⟩
def Yq:Hx X (unaryOp .USub) (rU λi=>.int (-i)):=Ms λ_ _ _ _ _ q=>neg_int q
end
noncomputable def Jy:V->V->Bool
|.non,.non=>true | .non,.int _=>true | .int _,.non=>true | .non,.bl _=>true | .bl _,.non=>true | .non,.str _=>true | .str _,.non=>true
|.int _,.int _=>true | .bl _,.bl _=>true | .str _,.str _=>true | .byt _,.byt _=>true
|.int _,.str _=>true | .str _,.int _=>true | .bl _,.str _=>true | .str _,.bl _=>true
|_,_=>false
def Il:R2:=λx y H Q=>Jy x y=true/\Q (.bl (decide (x=y))) H
def Zk{i j:Int}:decide (V.int i=V.int j)=(i==j):=by
 rw[eL];simp
def Wp{i j:Bool}:decide (V.bl i=V.bl j)=(i==j):=by
 rw[eL];simp
def Zl:decide (V.str i=V.str j)=(i==j):=by
 rw[eL];simp
def Zj{i j:Array UInt8}:decide (V.byt i=V.byt j)=(i.toList==j.toList):=by
 rw[eL];cases i;cases j;simp
section
variable{X:Cx}{a b c:Expr}{g l n:TE}{pos:Pos}
def mG{k d:Bool}(I:cU X pins σ H s)(q:Q (.bl k) H)(e:k=d):EP X pins σ Q (.bool d) s:=by
 subst e;exact⟨.bl k,H,I,Db,q⟩
def lB:qI X (f8 .Eq) Il:=by
 intro m s o H x y v u Q I k d h;obtain⟨f,q⟩:=h
 cases x with
 |non=>
  cases k
  cases y with
  |non=>cases d;exact PySem.EqNone.eq_none_none (mG I q Cy)
  |bl j=>cases d;exact PySem.EqNone.eq_none_bool (mG I q Cy)
  |int j=>obtain⟨e,rfl⟩:=d;exact PySem.EqNone.eq_none_int (mG I q Cy)
  |str j=>obtain⟨e,rfl⟩:=d;exact PySem.EqNone.eq_none_str (mG I q Cy)
  |_=>exact c7 (show false=true from f) dA
 |bl i=>
  cases k
  cases y with
  |non=>cases d;exact PySem.EqNone.eq_bool_none (mG I q Cy)
  |bl j=>cases d;exact eq_bool (mG I q Wp)
  |str j=>obtain⟨e,rfl⟩:=d;exact PySem.EqMixed.eq_bool_str (mG I q Cy)
  |_=>exact c7 (show false=true from f) dA
 |int i=>
  obtain⟨t,rfl⟩:=k
  cases y with
  |non=>cases d;exact PySem.EqNone.eq_int_none (mG I q Cy)
  |int j=>obtain⟨e,rfl⟩:=d;exact eq_int (mG I q Zk)
  |str j=>obtain⟨e,rfl⟩:=d;exact PySem.EqMixed.eq_int_str (mG I q Cy)
  |_=>exact c7 (show false=true from f) dA
 |str i=>
  obtain⟨t,rfl⟩:=k
  cases y with
  |non=>cases d;exact PySem.EqNone.eq_str_none (mG I q Cy)
  |bl j=>cases d;exact PySem.EqMixed.eq_str_bool (mG I q Cy)
  |int j=>obtain⟨e,rfl⟩:=d;exact PySem.EqMixed.eq_str_int (mG I q Cy)
  |str j=>obtain⟨e,rfl⟩:=d;exact eq_str (mG I q Zl)
  |_=>exact c7 (show false=true from f) dA
 |byt i=>
  obtain⟨t,rfl⟩:=k
  cases y with
  |byt j=>obtain⟨e,rfl⟩:=d;exact PySem.W.eq_bytes (mG I q Zj)
  |_=>exact c7 (show false=true from f) dA
 |_=>cases y<;>exact c7 (show false=true from f) dA
def PD:qI X (f8 .Lt) (VX λi j=>.bl (decide (i<j))):=Fh λ_ _ _ _ _ _ _ q=>lt_int q
def Mf:qI X (f8 .LtE) (VX λi j=>.bl (decide (i<=j))):=Fh λ_ _ _ _ _ _ _ q=>le_int q
def GD:qI X (f8 .Gt) (VX λi j=>.bl (decide (j<i))):=Fh λ_ _ _ _ _ _ _ q=>gt_int q
def KO:qI X (f8 .GtE) (VX λi j=>.bl (decide (j<=i))):=Fh λ_ _ _ _ _ _ _ q=>ge_int q
def RK:qI X (f8 .In) (λx y H Q=>∃i j,x=.str i/\y=.str j/\Q (.bl (!(m7 j i 0 j.length 1).isEmpty)) H):=by
 intro d s m H x y v u Q I e f h;obtain⟨i,j,rfl,rfl,q⟩:=h;obtain⟨t,rfl⟩:=e;obtain⟨k,rfl⟩:=f;exact in_str (mG I q Db)
def Yp:qI X (f8 .Is) (λx y H Q=>y=.non/\Q (.bl (decide (x=.non))) H):=by
 intro d s i H x y v u Q I e f h;obtain⟨rfl,q⟩:=h;cases f;refine is_none_gen (mG I q ?_)
 cases x<;>first
  | (cases e;rfl)
  | (obtain⟨t,rfl⟩:=e;rfl)
def qI.or{f:Value->Value->Sem Value}{r e:R2}(h:qI X f r)(m:qI X f e):qI X f (λx y H Q=>r x y H Q\/e x y H Q):=by
 intro d s k H x y v u Q I i j q;rcases q with q | q
 ·exact h d s k H x y v u Q I i j q
 ·exact m d s k H x y v u Q I i j q
def DW(b:Expr)(h:op≠.In:=by decide)(f:op≠.NotIn:=by decide):h8 op b=false:=by
 have d:(op==CmpOp.In)=false:=by cases op<;>first | rfl | exact c7 Db h
 have e:(op==CmpOp.NotIn)=false:=by cases op<;>first | rfl | exact c7 Db f
 cases b<;>simp[h8,d,e]
def O9(k:qI X (f8 op) r)(i:PE X a g)(hb:PE X b l)(j:h8 op b=false):PE X (.Compare a [op] [b] pos) (Dt r g l):=by
 intro d s t H Q I h;exact wpAny_Compare1 (Gz i hb I h λv u p x y e f m o q=>k d p t e x y v u Q f m o q) j
def Vp(t:TE):TT:=λe H Q=>t e H λx d=>∃k,x=.bl k/\Q k d
def O4(w:qI X (f8 op) r)(q:PE X a g)(hb:PE X b l)(t:h8 op b=false):PT X (.Compare a [op] [b] pos) (Vp (Dt r g l)):=by
 intro d s f H Q I h
 refine lh (jG (q d s f H _ I h) λv J ⟨x,i,m,E,A⟩=>jG (hb d J f i _ m A) λu K ⟨y,j,o,F,B⟩=>
  jG (w d K f j x y v u _ o E F B) λc s3 ⟨z,H3,p,G,k,e,C⟩=>?_) t
 subst e;cases G;exact k6 ⟨H3,p,C⟩
def U2(r i:R2)(g l n:TE):TE:=λd H Q=>g d H λx e=>l d e λy f=>r x y f λz H3=>∃k,z=.bl k /\
 (if k=true then n d H3 λj h=>i y j h Q else Q (.bl false) H3)
def WH(J:qI X (f8 op) r)(j:qI X (f8 op') r')(E:PE X a g)(hb:PE X b l)(F:PE X c n)
  (G:lastMarks [op,op'] [b,c]=false:=by with_unfolding_all rfl):PE X (.Compare a [op,op'] [b,c] pos) (U2 r r' g l n):=by
 intro f s i H Q I h
 refine Compare_chain (jG (E f s i H _ I h) λv R ⟨x,q,A,N,K⟩=>chain_link (jG (hb f R i q _ A K) λu S ⟨y,t,B,p,L⟩=>
  jG (J f S i t x y v u _ B N p L) λd s3 ⟨z,H3,m,O,k,e,o⟩=>?_)) G
 subst e;cases O;refine k6 ?_
 cases k with
 |false=>exact ite_ff ⟨.bl false,H3,m,Db,o⟩
 |true=>exact ite_tt (chain_last (jG (F f s3 i H3 _ m o) λU T ⟨W,w,C,P,M⟩=>j f T i w y W u U Q C p P M))
def Gy(K:aF)(x:V)(H:Hp)(k:Bool):Prop:=
 match x with
 |.non=>k=false
 |.bl b=>k=b
 |.int i=>k=(i != 0)
 |.str y=>y.length<=bG/\k=((y.length:Int) != 0)
 |.byt y=>y.size<=bG/\k=((y.size:Int) != 0)
 |.ref p=>(∃d,mL K H p d/\k=!d.isEmpty)\/(∃d,pY K H p d/\k=!d.isEmpty)\/∃kvs,H p=some (.dK kvs)/\k=!kvs.isEmpty
 |_=>False
def NW{d:Type}{kvs:List (d×V)}{vs:List (d×Value)}(r:KV kvs vs):(!vs.isEmpty)=!kvs.isEmpty:=by
 cases r<;>rfl
def D9{e:List V}{d:List Value}(r:eW e d):(!d.toArray.isEmpty)=!e.isEmpty:=by
 cases r<;>simp
def yA:(bG:Nat)<2^63:=by rw[bh];decide
def Zb:Nq X (λx H Q=>∃k,Gy X.K x H k/\Q k H):=by
 intro C s L H x v Q I o h;obtain⟨k,e,q⟩:=h;have G:=yA;have J:bG=16777216:=bh
 cases x with
 |non=>
  cases o;have d:k=false:=e;subst d;exact truthy_none ⟨H,I,q⟩
 |bl b=>
  cases o;have d:k=b:=e;subst d;exact k6 ⟨H,I,q⟩
 |int i=>
  obtain⟨t,rfl⟩:=o;have d:k=(i != 0):=e;subst d;exact PySem.P.truthy_int ⟨H,I,q⟩
 |str y=>
  obtain⟨t,rfl⟩:=o;obtain⟨F,d⟩:y.length<=bG/\k=((y.length:Int) != 0):=e;subst d;exact PySem.P.truthy_str Cw ⟨H,I.tok _,q⟩
 |byt y=>
  obtain⟨t,rfl⟩:=o;obtain⟨F,d⟩:y.size<=bG/\k=((y.size:Int) != 0):=e;subst d;exact PySem.W.truthy_bytes Cw ⟨H,I.tok _,q⟩
 |ref p=>
  cases o;have d:(∃j,mL X.K H p j/\k=!j.isEmpty)\/(∃j,pY X.K H p j/\k=!j.isEmpty)\/∃kvs,H p=some (.dK kvs)/\k=!kvs.isEmpty:=e;rcases d with⟨j,u,d⟩ | ⟨j,u,d⟩ | ⟨kvs,u,d⟩
  ·subst d;obtain⟨z,r,A,B⟩:=I.list u;have f:=r.length;exact wpAny_truthy_list A.isList (by simp only[bA];lia) ⟨H,I.tok _,by rw[D9 r];exact q⟩
  ·subst d;obtain⟨z,r,A,B⟩:=I.tuple u;have f:=r.length;exact truthy_tuple A (by simp only[bA];lia) ⟨H,I.tok _,by rw[D9 r];exact q⟩
  ·subst d;obtain⟨B,E,vs,r,m⟩:kvs.length<=bG/\(p==k8)=false/\∃vs,KV kvs vs/\s.heap.DictOf (fH X.prog X.w) p vs:=I.hok p _ u;have f:kvs.length=vs.length:=af r;exact wpAny_truthy_dict E m Cw ⟨H,I.tok _,by rw[NW r];exact q⟩
 |_=>exact(show False from e).elim
def V0(o:PE X a g)(p:∀d,isTrue a X.env d=(do let v <- d;cu a.pos;al [v] (truthy v))) :
  PT X a (λf H Q=>g f H λx i=>∃k,Gy X.K x i k/\Q k i):=by
 intro e s f H Q I h;exact isTrue_plain (jG (o e s f H _ I h) λv t ⟨x,j,m,r,q⟩=>Zb e t f j x v Q m r q) (p _)
def NE:qI X (j8 .Add) (λx y H Q=>∃i j,x=.str i/\y=.str j/\i.length+j.length<=bG/\Q (.str (i++j)) H):=by
 intro d s p H x y v u Q I f k h;obtain⟨i,j,rfl,rfl,e,q⟩:=h;obtain⟨t,rfl⟩:=f;obtain⟨m,rfl⟩:=k;exact add_str (λm o=>⟨.str (i++j),H,I.tok _,⟨_,Db⟩,q⟩) e
def oQ{x}(r:eW [x] us):∃u,us=[u]/\eZ x u:=by
 cases r with
 |cons d e=>cases e;exact⟨_,Db,d⟩
def ON{x}(r:eW [x,y] us):∃u d,us=[u,d]/\eZ x u/\eZ y d:=by
 cases r with
 |cons e f=>
  cases f with
  |cons h i=>cases i;exact⟨_,_,Db,e,h⟩
def SO:lZ X (.type "int") (λd H Q=>(∃i,d=[.int i]/\Q (.int i) H)\/∃k,d=[.bl k]/\Q (.int (if k then 1 else 0)) H):=by
 intro e s m H d j Q I r h;rcases h with⟨i,rfl,q⟩ | ⟨k,rfl,q⟩
 ·obtain⟨u,rfl,t,rfl⟩:=oQ r;exact call_int_int ⟨.int i,H,I,⟨_,Db⟩,q⟩
 ·obtain⟨u,rfl,f⟩:=oQ r;cases f;exact call_int_bool ⟨.int (if k then 1 else 0),H,I.tok _,⟨_,Db⟩,q⟩
end
structure OB(h:Heap)(x dx C:Addr)(mA:Str->Option Value):Prop where
 obj:h.get? x=some (jV C dx)
 ns:h.Ns1 dx mA
 ne:dx≠x
def R1{h:Heap}{dx:Addr}{d:Str->Option Value}(n:h.Ns1 dx d):∃f,h.get? dx=some f/\∀name,vN name f=some (d name):=by
 obtain⟨o,c,m,k,hd,i,_,j⟩:=n;refine⟨o,k,λname=>?_⟩;have e:=j name;unfold nsFind findBy at e;rw[<- TK]at e;unfold vN;rw[hd];dsimp only;split
 ·rename_i y q;rw[q]at e;exact h9 some e
 ·rename_i q;rw[q]at e
  have a:c.toList.any (·.refKey)=false:=by
   rw[List.any_eq_false];intro y l;obtain⟨z,t,b⟩:=i y (Array.mem_toList_iff.mp l);simp[DictEntry.refKey,b]
  have g:¬c.toList.any (·.refKey)=true:=by rw[a];exact dA
  rw[a8 g];exact h9 some e
def OB.look{h}{x dx C:Addr}{b:Str->Option Value}(I:OB h x dx C b):∃a,mJ h x (jV C dx) C (some a)/\∀name,vN name a=some (b name):=
 let ⟨a,ho,hl⟩:=R1 I.ns
 ⟨a,⟨I.obj,Db,Db,ho⟩,hl⟩
section
variable{prog:cW}{w:f7}{A:d9}{E:Value->Shared->Prop}{s:Shared}{K:aF}{x dx C f:Addr}{c:Str->Option Value}{name:Str}{v:Value}
def Zx{a:Bool}{Q:Value->Shared->Prop}(X:K.In s.heap)(I:OB s.heap x dx C c)(e:sG K C name=true)(g:AK K C=true)
  (d:dL K (.ref C) name=some none) (j:c name=some v) (b:S9 v=true) (h:Q v { s with toks:=s.toks+1 }) :
  wpAny (model prog w) A (getAttr (.ref x) name a) Q E s:=by
 obtain⟨k,J,i⟩:=I.look;exact PySem.W.get_value X J (wW e).1 (PySem.W.findObj_own g d Db (by rw[i,j])) b h
def X1{Q:Value×List Value->Shared->Prop}(X:K.In s.heap)(I:OB s.heap x dx C c)(a:sG K C name=true)
  (b:dL K (.ref C) name=some (some (.ref f))) (e:JA K (.ref f)=true) (g:c name=none) (h:Q (.ref f,[.ref x]) s) :
  wpAny (model prog w) A (ef (.ref x) name pl) Q E s:=by
 obtain⟨i,J,d⟩:=I.look;exact PySem.W.method_fn X J (wW a).1 (wW a).2 b (beq_iff_eq.mp e) (by show(vN name i).map (·.isSome)=some false;rw[d,g];rfl) h
def aAt{ns:List Str}{Q:Unit->Shared->Prop}(X:K.In s.heap)(I:OB s.heap x dx C c)
  (t:dL K (.ref C) "__setattr__"=some (some (.builtin "object.__setattr__"))) (q:QR K C=true) (z:CA K C name=some none) (p:AK K C=true)
  (hw:fo c ns) (u:ns.length<=bG)
  (h:∀g,OB g x dx C (λy=>if y=name then some v else c y)->fF dx s.heap g->Q () { s with heap:=g,toks:=s.toks+2 }) :
  wpAny (model prog w) A (setAttr (.ref x) name v) Q E s:=by
 obtain⟨H,J,F⟩:=I.look;refine PySem.W.set_plain X J t (PySem.W.osa_open (s:={ s with toks:=s.toks+1 }) (r:=none) X J q z λb=>?_);obtain⟨cd,o,j⟩:=PySem.W.any_some p;have B:s.heap.get? x=some ⟨.ref C,some dx,.plain,#[]⟩:=I.obj;refine aE (aZ (aE (aE (wpAny_loadPart B (aE (rH.here (s:={ s with toks:=s.toks+1 }) (PySem.W.looks_clsIn X o) ?_))))));rw[j];refine aZ (a:=some dx) (aE (aZ (aE ?_)));refine wpAny_nsSet1 (s:={ s with toks:=s.toks+1 }) I.ns λg d e=>?_;obtain⟨G,n,m,l,k,i⟩:=d.count (PySem.Within.cons name v hw);refine aE (wpAny_lookBehind l (by rw[k];exact pastItsLine_dict (bL i (by rw[dQ];lia))) ?_);exact aZ (h _ ⟨(e.2 _ (i6 I.ne)).trans I.obj,d,I.ne⟩ e)
def W8{R:Result->Shared->Prop}(X:K.In s.heap)(e:T3 K C=true)
  (b:dL K (.ref C) "__init__"=some (some (.ref f))) (a:gA K (.ref f)=some (.type "function"))
  (h:x6 (model prog w) (A.under (.builtin "type.__call__" ⟨.ref C::vs,kw⟩)) (.call (.ref f) ⟨.ref (s.heap.objs.size+1)::vs,kw⟩) (PySem.W.InitBack (s.heap.objs.size+1) R)
   { s with heap:=(s.heap.push gX).push (jV C s.heap.objs.size) }) :
  x6 (model prog w) A (.call (.ref C) ⟨vs,kw⟩) R s:=by
 obtain⟨i,g,d,t,os⟩:=s;exact PySem.W.make_core (PySem.W.makes_of X e) (pA X b) (λself=>PySem.W.bind_fn X self a) (.inl Db) h
end
noncomputable def uS(f:Str)(v:V):List (Str×V)->List (Str×V)
|[]=>[(f,v)]
| (g,x)::r=>if g=f then(g,v)::r else(g,x)::uS f v r
theorem BI(f g:Str)(v:V):∀fs:List (Str×V),(uS f v fs).lookup g=if g=f then some v else fs.lookup g
|[]=>by
 show kG g [(f,v)]=_;by_cases h:g=f
 ·have hb:(g==f)=true:=beq_iff_eq.mpr h;simp only[kG,hb,a9 h]
 ·have hb:(g==f)=false:=beq_eq_false_iff_ne.mpr h;simp only[kG,hb,a8 h]
| (k,x)::r=>by
 have b:=BI f g v r;rw[show uS f v ((k,x)::r)=(if k=f then(k,v)::r else(k,x)::uS f v r)from rfl];by_cases a:k=f
 ·rw[a9 a];by_cases h:g=k
  ·have hb:(g==k)=true:=beq_iff_eq.mpr h;simp only[kG,hb,a9 (h.trans a)]
  ·have hb:(g==k)=false:=beq_eq_false_iff_ne.mpr h;simp only[kG,hb,a8 (λe:g=f=>h (e.trans a.symm))]
 ·rw[a8 a];by_cases h:g=k
  ·have hb:(g==k)=true:=beq_iff_eq.mpr h;simp only[kG,hb,a8 (λe:g=f=>a (h.symm.trans e))]
  ·have hb:(g==k)=false:=beq_eq_false_iff_ne.mpr h;simp only[kG,hb];exact b
theorem AY(f:Str)(v:V):∀fs:List (Str×V),f∈(uS f v fs).map (·.1)/\∀g,g∈fs.map (·.1)->g∈(uS f v fs).map (·.1)
|[]=>⟨by simp[uS],λg h=>by simp at h⟩
| (k,x)::r=>by
 obtain⟨b,c⟩:=AY f v r;rw[show uS f v ((k,x)::r)=(if k=f then(k,v)::r else(k,x)::uS f v r)from rfl];by_cases a:k=f
 ·rw[a9 a];subst a;exact⟨Cy,λg h=>by simpa using h⟩
 ·rw[a8 a];refine⟨?_,λg h=>?_⟩
  ·rw[bS];exact aJ _ b
  ·rw[bS]at h |-
   rcases aK.mp h with e | e
   ·exact aK.mpr (.inl e)
   ·exact aJ _ (c g e)
theorem BL(f:Str)(v:V):∀fs:List (Str×V),(uS f v fs).length<=fs.length+1
|[]=>by simp[uS]
| (k,x)::r=>by
 have b:=BL f v r;rw[show uS f v ((k,x)::r)=(if k=f then(k,v)::r else(k,x)::uS f v r)from rfl];by_cases a:k=f
 ·rw[a9 a,dQ,dQ];lia
 ·rw[a8 a,dQ,dQ];lia
def tS.some_of(r:tS (some v) o):∃u,o=some u/\eZ v u:=by
 cases o with
 |none=>exact(show False from r).elim
 |some u=>exact⟨u,Db,r⟩
def tS.none_of(r:tS none o):o=none:=by
 cases o with
 |none=>rfl
 |some u=>exact(show False from r).elim
def SC(r:eZ v u):S9 u=true:=by
 cases v with
 |non=>cases (show u=g8 from r);rfl
 |bl b=>cases (show u=ax b from r);rfl
 |int i=>obtain⟨t,e⟩:=(show∃t,u=m6 i t from r);cases e;rfl
 |str x=>obtain⟨t,e⟩:=(show∃t,u=ae x t from r);cases e;rfl
 |byt b=>obtain⟨t,e⟩:=(show∃t,u=Value.bytes b t from r);cases e;rfl
 |flt b=>obtain⟨t,e⟩:=(show∃t,u=gh b t from r);cases e;rfl
 |ref a=>cases (show u=c9 a from r);rfl
 |ty n=>cases (show u=n7 n from r);rfl
section
variable{P:cW}{w:f7}{H:Hp}{h:Heap}{a C dx:Addr}{fs:List (Str×V)}
def CV(hok:pV P w H h)(e:H a=some (.ins C dx fs)):∃b,OB h a dx C b/\(∀f,tS (fs.lookup f) (b f))/\fo b (fs.map (·.1))/\fs.length<=1000/\H dx=some (.own a):=by
 obtain⟨d,z,ne,ob,b,n,r,q⟩:=(show iR P w H h a (.ins C dx fs)from hok a _ e);exact⟨b,⟨ob,n,ne⟩,r,q,z,d⟩
end
structure B9(K:aF)(C:Addr):Prop where
 pg:sG K C Str.empty=true
 hd:AK K C=true
 po:QR K C=true
 sa:dL K (.ref C) "__setattr__"=some (some (.builtin "object.__setattr__"))
def B9.get{K}{C:Addr}(c:B9 K C)(f:Str):sG K C f=true:=c.pg
def gG(K:aF)(C:Addr)(f:Str):Prop:=dL K (.ref C) f=some none
def gG.taker{K}{C:Addr}(n:gG K C f):CA K C f=some none:=by
 unfold CA;rw[show dL K (.ref C) f=some none from n]
 rfl
structure B7(K:aF)(C:Addr)(m:Str)(f:Addr):Prop where
 at_:dL K (.ref C) m=some (some (.ref f))
 fn:JA K (.ref f)=true
 kp:gB K (.ref f)=true
section
variable{X:Cx}{d:List (Addr×Obj)}{i:St}{H:Hp}{s:Shared}{a C dx:Addr}{fs:List (Str×V)}{f:Str}{v:V}{A:d9}{E:Value->Shared->Prop}
def EE{b:Bool}{Q:Value->Shared->Prop}(I:cU X d i H s)(e:H a=some (.ins C dx fs))(c:B9 X.K C)(n:gG X.K C f)(l:fs.lookup f=some v)
  (h:∀u j,cU X d i H j->eZ v u->Q u j):wpAny (model X.prog X.w) A (getAttr (.ref a) f b) Q E s:=by
 obtain⟨m,O,r,_,_,_⟩:=CV I.hok e;obtain⟨u,k,g⟩:=tS.some_of (v:=v) (o:=m f) (by rw[<- l];exact r f);exact Zx I.kIn O (c.get f) c.hd n k (SC g) (h u _ (I.tok _) g)
def yB{g:Addr}{Q:Value×List Value->Shared->Prop}(I:cU X d i H s)(e:H a=some (.ins C dx fs))(c:B9 X.K C)(k:B7 X.K C m g)(l:fs.lookup m=none)
  (h:Q (.ref g,[.ref a]) s):wpAny (model X.prog X.w) A (ef (.ref a) m pl) Q E s:=by
 obtain⟨j,O,r,_,_,_⟩:=CV I.hok e;have b:j m=none:=tS.none_of (by rw[<- l];exact r m);exact X1 I.kIn O (c.get m) k.at_ k.fn b h
def DH{Q:Unit->Shared->Prop}(I:cU X d i H s)(e:H a=some (.ins C dx fs))(c:B9 X.K C)(n:gG X.K C f)(J:fs.length<1000)(G:eZ y u)
  (h:∀m,cU X d i (eM H a (.ins C dx (uS f y fs))) m->Q () m):wpAny (model X.prog X.w) A (setAttr (.ref a) f u) Q E s:=by
 obtain⟨l,O,r,p,_,k⟩:=CV I.hok e;have F:(fs.map (·.1)).length<=bG:=by rw[aC,bh];lia
 refine aAt I.kIn O c.sa c.po n.taker c.hd p F λt j sb=>h _ ?_;have hd:∃o,t.get? dx=some o:=let ⟨o,_,_,e',_⟩:=j.ns;⟨o,e'⟩
 refine I.write (x:=a) (e:=dx) (by rw[e];exact e7) (.inr k) (λb q hb z=>(sb.2 b hb).trans z) hd ?_;refine⟨by rw[bV O.ne];exact k,?_,O.ne,j.obj,_,j.ns,λg=>?_,λg B=>?_⟩
 ·have:=BL f y fs;lia
 ·show tS ((uS f y fs).lookup g) (if g=f then some u else l g);rw[BI];by_cases q:g=f
  ·rw[a9 q,a9 q];exact G
  ·rw[a8 q,a8 q];exact r g
 ·by_cases q:g=f
  ·rw[q];exact(AY f y fs).1
  ·refine(AY f y fs).2 g (p g λz=>B ?_);show(if g=f then some u else l g)=none;rw[a8 q];exact z
def cU.made(I:cU X d i H s):cU X d i (eM (eM H s.heap.objs.size (.own (s.heap.objs.size+1))) (s.heap.objs.size+1) (.ins C s.heap.objs.size []))
  { s with heap:=(s.heap.push gX).push (jV C s.heap.objs.size) }:=by
 have c:(s.heap.push gX).get? s.heap.objs.size=some gX:=aU s.heap Db
 have h:((s.heap.push gX).push (jV C s.heap.objs.size)).get? (s.heap.objs.size+1)=some (jV C s.heap.objs.size):=by
  have:=aU (s.heap.push gX) (o:=jV C s.heap.objs.size) Db
  rwa [dX]at this
 have j:(s.heap.push gX).Ns s.heap.objs.size (λ_=>none):=⟨gX,#[],_,c,Db,(λe k=>c7 k Cy),λ_=>rfl⟩;have g:=I.laid (a:=s.heap.objs.size) (o:=.own (s.heap.objs.size+1)) (h':=s.heap.push gX) (t':=s.toks) (λb u q=>aD _ q) (aM _) ⟨_,c⟩;refine g.laid (a:=s.heap.objs.size+1) (o:=.ins C s.heap.objs.size []) (t':=s.toks) (λb u q=>aD _ q) (lU (dX _ _)) ?_;have ne:s.heap.objs.size≠s.heap.objs.size+1:=cL (mV _);refine⟨by rw[bV ne,bQ],cD _,ne,h,λ_=>none,(Heap.Ns1.of_empty j).at λo q=>aD _ q,λ_=>e7,λy l=>c7 Db l⟩
def aC4{f s}{Q:Value->Shared->Prop}(hb:h7 e f env (eval e env)=eval e env)
  (h:wpAny (model prog w) A (eval e env) (λo b=>wpAny (model prog w) A (getAttr o f true) Q E b) E s):wpAny (model prog w) A (eval (.Attribute e f pos) env) Q E s:=
 Attribute_any_ h (by rw[arm_eval_Attribute,hb])
end
def Kb(K:aF)(c:TE)(f:Str):TE:=λd H Q=>c d H λx b=>∃a C dx fs v,x=.ref a/\b a=some (.ins C dx fs)/\B9 K C/\gG K C f/\fs.lookup f=some v/\Q v b
def MY(K:aF)(e tv:TE)(f:Str):TS:=λD b H=>tv b H λy d=>e b d λx c=>∃a C dx fs,x=.ref a/\c a=some (.ins C dx fs)/\B9 K C/\gG K C f/\fs.length<1000 /\
 D.nx b (eM c a (.ins C dx (uS f y fs)))
def Ix(X:Cx)(a:Operator)(b:V->V->Hp->VK->Prop):Prop:=
 ∀pins s σ H(x y:V)(u v:Value)Q,cU X pins σ H s->eZ x u->eZ y v->b x y H Q->wpAny (model X.prog X.w) X.A (inplaceOp a u v) (EP X pins σ Q) X.xe s
def aA0(K:aF)(i tv:TE)(h:V->V->Hp->VK->Prop)(f:Str):TS:=λD d H=>i d H λx e=>∃a C dx fs v,x=.ref a/\e a=some (.ins C dx fs)/\B9 K C/\gG K C f/\fs.lookup f=some v /\
 tv d e λy g=>h v y g λz H3=>∃c b,H3 a=some (.ins C c b)/\b.length<1000/\D.nx d (eM H3 a (.ins C c (uS f z b)))
section
variable{X:Cx}{o e b:Expr}{f:Str}{pos d k:Pos}{g tv:TE}
def WG(t:PE X e g)(hb:h7 e f X.env (eval e X.env)=eval e X.env):PE X (.Attribute e f pos) (Kb X.K g f):=by
 intro i s A H Q I h;refine aC4 hb (jG (t i s A H _ I h) λu B z=>?_);obtain⟨x,j,m,y,a,C,dx,fs,v,ex,r,c,n,l,q⟩:=z;subst ex;obtain rfl:u=c9 a:=y;exact EE m r c n l λF E p w=>⟨v,j,p,w,q⟩
def xX(w:PE X o g)(A:PE X b tv)(z:lT b (some (.Attribute o f d)) pos.line X.env=pure false):PS X (.Assign [.Attribute o f d] b pos) (MY X.K g tv f):=by
 intro i s j H D I h;refine plainObj_wpAny_Assign_Attribute (jG (A i s j H _ I h) λu J ⟨y,m,p,G,q⟩=>jG (w i J j m _ p q) λB N L=>?_) z;obtain⟨x,M,r,F,a,C,dx,fs,ex,v,c,n,l,E⟩:=L;subst ex;obtain rfl:B=c9 a:=F;exact DH r v c n l G λs3 t=>⟨j,_,t,E⟩
def RG{t:V->V->Hp->VK->Prop}(O:PE X o g)(P:PE X b tv)(p:Ix X op t):PS X (.AugAssign (.Attribute o f k) op b pos) (aA0 X.K g tv t f):=by
 intro i s j H D I h;refine wpAny_AugAssign_AttributeAny (jG (O i s j H _ I h) λR s1 r=>?_);obtain⟨x,w,B,W,a,C,dx,fs,v,ex,M,c,n,l,q⟩:=r;subst ex;obtain rfl:R=c9 a:=W;refine EE B M c n l λu s2 E U=>jG (P i s2 j w _ E q) λw3 s3 ⟨y,A,F,Y,S⟩=>jG (p i s3 j A v y u w3 _ F U Y S) λw4 s4 r=>?_;obtain⟨z,H3,G,Z,L,N,m,Q,T⟩:=r;exact DH G m c n Q Z λs5 J=>⟨j,_,J,T⟩
def Pi:V->V->Hp->VK->Prop:=λx y H Q=>∃i j,x=.int i/\y=.int j/\Q (.int (i+j)) H
def Wu:Ix X .Add Pi:=by
 rintro a s m H x y u v Q I h l ⟨i,j,rfl,rfl,q⟩;obtain⟨t,rfl⟩:=(show∃t,u=m6 i t from h);obtain⟨c,rfl⟩:=(show∃c,v=m6 j c from l);exact PyProof.Rows.iadd_int ⟨.int (i+j),H,I.tok _,⟨_,Db⟩,q⟩
end
section
variable{X:Cx}{d:List (Addr×Obj)}{f:St}{H:Hp}{s:Shared}{A:d9}{E:Value->Shared->Prop}{Q:Value->Shared->Prop}{c:Value}{b:Bool}
inductive B6(K:aF)(H:Hp):V->Value->Prop where
|non:B6 K H .non (.type "NoneType")
|bl (x:Bool):B6 K H (.bl x) (.type "bool")
|int (i:Int):B6 K H (.int i) (.type "int")
|str (x:Str):B6 K H (.str x) (.type "str")
|flt (x:UInt64):B6 K H (.flt x) (.type "float")
|lst {a:Addr} {xs:List V} (e:H a=some (.lst xs)):B6 K H (.ref a) (.type "list")
|frz {a:Addr} {o:Obj} {xs:List V} (e:H a=some (.frz o (.lst xs))):B6 K H (.ref a) (.type "list")
|tup {a:Addr} {xs:List V} (e:H a=some (.tup xs)):B6 K H (.ref a) (.type "tuple")
|dK {a:Addr} {kvs:List (jB×V)} (e:H a=some (.dK kvs)):B6 K H (.ref a) (.type "dict")
|dT {a:Addr} {kvs:List (List jB×V)} (e:H a=some (.dT kvs)):B6 K H (.ref a) (.type "dict")
|ins {a C dx:Addr} {fs:List (Str×V)} (e:H a=some (.ins C dx fs)) (cl:B9 K C) (ha:dL K (.ref C) "__class__"=some (some (.builtin "object.__class__")))
  (hn:PySem.W.specialIn K (.builtin "object.__class__") "__get__"=some (some (.builtin "getset_descriptor.__get__"))) (wb:PySem.W.takesIn K (.builtin "object.__class__")=some true)
  (hm:bJ K C (.type "object")=some true):B6 K H (.ref a) (.ref C)
def wI{x}(I:cU X d f H s)(g:eZ x u)(ty:B6 X.K H x t)(e:bX X.K t c=some b)(h:∀v,Q (.bool b) { s with toks:=v }) :
  wpAny (model X.prog X.w) A (call (.builtin "isinstance") [u,c]) Q E s:=by
 cases ty with
 |non=>cases (show u=g8 from g);exact eF PySem.W.kitx_none I.kIn e7 e (λz=>nomatch z) h
 |bl y=>cases (show u=ax y from g);exact eF PySem.W.kitx_bool I.kIn e7 e (λz=>nomatch z) h
 |int i=>obtain⟨t,q⟩:=(show∃t,u=m6 i t from g);cases q;exact eF PySem.W.kitx_int I.kIn e7 e (λz=>nomatch z) h
 |str y=>obtain⟨t,q⟩:=(show∃t,u=ae y t from g);cases q;exact eF PySem.W.kitx_str I.kIn e7 e (λz=>nomatch z) h
 |flt y=>obtain⟨t,q⟩:=(show∃t,u=gh y t from g);cases q;exact eF PySem.W.kitx_float I.kIn e7 e (λz=>nomatch z) h
 |@lst a k ea=>
  cases (show u=c9 a from g);obtain⟨_,_,n,_,j⟩:=(show iR X.prog X.w H s.heap a (.lst k)from I.hok a _ ea);exact eF qX I.kIn ⟨_,j,Db⟩ e (λz=>nomatch z) h
 |@frz a ob k ea=>
  cases (show u=c9 a from g);obtain⟨_,_,_,n,_,j⟩:=(show iR X.prog X.w H s.heap a (.frz ob (.lst k))from I.hok a _ ea);exact eF qX I.kIn ⟨_,j,Db⟩ e (λz=>nomatch z) h
 |@tup a k ea=>
  cases (show u=c9 a from g);obtain⟨_,_,_,p⟩:=(show iR X.prog X.w H s.heap a (.tup k)from I.hok a _ ea);obtain⟨o,j,l,_⟩:=p;exact eF OF I.kIn ⟨o,j,l⟩ e (λz=>nomatch z) h
 |@dK a kvs ea=>
  cases (show u=c9 a from g);obtain⟨_,_,vs,_,p⟩:=(show iR X.prog X.w H s.heap a (.dK kvs)from I.hok a _ ea);obtain⟨o,r,m,j,l,_⟩:=p;exact eF QS I.kIn ⟨o,j,l.1⟩ e (λz=>nomatch z) h
 |@dT a kvs ea=>
  cases (show u=c9 a from g);obtain⟨_,_,k,_,o,r,m,j,l,_⟩:=(show iR X.prog X.w H s.heap a (.dT kvs)from I.hok a _ ea);exact eF QS I.kIn ⟨o,j,l.1⟩ e (λz=>nomatch z) h
 |@ins a C dx fs ea cl ha hn wb hm=>
  cases (show u=c9 a from g);obtain⟨B,O,_⟩:=CV I.hok ea;obtain⟨F,J,_⟩:=O.look;exact eF (PySem.W.kitx_own (cl.get _) cl.hd ha hn wb hm) I.kIn J e (λz=>nomatch z) h
end
structure gQ(k:Nat)(A:d9):Prop where
 hd:A.handled=none
 dp:A.depth+3*k+5<bg
 un:A.units+16*k+200<v7
 gd:A.guards=some []
def gQ.mono{j k:Nat}(r:gQ k A)(h:j<=k):gQ j A:=⟨r.hd,by have:=r.dp;lia,by have:=r.un;lia,r.gd⟩
theorem gQ.deeper{k:Nat}{A:d9}(r:gQ (k+1) A)(env:Env):gQ k (A.deeper env):=
 ⟨r.hd,by have:=r.dp;show A.depth+1+3*k+5<_;lia,by have:=r.un;show A.units+3+16*k+200<_;lia,r.gd⟩
theorem gQ.in1{k:Nat}{A:d9}(r:gQ (k+1) A):gQ k A.in1:=
 ⟨r.hd,by have:=r.dp;show A.depth+3*k+5<_;lia,by have:=r.un;show A.units+1+16*k+200<_;lia,r.gd⟩
def NN{A:d9}{C:Addr}:(A.under (.builtin "type.__call__" ⟨.ref C::us,kw⟩)).depth=A.depth+1:=by
 first | rfl | simp[az,Code.weight,Code.isCreation,Code.isGuard,Code.isCaller,Code.frames,gf,guardIds]
def NM{A:d9}{C:Addr}:(A.under (.builtin "type.__call__" ⟨.ref C::us,kw⟩)).units=A.units+1:=by
 first | rfl | simp[az,Code.cUnits,Code.frames,gf]
def gQ.make{k:Nat}{A:d9}(r:gQ (k+1) A)(C:Addr)(b:List Value)(a:List (Str×Value)):gQ k (A.under (.builtin "type.__call__" ⟨.ref C::b,a⟩)):=
 ⟨r.hd,by have:=r.dp;rw[NN];lia,by have:=r.un;rw[NM];lia,by first | exact r.gd | (simp[az,Code.isGuard,guardIds];exact r.gd)⟩
theorem gQ.depth{k:Nat}{A:d9}(r:gQ k A):A.depth<bg:=by have:=r.dp;lia
theorem gQ.units{k:Nat}{A:d9}(r:gQ k A):A.units+64<v7:=by have:=r.un;lia
def BY:TA:=λ_ H Q=>Q [] H
def tZ(d:TE)(tr:TA):TA:=λa H Q=>d a H λx b=>tr a b λe c=>Q (x::e) c
section
variable{X:Cx}{e:Expr}{a:List Expr}{c:TE}{t:TA}{pos:Pos}
def gM:PA X [] BY:=λ_ _ _ _ H Q I h=>Calls.spliced_nil ⟨[],H,I,.nil,h⟩
def cI(k:PE X e c)(l:PA X a t)(m:bI (e::a) X.env=(false,eval e X.env)::bI a X.env:=by rfl):PA X (e::a) (tZ c t):=by
 intro pos b s d H Q I h;rw[m];show wpAny _ _ (kq ((false,eval e X.env)::i9 pos (bI a X.env))) _ _ s;refine aw (jG (k b s d H _ I h) λu r w=>?_);obtain⟨x,f,i,p,n⟩:=w;exact jG (l pos b r d f _ i n) λz y ⟨v,g,j,q,o⟩=>⟨x::v,g,j,.cons p q,o⟩
def Kc(t:TA):TE:=λf H Q=>t f H λd b=>d.length<=bG/\∀p,b p=none->Q (.ref p) (eM b p (.tup d))
def Oy(t:TA):TE:=λf H Q=>t f H λd b=>d.length<=bG/\∀p,b p=none->Q (.ref p) (eM b p (.lst d))
def DS(h:PA X a t):PE X (.Tuple a x1 pos) (Kc t):=by
 intro d s n H Q I k;refine rn (jG (h pos d s n H _ I k) λl f ⟨m,g,i,r,z,q⟩=>⟨by rw[<- r.length];exact z,?_⟩);have j:g f.heap.objs.size=none:=i.hok.fresh (aM _);refine⟨.ref f.heap.objs.size,eM g f.heap.objs.size (.tup m),i.laid (t':=f.toks) (λb u e=>aD _ e) (aM _) ?_,Db,q _ j⟩;exact⟨z,l,r,⟨_,aU _ Db,Db,_,Db,Db⟩⟩
def M8(h:PA X a t):PE X (.List a pos) (Oy t):=by
 intro d s n H Q I k;refine wpAny_List_spliced (jG (h pos d s n H _ I k) λl f ⟨m,g,i,r,z,q⟩=>⟨by rw[<- r.length];exact z,?_⟩);have j:g f.heap.objs.size=none:=i.hok.fresh (aM _);refine⟨.ref f.heap.objs.size,eM g f.heap.objs.size (.lst m),i.laid (t':=f.toks) (λb u e=>aD _ e) (aM _) ?_,Db,q _ j⟩;exact⟨z,l,0,r,aU _ Db⟩
end
abbrev Sp:=List V->Hp->VK->XK->Prop
abbrev Y5:=List Env->Hp->Shared->XK->Value->Shared->Prop
structure OD(P:cW)(w:f7)(K:aF)(mg:Str->Option Value)(base:Heap)(A:d9)(outer:List Env)(s:Shared)(H:Hp):Prop where
 frames:A.frames=some outer
 mod:Mod K mg base
 bs:∀b o,base.get? b=some o->s.heap.get? b=some o/\H b=none
 bsz:base.objs.size<=s.heap.objs.size
 funs:s.heap.FunFrames base outer
 frf:∀b∈pS outer,H b=none
 hok:pV P w H s.heap
 bare:v9 s.gens
 tab:Tb H
def CE(outer:List Env)(P:cW)(w:f7)(H:Hp)(s:Shared)(Q:VK)(u:Value)(a:Shared):Prop:=
 ∃v b,a.os=s.os/\v9 a.gens/\Un (pS outer) [] H b s.heap a.heap/\pV P w b a.heap/\eZ v u/\Q v b
def CR(b:Y5)(outer:List Env)(P:cW)(w:f7)(H:Hp)(s:Shared)(Q:VK)(E:XK)(r:Result)(a:Shared):Prop:=
 match r with
 |.ok (.ret u)=>CE outer P w H s Q u a
 |.ok _=>False
 |.error e=>b outer H s E e a
structure dI(P:cW)(w:f7)(K:aF)(mg:Str->Option Value)(base:Heap)(CX:Y5)(k:Nat)(f:Addr)(fd:iF)(ps:List Str)(sp:Sp):Prop where
 len:∀vs H Q E,sp vs H Q E->vs.length=ps.length
 run:∀A outer s H(args:Args)(us:List Value)(vs:List V)Q E,gQ k A->OD P w K mg base A outer s H->BindsTo s fd args (ps.zip us)->eW vs us->sp vs H Q E ->
  x6 (model P w) A (.call (.ref f) args) (CR CX outer P w H s Q E) s
def dI.imp{K}{mg:Str->Option Value}{k:Nat}{f:Addr}{c b:Sp}(F:dI P w K mg base CX k f fd ps c)
  (h:∀vs H Q E,b vs H Q E->c vs H Q E):dI P w K mg base CX k f fd ps b:=
 ⟨λvs H Q E q=>F.len vs H Q E (h _ _ _ _ q),λA outer s H a j vs Q E e d hb i g=>F.run A outer s H a j vs Q E e d hb i (h _ _ _ _ g)⟩
def OD.make{K}{mg:Str->Option Value}{A:d9}(e:OD P w K mg base A outer s H)(C:Addr)(b:List Value)(a:List (Str×Value)) :
  OD P w K mg base (A.under (.builtin "type.__call__" ⟨.ref C::b,a⟩)) outer s H:=⟨by first | exact e.frames | (simpa[az,Code.envs,gf,pushEnvs]using e.frames),e.mod,e.bs,e.bsz,e.funs,e.frf,e.hok,e.bare,e.tab⟩
section
variable{X:Cx}{a:List (Addr×Obj)}{f:St}{H:Hp}{s c:Shared}
def cU.env0(I:cU X a f H s):OD X.prog X.w X.K X.mg X.base X.A X.stack s H:=
 ⟨I.ok.frames,I.ok.mod,I.bs,bL I.ok.bsz I.sz,I.stack,I.stkFree,I.hok,I.bare,λP e=>let ⟨ps,h⟩:=I.ok.tab P e;let ⟨m,h'⟩:=I.base.tbls P ps h;⟨_,h'⟩⟩
def cU.after(I:cU X a f H s)(h:CE X.stack X.prog X.w H s Q u c):EP X a f Q u c:=by
 obtain⟨v,i,os,bare,un,hok,r,q⟩:=h;obtain⟨j,g,d,t,e⟩:=c;obtain rfl:e=s.os:=os;exact⟨v,i,I.call (h':=j) (g':=g) (d':=d) (t':=t) (ch:=[]) un hok bare (λb z=>c7 z Cy),r,q⟩
end
def BF(c:Sp)(a:List V)(E:XK)(t:TA):TE:=λd H Q=>t d H λvs b=>c (vs++a) b Q E
def DB(C:Addr)(m:Str)(f:Sp)(b:List V)(E:XK)(g:TE)(t:TA):TE:=λd H Q=>g d H λx c=>∃a dx fs,x=.ref a/\c a=some (.ins C dx fs)/\fs.lookup m=none /\
 t d c λvs e=>f (x::(vs++b)) e Q E
def Lw(C:Addr)(d:Sp)(b:List V)(E:XK)(t:TA):TE:=λe H Q=>t e H λvs a=>∀x dx,a x=none->a dx=none->dx≠x ->
 d (.ref x::(vs++b)) (eM (eM a dx (.own x)) x (.ins C dx [])) (λv c=>v=.non/\Q (.ref x) c) E
def qF(K:aF)(d:iF)(c:List Str)(b:List Value):Prop:=
 ∀(s:Shared)(a:List Value),K.In s.heap->(a++b).length=c.length->BindsTo s d ⟨a,[]⟩ (c.zip (a++b))
def qF.all{K}{b:List Str}(h:∀a:List Value,a.length=b.length->bindArgs fd ⟨a,[]⟩=pure (b.zip a)):qF K fd b []:=λs a _ c=>by
 rw[dW]at c |-
 exact .of_eq (h a c)
def vG(a:Y5)(X:Cx)(E:XK):Prop:=∀pins σ H s(e:Value)s',cU X pins σ H s->a X.stack H s E e s'->X.xe e s'
section
variable{X:Cx}{n:Y5}{k:Nat}{f C:Addr}{y:iF}{j:List Str}{z:Sp}{b:List V}{g:List Value}{E:XK}{x m:Str}{p pos d:Pos}{e o:Expr}{i:List Expr}{B:TE}{t:TA}
def MZ(F:dI X.prog X.w X.K X.mg X.base n k f y j z)(q:gQ k X.A)(hb:qF X.K y j g)(hd:eW b g)(v:vG n X E)
  (I:cU X pins σ H s) (r:eW vs us) (h:z (vs++b) H Q E):wpAny (model X.prog X.w) X.A (call (.ref f) us) (EP X pins σ Q) X.xe s:=by
 have c:eW (vs++b) (us++g):=r.append hd;have l:(us++g).length=j.length:=by rw[<- c.length];exact F.len _ _ _ _ h
 refine ik (ai (F.run X.A X.stack s H ⟨us,[]⟩ (us++g) (vs++b) Q E q I.env0 (hb s us I.kIn l) c h) λr G a=>?_)
 cases r with
 |error e=>exact v pins σ H s e G I a
 |ok fl=>
  cases fl with
  |ret u=>exact I.after a
  |next=>exact g7 a
  |brk=>exact g7 a
  |cont=>exact g7 a
def lY(F:dI X.prog X.w X.K X.mg X.base n k f y j z)(N:gQ k X.A)(J:Gl X x)(M:X.mg x=some (.ref f))(L:gB X.K (.ref f)=true)(hb:qF X.K y j g)(hd:eW b g)(O:vG n X E)
  (v:PA X (e::i) t) (c:(x==("__debug__":Str))=false:=by decide) (G:bI (e::i) X.env=(false,eval e X.env)::bI i X.env:=by rfl) (l:(i9 pos (bI i X.env)).any (·.1)=false:=by rfl) :
  PE X (.Call (.Name x p) (e::i) [] pos) (BF z b E t):=by
 intro a s P H Q I h;refine t6 (tL I J M ?_ c);refine qH (h₀:=X.base) I.ok.mod.kin L (jG (v pos a s P H _ I h) λT S ⟨vs,R,u,r,q⟩=>⟨u.kIn,?_⟩) G l;exact MZ F N hb hd O u r q
def lH(T:PE X o B)(c:B9 X.K C)(N:B7 X.K C m f)(F:dI X.prog X.w X.K X.mg X.base n k f y j z)(U:gQ k X.A)(hb:qF X.K y j g)(hd:eW b g)(Y:vG n X E)(S:PA X (e::i) t)
  (J:bI (e::i) X.env=(false,eval e X.env)::bI i X.env:=by rfl) (G:(i9 pos (bI i X.env)).any (·.1)=false:=by rfl)
  (W:eval (.Call (.Attribute o m d) (e::i) [] pos) X.env=(do
   let ov <- eval o X.env
   cu d.atName
   let (f,first) <- al [ov] (ef ov m pl)
   callWith pos f first (i9 pos (bI (e::i) X.env)) (oa pos (fh [] X.env))):=by rfl) :
  PE X (.Call (.Attribute o m d) (e::i) [] pos) (DB C m z b E B t):=by
 intro v s O H Q I h;refine uF (pl:=pl) (jG (T v s O H _ I h) λu s1 zq=>?_) W;obtain⟨x,P,L,rx,a,dx,fs,ex,R,l,q⟩:=zq;subst ex;obtain rfl:u=c9 a:=rx;refine yB L R c N l ?_;refine qH (first:=[.ref a]) (h₀:=X.base) I.ok.mod.kin N.kp (jG (S pos v s1 O P _ L q) λus s2 ⟨vs,H2,M,r,Z⟩=>⟨M.kIn,?_⟩) J G;exact MZ (us:=.ref a::us) (vs:=.ref a::vs) F U hb hd Y M (.cons Db r) Z
def qB(L:PE X o B)(c:B9 X.K C)(G:B7 X.K C m f)(F:dI X.prog X.w X.K X.mg X.base n k f y j z)(M:gQ k X.A)(hb:qF X.K y j g)(hd:eW b g)(O:vG n X E)
  (N:eval (.Call (.Attribute o m d) [] [] pos) X.env=(do
   let ov <- eval o X.env
   cu d.atName
   let (f,first) <- al [ov] (ef ov m pl)
   callWith pos f first (i9 pos (bI [] X.env)) (oa pos (fh [] X.env))):=by rfl) :
  PE X (.Call (.Attribute o m d) [] [] pos) (DB C m z b E B BY):=by
 intro r s S H Q I h;refine uF (pl:=pl) (jG (L r s S H _ I h) λu U R=>?_) N;obtain⟨x,T,v,P,a,dx,fs,ex,J,l,q⟩:=R;subst ex;obtain rfl:u=c9 a:=P;refine yB v J c G l ?_;exact PySem.W.callWith_K0 (first:=[.ref a]) v.kIn G.kp (MZ (us:=[.ref a]) (vs:=[.ref a]) F M hb hd O v (.cons Db .nil) q)
structure Mk(K:aF)(C f:Addr):Prop where
 makes:T3 K C=true
 init:dL K (.ref C) "__init__"=some (some (.ref f))
 fn:JA K (.ref f)=true
 kp:gB K (.ref C)=true
def VP{H:Hp}{Q:VK}(M:Mk X.K C f)(F:dI X.prog X.w X.K X.mg X.base n k f y j z)(P:gQ (k+1) X.A)(hb:qF X.K y j g)(hd:eW b g)
  (R:vG n X E) (I:cU X pins σ H s) (r:eW vs us)
  (h:∀x dx,H x=none->H dx=none->dx≠x->z (.ref x::(vs++b)) (eM (eM H dx (.own x)) x (.ins C dx [])) (λv J=>v=.non/\Q (.ref x) J) E) :
  wpAny (model X.prog X.w) X.A (call (.ref C) us) (EP X pins σ Q) X.xe s:=by
 have l:=h (s.heap.objs.size+1) s.heap.objs.size (I.hok.fresh (pW _)) (I.hok.fresh (aM _)) (cL (mV _));have c:=cU.made (C:=C) I;have q:eW (V.ref (s.heap.objs.size+1)::(vs++b)) (c9 (s.heap.objs.size+1)::(us++g)):=.cons Db (r.append hd)
 have O:(c9 (s.heap.objs.size+1)::us++g).length=j.length:=by
  have e:=q.length;rw[F.len _ _ _ _ l]at e;exact e.symm
 refine ik (W8 (f:=f) I.kIn M.makes M.init (beq_iff_eq.mp M.fn) (ai (F.run _ X.stack _ _ ⟨c9 (s.heap.objs.size+1)::us,[]⟩ (c9 (s.heap.objs.size+1)::(us++g)) _ _ E (P.make C us [])
  (c.env0.make C us []) (hb _ (c9 (s.heap.objs.size+1)::us) c.kIn O) q l) λr U a=>?_))
 cases r with
 |error e=>exact R pins σ _ _ e U c a
 |ok fl=>
  cases fl with
  |ret u=>
   obtain⟨v,G,L,T,N,S⟩:=c.after a;subst N;exact⟨T,⟨V.ref (s.heap.objs.size+1),G,L,Db,S⟩⟩
  |next=>exact g7 a
  |brk=>exact g7 a
  |cont=>exact g7 a
def O8(M:Mk X.K C f)(F:dI X.prog X.w X.K X.mg X.base n k f y j z)(N:gQ (k+1) X.A)(J:Gl X x)(L:X.mg x=some (.ref C))(hb:qF X.K y j g)(hd:eW b g)(O:vG n X E)
  (v:PA X (e::i) t) (c:(x==("__debug__":Str))=false:=by decide) (G:bI (e::i) X.env=(false,eval e X.env)::bI i X.env:=by rfl) (l:(i9 pos (bI i X.env)).any (·.1)=false:=by rfl) :
  PE X (.Call (.Name x p) (e::i) [] pos) (Lw C z b E t):=by
 intro a s P H Q I h;refine t6 (tL I J L ?_ c);refine qH (h₀:=X.base) I.ok.mod.kin M.kp (jG (v pos a s P H _ I h) λT S ⟨vs,R,u,r,q⟩=>⟨u.kIn,?_⟩) G l;exact VP M F N hb hd O u r q
end
structure bZ(N P:List Str)(sc:Scope):Prop where
 kind:sc.kind=.function
 co:sc.isCoroutine=false
 gen:sc.isGenerator=false
 nd:N.Nodup
 pre:N.take P.length=P
 par:∀x∈P,sc.names.lookup x=some .local\/sc.names.lookup x=some .cell
 nofree:∀y∈sc.names,y.2≠.free
theorem GW{kindOf:Str->Option m3}{x}:∀{binds}{m:Str->Option Value},(∀v,(x,v)∉binds)->bindL kindOf binds m x=m x
|[],_,_=>rfl
| (n,v)::r,m,h=>by
 unfold bindL;rw[GW λw hw=>h w (aJ _ hw)];split
 ·have:x≠n:=by rintro rfl;exact h v aN
  simp[this]
 ·rfl
theorem GY{kindOf:Str->Option m3}{x}:∀{binds}{m:Str->Option Value},(∀v,(x,v)∉binds)->bindC kindOf binds m x=m x
|[],_,_=>rfl
| (n,v)::r,m,h=>by
 unfold bindC;rw[GY λw hw=>h w (aJ _ hw)];split
 ·rfl
 ·have:x≠n:=by rintro rfl;exact h v aN
  simp[this]
theorem GX{kindOf:Str->Option m3}{x}:∀{P:List Str}{vs}{i:Nat}{m:Str->Option Value},P.Nodup->P[i]?=some x->vs[i]?=some v->kindOf x=some .local ->
 bindL kindOf (P.zip vs) m x=some v
|[],_,_,_,_,h,_,_=>by simp at h
|_::_,[],_,_,_,_,h,_=>by simp at h
|p::P,w::vs,0,m,nd,h1,h2,hk=>by
 simp at h1 h2;subst h1;subst h2;show bindL kindOf ((p,w)::P.zip vs) m p=_;unfold bindL;rw[GW λv a=>(kE.mp nd).1 (FD a).1,a9 hk];simp
|p::P,w::vs,i+1,m,nd,h1,h2,hk=>by
 show bindL kindOf ((p,w)::P.zip vs) m x=_;unfold bindL;exact GX (i:=i) (kE.mp nd).2 (by simpa using h1) (by simpa using h2) hk
theorem GZ{kindOf:Str->Option m3}{x}:∀{P:List Str}{vs}{i:Nat}{m:Str->Option Value},P.Nodup->P[i]?=some x->vs[i]?=some v->kindOf x≠some .local ->
 bindC kindOf (P.zip vs) m x=some v
|[],_,_,_,_,h,_,_=>by simp at h
|_::_,[],_,_,_,_,h,_=>by simp at h
|p::P,w::vs,0,m,nd,h1,h2,hk=>by
 simp at h1 h2;subst h1;subst h2;show bindC kindOf ((p,w)::P.zip vs) m p=_;unfold bindC;rw[GY λv a=>(kE.mp nd).1 (FD a).1,a8 hk];simp
|p::P,w::vs,i+1,m,nd,h1,h2,hk=>by
 show bindC kindOf ((p,w)::P.zip vs) m x=_;unfold bindC;exact GZ (i:=i) (kE.mp nd).2 (by simpa using h1) (by simpa using h2) hk
noncomputable def mE(N:List Str)(vs:List V):St:=vs.map some++G4 (N.length-vs.length) none
noncomputable def rF(CX:Y5)(P:cW)(w:f7)(K:aF)(mg:Str->Option Value)(base:Heap)(N:List Str)(qual:Str)(scope:Scope)(f:Addr)(cd:Value)(A:d9)(outer:List Env)(s:Shared)(H:Hp)(E:XK):Cx where
 prog:=P
 w:=w
 K:=K
 mg:=mg
 base:=base
 A:=A.deeper (i3 qual scope s.heap.objs.size f cd)
 N:=N
 s₀:=s
 H₀:=H
 env:=i3 qual scope s.heap.objs.size f cd
 outer:=outer
 stack:=i3 qual scope s.heap.objs.size f cd::outer
 ex:=[]
 calm:=true
 fn:=λ_=>true
 pn:=[]
 xe:=λe s'=>wpAny (model P w) (A.deeper (i3 qual scope s.heap.objs.size f cd)) (cr (i3 qual scope s.heap.objs.size f cd) e) (λ_ xh=>CX outer H s E e xh) (λe' xh=>CX outer H s E e' xh) s'
def LP{a:Scope}{n:Nat}{x}(h:a.names.lookup x=some .cell):∃c,(y0 n a.names []).lookup x=some c:=by
 have q:=JB a.names n [] (.inl h);exact Option.isSome_iff_exists.mp q
def R7{K}{mg:Str->Option Value}{N l:List Str}{d:Scope}{f:Addr}{cd}{A:d9}{s G:Shared}{vs:List V}
  (S:bZ N l d) (hd:A.handled=none) (j:OD P w K mg base A outer s H) (O:vs.length=l.length) (r:eW vs us)
  (x:InCallC s s.heap.objs.size (bindL (i3 qual d s.heap.objs.size f cd).kindOf (l.zip us) λ_=>none) (y0 (s.heap.objs.size+1) d.names []) (bindC (i3 qual d s.heap.objs.size f cd).kindOf (l.zip us) λ_=>none) G) :
  cU (rF CX P w K mg base N qual d f cd A outer s H E) [] (mE N vs) H G:=by
 have J:l.length<=N.length:=by have:=h9 kH S.pre;rw[bN]at this;lia
 obtain⟨t,Q,rfl,C⟩:=x.done;have Dc:∀b:Addr,b∉(rF CX P w K mg base N qual d f cd A outer s H E).ex:=λb z=>c7 (show b∈([]:List Addr)from z) Cy
 refine⟨⟨j.mod,S.kind,Db,Db,aM _,λy z c t g=>?_,λy hy=>?_,λy c _ h=>?_,λ_=>hd,gb j.frames,.inr ⟨Db,Db⟩,λb z=>c7 z (Dc b),j.bs,j.bsz,λb _ _=>Dc b,λb z=>c7 z (Dc b),j.funs,j.frf,j.tab⟩,
  rfl,j.bare,Un.kept C,⟨_,x.toInCall.ns,λi y v t g M=>?_⟩,λy c h=>⟨_,x.cell y c h⟩,j.hok.fresh (aM _),λy c h=>?_,λp m=>c7 (show p∈([]:List (Addr×Obj))from m) Cy,j.hok.kept C,?_⟩
 ·exact name_of_addr x.apart (i0 t) (i0 g)
 ·have hy:d.names.lookup y=some .cell\/d.names.lookup y=some .free:=hy;rcases hy with hy | hy
  ·exact LP hy
  ·exact c7 Db (S.nofree _ (i0 hy))
 ·exact hV (x.above y c (i0 h))
 ·have B:i<vs.length:=by
   unfold mE at g;by_cases B:i<vs.length
   ·exact B
   ·rw[eD (by simpa using B)]at g;rw[lE]at g;split at g<;>cases g
  have I:vs[i]?=some v:=by
   unfold mE at g;rw[eG (by simpa using B),aO]at g
   cases e:vs[i]? with
   |none=>rw[e]at g;cases g
   |some a=>rw[e]at g;cases g;rfl
  obtain⟨u,F,L⟩:=r.get I
  have m:l[i]?=some y:=by
   rw[<- S.pre,List.getElem?_take_of_lt Cw];exact t
  have o:l.Nodup:=by rw[<- S.pre];exact S.nd.sublist (BS _ _)
  refine⟨u,L,?_⟩;rcases S.par y (bB m)with k | k
  ·exact .inl ⟨k,GX o m F k⟩
  ·obtain⟨c,e⟩:=LP (n:=s.heap.objs.size+1) k;refine .inr ⟨.inl k,c,e,?_⟩;have q:=x.cell y c e;rw[GZ o m F (by show d.names.lookup y≠_;rw[k];decide)]at q;exact q
 ·exact j.hok.fresh (hV (x.above y c (i0 h)))
 ·unfold mE;show _=N.length;rw[bP,aC,List.length_replicate];lia
def X5{K:aF}{mg:Str->Option Value}{k:Nat}{f:Addr}{name kV}
   {N l:List Str} {F:Sp} (Y:K.lookup f=some ⟨oc,od,.func (nO name qual params body scope dV kV qy pm an ee ct),sj⟩) (m:qG K ee qual=true) (S:bZ N l scope)
  (len:∀vs H Q E,F vs H Q E->vs.length=l.length)
  (d:∀(A:d9)outer(s:Shared)H(vs:List V)Q E,gQ k (A.deeper (i3 qual scope s.heap.objs.size f ee))->F vs H Q E ->
   ∃t,A9 (rF CX P w K mg base N qual scope f ee A outer s H E) body t/\t { nx:=λ_ c=>Q .non c,rt:=Q } (mE N vs) H) :
  dI P w K mg base CX (k+1) f (nO name qual params body scope dV kV qy pm an ee ct) l F:=by
 refine⟨len,λA outer s H L Z vs Q E p i hb r j=>?_⟩;have R:=len _ _ _ _ j;have G:K.In s.heap:=i.mod.kin.keeps λb o e=>(i.bs b o e).1;have z:s.heap.NoLimit:=i.mod.nolimit.keeps λb o e=>(i.bs b o e).1
 have g:∀y∈l.zip Z,scope.names.lookup y.1=some .local\/(scope.names.lookup y.1=some .cell/\((y0 (s.heap.objs.size+1) scope.names []).lookup y.1).isSome=true):=λ⟨n,v⟩ X=>by
  rcases S.par n (FD X).1 with q | q
  ·exact .inl q
  ·exact .inr ⟨q,JB _ _ _ (.inl q)⟩
 refine codeAny_call_function p.depth (G _ _ Y) Db S.co S.gen Db (PySem.W.codeRec_of G m) (hb _ _ _ _ ?_);refine wpAny_newFunctionEnv_cells S.kind g λenv O M x=>?_;subst O;refine⟨z.keeps x.toInCall.keep,codeAny_func ?_⟩;obtain⟨t,U,T⟩:=d A outer s H vs Q E (p.deeper _) j;have I:cU (rF CX P w K mg base N qual scope f ee A outer s H E) [] (mE N vs) H M:=R7 S p.hd i R r x;refine dN (U [] M (mE N vs) H _ I T) (λfl C h=>?_) λe C h=>h
 have fin:∀{a:St}{c:Hp}{v:V}{u:Value},cU (rF CX P w K mg base N qual scope f ee A outer s H E) [] a c C->eZ v u->Q v c->CE outer P w H s Q u C:=
  λ{a c v u} J B q=>⟨v,c,J.os,J.bare,J.base,J.hok,B,q⟩
 cases fl with
 |ret u=>
  obtain⟨v,a,c,J,B,q⟩:=h;exact fin J B q
 |next=>
  obtain⟨a,c,J,q⟩:=h;exact fin (v:=V.non) (u:=g8) J Db q
 |brk=>
  obtain⟨_,_,_,q⟩:=h;exact g7 q
 |cont=>
  obtain⟨_,_,_,q⟩:=h;exact g7 q
section
variable{X:Cx}{x:Str}{p pos:Pos}{e:Expr}{a:List Expr}{t:TA}{id T:String}{r:List V->Hp->VK->Prop}
def ZC(r:List V->Hp->VK->Prop)(t:TA):TE:=λc H Q=>t c H λvs b=>r vs b Q
def gS(k:lZ X (.builtin id) r)(m:Gl X x)(n:X.mg x=none)(q:e4 x=some (.builtin id))(j:PA X (e::a) t)(o:x≠"__name__":=by decide)(c:(x==("__debug__":Str))=false:=by decide)
  (l:bI (e::a) X.env=(false,eval e X.env)::bI a X.env:=by rfl) (d:(i9 pos (bI a X.env)).any (·.1)=false:=by rfl):PE X (.Call (.Name x p) (e::a) [] pos) (ZC r t):=by
 intro b s f H Q I h;refine t6 (uZ I m n q ?_ o c);exact PyProof.Rows.callWith_builtin1 (jG (j pos b s f H _ I h) λy w ⟨vs,g,i,v,u⟩=>k b w f g vs y Q i v u) l d
def AR(k:lZ X (.type T) r)(m:Gl X x)(n:X.mg x=none)(q:e4 x=some (.type T))(j:PA X (e::a) t)(o:x≠"__name__":=by decide)(c:(x==("__debug__":Str))=false:=by decide)
  (l:bI (e::a) X.env=(false,eval e X.env)::bI a X.env:=by rfl) (d:(i9 pos (bI a X.env)).any (·.1)=false:=by rfl):PE X (.Call (.Name x p) (e::a) [] pos) (ZC r t):=by
 intro b s f H Q I h;refine t6 (uZ I m n q ?_ o c);exact i7 (jG (j pos b s f H _ I h) λy w ⟨vs,g,i,v,u⟩=>k b w f g vs y Q i v u) l d
end
end L2
namespace HT
section
variable{prog:cW}{w:f7}{A:d9}{E:Value->Shared->Prop}{s:Shared}
def cat_tup{t b:Addr}{vs a:List Value}{Q:Value->Shared->Prop}(v:sy s.heap t vs.toArray)(hb:sy s.heap b a.toArray)(o:vs≠[])
  (r:a=[]->Q (.ref t) s) (u:a≠[]->Q (.ref s.heap.objs.size) { s with heap:=s.heap.push { cls:=.type "tuple",data:=.seq (vs++a).toArray } })
  (j:vs.length+a.length<=bG):wpAny (model prog w) A (j8 .Add (.ref t) (.ref b)) Q E s:=by
 obtain⟨⟨cls,l,data,q⟩,i,m,n,hd⟩:=id v;obtain⟨⟨k,d,data2,h⟩,c,f,p,g⟩:=id hb;simp only at m hd f g;subst m hd f g;have e:vs.toArray++a.toArray=(vs++a).toArray:=by simp
 by_cases hw:a=[]
 ·exact cq ⟨_,i,Db⟩ ⟨_,c,Db⟩ eh jj tW sI (rM _ _)
   (tuple_addW1 t b vs.toArray a.toArray n p l d q h (by simpa using o) (by simp[hw])) ⟨i,c,r hw⟩
 ·refine cq ⟨_,i,Db⟩ ⟨_,c,Db⟩ eh jj tW sI (rM _ _)
   (tuple_addW2 t b vs.toArray a.toArray n p l d q h (by simpa using o) (by simpa using hw) (by rw[bA,bA];exact j)) ⟨i,c,?_⟩
  rw[e];exact u hw
noncomputable def sIx(n d:Nat):Option Int->Nat
|none=>d
|some v=>if v<0 then(v+(n:Int)).toNat else min v.toNat n
def sIx_none(n d:Nat):sIx n d none=d:=rfl
def sIx_nat(n d k:Nat):sIx n d (some (k:Int))=min k n:=by
 show(if(k:Int)<0 then((k:Int)+(n:Int)).toNat else min (k:Int).toNat n)=min k n;rw[a8 Cw,oM]
def sIx_le(n d:Nat)(hd:d<=n)(o:Option Int):sIx n d o<=n:=by
 cases o with
 |none=>exact hd
 |some v=>
  show(if v<0 then(v+(n:Int)).toNat else min v.toNat n)<=n;by_cases a:v<0
  ·rw[a9 a];lia
  ·rw[a8 a];exact E9 _ _
def clip_eq(v:Int)(n d:Nat):(if v<0 then max (v+(n:Int)) 0 else min v (n:Int))=((sIx n d (some v):Nat):Int):=by
 show(if v<0 then max (v+(n:Int)) 0 else min v (n:Int))=(((if v<0 then(v+(n:Int)).toNat else min v.toNat n):Nat):Int);by_cases a:v<0
 ·simp only[a9 a];lia
 ·simp only[a8 a];lia
def N9(lo a:Option Int)(n:Nat):t9 lo a 1 (n:Int)=(((sIx n 0 lo:Nat):Int),((sIx n n a:Nat):Int)):=by
 have b:¬((1:Int)<0):=by lia
 unfold t9;simp only[b,s0];refine io ?_ ?_
 ·cases lo with
  |none=>rfl
  |some v=>exact clip_eq v n 0
 ·cases a with
  |none=>rfl
  |some v=>exact clip_eq v n n
def M5(i j:Nat):l0 (i:Int) (j:Int) 1=j-i:=by
 unfold l0;have a:(1:Int)>0:=by lia
 simp only[a,n8,Int.ediv_one];split<;>lia
def DF{Q:Option Int->Shared->Prop}(p:IsPart v o)(h:Q o s):wpAny (model prog w) A (Builtin.Slice.slicePartIndex v) Q E s:=by
 cases p with
 |none=>exact slicePart_none h
 |int i t=>exact slicePart_int h
def rR{d:Addr}{lo}{n:Nat}{Q:Int×Int×Nat->Shared->Prop}(f:s.heap.IsSliceOf d vl vu .none)(g:IsPart vl lo)(i:IsPart vu b)
  (h:Q (((sIx n 0 lo:Nat):Int),1,sIx n n b-sIx n 0 lo) s):wpAny (model prog w) A (au (.ref d) (pure (n:Int))) Q E s:=by
 obtain⟨os,c,e,a⟩:=id f;unfold au Builtin.Slice.sliceFields;refine aE (aE (f6 c a (x:=vl) Db (aE (f6 c a (x:=vu) Db (aE (f6 c a (x:=.none) Db (aZ ?_)))))));refine aE (slicePart_none ?_);show wpAny _ _ (if((1:Int)==0)=true then _ else _) _ _ s;rw[a8 Cv];refine aE (DF g (aE (DF i (aE (aZ ?_)))));show wpAny _ _ (match t9 lo b 1 (n:Int)with | (lo,b)=>pure (lo,(1:Int),l0 lo b 1)) _ _ s;rw[N9 lo b n];show wpAny _ _ (pure (((sIx n 0 lo:Nat):Int),(1:Int),l0 ((sIx n 0 lo:Nat):Int) ((sIx n n b:Nat):Int) 1)) _ _ s;rw[M5];exact aZ h
def WA(a:Array Value)(i k:Nat):((fX k).filterMap λ(m:Nat)=>a[((i:Int)+(m:Int)*1).toNat]?).toArray=((a.toList.drop i).take k).toArray:=by
 have e:(λ(m:Nat)=>a[((i:Int)+(m:Int)*1).toNat]?)=λm=>a[i+m]?:=by
  funext m;have:((i:Int)+(m:Int)*1).toNat=i+m:=by lia
  rw[this]
 rw[e];have:=pick_run a i k;rw[T8]at this;have b:((λx=>a[x]?)∘λx=>i+x)=λm=>a[i+m]?:=rfl;rw[b]at this;rw[this]
def getItem_tuple_cut{t i:Addr}{a:Array Value}{lo}{Q:Value->Shared->Prop}(c:sy s.heap t a)(j:s.heap.IsSliceOf i vl vu .none)(n:IsPart vl lo)(o:IsPart vu hi)
  (hw:¬(sIx a.size 0 lo=0/\sIx a.size a.size hi=a.size))
  (h:Q (.ref s.heap.objs.size) { s with heap:=s.heap.push { cls:=.type "tuple",data:=.seq ((a.toList.drop (sIx a.size 0 lo)).take (sIx a.size a.size hi-sIx a.size 0 lo)).toArray } })
  (l:a.size<=bG):wpAny (model prog w) A (y8 (.ref t) (.ref i)) Q E s:=by
 have b:sizeOk (.seq ((a.toList.drop (sIx a.size 0 lo)).take (sIx a.size a.size hi-sIx a.size 0 lo)).toArray):=by
  show((a.toList.drop (sIx a.size 0 lo)).take (sIx a.size a.size hi-sIx a.size 0 lo)).toArray.size<=bG;rw[bA,bN,dP,fB];lia
 have p:sIx a.size a.size hi<=a.size:=sIx_le _ _ (aM _) hi;obtain⟨os,g,e,k⟩:=id j;have d:s.TypeIs (.ref i) "slice":=⟨os,g,e⟩;unfold y8
 try with_reducible refine m5 ?_
 first | refine aE (aZ ?_) | skip
 refine aE (ue c.typeIs Cv ?_)
 refine aE (j3 (name:=d7 "__getitem__") c.typeIs j6
  (lR j6 c.typeIs qz ?_ (rz _ _)))
 show wpAny _ _ (av (.ref t) >>= _) _ _ s;refine aE (tupleItemsOf_ c ?_);refine aE (kt d ?_);rw[a9 Cv];refine aE (rR j n o ?_)
 have f:¬((((sIx a.size 0 lo:Nat):Int)==0&&(1:Int)==1&&(sIx a.size a.size hi-sIx a.size 0 lo)==a.size)=true):=by
  intro q;rw[dR,dR]at q;have r:((sIx a.size 0 lo:Nat):Int)=0:=bo q.1.1;have u:sIx a.size a.size hi-sIx a.size 0 lo=a.size:=bo q.2;exact hw ⟨Cw,Cw⟩
 show wpAny _ _ (if(((sIx a.size 0 lo:Nat):Int)==0&&(1:Int)==1&&(sIx a.size a.size hi-sIx a.size 0 lo)==a.size)=true then _ else _) _ _ s;rw[a8 f,WA]
 first
  |exact aE (m:=l3 _) (iD (aZ ⟨_,Db,aZ h⟩) b)
  |exact aE (m:=l3 _) (iD (aE (aZ (aZ ⟨_,Db,aZ h⟩))) b)
  |exact aE (aE (m:=l3 _) (iD (aZ (aZ ⟨_,Db,aZ h⟩)) b))
  |exact aE (aE (m:=l3 _) (iD (aZ ⟨_,Db,aZ h⟩) b))
end
end HT
namespace L2
abbrev TO:=St->Hp->(Option Int->Hp->Prop)->Prop
def PO(X:Cx)(e:Option Expr)(t:TO):Prop:=
 ∀pins s σ H(Q:Option Int->Hp->Prop),cU X pins σ H s->t σ H Q ->
  wpAny (model X.prog X.w) X.A (evalPart e X.env) (λu b=>∃o a,cU X pins σ a b/\IsPart u o/\Q o a) X.xe s
def ZW:TO:=λ_ H Q=>Q none H
def Vo(t:TE):TO:=λb H Q=>t b H λx a=>∃i,x=.int i/\Q (some i) a
section
variable{X:Cx}{e:Expr}{d:TE}{lo c:Option Expr}{g th:TO}{pos f:Pos}
def aBa:PO X none ZW:=by
 intro a s b H Q I h;rw[evalPart_none];exact aZ ⟨none,H,I,.none,h⟩
def aA9(h:PE X e d):PO X (some e) (Vo d):=by
 intro a s n H Q I hw;rw[evalPart_some];refine jG (h a s n H _ I hw) λu o m=>?_;obtain⟨x,b,j,l,k⟩:=m;obtain⟨i,rfl,q⟩:=k;obtain⟨t,rfl⟩:=l;exact⟨some i,b,j,.int i t,q⟩
def Y2(X:Cx)(r:V->Option Int->Option Int->Hp->VK->Prop):Prop:=
 ∀pins(s:Shared)σ H(x:V)(v b h:Value)(lo c:Option Int)(a:Addr)Q,cU X pins σ H s->eZ x v->s.heap.IsSliceOf a b h .none->IsPart b lo->IsPart h c->r x lo c H Q ->
  ∃T id,typeLookup (.type T) "__getitem__"=pure (some (.builtin id))/\s.TypeIs v T/\wpAny (model X.prog X.w) X.A (y8 v (.ref a)) (EP X pins σ Q) X.xe s
def Y2.or{r k:V->Option Int->Option Int->Hp->VK->Prop}(h:Y2 X r)(t:Y2 X k):Y2 X (λx lo c H Q=>r x lo c H Q\/k x lo c H Q):=by
 intro a s p H x v n o lo c m Q I l b i j q;rcases q with q | q
 ·exact h a s p H x v n o lo c m Q I l b i j q
 ·exact t a s p H x v n o lo c m Q I l b i j q
def Mv(r:V->Option Int->Option Int->Hp->VK->Prop)(d:TE)(g th:TO):TE:=λa H Q=>d a H λx b=>g a b λl h=>th a h λu H3=>r x l u H3 Q
def WD{r:V->Option Int->Option Int->Hp->VK->Prop}(G:Y2 X r)(C:PE X e d)(F:PO X lo g)(K:PO X c th):PE X (.Subscript e (.Slice lo c none f) pos) (Mv r d g th):=by
 intro a s i H Q I h;refine ry (jG (C a s i H _ I h) λv S m=>?_);obtain⟨x,n,p,R,N⟩:=m;refine wpAny_Slice (jG (F a S i n _ p N) λj U ⟨l,o,t,L,O⟩=>jG (K a U i o _ t O) λk s3 m=>?_);obtain⟨u,H3,y,M,P⟩:=m;rw[evalPart_none];refine aZ ?_;have z:cU X a i H3 { s3 with heap:=s3.heap.push { cls:=.type "slice",data:=.fields #[j,k,.none] } }:=y.kept (t':=s3.toks) λb ob q=>aD _ q;obtain⟨T,id,B,J,E⟩:=G a { s3 with heap:=s3.heap.push { cls:=.type "slice",data:=.fields #[j,k,.none] } } i H3 x v j k l u s3.heap.objs.size Q z R (Heap.IsSliceOf.new ..) L M P;show wpAny (model X.prog X.w) X.A (jk e (.Slice lo c none f) v (.ref s3.heap.objs.size)) (EP X a i Q) X.xe { s3 with heap:=s3.heap.push { cls:=.type "slice",data:=.fields #[j,k,.none] } };exact tail_any (ops:=[.ref s3.heap.objs.size,v]) J B E (by with_unfolding_all rfl)
noncomputable def IL(a:List V)(lo c:Option Int):List V:=(a.drop (HT.sIx a.length 0 lo)).take (HT.sIx a.length a.length c-HT.sIx a.length 0 lo)
def BN(a:List V)(lo c:Option Int):(IL a lo c).length<=a.length:=by
 unfold IL;rw[bN,dP];lia
def Pj(K:aF):V->Option Int->Option Int->Hp->VK->Prop:=λx lo c H Q=>∃a b,x=.ref a/\pY K H a b /\
 ¬(HT.sIx b.length 0 lo=0/\HT.sIx b.length b.length c=b.length)/\∀p,H p=none->Q (.ref p) (eM H p (.tup (IL b lo c)))
def Yb:Y2 X (Pj X.K):=by
 intro n s C H x v A B lo c z Q I y p u w h;obtain⟨a,j,rfl,t,hw,q⟩:=h;cases y;obtain⟨k,r,l,m⟩:=I.tuple t;have i:k.toArray.size=j.length:=by rw[bA];exact r.length.symm
 refine⟨"tuple",_,PyProof.Rows.slot_tuple_getitem.lookup,l.typeIs,?_⟩;refine HT.getItem_tuple_cut l p u w (by rw[i];exact hw) ?_ (by rw[i];exact m);rw[i];refine⟨.ref s.heap.objs.size,_,I.laid (t':=s.toks) (o:=.tup (IL j lo c)) (λb ob q=>aD _ q) (aM _) ?_,Db,q _ (I.hok.fresh (aM _))⟩;exact⟨bL (BN j lo c) m,_,(r.drop (HT.sIx j.length 0 lo)).take (HT.sIx j.length j.length c-HT.sIx j.length 0 lo),FN.new _ _⟩
def Rx(K:aF):R2:=λx y H Q=>∃a b i h,x=.ref a/\y=.ref b/\pY K H a i/\pY K H b h/\i≠[]/\i.length+h.length<=bG /\
 (h=[]->Q (.ref a) H)/\(h≠[]->∀p,H p=none->Q (.ref p) (eM H p (.tup (i++h))))
def eW.nil_iff(r:eW xs us):us=[]↔xs=[]:=by
 cases r with
 |nil=>simp
 |cons _ _=>simp
def aBi:qI X (j8 .Add) (Rx X.K):=by
 intro m s J H x y v u Q I C E h;obtain⟨a,b,F,G,rfl,rfl,n,hb,p,k,A,B⟩:=h;cases C;cases E;obtain⟨r,j,t,_⟩:=I.tuple n;obtain⟨l,i,f,_⟩:=I.tuple hb;refine HT.cat_tup t f (λz=>p (j.nil_iff.mp z)) (λz=>⟨.ref a,H,I,Db,A (i.nil_iff.mp z)⟩) (λz=>?_) (by rw[<- j.length,<- i.length];exact k);refine⟨.ref s.heap.objs.size,_,I.laid (t':=s.toks) (o:=.tup (F++G)) (λb ob q=>aD _ q) (aM _) ?_,Db,B (λw=>z (i.nil_iff.mpr w)) _ (I.hok.fresh (aM _))⟩;exact⟨by rw[bP];exact k,_,j.append i,FN.new _ _⟩
end
noncomputable def Do(n:Nat)(i:Int):Option Nat:=if 0<=i then(if i<n then some i.toNat else none)else if -(n:Int)<=i then some (i+n).toNat else none
noncomputable def atI{b:Type}(a:List b)(i:Int):Option b:=(Do a.length i).bind λj=>a[j]?
def P2{n:Nat}{i:Int}{j:Nat}(h:Do n i=some j):seqIndex? i n=some j/\j<n/\-(n:Int)<=i/\i<n:=by
 unfold Do at h;by_cases b:0<=i
 ·rw[a9 b]at h;by_cases a:i<n
  ·rw[a9 a]at h;have e:i.toNat=j:=c8 h;exact⟨by rw[qv b a,e],Cw,Cw,a⟩
  ·rw[a8 a]at h;cases h
 ·rw[a8 b]at h;by_cases a:-(n:Int)<=i
  ·rw[a9 a]at h;have e:(i+n).toNat=j:=c8 h;exact⟨by rw[ko Cw a,e],Cw,a,Cw⟩
  ·rw[a8 a]at h;cases h
def IV{g:Type}{a:List g}{i:Int}{v}(h:atI a i=some v):∃j,seqIndex? i a.length=some j/\a[j]?=some v/\j<a.length/\-(a.length:Int)<=i/\i<a.length:=by
 unfold atI at h
 cases e:Do a.length i with
 |none=>rw[e]at h;cases h
 |some j=>
  rw[e]at h;obtain⟨b,c,d,f⟩:=P2 e;exact⟨j,b,h,c,d,f⟩
def gK{a:Type}{xs:List a}{j:Nat}{v:a}(h:xs[j]?=some v):atI xs (j:Int)=some v:=by
 have b:j<xs.length:=(aI.mp h).1
 have e:Do xs.length (j:Int)=some j:=by
  unfold Do;rw[a9 Cw,a9 Cw];simp
 unfold atI;rw[e];exact h
def QN(b:Expr):Prop:=∀o i,fi b false o i=operate [o,i] (y8 o i)
def ZG(X:Cx)(r:R2):Prop:=
 ∀(b a:Expr)pins s σ H(x y:V)(v u:Value)Q,cU X pins σ H s->eZ x v->eZ y u->r x y H Q ->
  fi a false v u=operate [v,u] (y8 v u)->wpAny (model X.prog X.w) X.A (jk b a v u) (EP X pins σ Q) X.xe s
def S6(X:Cx)(id:String)(r:V->List V->Hp->VK->Prop):Prop:=
 ∀pins s σ H(x:V)(b:List V)(v:Value)(a:List Value)Q,cU X pins σ H s->eZ x v->eW b a->r x b H Q ->
  wpAny (model X.prog X.w) X.A (call (.builtin id) (v::a)) (EP X pins σ Q) X.xe s
section
variable{X:Cx}{a b:Expr}{A B:TE}{pos:Pos}
def ZG.or{r g:R2}(h:ZG X r)(l:ZG X g):ZG X (λx y H Q=>r x y H Q\/g x y H Q):=by
 intro d c e s k H x y v u Q I i j q f;rcases q with q | q
 ·exact h d c e s k H x y v u Q I i j q f
 ·exact l d c e s k H x y v u Q I i j q f
def wY(g:ZG X r)(f:PE X a A)(hb:PE X b B)(i:QN b):PE X (.Subscript a b pos) (Dt r A B):=by
 intro c s m H Q I h;exact ry (Gz f hb I h λv u l x y d e j k q=>g a b c l m d x y v u Q e j k q (i _ _))
def Jn(K:aF):R2:=λx y H Q=>∃p c i v,x=.ref p/\y=.int i/\mL K H p c/\atI c i=some v/\Q v H
def Jp(K:aF):R2:=λx y H Q=>∃p c i v,x=.ref p/\y=.int i/\pY K H p c/\atI c i=some v/\Q v H
def Jo:R2:=λx y H Q=>∃z i c,x=.str z/\y=.int i/\z.length<=bG/\atI z.cps.toList i=some c/\Q (.str ⟨#[c]⟩) H
def aB2:ZG X (Jn X.K):=by
 intro m l c s E H x y v u Q I O P h C;obtain⟨p,W,i,z,rfl,rfl,N,L,q⟩:=h;cases O;obtain⟨t,rfl⟩:=P;obtain⟨f,r,g,U⟩:=I.list N;obtain⟨j,d,F,S,G,J⟩:=IV L;obtain⟨w,n,k⟩:=r.get F;have M:=r.length;have T:=yA;have fin:EP X c E Q w s:=⟨z,H,I,k,q⟩;by_cases o:0<=i
 ·have e:i.toNat=j:=by
   rw[qv o J]at d;exact c8 d
  exact item_listR g.isList o Cw (by rw[e];simpa using n) fin C
 ·have e:(i+(f.toArray.size:Int)).toNat=j:=by
   rw[ko Cw G]at d;rw[bA,<- M];exact c8 d
  exact kr (x:=w) g.isList.typeIs slot_list_getitem.lookup
   (wpAny_getItem_list_neg (Q:=λr R=>r=w/\EP X c E Q r R) g.isList Cw (by rw[bA]<;>lia) Cw (by rw[e];simpa using n) ⟨Db,fin⟩) C
def Wx:ZG X (Jp X.K):=by
 intro f e c s k H x y v u Q I J L h F;obtain⟨p,T,i,z,rfl,rfl,E,o,q⟩:=h;cases J;obtain⟨t,rfl⟩:=L;obtain⟨G,r,g,S⟩:=I.tuple E;obtain⟨j,m,n,N,O,P⟩:=IV o;obtain⟨w,l,d⟩:=r.get n;have C:=r.length;have R:=yA;have fin:EP X c k Q w s:=⟨z,H,I,d,q⟩
 exact kr (x:=w) g.typeIs slot_tuple_getitem.lookup
  (getItem_tuple (j:=j) (Q:=λr M=>r=w/\EP X c k Q r M) g Cw Cw (by rw[bA,<- C];exact m) (by simpa using l) ⟨Db,fin⟩) F
def Ww:ZG X Jo:=by
 intro e d g s L H x y v u Q I C E h w;obtain⟨z,i,c,rfl,rfl,J,p,q⟩:=h;obtain⟨t,rfl⟩:=C;obtain⟨K,rfl⟩:=E;obtain⟨j,f,m,F,n,o⟩:=IV p;have r:z.cps.toList.length=z.length:=by simp[bd]
 rw[r]at f n o;have G:=yA
 exact tail_any (sv s z t) slot_str_getitem.lookup (getItem_str (c:=c) (by
  have k:decide (i < -(2^63:Int))=false:=b9 Cw;have l:decide (i>=2^63)=false:=b9 Cw;rw[k,l,aIv]) (by rw[f];simpa using m) ⟨.str ⟨#[c]⟩,H,I.tok _,⟨_,Db⟩,q⟩) w
def Ex(K:aF):R2:=λx y H Q=>Jn K x y H Q\/Jp K x y H Q\/Jo x y H Q
def bE:ZG X (Ex X.K):=aB2.or (Wx.or Ww)
def NL(c:List Value)(n j:Nat)(u:Value):e8 (·.setIfInBounds j u) { cls:=.type "list",data:=.seq c.toArray n }={ cls:=.type "list",data:=.seq (c.set j u).toArray n }:=by
 simp[e8]
theorem cU.lst{pins σ H}{s:Shared}{p:Addr}{d:List V}(I:cU X pins σ H s)(h:H p=some (.lst d)) :
  ∃(c:List Value)(n:Nat),eW d c/\s.heap.get? p=some { cls:=.type "list",data:=.seq c.toArray n }/\d.length<=bG:=by
 obtain⟨z,c,n,r,e⟩:=I.hok p _ h;exact⟨c,n,r,e,z⟩
def cU.lstUpd{s:Shared}{p:Addr}{m i:List V}{d c:List Value}{n g:Nat}{f:Obj->Obj}(I:cU X pins σ H s)(h:H p=some (.lst m))
  (k:s.heap.get? p=some { cls:=.type "list",data:=.seq d.toArray n }) (j:f { cls:=.type "list",data:=.seq d.toArray n }={ cls:=.type "list",data:=.seq c.toArray g }) (r:eW i c) (l:i.length<=bG) (t:Nat) :
  cU X pins σ (eM H p (.lst i)) { s with heap:=s.heap.update p f,toks:=t }:=by
 have e:(s.heap.update p f).get? p=some { cls:=.type "list",data:=.seq c.toArray g }:=by
  rw[pC f k (by rw[j]<;>rfl),j]
 refine I.write (x:=p) (e:=p) (by rw[h];trivial) (.inl Db) (λb u hb q=>(fT _ _ (i6 hb)).trans q) ⟨_,e⟩ ?_;exact⟨l,c,g,r,e⟩
def Mn:V->V->V->Hp->(Hp->Prop)->Prop:=λo i v H Q=>∃p c k j,o=.ref p/\i=.int k/\H p=some (.lst c)/\Do c.length k=some j/\Q (eM H p (.lst (c.set j v)))
def DI:Iz X Mn:=by
 intro d s K H o i v O N u Q I ro F G h;obtain⟨p,J,k,j,rfl,rfl,z,C,q⟩:=h;cases ro;obtain⟨t,rfl⟩:=F;obtain⟨c,n,r,l,E⟩:=I.lst z;obtain⟨e,L,x,y⟩:=P2 C;have g:=r.length;have M:=yA
 have m:cU X d K (eM H p (.lst (J.set j v))) { s with heap:=s.heap.update p (e8 (·.setIfInBounds j u)) }:=
  I.lstUpd z l (NL c n j u) (r.set G j) (by rw[FE];exact E) s.toks
 by_cases w:0<=k
 ·have f:k.toNat=j:=by
   rw[qv w y]at e;exact c8 e
  exact PySem.W.ki_setAt l w Cw (by rw[bA,<- g];exact y) (by rw[f];exact⟨_,m,q⟩)
 ·have f:(k+(c.toArray.size:Int)).toNat=j:=by
   rw[ko Cw x]at e;rw[bA,<- g];exact c8 e
  exact PySem.W.ki_setBack l Cw (by rw[bA,<- g];exact x) Cw (by rw[f];exact⟨_,m,q⟩)
def HE(lo c:Option Int)(n:Nat):(u8 lo c none n).1=((HT.sIx n 0 lo:Nat):Int)/\(u8 lo c none n).2.1=((HT.sIx n n c:Nat):Int)/\(u8 lo c none n).2.2=1:=by
 refine⟨?_,?_,Db⟩
 ·cases lo with
  |none=>simp[u8,HT.sIx]
  |some i=>
   simp only[u8,HT.sIx,T4,show(1:Int)>0 by decide,n8];by_cases h:i<0
   ·simp only[h,n8]<;>lia
   ·simp only[h,s0]<;>lia
 ·cases c with
  |none=>simp[u8,HT.sIx]
  |some i=>
   simp only[u8,HT.sIx,T4,show(1:Int)>0 by decide,n8];by_cases h:i<0
   ·simp only[h,n8]<;>lia
   ·simp only[h,s0]<;>lia
def FJ(c:List Value)(lo d:Option Int):slicePick c.toArray lo d none=((c.drop (HT.sIx c.length 0 lo)).take (HT.sIx c.length c.length d-HT.sIx c.length 0 lo)).toArray:=by
 obtain⟨e,f,g⟩:=HE lo d c.toArray.size;unfold slicePick;rw[e,f,g];simp only[sliceRange_one,pick_run,bA]<;>rfl
def Jq(K:aF):V->Option Int->Option Int->Hp->VK->Prop:=λx lo d H Q=>∃a c,x=.ref a/\mL K H a c/\∀p,H p=none->Q (.ref p) (eM H p (.lst (IL c lo d)))
def aAq:Y2 X (Jq X.K):=by
 intro g s y H x v u w lo e t Q I p i m n h;obtain⟨a,c,rfl,j,q⟩:=h;cases p;obtain⟨l,r,f,k⟩:=I.list j;have d:=r.length;refine⟨"list",_,slot_list_getitem.lookup,f.isList.typeIs,?_⟩;refine wpAny_getItem_list_slice f.isList i m n .none Cy ?_ (by rw[bA]<;>lia);rw[FJ,<- d];refine⟨.ref s.heap.objs.size,_,I.laid (t':=s.toks) (o:=.lst (IL c lo e)) (λb ob q=>aD _ q) (aM _) ?_,Db,q _ (I.hok.fresh (aM _))⟩;exact⟨bL (BN c lo e) k,_,0,(r.drop (HT.sIx c.length 0 lo)).take (HT.sIx c.length c.length e-HT.sIx c.length 0 lo),aU _ Db⟩
def IS:lZ X (.builtin "len") (λj H Q=>∃p d,j=[.ref p]/\(mL X.K H p d\/pY X.K H p d)/\Q (.int d.length) H):=by
 intro i s o H j n Q I r h;obtain⟨p,d,rfl,hq,q⟩:=h;obtain⟨u,rfl,l⟩:=oQ r;cases l;have m:=yA;rcases hq with hq | hq
 ·obtain⟨e,g,f,k⟩:=I.list hq;have c:=g.length;exact Calls.call_len_list f.isList (by simp only[bA]<;>lia) ⟨.int d.length,H,I.tok _,⟨s.toks+1,by rw[bA,c]⟩,q⟩
 ·obtain⟨e,g,f,k⟩:=I.tuple hq;have c:=g.length;exact len_tuple f (by simp only[bA]<;>lia) ⟨.int d.length,H,I.tok _,⟨s.toks+1,by rw[bA,c]⟩,q⟩
def IR:lZ X (.builtin "len") (λd H Q=>∃z,d=[.str z]/\z.length<=bG/\Q (.int z.length) H):=by
 intro c s i H d g Q I r h;obtain⟨z,rfl,f,q⟩:=h;obtain⟨u,rfl,t,rfl⟩:=oQ r;have e:=yA;exact len_str Cw ⟨.int z.length,H,I.tok _,⟨_,Db⟩,q⟩
def lZ.or{r e:List V->Hp->VK->Prop}(h:lZ X f r)(j:lZ X f e):lZ X f (λd H Q=>r d H Q\/e d H Q):=by
 intro c s i H d g Q I rs q;rcases q with q | q
 ·exact h c s i H d g Q I rs q
 ·exact j c s i H d g Q I rs q
def IQ:lZ X (.type "list") (λz H Q=>∃p i,z=[.ref p]/\(mL X.K H p i\/pY X.K H p i)/\∀l,H l=none->Q (.ref l) (eM H l (.lst i))):=by
 intro m s E H z F Q I r h;obtain⟨p,i,rfl,hq,q⟩:=h;obtain⟨u,rfl,C⟩:=oQ r;cases C
 have fin:∀(c:List Value),eW i c->i.length<=bG->∀(d:Heap)(f:Nat),(∀b y,s.heap.get? b=some y->d.get? b=some y) ->
   d.get? s.heap.objs.size=some { cls:=.type "list",dict:=none,data:=.seq c.toArray f,slots:=#[] }->EP X m E Q (.ref s.heap.objs.size) { s with heap:=d }:=λc g k d f kp e=>
  ⟨.ref s.heap.objs.size,_,I.laid (t':=s.toks) kp (aM _) (show iR X.prog X.w _ d _ (.lst i)from⟨k,c,f,g,e⟩),Db,q _ (I.hok.fresh (aM _))⟩
 rcases hq with hq | hq
 ·obtain⟨c,g,x,k⟩:=I.list hq;have j:=g.length;obtain⟨o,v,t,n,hd⟩:=x.isList;exact call_list_seq p (.inl Db) v t hd (λd f kp e=>fin c g k d f kp e) (by simp only[bA]<;>lia)
 ·obtain⟨c,g,x,k⟩:=I.tuple hq;have j:=g.length;obtain⟨o,v,t,n,hd⟩:=x;exact call_list_seq p (.inr Db) v t hd (λd f kp e=>fin c g k d f kp e) (by simp only[bA]<;>lia)
def oP:lZ X (.type "tuple") (λv H Q=>∃p f,v=[.ref p]/\((mL X.K H p f/\∀l,H l=none->Q (.ref l) (eM H l (.tup f)))\/(pY X.K H p f/\Q (.ref p) H))):=by
 intro c s x H v C Q I r h;obtain⟨p,f,rfl,h⟩:=h;obtain⟨u,rfl,z⟩:=oQ r;cases z;rcases h with⟨i,q⟩ | ⟨i,q⟩
 ·obtain⟨d,k,j,t⟩:=I.list i;have n:=k.length;refine call_tuple_list j.isList (λg kp=>?_) (by simp only[bA]<;>lia);have m:cU X c x H { s with heap:=g }:=I.kept (t':=s.toks) kp
  have y:cU X c x (eM H g.objs.size (.tup f)) { s with heap:=g.push { cls:=.type "tuple",data:=.seq d.toArray } }:=
   m.laid (t':=s.toks) (λb o e=>aD _ e) (aM _) (show iR X.prog X.w _ _ _ (.tup f)from⟨t,d,k,FN.new _ _⟩)
  exact⟨.ref g.objs.size,_,y,Db,q _ (m.hok.fresh (aM _))⟩
 ·obtain⟨d,k,j,t⟩:=I.tuple i;exact call_tuple_same j ⟨.ref p,H,I,Db,q⟩
def Gc(K:aF)(T:String)(x:V)(H:Hp):Prop:=match x with
|.str _=>T="str"
|.int _=>T="int"
|.ref p=>(T="list"/\∃c,mL K H p c)\/(T="tuple"/\((∃o,K.lookup p=some o/\o.cls=.type "tuple"/\o.dict=none)\/∃c,pY K H p c)) \/
  (T="dict"/\((∃kvs,H p=some (.dK kvs))\/∃kvs,H p=some (.dT kvs)))\/(T="set"/\∃S n,H p=some (.set S n))
|_=>False
def UQ{s:Shared}{x}(I:cU X pins σ H s)(r:eZ x v)(ty:Gc X.K T x H) :
  s.TypeIs v T/\∀a,v=.ref a->∃ob,s.heap.get? a=some ob/\ob.dict=none:=by
 cases x with
 |str z=>
  obtain⟨t,rfl⟩:=r;cases (show T="str" from ty);exact⟨sv s z t,λ_ e=>nomatch e⟩
 |int i=>
  obtain⟨t,rfl⟩:=r;cases (show T="int" from ty);exact⟨typeIs_int s i t,λ_ e=>nomatch e⟩
 |ref p=>
  cases r;rcases ty with⟨rfl,l,h⟩ | ⟨rfl,⟨o,d,g,hd⟩ | ⟨l,h⟩⟩ | ⟨rfl,d⟩ | ⟨rfl,S,n,d⟩
  ·obtain⟨k,_,j,_⟩:=I.list h;refine⟨j.isList.typeIs,λa e=>?_⟩;cases e;obtain⟨o,n,e,c,hd,_⟩:=j;exact⟨o,e,hd⟩
  ·refine⟨⟨o,I.kIn p o d,g⟩,λa e=>?_⟩;cases e;exact⟨o,I.kIn _ o d,hd⟩
  ·obtain⟨o,e,g,hd⟩:=I.tupleN h;refine⟨⟨o,e,g⟩,λa f=>?_⟩;cases f;exact⟨o,e,hd⟩
  ·have z:∃o,s.heap.get? p=some o/\o.ExactDict:=by
    rcases d with⟨kvs,d⟩ | ⟨kvs,d⟩
    ·obtain⟨_,_,_,_,o,_,_,e,ex,_⟩:=I.hok p _ d;exact⟨o,e,ex⟩
    ·obtain⟨_,_,_,_,o,_,_,e,ex,_⟩:=I.hok p _ d;exact⟨o,e,ex⟩
   obtain⟨o,e,ex⟩:=z;refine⟨⟨o,e,ex.1⟩,λa f=>?_⟩;cases f;exact⟨o,e,ex.2.1⟩
  ·obtain⟨o,_,_,_,e,ex,_⟩:=I.hok p _ d;refine⟨⟨o,e,ex.1⟩,λa f=>?_⟩;cases f;exact⟨o,e,ex.2.1⟩
 |_=>exact g7 ty
def ZY(K:aF)(T:String)(r:V->List V->Hp->VK->Prop)(to:TE):TE:=λd H Q=>to d H λx c=>Gc K T x c/\r x [] c Q
def Q3(K:aF)(T:String)(r:V->List V->Hp->VK->Prop)(to:TE)(t:TA):TE:=λd H Q=>to d H λx c=>Gc K T x c/\t d c λf e=>r x f e Q
variable{o e:Expr}{m:List Expr}{to:TE}{t:TA}{name:Str}{g d:Pos}{T id:String}{r:V->List V->Hp->VK->Prop}
def M9(z:PlainAttrs T)(slot:Slot T name id)(j:typeOf (.builtin id)=pure (.type "method_descriptor"))(w:S6 X id r)(y:PE X o to)
  (f:h7 o name X.env (eval o X.env)=eval o X.env:=by rfl) (i:(g.endLine==d.line)=true:=by rfl):PE X (.Call (.Attribute o name g) [] [] d) (ZY X.K T r to):=by
 intro c s n H Q I h;refine wpAny_Call_method0_late f i (jG (y c s n H _ I h) λv E F=>?_);obtain⟨x,p,k,l,ty,C⟩:=F;obtain⟨q,u⟩:=UQ k l ty;exact⟨T,id,z,slot,j,q,u,fk Db (PySem.evalArgs_none (w c E n p x [] v [] Q k l .nil C))⟩
def nB(M:PlainAttrs T)(slot:Slot T name id)(l:typeOf (.builtin id)=pure (.type "method_descriptor"))(G:S6 X id r)(J:PE X o to)(F:PA X (e::m) t)
  (i:h7 o name X.env (eval o X.env)=eval o X.env:=by rfl)
  (k:((i9 d (bI (e::m) X.env)).all (λx=>!x.1)&&(oa d (fh [] X.env)).all (λx=>x.1.isSome)
  &&decide ((e::m).length+([]:List Keyword).length+(if([]:List Keyword).isEmpty then 0 else 1)<30))=true:=by rfl)
  (j:(g.endLine==d.line)=true:=by rfl) (L:bI (e::m) X.env=(false,eval e X.env)::bI m X.env:=by rfl) (f:(i9 d (bI m X.env)).any (·.1)=false:=by rfl) :
  PE X (.Call (.Attribute o name g) (e::m) [] d) (Q3 X.K T r to t):=by
 intro c s n H Q I h;refine wpAny_Call_method_late i k j Db (jG (J c s n H _ I h) λv R W=>?_);obtain⟨x,w,p,u,ty,N⟩:=W;obtain⟨C,E⟩:=UQ p u ty;refine⟨T,id,M,slot,l,C,E,?_⟩;have q:=F d c R n w _ p N;rw[L]at q |-
 refine fk (by show(false||(i9 d (bI m X.env)).any (·.1))=false;rw[f]<;>rfl) (gg ?_);exact jG q λU S ⟨vs,y,z,P,O⟩=>G c S n y x vs v U Q z u P O
end
def Ib(X:Cx)(id:String)(r:V->List V->Hp->VK->Prop):Prop:=
 ∀pins s σ H(x:V)(b:List V)(v:Value)(a:List Value)Q,cU X pins σ H s->eZ x v->eW b a->r x b H Q ->
  wpAny (model X.prog X.w) X.A (call (.builtin id) (v::a)) (EP X pins σ Q) X.xe s
def eW.one:∀{x us},eW [x] us->∃u,us=[u]/\eZ x u
|_,_,.cons r .nil=>⟨_,Db,r⟩
def eW.zero:∀{us},eW [] us->us=[]
|_,.nil=>rfl
theorem eW.reverse{b:List V}{a:List Value}(h:eW b a):eW b.reverse a.reverse:=by
 induction h with
 |nil=>exact .nil
 |cons r t c=>rw[sJ,sJ];exact eW.append c (.cons r .nil)
section
variable{X:Cx}{a:List (Addr×Obj)}{c:St}{H:Hp}{s:Shared}{l:Addr}{d b:List V}
def cU.lset{g its':List Value}{n:Nat}{f:Array Value->Array Value}{o:Nat}(I:cU X a c H s)(h:H l=some (.lst d))
  (e:s.heap.get? l=some { cls:=.type "list",data:=.seq g.toArray n }) (i:f g.toArray=its'.toArray) (k:eW b its') (m:b.length<=bG) :
  cU X a c (eM H l (.lst b)) { s with heap:=s.heap.update l (e8 f),toks:=o }:=by
 have q:=PySem.IsL.update e f;rw[i]at q;refine I.write (x:=l) (e:=l) (by rw[h];exact trivial) (.inl Db) (λp u hb j=>(fT s.heap (e8 f) (i6 hb)).trans j) ⟨_,q⟩ ?_;exact⟨m,its',_,k,q⟩
def cU.lnew{e:List Value}{t':Nat}(I:cU X a c H s)(f:eW b e)(g:b.length<=bG) :
  cU X a c (eM H s.heap.objs.size (.lst b)) { s with heap:=s.heap.push { cls:=.type "list",data:=.seq e.toArray },toks:=t' }:=
 I.laid (λ_ _ q=>aD _ q) (aM _) ⟨g,e,0,f,aU _ Db⟩
theorem cU.fresh(I:cU X a c H s):H s.heap.objs.size=none:=I.hok.fresh (aM _)
def cU.lstM(I:cU X a c H s)(g:H l=some (.lst d)):d.length<=bG/\∃(f:List Value)(n:Nat),eW d f/\d.length=f.length/\s.heap.get? l=some { cls:=.type "list",data:=.seq f.toArray n }:=by
 obtain⟨z,f,n,r,e⟩:=I.hok l _ g;exact⟨z,f,n,r,r.length,e⟩
def WV{n:Nat}(h:n<=bG):l7 n=false:=by
 unfold l7;exact b9 Cw
end
section
variable{X:Cx}
def CK:V->List V->Hp->VK->Prop:=λx vs H Q=>∃l a y,x=.ref l/\vs=[y]/\H l=some (.lst a)/\a.length<bG/\Q .non (eM H l (.lst (a++[y])))
def oG:Ib X "list.append" CK:=by
 intro c s o H x vs v k Q I g f h;obtain⟨l,m,y,rfl,rfl,b,j,q⟩:=h;cases g;obtain⟨u,rfl,d⟩:=f.one;obtain⟨z,a,n,r,i,e⟩:=I.lstM b;refine ah F.slot_list_append ⟨_,e,Db⟩ F.entry_list_append (F.args_list_append_2 _ _) (PySem.list_append l a.toArray n u (by rw[bA];lia)) ⟨e,?_⟩;refine⟨.non,_,I.lset (its':=a++[u]) b e Cy (r.append (.cons d .nil)) ?_,Db,q⟩;rw[bP,pB];lia
def KE:V->List V->Hp->VK->Prop:=λx vs H Q=>∃l a,x=.ref l/\vs=[]/\H l=some (.lst a)/\Q .non (eM H l (.lst a.reverse))
def NI:Ib X "list.reverse" KE:=by
 intro d s m H x vs v j Q I g f h;obtain⟨l,k,rfl,rfl,c,q⟩:=h;cases g;have b:=f.zero;subst b;obtain⟨z,a,n,r,i,e⟩:=I.lstM c;refine ah F.slot_list_reverse ⟨_,e,Db⟩ F.entry_list_reverse (F.args_list_reverse_1 _) (AutoSeq1.list_reverse_list_0 l a.toArray n (by rw[bA];lia)) ⟨e,?_⟩;refine⟨.non,_,I.lset (its':=a.reverse) c e Cy r.reverse ?_,Db,q⟩;rw[List.length_reverse];lia
end
end L2
namespace Att
open PySem.W PySem.Calls
def B2{h}:∀(ns:List Int)(vs:List Value),WellAll P h vs (ns.map WData.int)->IntsAre vs ns:=by
 intro ns
 induction ns with
 |nil=>
  intro vs w;rw[nY]at w;cases w;exact .nil
 |cons n ns c=>
  intro vs w;rw[bS]at w
  cases w with
  |cons a b=>
   cases a;exact .cons _ _ (c _ b)
def RC{l:OpenLaw}{n:Nat}(s:l.most=some n){h:Heap}{vals}
  (b:l.row.toRowW.claim.pre args=true) (j:WellAll P h vals args) :
  ∃a vs ns,vals=[c9 a]/\args=[WData.list (ns.map WData.int)]/\h.get? a=some { cls:=.type "list",data:=.seq vs.toArray }/\IntsAre vs ns/\ns.length<=n:=by
 have i:WShape.hasAll [] args [.list .int]=true:=(pre_splitW b).1;have k:l.pre.holds [] { args:=args }=true:=(pre_splitW b).2;obtain⟨d,r,rfl,m,o⟩:=hasAllW_cons i;obtain rfl:=hasAllW_nil o;obtain⟨x,rfl,p⟩:=hasW_list m;obtain⟨ns,rfl⟩:=items_int p
 have e:ns.length<=n:=by
  unfold OpenLaw.pre at k
  have f:(WTm.not (.lt (.lit (.int (n:Int))) (.len (.arg 0)))).holds [] { args:=[.list (ns.map .int)] }=true:=by
   have f:=(holds_andW k).1;rw[s]at f;exact f
  have g:=condW_of f (w_not (w_lt w_lit (w_len_list (w_arg Db))));rw[aC]at g;refine aDd λq=>?_;have u:(n:Int)<((ns.length:Nat):Int):=by lia
  first
   | (rw[b7 u]at g;exact c7 g Cv)
   | (simp at g;lia)
 cases j with
 |cons v w=>
  cases w
  cases v with
  |list t c=>exact⟨_,_,ns,Db,Db,t,B2 ns _ c,e⟩
def RH(l:OpenLaw)(args:List WData):l.row.toRowW.claim.post args (.bool true) args=true:=
 postW_of (r:=l.row.toRowW) (X:=(true==true))
  (show WShape.has [] (.bool true) .bool=true by first | rfl | decide | simp[WShape.has,WShape.arms,WShape.armsAll])
  (show(WTm.eq .res (.lit (.bool true))).value [] { args:=args,res:=some (.bool true),after:=args }=some (.bool (true==true))from w_eq_bool (w_res Db) w_lit) Db
def attach_call{l:OpenLaw}{n:Nat}{v:(Str->Option Value)->Heap->Prop}{x:f7->Heap->Prop}{d:DefRec}
  (K:l.most=some n) (m:d.params.defaults=[])
  (call:∀(w:f7)(s₀ b:Shared)(mg t:Str->Option Value)(fa:Addr)(o:Obj)(u cd c:Value)(a:Addr)(vs:List Value)(ns:List Int),
   Ground q loose [] v w s₀ mg t b.heap->x w b.heap ->
   b.heap.get? fa=some o->o.data=.func (docDef d.name d.params d.body d.scope u cd c)->b.heap.CodeRec cd d.name->mg d.name=some (.ref fa) ->
   b.heap.get? a=some { cls:=.type "list",data:=.seq vs.toArray }->IntsAre vs ns->ns.length<=n->b.gens=#[] ->
   x6 (model l.prog w) cn (.call (.ref fa) ⟨[.ref a],[]⟩) (λr j=>r=.ok (.ret (.bool true))/\OldK b.heap j.heap/\j.os=b.os/\v9 j.gens) b) :
  WalkO q loose v x l.row.toRowW d [] (λf vs=>ir f vs):=by
 intro w s₀ b mg t G Y fa o u cd c B kV L hd k z p H y vals O i A N s I;obtain rfl:B=.none:=Dflts.none z m;obtain rfl:kV=.none:=Dflts.noKw z;obtain⟨a,vs,ns,rfl,rfl,h,e,g⟩:=RC K i s;refine enter_call (ai (call w s₀ b mg t fa o u cd c a vs ns G Y L (fd_plain hd) k p h e g H) λr j M=>?_);obtain⟨rfl,C,E,F⟩:=M;exact⟨.inl ⟨.bool true,.bool true,[],Db,λ_=>rfl,.bool true,RH l _,λ_=>⟨JQ.nil,λ_ J=>(nomatch J)⟩⟩,C,E,F⟩
end Att
namespace L2
theorem F2:∀{vs}{ns:List Int},IntsAre vs ns->eW (ns.map V.int) vs
|_,_,.nil=>.nil
|_,_,.cons n t h=>.cons ⟨t,Db⟩ (F2 h)
def Gw(H:Hp):Prop:=∀b,H b=none\/(∃o c,H b=some (.frz o (.lst c)))\/(tabA=some b/\∃a,H b=some (.tbl a))
def XH{K:aF}{mg mb:Str->Option Value}{CX:Y5}{k:Nat}{fa a:Addr}{x:Str}{sp:Sp}{f:Shared}{vs:List Value}{ns:List Int}
  (KX:K.In f.heap) (S:f.heap.Ns eB mg) (hb:f.heap.Ns t5 mb) (Z:∀x:Str,x≠"__name__"->mb x=e4 x) (R:f.heap.NoLimit) (hg:f.gens=#[])
  (N:f.heap.get? a=some { cls:=.type "list",data:=.seq vs.toArray }) (hi:IntsAre vs ns) (hl:ns.length<=bG) (hr:gQ k cn)
  (zi:∃O o,mg "__builtins__"=some (.ref O)/\O≠t5/\f.heap.get? O=some o/\o.cls=.type "module"/\o.dict=some t5/\o.data=.plain)
  (G:∀P,tabA=some P->f.heap.get? P=some { cls:=.none,data:=.fields #[] }/\K.lookup P=none/\bf f.heap P)
  (F:∀base:Heap,K.In base->base.Ns eB mg->dI P w K mg base CX k fa fd [x] sp) (I:∀s(u:Value),BindsTo s fd ⟨[u],[]⟩ [(x,u)])
  (Ag:∀H:Hp,Gw H->mL K H a (ns.map V.int)->sp [.ref a] H (λv _=>v=.bl true) λ_ _ _=>False)
  (X:∀H e l,CX [] H f (λ_ _ _=>False) e l->False) :
  x6 (model P w) cn (.call (.ref fa) ⟨[.ref a],[]⟩) (λr l=>r=.ok (.ret (.bool true))/\OldK f.heap l.heap/\l.os=f.os/\v9 l.gens) f:=by
 have rv:=F2 hi;have T:=hi.length
 have aT:∀P,tabA=some P->P≠a:=λP e z=>by
  have j:=(G P e).1;rw[z,N]at j;cases j
 have B:∀H:Hp,Gw H->mL K H a (ns.map V.int)->pV P w H f.heap->(∀b,H b≠none->b=a\/tabA=some b)->(H a≠none->K.lookup a=none)->Tb H ->
   x6 (model P w) cn (.call (.ref fa) ⟨[.ref a],[]⟩) (λr l=>r=.ok (.ret (.bool true))/\OldK f.heap l.heap/\l.os=f.os/\v9 l.gens) f:=by
  intro H hO hS hok W hK Y;have i:∀{b:Addr}{o:Obj},f.heap.get? b=some o->H b=none->(IF f.heap H).get? b=some o:=λe n=>XX e n
  have Dc:∀{b:Addr}{o:Obj}{L:Array dz}{J:Nat},f.heap.get? b=some o->o.data=.dict L J->H b=none:=λ{b o L J} e d=>by
   cases q:H b with
   |none=>rfl
   |some u=>
    rcases W b (by rw[q];simp)with e' | e'
    ·subst e';rw[N]at e;cases e;have E:Data.seq vs.toArray _=Data.dict L J:=d;cases E
    ·rw[(G b e').1]at e;cases e;have E:im #[]=Data.dict L J:=d;cases E
  have Ba:∀{b:Addr}{o:Obj},f.heap.get? b=some o->o.data=.plain->H b=none:=λ{b o} e d=>by
   cases q:H b with
   |none=>rfl
   |some u=>
    rcases W b (by rw[q];simp)with e' | e'
    ·subst e';rw[N]at e;cases e;have E:Data.seq vs.toArray _=Data.plain:=d;cases E
    ·rw[(G b e').1]at e;cases e;have E:im #[]=Data.plain:=d;cases E
  have y:∀{b:Addr}{m:Str->Option Value},f.heap.Ns b m->(IF f.heap H).Ns b m:=λ{b m} ⟨o,L,J,e,d,r⟩=>⟨o,L,J,i e (Dc e d),d,r⟩
  have Q:K.In (IF f.heap H):=λb o e=>i (KX b o e) (by
   cases q:H b with
   |none=>rfl
   |some u=>
    rcases W b (by rw[q];simp)with e' | e'
    ·subst e';rw[hK (by rw[q];simp)]at e;cases e
    ·rw[(G b e').2.1]at e;cases e)
  have hM:Mod K mg (IF f.heap H):=⟨Q,y S,⟨mb,y hb,Z⟩,let ⟨mc,j,M⟩:=R;⟨mc,y j,M⟩,let ⟨O,o,b1,b2,b3,b4,b5,b6⟩:=zi;⟨O,o,b1,b2,i b3 (Ba b3 b6),b4,b5,b6⟩⟩;have e0:OD P w K mg (IF f.heap H) cn [] f H:=⟨Db,hM,λb o e=>aBo e,lU (R9 _ _),trivial,λb hb=>c7 (show b∈([]:List Addr)from hb) Cy,hok,.of_eq hg,Y⟩;refine ai ((F _ Q (y S)).run cn [] f H ⟨[.ref a],[]⟩ [.ref a] [.ref a] _ _ hr e0 (I f (.ref a)) (.cons Db .nil) (Ag H hO hS)) λr l h=>?_
  cases r with
  |error e=>exact(X H e l h).elim
  |ok fl=>
   cases fl with
   |next=>exact g7 h
   |brk=>exact g7 h
   |cont=>exact g7 h
   |ret u=>
    obtain⟨v,H',os,bare,un,C,r',q⟩:=h;have q':v=.bl true:=q;subst q';obtain rfl:u=ax true:=r'
    have old:∀b o,f.heap.get? b=some o->l.heap.get? b=some o\/(bf f.heap b/\o={ cls:=.none,data:=.fields #[] }/\∃qs:Array Value,l.heap.get? b=some { cls:=.none,data:=.fields qs }):=λb o e=>by
     cases q:H b with
     |none=>exact .inl (un.keep b o e q (by intro z;exact c7 (show b∈([]:List Addr)from z) Cy) Cy)
     |some u=>
      rcases hO b with z | ⟨ob,xs,z⟩ | ⟨t,ps,z⟩
      ·rw[q]at z;cases z
      ·have z2:=un.frzs b ob _ z;obtain⟨e1,_⟩:=hok b _ z;obtain⟨U,_⟩:=C b _ z2;rw[e]at e1;cases e1;exact .inl U
      ·obtain⟨j,M,h3⟩:=G b t;obtain⟨m,z2⟩:=un.tbls b ps z;obtain⟨qs,U,_⟩:=C b _ z2;rw[e]at j;cases j;exact .inr ⟨h3,Db,qs,U⟩
    refine⟨Db,⟨λb o e=>?_,λb o e=>?_⟩,os,bare⟩
    ·rcases old b o e with j | ⟨j,rfl,qs,M⟩
     ·exact .inl j
     ·exact .inr (.inl ⟨j,Db,#[],qs,Db,by rw[M];simp⟩)
    ·rcases old b o e with j | ⟨j,rfl,qs,M⟩
     ·exact⟨_,j⟩
     ·exact⟨_,M⟩
 have dT:∀b,Decidable (tabA=some b):=λb=>inferInstance
 cases hk:K.lookup a with
 |some o=>
  have e:=KX a o hk;rw[N]at e;cases e;refine B (λb=>if tabA=some b then some (.tbl #[])else none) (λb=>?_) (.inr ⟨_,vs.toArray,_,hk,Db,Db,Db,by rw[bA,T];exact hl,by simpa using rv⟩) (λb u z=>?_) (λb z=>?_) (λz=>?_) λP e=>⟨#[],a9 e⟩
  ·by_cases hb:tabA=some b
   ·exact .inr (.inr ⟨hb,#[],a9 hb⟩)
   ·exact .inl (a8 hb)
  ·by_cases hb:tabA=some b
   ·have A:=(a9 hb).symm.trans z;cases A;exact⟨#[],(G b hb).1,trivial,λp c q=>by cases q⟩
   ·have A:=(a8 hb).symm.trans z;cases A
  ·by_cases hb:tabA=some b
   ·exact .inr hb
   ·exact c7 (a8 hb) z
  ·exact c7 (a8 λe=>aT a e Db) z
 |none=>
  refine B (λb=>if tabA=some b then some (.tbl #[])else if b=a then some (.frz { cls:=.type "list",data:=.seq vs.toArray } (.lst (ns.map V.int)))else none) (λb=>?_) (.inl (.inr ⟨{ cls:=.type "list",data:=.seq vs.toArray },(a8 λe=>aT a e Db).trans (a9 Db)⟩)) (λb u z=>?_) (λb z=>?_) (λ_=>hk) λP e=>⟨#[],a9 e⟩
  ·by_cases g:tabA=some b
   ·exact .inr (.inr ⟨g,#[],a9 g⟩)
   ·by_cases hb:b=a
    ·exact .inr (.inl ⟨_,_,(a8 g).trans (a9 hb)⟩)
    ·exact .inl ((a8 g).trans (a8 hb))
  ·by_cases g:tabA=some b
   ·have A:=(a9 g).symm.trans z;cases A;exact⟨#[],(G b g).1,trivial,λp c q=>by cases q⟩
   ·by_cases hb:b=a
    ·have A:=((a8 g).trans (a9 hb)).symm.trans z;cases A;subst hb;exact⟨N,by rw[aC];exact hl,vs,_,rv,N⟩
    ·have A:=((a8 g).trans (a8 hb)).symm.trans z;cases A
  ·by_cases g:tabA=some b
   ·exact .inr g
   ·by_cases hb:b=a
    ·exact .inl hb
    ·exact c7 ((a8 g).trans (a8 hb)) z
def ZS{l:bu}{n k:Nat}{I:(Str->Option Value)->Heap->Prop}{p:f7->Heap->Prop}{d:DefRec}{K:Params->aF}{CX:f7->Y5}{sp:f7->Sp}{x}
  (U:l.most=some n) (A:n<=bG) (y:d.params.defaults=[]) (X:gQ k cn)
  (Q:∀(w:f7)(h:Heap),p w h->(K w.params).In h) (O:∀(w:f7)(h:Heap),p w h->∀P,tabA=some P->h.get? P=some { cls:=.none,data:=.fields #[] }/\(K w.params).lookup P=none/\bf h P)
  (F:∀(w:f7)(mg:Str->Option Value)(fa:Addr)(h:Heap),(K w.params).In h->h.Ns eB mg->mg d.name=some (.ref fa) ->
   ∃r:iF,(∀s(u:Value),BindsTo s r ⟨[u],[]⟩ [(x,u)]) /\
    ∀base:Heap,(K w.params).In base->base.Ns eB mg->dI l.prog w (K w.params) mg base (CX w) k fa r [x] (sp w))
  (B:∀(w:f7)H(a:Addr)(ns:List Int),ns.length<=n->Gw H->mL (K w.params) H a (ns.map V.int)->sp w [.ref a] H (λv _=>v=.bl true) λ_ _ _=>False)
  (t:∀(w:f7)H s(e:Value)C,CX w [] H s (λ_ _ _=>False) e C->False) :
  ZI q loose I p l.row.toRowW d [] (λf vs=>ir f vs):=by
 refine Att.attach_call U y λw s₀ m mg mb fa o pm cd J a vs ns G Y Z hd R z j i c S=>?_;have E:=Q w _ Y;obtain⟨r,hb,L⟩:=F w mg fa _ E G.T.g z;exact XH E G.T.g G.T.b G.T.builtins G.T.nolimit S j i (bL c A) X G.T.bmain (O w _ Y) L hb (λH M N=>B w H a ns c M N) λH e C=>t w H m e C
noncomputable def AD(s:Stmt):Arguments:=match s with
|.FunctionDef _ a _ _ _ _ _ _ _ _=>a
|_=>{ posonlyargs:=[],args:=[],vararg:=none,kwonlyargs:=[],kw_defaults:=[],kwarg:=none,defaults:=[] }
noncomputable def lK(s:Stmt):List Stmt:=match s with
|.FunctionDef _ _ b _ _ _ _ _ _ _=>b
|_=>[]
noncomputable def aX(s:Stmt):Scope:=match s with
|.FunctionDef _ _ _ _ _ _ sc _ _ _=>sc
|_=>{ kind:=.function,names:=[],isGenerator:=false,isCoroutine:=false }
abbrev iG:Y5:=λ_ _ _ _ _ _=>False
abbrev E0:XK:=λ_ _ _=>False
def iV:vG iG X E0:=λ_ _ _ _ _ _ _ h=>h.elim
structure MB(K:aF)(x qual:Str)(st:Stmt)(f:Addr)(fd:iF):Prop where
 ex:∃(oc:Value)(od:Option Addr)(kV qy pm:Value)(an:Option Addr)(ee ct:Value)(sj:Array (Option Value)),
  fd=nO x qual (AD st) (lK st) (aX st) .none kV qy pm an ee ct/\K.lookup f=some ⟨oc,od,.func fd,sj⟩/\qG K ee qual=true
 kp:gB K (.ref f)=true
section
variable{P:cW}{w:f7}{K:aF}{mg:Str->Option Value}{base:Heap}
def MB.ok{x st}{f:Addr}{N e:List Str}{k:Nat}{g:Sp}(F:MB K x qual st f fd)(S:bZ N e (aX st))(len:∀vs H Q E,g vs H Q E->vs.length=e.length)
  (b:∀(a:Value)(A:d9)outer(s:Shared)H(vs:List V)Q E,gQ k (A.deeper (i3 qual (aX st) s.heap.objs.size f a))->g vs H Q E ->
   ∃t,A9 (rF iG P w K mg base N qual (aX st) f a A outer s H E).nox (lK st) t/\t { nx:=λ_ i=>Q .non i,rt:=Q } (mE N vs) H):dI P w K mg base iG (k+1) f fd e g:=by
 obtain⟨o,p,kV,j,r,an,a,ct,n,rfl,m,c⟩:=F.ex;refine X5 m c S len λA outer s H vs Q E l d=>?_;obtain⟨t,h,q⟩:=b a A outer s H vs Q E l d;exact⟨t,h.nox,q⟩
def MB.binds{x st}{f:Addr}{d:List Str}(F:MB K x qual st f fd)
  (h:∀(kV b c:Value)(an:Option Addr)(a ct:Value)(e:List Value),e.length=d.length->bindArgs (nO x qual (AD st) (lK st) (aX st) .none kV b c an a ct) ⟨e,[]⟩=pure (d.zip e)):qF K fd d []:=by
 obtain⟨k,l,kV,b,c,an,a,ct,i,rfl,j,g⟩:=F.ex;exact .all (h kV b c an a ct)
def X2{x st}{f:Addr}{kV}(l:K.lookup f=some ⟨oc,od,.func (nO x qual (AD st) (lK st) (aX st) .none kV qy pm an ee ct),sj⟩)
  (c:qG K ee qual=true) (k:gB K (.ref f)=true):MB K x qual st f (nO x qual (AD st) (lK st) (aX st) .none kV qy pm an ee ct):=⟨⟨oc,od,kV,qy,pm,an,ee,ct,sj,Db,l,c⟩,k⟩
end
def Q8{n:Nat}(h:n<=1000):n<bG:=rN h Cv
section
variable{X:Cx}
def pv(i:Nat){x:Str}(b:X.N[i]?=some x:=by rfl)(c:Fq X.env.scope x:=by first | exact j7 Db | exact j1 (j7 Db) | exact j1 (j1 Db))(hd:(x==("__debug__":Str))=false:=by decide)
  (a:(x==("__classdict__":Str))=false:=by decide):PE X (.Name x pos) (nZ i):=WB b c hd a
end
def aV(H a:Hp):Prop:=∀b o,H b=some o->a b=some o
def aV.refl(H:Hp):aV H H:=λ_ _ h=>h
def aV.trans(a:aV H H1)(b:aV H1 H2):aV H H2:=λc o h=>b c o (a c o h)
def aV.seq{K}{a:Addr}(e:aV H H')(h:mL K H a xs):mL K H' a xs:=by
 rcases h with(h | ⟨o,h⟩) | h
 ·exact .inl (.inl (e _ _ h))
 ·exact .inl (.inr ⟨o,e _ _ h⟩)
 ·exact .inr h
def Zy{E:Value->Shared->Prop}{z}{Q:Unit->Shared->Prop}(a:Q () s) :
  wpAny M A (t4 tg it (.str z t)) Q E s:=by
 unfold t4
 cases tg<;>first
  |exact aZ a
  | (cases it<;>exact aZ a)
noncomputable def Fz(z:Str):It:=⟨λi _=>i<z.cps.size,λi H x a=>a=H/\∃c,z.cps[i]?=some c/\x=.str ⟨#[c]⟩,λi _=>z.cps.size<=i⟩
def QY{K}(it:Addr)(z:Str)(t:Tok)
  (W:∀A:d9,A.handled=none->Walks P w A it [it] [it] z.cps.size (SignAt z) (λi h=>h.IsStrIter it ty z t i))
  (S:∀A(i:Nat)(s:Shared)Q E,s.heap.IsStrIter it ty z t i->Q (.ref it) s->wpAny (model P w) A (sk (.ref it)) Q E s) :
  L3 P w K tg (Fz z) [it] it (λi h=>i<=z.cps.size/\h.IsStrIter it ty z t i) where
 mem:=by simp
 obj:=λi h st b hb=>by
  obtain rfl:b=it:=by simpa using hb
  obtain⟨_,o,e,c,d⟩:=st;exact⟨o,e,λv q=>by rw[d]at q;cases q⟩
 keep:=λi h h' st k=>by
  obtain⟨l,o,e,r⟩:=st;exact⟨l,o,k it Cy o e,r⟩
 item:=by
  intro X hP hw hK hc i pins s σ H E I hf st hg;subst hP hw hK;obtain⟨f0,f1,f2,f3,f4,f5⟩:=hf it Cy;refine(W X.A (I.ok.hd hc)).item i s _ _ hg st.2 λv h' tk hv lg kk=>?_;obtain⟨c,u,hx,rfl⟩:=hv;have I1:cU X pins σ H { s with heap:=h',toks:=tk }:=I.turned (λb o hb e=>kk b o (by simpa using hb) e) f0 f1 f3 f4 f5;exact⟨_,Db,Zy ⟨.str ⟨#[c]⟩,H,I1,⟨u,Db⟩,⟨Db,c,hx,Db⟩,⟨hg,lg⟩,λb hb=>(hf b hb).1⟩⟩
 done:=by
  intro X hP hw hK hc i pins s σ H E I hf st hg;subst hP hw hK;obtain⟨f0,f1,f2,f3,f4,f5⟩:=hf it Cy;have e:i=z.cps.size:=Nat.le_antisymm st.1 hg;subst e;exact(W X.A (I.ok.hd hc)).done s _ _ st.2 λh' tk kk=>⟨Db,I.turned (λb o hb e=>kk b o (by simpa using hb) e) f0 f1 f3 f4 f5⟩
 self:=λA i s Q E st h=>S A i s Q E st.2 h
def Oa(K:aF)(d:TE):TI:=λe H R=>d e H λx b=>(∃a,x=.ref a/\(∃c,mL K b a c)/\R (Ig K a) b)\/(∃a,x=.ref a/\(∃c,pY K b a c)/\R (Ic K a) b)\/∃z,x=.str z/\R (Fz z) b
def Xv{X:Cx}(y:PE X l tl):PI X tg l (Oa X.K tl):=by
 intro f s u H R I h;refine jG (y f s u H _ I h) λv c J=>?_;obtain⟨x,j,d,n,C⟩:=J;rcases C with⟨a,rfl,⟨G,m⟩,q⟩ | ⟨a,rfl,⟨G,m⟩,q⟩ | ⟨z,rfl,q⟩
 ·cases n;obtain⟨g,F,p,B⟩:=d.list m;refine i4 p.isList ⟨c.heap.objs.size,[c.heap.objs.size],_,_,j,Db,d.kept (t':=c.toks) λb o e=>aD _ e,QZ a _,⟨_,aU _ Db,Db,Db⟩,λb hb=>?_,q⟩;obtain rfl:b=c.heap.objs.size:=by simpa using hb
  exact d.fpOk (aM _) (d.hok.fresh (aM _))
 ·cases n;obtain⟨g,F,p,B⟩:=d.tuple m;refine ci (show c.heap.IsTuple a g.toArray from p) ⟨c.heap.objs.size,[c.heap.objs.size],_,_,j,Db,d.kept (t':=c.toks) λb o e=>aD _ e,MO a _,⟨_,aU _ Db,Db,Db⟩,λb hb=>?_,q⟩;obtain rfl:b=c.heap.objs.size:=by simpa using hb
  exact d.fpOk (aM _) (d.hok.fresh (aM _))
 ·obtain⟨t,rfl⟩:=n
  have fin:∀(o:Obj)(ty:String),(∀A:d9,A.handled=none->Walks X.prog X.w A c.heap.objs.size [c.heap.objs.size] [c.heap.objs.size] z.cps.size (SignAt z) (λi h=>h.IsStrIter c.heap.objs.size ty z t i)) ->
    (∀A(i:Nat)(s:Shared)Q E,s.heap.IsStrIter c.heap.objs.size ty z t i->Q (.ref c.heap.objs.size) s->wpAny (model X.prog X.w) A (sk (.ref c.heap.objs.size)) Q E s) ->
    (c.heap.push o).IsStrIter c.heap.objs.size ty z t 0->Ia X f u tg R (.ref c.heap.objs.size) { c with heap:=c.heap.push o }:=λo ty W S st=>by
   refine⟨c.heap.objs.size,[c.heap.objs.size],_,Fz z,j,Db,d.kept (t':=c.toks) λb o e=>aD _ e,QY _ z t W S,⟨cD _,st⟩,λb hb=>?_,q⟩;obtain rfl:b=c.heap.objs.size:=by simpa using hb
   exact d.fpOk (aM _) (d.hok.fresh (aM _))
  cases r:z.cps.all (·<128)
  ·exact wpAny_pyIter_wide r (fin _ "str_iterator" (λA k=>Walks.strWide k _ z t) (λ_ _ _ _ _ st h=>wpAny_pyIter_striter_wide st h) ⟨_,aU _ Db,Db,Db⟩)
  ·exact wpAny_pyIter_ascii r (fin _ "str_ascii_iterator" (λA k=>Walks.strAscii k _ z t) (λ_ _ _ _ _ st h=>wpAny_pyIter_striter_ascii st h) ⟨_,aU _ Db,Db,Db⟩)
structure BP where
 cl:List (Str×Addr)
 C:Addr
 s3:Shared
 H3:Hp
 ex:List Addr
 pn:List (Addr×Obj)
noncomputable def blk(X:Cx)(scope:Scope)(N':List Str)(b:BP):Cx where
 prog:=X.prog
 w:=X.w
 K:=X.K
 mg:=X.mg
 base:=X.base
 A:=X.A
 N:=N'
 s₀:=b.s3
 H₀:=b.H3
 env:=compEnvC scope b.cl b.C X.env
 outer:=X.stack
 stack:=X.stack
 ex:=b.ex
 fn:=λx=>scope.names.lookup x==some .cell
 calm:=X.calm
 pn:=b.pn
 xe:=λ_ _=>False
theorem yH{env:Env}:∀(f:List (Str×m3))(b:List (Str×Addr)),(∀x∈f,x.2=.free->∃c,env.cells.lookup x.1=some c) ->
 (∀n c,b.lookup n=some c->env.cells.lookup n=some c) ->
 ∃cl:List (Str×Addr),(tx f b (λx o=>match x with | (name,kind)=>if kind==.free then do let a <- cellOf env name;pure (g6 ((name,a)::o))else pure (g6 o)):Sem (List (Str×Addr)))=pure cl /\
  (∀n c,cl.lookup n=some c->env.cells.lookup n=some c)/\(∀n,((∃c,b.lookup n=some c)\/(n,f9)∈f)->∃c,cl.lookup n=some c)
|[],b,_,ha=>⟨b,Db,ha,λn h=>h.elim id λz=>c7 z Cy⟩
| (n,k)::r,b,h,ha=>by
 by_cases j:k=.free
 ·subst j;obtain⟨c,p⟩:=h (n,.free) (aN ..) Db
  obtain⟨cl,e,g,i⟩:=yH r ((n,c)::b) (λx l=>h x (aJ _ l)) (λm d hm=>by
   rw[cE]at hm
   cases hb:m==n with
   |true=>
    rw[hb]at hm;obtain rfl:m=n:=by simpa using hb
    cases hm;exact p
   |false=>rw[hb]at hm;exact ha m d hm)
  refine⟨cl,?_,g,λm hm=>i m ?_⟩
  ·rw[vQ];have s:cellOf env n=pure c:=by unfold cellOf;rw[p]
   simp only[bb,n8,s];exact e
  ·rcases hm with⟨d,hd⟩ | hm
   ·left
    rw[cE]
    cases hb:m==n with
    |true=>exact⟨c,Db⟩
    |false=>exact⟨d,hd⟩
   ·rcases aK.mp hm with z | z
    ·left
     cases z;exact⟨c,by simp[cE]⟩
    ·exact .inr z
 ·obtain⟨cl,e,g,i⟩:=yH r b (λx l=>h x (aJ _ l)) ha;refine⟨cl,?_,g,λm hm=>i m (hm.imp id λz=>?_)⟩
  ·rw[vQ];have q:(k==f9)=false:=by simpa using j
   simp only[q,fL,s0];exact e
  ·rcases aK.mp z with z | z
   ·cases z;exact c7 Db j
   ·exact z
def yG{env:Env}{scope:Scope}(h:∀x∈scope.names,x.2=.free->∃c,env.cells.lookup x.1=some c) :
  ∃cl,closureFor scope env=pure cl/\(∀n c,cl.lookup n=some c->env.cells.lookup n=some c)/\∀n,(n,f9)∈scope.names->∃c,cl.lookup n=some c:=by
 obtain⟨cl,e,a,b⟩:=yH (env:=env) scope.names [] h (λn c z=>by simp at z);refine⟨cl,?_,a,λn z=>b n (.inr z)⟩;unfold closureFor;refine Eq.trans ?_ (h9 (λm=>m >>= λr=>(pure r:Sem (List (Str×Addr)))) e)
 rfl
theorem tD{env:Env}{x k}:∀{names:List (Str×m3)},
 (names.map λ(n,k)=>if(k==f9&&env.scope.kind==.function&&env.kindOf n==some .cell)then(n,e6)else(n,k)).lookup x=some k ->
 ∃a,(x,a)∈names/\(a=k\/(a=.free/\k=.cell))
|[],h=>by simp at h
| (n,j)::r,h=>by
 rw[bS,cE]at h;dsimp only at h;by_cases b:(j==f9&&env.scope.kind==.function&&env.kindOf n==some .cell)=true
 ·rw[a9 b]at h;dsimp only at h
  cases hb:x==n with
  |true=>
   rw[hb]at h;obtain rfl:x=n:=by simpa using hb
   cases h;have e:j=.free:=by simp only[dR,ff]at b;exact b.1.1
   exact⟨j,aN ..,.inr ⟨e,Db⟩⟩
  |false=>
   rw[hb]at h;obtain⟨a,c,d⟩:=tD (names:=r) h;exact⟨a,aJ _ c,d⟩
 ·rw[a8 b]at h;dsimp only at h
  cases hb:x==n with
  |true=>
   rw[hb]at h;obtain rfl:x=n:=by simpa using hb
   cases h;exact⟨_,aN ..,.inl Db⟩
  |false=>
   rw[hb]at h;obtain⟨a,c,d⟩:=tD (names:=r) h;exact⟨a,aJ _ c,d⟩
theorem zF{env:Env}{x}:∀{names:List (Str×m3)},names.lookup x=some .free ->
 (names.map λ(n,k)=>if(k==f9&&env.scope.kind==.function&&env.kindOf n==some .cell)then(n,e6)else(n,k)).lookup x=some .cell \/
 (names.map λ(n,k)=>if(k==f9&&env.scope.kind==.function&&env.kindOf n==some .cell)then(n,e6)else(n,k)).lookup x=some .free
|[],h=>by simp at h
| (n,j)::r,h=>by
 rw[cE]at h;rw[bS,cE];dsimp only
 cases hb:x==n with
 |true=>
  rw[hb]at h;cases h;by_cases a:(f9==f9&&env.scope.kind==.function&&env.kindOf n==some .cell)=true
  ·rw[a9 a];dsimp only;rw[hb];exact .inl Db
  ·rw[a8 a];dsimp only;rw[hb];exact .inr Db
 |false=>
  rw[hb]at h;have b:=zF (env:=env) (names:=r) h;by_cases a:(j==f9&&env.scope.kind==.function&&env.kindOf n==some .cell)=true
  ·rw[a9 a];dsimp only;rw[hb];exact b
  ·rw[a8 a];dsimp only;rw[hb];exact b
noncomputable def vB(a outer:List (Str×m3))(b:List Str):List Str->List (Option Nat)->Bool
|[],[]=>true
|x::r,none::f=>vB a outer b r f
|x::r,some j::f=>(a.lookup x==some .free)&&(b[j]?==some x)&&(outer.lookup x==some .cell)&&vB a outer b r f
|_,_=>false
theorem A0{a outer:List (Str×m3)}:∀{N':List Str}{fr:List (Option Nat)},vB a outer Nx N' fr=true ->
 N'.length=fr.length/\∀(i:Nat)(x:Str)(j:Nat),N'[i]?=some x->fr[i]?=some (some j)->a.lookup x=some .free/\Nx[j]?=some x/\outer.lookup x=some .cell
|[],[],_=>⟨Db,λi x j h=>by simp at h⟩
|x::r,none::f,h=>by
 obtain⟨d,e⟩:=A0 (N':=r) (fr:=f) h;refine⟨by simp[d],λi y j c b=>?_⟩
 cases i with
 |zero=>simp at b
 |succ i=>exact e i y j (by simpa using c) (by simpa using b)
|x::r,some k::f,h=>by
 simp only[vB,dR,ff]at h;obtain⟨⟨⟨g,a2⟩,l⟩,h⟩:=h;obtain⟨d,e⟩:=A0 (N':=r) (fr:=f) h;refine⟨by simp[d],λi y j c b=>?_⟩
 cases i with
 |zero=>
  simp at c b;subst c;subst b;exact⟨g,a2,l⟩
 |succ i=>exact e i y j (by simpa using c) (by simpa using b)
|[],_::_,h=>by simp[vB]at h
|_::_,[],h=>by simp[vB]at h
noncomputable def zR(a:List (Option Nat))(b:St):St:=a.map λo=>o.bind λj=>(b[j]?).join
def pV.but{h}{a:Addr}(ok:pV P w H h)(n:H a=none)(sb:fF a h h'):pV P w H h':=λb ob e=>by
 refine(ok b ob e).stay (λc u hc q=>(sb.2 c ?_).trans q) (λ_ q=>q) λ_ _ q=>q;rintro rfl;rcases hc with rfl | hc
 ·rw[n]at e;cases e
 ·rw[n]at hc;cases hc
def QO(X:Cx)(a:List Expr)(b:TT):Prop:=
 ∀pins s σ H(Q:Bool->Hp->Prop),cU X pins σ H s->b σ H Q ->
  wpAny (model X.prog X.w) X.A (tx a true λc r=>if r=true then do let ok <- isTrue c X.env (eval c X.env);pure (g6 ok)else pure (g6 r)) (TP X pins σ Q) X.xe s
def ZZ:TT:=λ_ H Q=>Q true H
def aBc:QO X [] ZZ:=λ_ _ _ H _ I h=>wpAny_tests_nil ⟨H,I,h⟩
def aBb(h:PT X c tt):QO X [c] tt:=λa s b H Q I q=>wpAny_tests_one (h a s b H Q I q)
def TQ(q:List (Option Nat))(t:TI)(g:BP->TG)(s:BP->TT)(r:BP->TE):TE:=λp H Q=>t p H λJ k=>∀(h:BP)(a:Addr),k a=none->∃W:Nat->Nat->St->Hp->Prop,
 (∃m,W 0 m (zR q p) (eM k a (.lst [])))/\∀i m f d,W i m f d ->
  (J.stop i d/\Q (.ref a) d)\/(J.go i d/\∀x l,J.yld i d x l->g h x f l λc H3=>s h c H3 λb n=>
   if b=true then r h c n λy o=>∃j,o a=some (.lst j)/\j.length<bG/\∃e,e<m/\W (i+1) e c (eM o a (.lst (j++[y])))
   else∃e,e<m/\W (i+1) e c n)
theorem tP:∀{a:List (Str×m3)},a.filter (λy=>y.2==e6)=[]->∀(n:Nat)(b:List (Str×Addr))h,y0 n a b=b/\eo h a=h
|[],_,_,_,_=>⟨Db,Db⟩
| (x,k)::r,e,n,b,h=>by
 rw[fA]at e
 cases c:(k==e6)with
 |true=>dsimp only at e;rw[c,a9 rfl]at e;cases e
 |false=>
  dsimp only at e;rw[c,a8 dA]at e;unfold y0 eo;rw[c,a8 dA,a8 dA];exact tP e n b h
theorem A6{z:Str}:∀{a:List (Str×m3)},a.filter (λy=>y.2==e6)=[(z,.cell)]->∀(n:Nat)(b:List (Str×Addr))(h:Heap),y0 n a b=(z,n)::b/\eo h a=h.push { cls:=.type "cell",data:=.cell none }
|[],e,_,_,_=>by cases e
| (x,k)::r,e,n,b,h=>by
 rw[fA]at e
 cases c:(k==e6)with
 |true=>
  dsimp only at e;rw[c,a9 rfl]at e;injection e with d f
  injection d with d _
  subst d;unfold y0 eo;rw[c,a9 Db,a9 rfl];exact tP f (n+1) ((x,n)::b) _
 |false=>
  dsimp only at e;rw[c,a8 dA]at e;unfold y0 eo;rw[c,a8 dA,a8 dA];exact A6 e n b h
def wQ(a:List (Str×m3)):Prop:=a.filter (λy=>y.2==e6)=[]\/∃z,a.filter (λy=>y.2==e6)=[(z,.cell)]/\a.lookup z=some .cell
structure aR3(names:List (Str×m3))(cl tw:List (Str×Addr))(h:Heap)(C:Addr):Prop where
 get:∀x c,tw.lookup x=some c->(C<c/\(x,e6)∈names/\h.IsCell c none)\/(cl.lookup x=some c/\(x,e6)∉names)
 old:∀x c,names.lookup x=some .free->cl.lookup x=some c->tw.lookup x=some c
 has:∀x,(x,e6)∈names->∃c,tw.lookup x=some c
 keep:∀x c,cl.lookup x=some c->∃c',tw.lookup x=some c'
 inj:∀x y c,tw.lookup x=some c->tw.lookup y=some c->C<c->x=y
def aBr{E:Value->Shared->Prop}{s:Shared}{d:Scope}{globals:Addr}{a:List (Str×Addr)}{Q:Env->Shared->Prop}(i:wQ d.names)(j:∀x c,a.lookup x=some c->c<s.heap.objs.size)
  (v:∀q k,q.Ns s.heap.objs.size (λ_=>none)->(∀b o,s.heap.get? b=some o->q.get? b=some o)->aR3 d.names a k q s.heap.objs.size->Q (newEnv d s.heap.objs.size globals k qual none .none (some outer) t5) { s with heap:=q }) :
  wpAny M A (ii d globals a [] qual none .none (some outer)) Q E s:=by
 simp only[ii,QU,n8];refine aE (wpAny_alloc ?_);refine aE (wpAny_layCells _ (λname kind r=>by cases t:kind==e6<;>simp[t]) _ _ _ _ ?_);have mem:∀x,(x,e6)∈d.names->(x,e6)∈d.names.filter (λy=>y.2==e6):=λx f=>cH.mpr ⟨f,Db⟩;rcases i with i | ⟨z,i,m⟩
 ·rw[(tP i _ _ s.heap).1,(tP i 0 [] _).2]
  have no:∀x,(x,e6)∉d.names:=λx f=>by
   have:=mem x f;rw[i]at this;cases this
  exact aE (aZ (aZ (v _ _ (ZA.new s.heap (.type "dict")) (λb o e=>aD _ e) ⟨λx c h=>.inr ⟨h,no x⟩,λx c _ h=>h,λx h=>c7 h (no x),λx c h=>⟨c,h⟩,λx y c h _ l=>c7 (j x c h) (vP l)⟩)))
 ·rw[(A6 i _ _ s.heap).1,(A6 i 0 [] _).2,show({ s with heap:=s.heap.push { cls:=.type "dict",data:=.dict #[] } }:Shared).heap.objs.size=s.heap.objs.size+1 from dX ..]
  have Dy:∀x,(x,e6)∈d.names->x=z:=λx f=>by
   have:=mem x f;rw[i]at this;exact h9 ip (aP.mp this)
  have u:∀x c,((z,s.heap.objs.size+1)::a).lookup x=some c->(x=z/\c=s.heap.objs.size+1)\/(x≠z/\a.lookup x=some c):=λx c h=>by
   rw[cE]at h
   cases hb:x==z with
   |true=>rw[hb]at h;cases h;exact .inl ⟨bo hb,Db⟩
   |false=>rw[hb]at h;exact .inr ⟨ne_of_beq_false hb,h⟩
  have p:∀x c,x≠z->a.lookup x=some c->((z,s.heap.objs.size+1)::a).lookup x=some c:=λx c f h=>by
   rw[cE,beq_eq_false_iff_ne.mpr f];exact h
  have g:((s.heap.push { cls:=.type "dict",data:=.dict #[] }).push { cls:=.type "cell",data:=.cell none }).get? (s.heap.objs.size+1)=some { cls:=.type "cell",data:=.cell none }:=by
   have:=aU (s.heap.push { cls:=.type "dict",data:=.dict #[] }) (o:={ cls:=.type "cell",data:=.cell none }) Db
   rwa [dX]at this
  refine aE (aZ (aZ (v _ _ ((ZA.new s.heap (.type "dict")).keeps λb o e=>aD _ e) (λb o e=>aD _ (aD _ e)) ⟨λx c h=>?_,λx c f h=>p x c (λe=>by rw[e,m]at f;cases f) h,λx f=>⟨s.heap.objs.size+1,by rw[Dy x f];simp⟩,λx c h=>?_,λx y c G H l=>?_⟩)))
  ·rcases u x c h with⟨rfl,rfl⟩ | ⟨n,h⟩
   ·exact .inl ⟨mV _,i0 m,_,g,Db⟩
   ·exact .inr ⟨h,λf=>n (Dy x f)⟩
  ·by_cases e:x=z
   ·exact⟨s.heap.objs.size+1,by rw[e];simp⟩
   ·exact⟨c,p x c e h⟩
  ·rcases u x c G with⟨w,_⟩ | ⟨_,C⟩
   ·rcases u y c H with⟨B,_⟩ | ⟨_,F⟩
    ·exact w.trans B.symm
    ·exact c7 (j y c F) (vP l)
   ·exact c7 (j x c C) (vP l)
section
variable{X:Cx}
def SK{R:Result->Shared->Prop}{iter}(I:Nat->Shared->Prop)
  (turn:∀n s,I n s->wpAny (model prog w) A (ij it) (λr a=>match r with
   |none=>R (.ok .next) a
   |some v=>wpAny (model prog w) A (t4 target it v) (λ_ q=>wpAny (model prog w) A (cf target env v) (λ_ i=>
     wpAny (model prog w) A (tx t true λc r=>if r=true then do let ok <- isTrue c env (eval c env);pure (g6 ok)else pure (g6 r)) (λok b=>
      if ok=true then wpAny (model prog w) A (eval f env) (λx j=>wpAny (model prog w) A (call (.builtin "list.append") [acc,x]) (λ_ k=>∃m,m<n/\I m k) (λ_ _=>False) j) (λ_ _=>False) b
      else∃m,m<n/\I m b) (λ_ _=>False) i) (λ_ _=>False) q) (λ_ _=>False) a) (λ_ _=>False) s)
  (n:Nat) (h:I n s):x6 (model prog w) A (.compLoop (.ListComp f [⟨target,iter,t,0⟩] scope pos) 0 it acc env) R s:=by
 refine codeAny_loop Db I (λn s y=>?_) n h;show wpAny _ A ((compTurn (.ListComp f [⟨target,iter,t,0⟩] scope pos) 0 it acc env).onRaise (λx=>do ek x env;theTreesLotGoes x)) _ _ s;refine wpAny_noted ?_;rw[compTurn_list];have no:∀{E:Value->Shared->Prop}(e:Value)(s:Shared),False->E e s:=λ_ _ z=>z.elim;refine aE (jo (aE (dN (turn n s y) (λr a d=>?_) no)))
 cases r with
 |none=>exact aZ d
 |some v=>
  refine aE (dN d (λ_ q u=>aE (dN u (λ_ i l=>aE (dN l (λok b g=>?_) no)) no)) no)
  cases ok with
  |false=>exact aZ ⟨Db,g⟩
  |true=>exact aE (aE (dN g (λx j o=>aE (dN o (λ_ k p=>aZ (aZ ⟨Db,p⟩)) no)) no))
variable{f iter F:Expr}{t:List Expr}{scope:Scope}{pos:Pos}{B:List Str}{G:List (Option Nat)}{O:TI}{g:BP->TG}{M:BP->TT}{L:BP->TE}
def K3{H2:Hp}{s2:Shared}{it:Addr}{tn:Nat->Heap->Prop}{J:It}{Q:VK}{RR:Value->Addr->Result->Shared->Prop}{cl:List (Str×Addr)}{E:Value->Shared->Prop}
  (U:X.calm=true) (vd:scope.kind=.function) (hz:wQ scope.names) (vc:vB scope.names X.env.scope.names X.N B G=true)
  (s:∀n c,cl.lookup n=some c->X.env.cells.lookup n=some c) (uy:∀n,(n,f9)∈scope.names->∃c,cl.lookup n=some c)
  (hY:∀b:BP,PG (blk X scope B b) F (g b)/\QO (blk X scope B b) t (M b)/\PE (blk X scope B b) f (L b))
  (I2:cU X pins σ H2 s2) (T:L3 X.prog X.w X.K F J fp it tn) (rm:tn 0 s2.heap) (f2:∀b∈fp,B8 X pins H2 b)
  (q:∀(bp:BP)(I:Addr),H2 I=none->∃W:Nat->Nat->St->Hp->Prop,(∃m,W 0 m (zR G σ) (eM H2 I (.lst [])))/\∀i m S R,W i m S R ->
   (J.stop i R/\Q (.ref I) R)\/(J.go i R/\∀x H2,J.yld i R x H2->g bp x S H2 λwc H3=>M bp wc H3 λb H4=>
    if b=true then L bp wc H4 λy H5=>∃ys,H5 I=some (.lst ys)/\ys.length<bG/\∃m',m'<m/\W (i+1) m' wc (eM H5 I (.lst (ys++[y])))
    else∃m',m'<m/\W (i+1) m' wc H4))
  (ze:∀I C s' HY m,cU X pins σ HY s'->B8 X pins HY C->s'.heap.Ns C m->Q (.ref I) HY->RR (.ref I) C (.ok .next) s') :
  wpAny (model X.prog X.w) X.A (newList []) (λI xm=>wpAny (model X.prog X.w) X.A (ii scope X.env.globals cl [] X.env.qual none .none (some X.env)) (λul xn=>
   x6 (model X.prog X.w) X.A (.compStart (.ListComp f [⟨F,iter,t,0⟩] scope pos) 0 (.ref it) I { ul with scope:=relabel scope X.env }) (RR I ul.locals) xn) E xm) E s2:=by
 obtain⟨zt,zp⟩:=A0 vc;have wn:H2 s2.heap.objs.size=none:=I2.hok.fresh (aM _);refine iD ?_ (by show 0<=bG;exact cD _)
 generalize wz:({ s2 with heap:=s2.heap.push { cls:=.type "list",dict:=none,data:=.seq ([]:List Value).toArray } }:Shared)=s3
 have a:cU X pins σ (eM H2 s2.heap.objs.size (.lst [])) s3:=by
  rw[<- wz];exact I2.laid (t':=s2.toks) (λb u e=>aD _ e) (aM _) ⟨cD _,[],0,.nil,aU _ Db⟩
 have wr:∀b∈fp,b<s3.heap.objs.size:=λb hb=>by
  obtain⟨o,e,_⟩:=T.obj 0 _ rm b hb;rw[<- wz];exact aY (aD _ e)
 have yn:tn 0 s3.heap:=T.keep 0 _ _ rm λb _ o e=>by rw[<- wz];exact aD _ e
 have Z:∀b∈fp,B8 X pins (eM H2 s2.heap.objs.size (.lst [])) b:=λb hb=>⟨by
  obtain⟨o,e,_⟩:=T.obj 0 _ rm b hb;rw[bV (cL (aY e))];exact(f2 b hb).1,(f2 b hb).2⟩
 refine aBr hz (λx c e=>by obtain⟨v,o,ho,_⟩:=a.cell x c (s x c e);exact aY ho) λvh H wv keep P=>?_
 generalize zd:eM H2 s2.heap.objs.size (.lst [])=H3 at *
 generalize Bs:s2.heap.objs.size=ac at *
 generalize hC:s3.heap.objs.size=C at *
 obtain⟨W,⟨m0,w0⟩,turn⟩:=q ⟨H,C,s3,H3,fp,X.pn++pins⟩ ac wn;rw[zd]at w0
 have Y:∀x c,X.env.cells.lookup x=some c->c<C:=λx c e=>by
  obtain⟨v,o,ho,_⟩:=a.cell x c e;rw[<- hC];exact aY ho
 have uw:∀b∈fp,b≠C:=λb hb=>by exact cL (wr b hb)
 have xy:X.env.locals<C:=by rw[<- hC];exact a.lt
 have xc:∀b∈pS X.stack,b≠C/\H3 b=none:=λb hb=>⟨by
  rintro rfl;rcases aK.mp (a.stkSub b hb)with z | z
  ·rw[z]at xy;exact c7 xy (eO _)
  ·exact a.nofs (by rw[hC];exact aM _) z,a.stkFree b hb⟩
 have wf:∀x c,X.env.cells.lookup x=some c->c≠C:=λx c e z=>by
  obtain⟨v,o,ho,_⟩:=a.cell x c e;have:=aY ho;rw[z,hC]at this;exact c7 this (eO _)
 -- the block's context
 have Bd:(blk X scope B ⟨H,C,s3,H3,fp,X.pn++pins⟩).Ok:=by
  refine⟨a.ok.mod,vd,a.ok.glob,a.ok.blt,lU hC,λx y c h1 h2=>by
   rcases P.get x c h1 with⟨l1,_⟩ | ⟨g1,_⟩<;>rcases P.get y c h2 with⟨l2,_⟩ | ⟨g2,_⟩
   ·exact P.inj x y c h1 h2 l1
   ·exact c7 (Y y _ (s y _ g2)) (vP l1)
   ·exact c7 (Y x _ (s x _ g1)) (vP l2)
   ·exact a.ok.inj x y c (s x c g1) (s y c g2),λx hx=>?_,λx c hf h=>by
   rcases P.get x c h with⟨l,_⟩ | ⟨_,n⟩
   ·exact bL (lU hC) (hV l)
   ·exact c7 (i0 (beq_iff_eq.mp hf)) n,λ_=>a.ok.hd U,a.ok.frames,.inl Db,
   λb hb=>⟨uw b hb,λx c h=>by
    rcases P.get x c h with⟨l,_⟩ | ⟨h,_⟩
    ·exact hU (OJ (wr b hb) l)
    ·exact(Z b hb).2.2.2.2.1 x c (s x c h)⟩,λb o e=>a.bs b o e,?_,λb o e hb=>?_,λb hb hs=>?_,a.stack,λb hb=>(xc b hb).2,a.env0.tab⟩
  ·have back:∀k,(relabel scope X.env).names.lookup x=some k->(k=.cell\/k=.free)->∃c,(H).lookup x=some c:=λk h hk=>by
    obtain⟨k0,h1,h2⟩:=tD h;rcases(show k0=.cell\/k0=.free from h2.elim (λe=>by rw[e];exact hk) λe=>.inr e.1)with rfl | rfl
    ·exact P.has x h1
    ·obtain⟨c,hc⟩:=uy x h1;exact P.keep x c hc
   rcases hx with hx | hx
   ·exact back _ hx (.inl Db)
   ·exact back _ hx (.inr Db)
  ·exact bL a.ok.bsz (bL a.sz (aM _))
  ·rcases(Z b hb).2.2.2.1 with z | z
   ·exact a.ok.noex b o e z
   ·exact c7 (bT (aY (a.ok.bs b o e).1) z) (eO _)
  ·rcases aK.mp (a.stkSub b hs)with z | z
   ·exact(Z b hb).2.1 z
   ·exact(Z b hb).2.2.1 z
 have wk:H3 C=none:=a.hok.fresh (lU hC)
 have IY:cU (blk X scope B ⟨H,C,s3,H3,fp,X.pn++pins⟩) [] (zR G σ) H3 { s3 with heap:=vh }:=by
  refine⟨Bd,Db,a.bare,Un.kept keep,⟨_,wv,λi x v h1 h2 _=>?_⟩,λx c e=>?_,wk,λx c e=>(by
   rcases P.get x c e with⟨l,_⟩ | ⟨e,_⟩
   ·exact a.hok.fresh (by rw[hC];exact hV l)
   ·exact a.freeC x c (s x c e)),λp hp=>?_,a.hok.kept keep,?_⟩
  ·have e:∃j,G[i]?=some (some j)/\σ[j]?=some (some v):=by
    unfold zR at h2;rw[aO]at h2
    cases hf:G[i]? with
    |none=>rw[hf]at h2;cases h2
    |some o=>
     rw[hf]at h2
     cases o with
     |none=>cases h2
     |some j=>
      refine⟨j,Db,?_⟩;have rh:(σ[j]?).join=some v:=by simpa using h2
      cases hj:σ[j]? with
      |none=>rw[hj]at rh;cases rh
      |some o=>rw[hj]at rh;rw[show o=some v from rh]
   obtain⟨j,e1,e2⟩:=e;obtain⟨a1,a2,a3⟩:=zp i x j h1 e1;obtain⟨m,hn,hl⟩:=a.loc;obtain⟨u,r,l⟩:=hl j x v a2 e2 (.inr (.inl a3));refine⟨u,r,.inr ⟨zF a1,?_⟩⟩;rcases l with⟨k,_⟩ | ⟨_,c,hc,o,ho,hd⟩
   ·have k':X.env.scope.names.lookup x=some .local:=k;rw[a3]at k';cases k'
   ·obtain⟨c',ak⟩:=uy x (i0 a1);have z:=s x c' ak;rw[hc]at z;cases z;exact⟨c,P.old x c a1 ak,o,keep c o ho,hd⟩
  ·rcases P.get x c e with⟨_,_,sN⟩ | ⟨e,_⟩
   ·exact⟨none,sN⟩
   ·obtain⟨v,o,ho,hd⟩:=a.cell x c (s x c e);exact⟨v,o,keep c o ho,hd⟩
  ·obtain⟨e,n,ne,nf,d⟩:=a.pin p (by have hp':p∈(X.pn++pins)++[]:=hp;simpa using hp');refine⟨keep _ _ e,n,?_,λz=>?_,d⟩
   ·have:=aY e;rw[hC]at this;exact cL this
   ·rcases aK.mp (a.stkSub p.1 z)with z | z
    ·exact ne z
    ·exact nf z
  ·unfold zR;rw[aC];exact zt.symm
 have su:∀{R:Hp},(∀b∈fp,R b=none)->∀b∈fp,B8 (blk X scope B ⟨H,C,s3,H3,fp,X.pn++pins⟩) [] R b:=λ{R} hn b hb=>
  ⟨hn b hb,uw b hb,λz=>by
   rcases aK.mp (a.stkSub b z)with z | z
   ·exact(Z b hb).2.1 z
   ·exact(Z b hb).2.2.1 z,  .inl hb,λx c e=>(by
   rcases P.get x c e with⟨l,_⟩ | ⟨e,_⟩
   ·exact hU (OJ (wr b hb) l)
   ·exact(Z b hb).2.2.2.2.1 x c (s x c e)),λp hp=>(Z b hb).2.2.2.2.2 p (by have hp':p∈(X.pn++pins)++[]:=hp;simpa using hp')⟩
 obtain⟨hg,ht,he⟩:=hY ⟨H,C,s3,H3,fp,X.pn++pins⟩
 have qu:x6 (model X.prog X.w) X.A (.compLoop (.ListComp f [⟨F,iter,t,0⟩] scope pos) 0 (.ref it) (.ref ac) (compEnvC scope H C X.env)) (RR (.ref ac) C) { s3 with heap:=vh }:=by
  refine SK (λn s'=>∃i S R,cU (blk X scope B ⟨H,C,s3,H3,fp,X.pn++pins⟩) [] S R s'/\tn i s'.heap/\(∀b∈fp,R b=none)/\W i n S R) ?_ m0
   ⟨0,zR G σ,H3,IY,T.keep 0 _ _ yn λb _ o e=>keep b o e,λb hb=>(Z b hb).1,w0⟩
  rintro n s4 ⟨i,wd,H4,I4,yo,xw,w4⟩;rcases turn i n wd H4 w4 with⟨stop,qn⟩ | ⟨go,step⟩
  ·refine jG (T.done (blk X scope B ⟨H,C,s3,H3,fp,X.pn++pins⟩) Db Db Db U i [] s4 wd H4 _ I4 (su xw) yo stop) λr s5 zq=>?_;obtain⟨hr,I5⟩:=zq;subst hr;obtain⟨m,hn,_⟩:=I5.loc;have IX:cU X pins σ H4 s5:=a.call' I5.os I5.base I5.hok I5.bare λb hb=>⟨(Z b hb).2.2.2.1,(Z b hb).2.1,(Z b hb).2.2.2.2.1,(Z b hb).2.2.2.2.2⟩;exact ze ac C s5 H4 m IX (a.fpOk (lU hC) I5.free) hn qn
  ·refine jG (T.item (blk X scope B ⟨H,C,s3,H3,fp,X.pn++pins⟩) Db Db Db U i [] s4 wd H4 (λ_ _=>False) I4 (su xw) yo go) λr s5 zq=>?_;obtain⟨u,hr,h5⟩:=zq;subst hr;refine jG h5 λ_ s6 zq=>?_;obtain⟨x,H6,I6,r6,y6,xj,za⟩:=zq;have yr:=I6.pinned (su za) (T.obj _ _ xj);refine jG (hg _ s6 wd H6 x u _ yr r6 (step x H6 y6)) λ_ s7 zq=>?_;obtain⟨xq,H7,I7,q7⟩:=zq;refine jG (ht _ s7 xq H7 _ I7 q7) λok s8 zq=>?_;obtain⟨H8,I8,q8⟩:=zq
   have nz:∀{s9:Shared}{we:St}{H9:Hp}{m':Nat},cU (blk X scope B ⟨H,C,s3,H3,fp,X.pn++pins⟩) ([]++DR fp s6.heap) we H9 s9->m'<n->W (i+1) m' we H9 ->
     ∃m,m<n/\∃i S R,cU (blk X scope B ⟨H,C,s3,H3,fp,X.pn++pins⟩) [] S R s9/\tn i s9.heap/\(∀b∈fp,R b=none)/\W i m S R:=λ{s9 we H9 m'} I9 hm w9=>by
    refine⟨m',hm,i+1,we,H9,I9.unpinned,T.keep _ _ _ xj λb hb o e=>(I9.pin (b,o) (bW _ (bW _ (tK hb e)))).1,λb hb=>?_,w9⟩;obtain⟨o,e,d⟩:=T.obj _ _ xj b hb;exact(I9.pin (b,o) (bW _ (bW _ (tK hb e)))).2.1
   cases ok with
   |false=>
    obtain⟨m',hm,w8⟩:=q8;exact nz I8 hm w8
   |true=>
    refine jG (he _ s8 xq H8 _ I8 q8) λy s9 zq=>?_;obtain⟨yv,H9,I9,r9,ys,Aq,hz,m',hm,w9⟩:=zq;refine jG (oG (X:=blk X scope B ⟨H,C,s3,H3,fp,X.pn++pins⟩) _ s9 xq H9 (.ref ac) [yv] (.ref ac) [y] (λ_ R=>R=eM H9 ac (.lst (ys++[yv]))) I9 Db (.cons r9 .nil) ⟨ac,ys,yv,Db,Db,Aq,hz,Db⟩) λ_ Cp zq=>?_;obtain⟨_,Bn,yq,_,yy⟩:=zq;subst yy;exact nz yq hm w9
 exact codeAny_compStart_list qu (T.self _ 0 _ _ _ (T.keep 0 _ _ yn λb _ o e=>keep b o e) qu)
def Ru(j:X.calm=true)(a:scope.kind=.function)(hz:wQ scope.names)(u:vB scope.names X.env.scope.names X.N B G=true)
  (l:∀y∈scope.names,y.2=.free->X.env.scope.names.lookup y.1=some .cell) (c:∀x∈scope.names,x.2=.local->scope.names.lookup x.1=some .local) (Z:PI X F iter O)
  (Y:∀b:BP,PG (blk X scope B b) F (g b)/\QO (blk X scope B b) t (M b)/\PE (blk X scope B b) f (L b))
  (hs:∀x,j2 iter X.env x=pure x:=by intro _;rfl):PE X (.ListComp f [⟨F,iter,t,0⟩] scope pos) (TQ G O g M L):=by
 intro d s E H Q I h;obtain⟨cl,k,p,r⟩:=yG (env:=X.env) (scope:=scope) λy hy hk=>I.ok.has y.1 (.inl (l y hy hk));rw[eval_ListComp];refine jm (use:=none) Db hs k a c (jG (Z d s E H _ I h) λv s1 U=>jG U λyh s2 W=>?_);obtain⟨it,fp,tn,J,H2,rfl,R,T,z,S,q⟩:=W;refine K3 (RR:=λi C=>compPost (model X.prog X.w) X.A X.xe none (EP X d E Q) i C) j a hz u p r Y R T z S q λi C s' K m P n hn q'=>?_;exact⟨m,hn,λh' sb=>⟨.ref i,K,P.turned (t':=s'.toks) (λb o hb e=>(sb.2 b hb).trans e) n.1 n.2.1 n.2.2.2.1 n.2.2.2.2.1 n.2.2.2.2.2,Db,q'⟩⟩
def V6{i:Nat}{x:Str}{E l:Pos}(hN:X.N.Nodup)(Z:X.N[i]?=some x)(hx:TY X.env.scope x)(p:X.calm=true)(c:scope.kind=.function)(hz:wQ scope.names)(Y:vB scope.names X.env.scope.names X.N B G=true)
  (u:∀y∈scope.names,y.2=.free->X.env.scope.names.lookup y.1=some .cell) (k:∀x∈scope.names,x.2=.local->scope.names.lookup x.1=some .local) (hi:PI X F iter O)
  (hY:∀b:BP,PG (blk X scope B b) F (g b)/\QO (blk X scope B b) t (M b)/\PE (blk X scope B b) f (L b))
  (Ah:lT (.ListComp f [⟨F,iter,t,0⟩] scope pos) (some (.Name x E)) l.line X.env=pure true)
  (hs:∀x,j2 iter X.env x=pure x:=by intro _;rfl) (hf:X.fn x=true\/X.env.scope.names.lookup x=some .local:=by first | exact .inl Db | exact .inr Db | assumption) :
  PS X (.Assign [.Name x E] (.ListComp f [⟨F,iter,t,0⟩] scope pos) l) (sX (TQ G O g M L) (lO i)):=by
 intro d s σ H D I h;obtain⟨cl,r,K,P⟩:=yG (env:=X.env) (scope:=scope) λy hy hk=>I.ok.has y.1 (.inl (u y hy hk));rw[exec_Assign_Name_used _ _ _ _ Ah];refine aE (jo (aE ?_));show wpAny _ _ (do let _ <- comprehension (.ListComp f [⟨F,iter,t,0⟩] scope pos) scope X.env _ (newList []) false (eval iter X.env) (some (cf (.Name x E) X.env))) _ _ s
 refine aE (dN (jm (use:=some (cf (.Name x E) X.env)) (Q:=λ_ R=>SP X d D .next R) Db hs r c k
  (jG (hi d s σ H _ I h) λv s1 h1=>jG h1 λyh s2 h2=>?_)) (λ_ R hq=>aZ (aZ hq)) λ_ _ e=>e)
 obtain⟨it,fp,tn,J,H2,rfl,I2,T,rm,f2,q⟩:=h2;refine K3 (RR:=λj C=>compPost (model X.prog X.w) X.A X.xe (some (cf (.Name x E) X.env)) (λ_ R=>SP X d D .next R) j C) (Q:=λx H1=>lO i x σ H1 D.nx) p c hz Y K P hY I2 T rm f2 q λj C R HY m I' n hn q'=>?_;show wpAny _ _ (cf (.Name x E) X.env (.ref j)) _ _ _;refine uc (F8 I' hN Z hx (v:=.ref j) Db (λBg S W=>?_) hf);obtain⟨a,sb,ha⟩:=W
 have U:C≠a:=by
  rcases ha with z | z
  ·rw[z];exact n.2.1
  ·exactλe=>n.2.2.2.2.1 x a z e.symm
 exact⟨m,hn.sameBut sb U,λh' Bh=>⟨_,HY,S.turned (t':=Bg.toks) (λb o hb e=>(Bh.2 b hb).trans e) n.1 n.2.1 n.2.2.2.1 n.2.2.2.2.1 n.2.2.2.2.2,q'⟩⟩
end
section
variable{prog:cW}{w:f7}{A:d9}{E:Value->Shared->Prop}{h:Heap}{g:Array GenState}{d:Drawn}{t:Nat}{os:OsState}{a C:Addr}{f:Obj}{b:Option Obj}{K:aF}
structure E4(K:aF)(C:Addr):Prop where
 ga:dL K (.ref C) "__getattribute__"=some (some (.builtin "BaseException.__getattribute__"))
 gt:dL K (.ref C) "__getattr__"=some none
 cl:dL K (.ref C) "__class__"=some (some (.builtin "object.__class__"))
 ob:bJ K C (.type "object")=some true
 be:bJ K C (.type "BaseException")=some true
def Dl(K:aF)(C:Addr):Prop:=E4 K C/\∀T∈["int","str","list","tuple","bool"],bX K (.ref C) (.type T)=some false
def SM{Q:Unit->Shared->Prop}(X:K.In h)(c:E4 K C)(I:mJ h a f C b)(l:Q () ⟨h,g,d,t,os⟩):wpAny M A (checkBuiltinCall "BaseException.__getattribute__" ⟨[.ref a,nameV],[]⟩) Q E ⟨h,g,d,t,os⟩:=by
 have k:builtinKind "BaseException.__getattribute__"=some .slot:=by decide +kernel
 have e:splitId "BaseException.__getattribute__"=some ("BaseException","__getattribute__"):=by decide +kernel
 have m:=F.args_bexc_ga (.ref a) nameV;have i:=I.type (M:=M);have j:=PySem.W.looks_mroIn (M:=M) X c.be;simp only[checkBuiltinCall,k,e];refine aE ?_;unfold isInstance;refine aE (i.at (j.at ?_))
 repeat (first | exact l | wp_step)
def IM{Q:Fin->Shared->Prop}(X:K.In h)(c:E4 K C)(I:mJ h a f C b)(n:Q (.done (.ret (.ref C))) ⟨h,g,d,t,os⟩) :
  wpAny (model prog w) A (u4.«object.__getattribute__» ⟨[.ref a,.str "__class__" tk],[]⟩) Q E ⟨h,g,d,t,os⟩:=by
 have j:(⟨h,g,d,t,os⟩:Shared).TypeIs (.builtin "object.__class__") "getset_descriptor":=jq;have k:=jq;have l:=F.slot_gs_get.lookup;have m:=F.slot_gs_set.lookup;have e:=I.type (M:=model prog w);have i:=pA (M:=model prog w) X c.cl
 repeat (any_goals (first | assumption | with_reducible refine e.at ?_ | with_reducible refine i.at ?_ | wp_step))
 refine PySem.W.class_get (s:=⟨h,g,d,t,os⟩) X I c.ob ?_
 repeat (any_goals (first | assumption | wp_step))
def LN{R:Result->Shared->Prop}(X:K.In h)(c:E4 K C)(I:mJ h a f C b)(e:R (.ok (.ret (.ref C))) ⟨h,g,d,t,os⟩) :
  x6 (model prog w) A (.call (.builtin "BaseException.__getattribute__") ⟨[.ref a,.str "__class__" tk],[]⟩) R ⟨h,g,d,t,os⟩:=
 codeAny_call_builtin F.excAttr_ValueError.ga.plain F.entry_bexc_ga (SM X c I (IM X c I e))
def SL{Q:Value->Shared->Prop}(X:K.In h)(c:E4 K C)(I:mJ h a f C b)(n:Q (.ref C) ⟨h,g,d,t,os⟩):wpAny (model prog w) A (getAttrBy (.ref a) (.str "__class__" tk) false) Q E ⟨h,g,d,t,os⟩:=by
 have m:=F.excAttr_ValueError.ga.bind (.ref a);have i:(aq "BaseException.__getattribute__"==aq "object.__getattribute__")=false:=by decide +kernel
 have l:(onTheHeap (c9 C)&&aq "BaseException.__getattribute__"==aq "object.__getattribute__")=false:=by rw[i];rfl
 have j:=I.type (M:=model prog w);have k:=pA (M:=model prog w) X c.ga;have e:=pA (M:=model prog w) X c.gt
 repeat (any_goals (first | assumption | with_reducible refine j.at ?_ | with_reducible refine k.at ?_ | with_reducible refine e.at ?_ | wp_step))
 refine LN X c I ?_
 repeat (any_goals (first | assumption | wp_step))
def LO{Q:Option Value->Shared->Prop}(X:K.In h)(c:E4 K C)(I:mJ h a f C b)(e:Q (some (.ref C)) ⟨h,g,d,t+1,os⟩):wpAny (model prog w) A (getAttr? (.ref a) "__class__") Q E ⟨h,g,d,t,os⟩:=by
 unfold getAttr? getAttrBy?
 repeat (any_goals (first | assumption | with_reducible apply SL X c I | wp_step))
def K7(c:E4 K C):PySem.W.KitX K (.ref a) (.ref C) (λh=>∃f b,mJ h a f C b) where
 ty:=λ_ _ _ ⟨_,_,I⟩=>I.type
 it:=λ_ _ X _=>by
  obtain⟨cd,hc,_⟩:=JC.mp c.ob;unfold gD at hc;split at hc
  ·rename_i c' d' yt xi ho;intro A' Q' E' s' k q;unfold isType loadHead;exact aE (wpAny_loadPart (k _ _ (X _ _ ho)) (aZ q))
  ·cases hc
 ne:=λh tp dd bc n sl X An=>by
  obtain⟨cd,hc,_⟩:=JC.mp c.ob;refine BW.mpr λq=>?_;have e:C=tp:=Value.ref.inj (beq_iff_eq.mp q);subst e;unfold gD at hc;split at hc
  ·rename_i c' d' yt xi ho;have z:=(X _ _ ho).symm.trans An;cases z
  ·cases hc
 ca:=λ{_ _ _ _ _ s} X ⟨_,_,I⟩ k=>by
  obtain⟨hh,g,d,t,os⟩:=s;exact LO X c I k
end
structure aOz(k:Nat)(A:d9):Prop where
 dp:A.depth+3*k+5<bg
 un:A.units+16*k+200<v7
 gd:A.guards=some []
def gQ.h{k:Nat}(r:gQ k A):aOz k A:=⟨r.dp,r.un,r.gd⟩
end L2
namespace TL
open L2
abbrev D:=PySem.PyData
def Xi(p:Addr)(h:Heap):Prop:=∃(a:List Value)(n:Nat),h.get? p=some { cls:=.type "list",data:=.seq a.toArray n }/\a.length<=1000/\∀v∈a,∃(i:Int)(t:Tok),v=.int i t/\0<=i/\i<4096
def oX(p C:Addr)(dx:Option Addr)(h:Heap):Prop:=∃o vs,h.get? p=some o/\o.cls=.ref C/\o.dict=dx/\o.data=.fields vs
def sV(p q:Addr)(h:Heap):Prop:=∃(a b c:Int)(d e f:Tok)(n:Nat),h.get? p=some { cls:=.type "list",data:=.seq [c9 q,.int a d,.int b e,.int c f].toArray n }/\0<=a/\(c=0\/c=1)
noncomputable def kD:jB->PySem.PyData
|.inl i=>.int i
|.inr x=>.str x
mutual
inductive fR(K:aF)(H:Hp):D->V->Prop
|none:fR K H .none .non
|bool (b:Bool):fR K H (.bool b) (.bl b)
|int (i:Int):fR K H (.int i) (.int i)
|str (x:Str):fR K H (.str x) (.str x)
|list {p:Addr} {xs:List V} {ts:List D}:mL K H p xs->Reps K H ts xs->fR K H (.list ts) (.ref p)
|tuple {p:Addr} {xs:List V} {ts:List D}:pY K H p xs->Reps K H ts xs->fR K H (.tuple ts) (.ref p)
|wild {p:Addr}:H p=some (.ext (Xi p))->fR K H (.dict []) (.ref p)
|exc {p C:Addr}:Dl K C->H p=some (.ext (oX p C Option.none))->fR K H (.dict [(.int (C:Nat),.none)]) (.ref p)
|excA {p C dx:Addr} {n:Int}:Dl K C->H p=some (.ext (oX p C (some dx)))->H dx=some (.xd [("at",.int n)])->fR K H (.dict [(.int (C:Nat),.int n)]) (.ref p)
|excD {p C dx:Addr} {v:V} {cs:List D}:Dl K C->H p=some (.ext (oX p C (some dx)))->H dx=some (.xd [("case",v)])->fR K H (.tuple cs) v->fR K H (.dict [(.int (C:Nat),.tuple cs)]) (.ref p)
|tape {p q:Addr} {ns:List Int}:H p=some (.ext (sV p q))->mL K H q (ns.map V.int)->fR K H (.dict [(.none,.list (ns.map bM))]) (.ref p)
|dct {p:Addr} {es:List (jB×V)} {kvs:List (D×D)}:H p=some (.dK es)->kvs.map (·.1)=es.map (λe=>kD e.1)->Reps K H (kvs.map (·.2)) (es.map (·.2))->fR K H (.dict ((.str "{}",.list [])::kvs)) (.ref p)
|addr {p:Addr} (z:List D):fR K H (.dict [(.str "@",.list (.int (p:Nat)::z))]) (.ref p)
|ins {p C dx:Addr} {fs:List (Str×V)} {ds:List D}:H p=some (.ins C dx fs)->Reps K H ds (fs.map (·.2))->fR K H (.dict [(.str "obj",.tuple [.int (C:Nat),.list ((fs.map (·.1)).map aR),.list ds])]) (.ref p)
inductive Reps(K:aF)(H:Hp):List D->List V->Prop
|nil:Reps K H [] []
|cons {t:D} {ts:List D} {x:V} {xs:List V}:fR K H t x->Reps K H ts xs->Reps K H (t::ts) (x::xs)
end
variable{K:aF}{H E I J:Hp}
def aV.seqT{a:Addr}(e:aV H E)(h:pY K H a xs):pY K E a xs:=by
 rcases h with(h | ⟨o,h⟩) | h
 ·exact .inl (.inl (e _ _ h))
 ·exact .inl (.inr ⟨o,e _ _ h⟩)
 ·exact .inr h
def fR.same(e:aV H E){d:D}{v:V}(r:fR K H d v):fR K E d v:=
 fR.rec (motive_1:=λd v _=>fR K E d v) (motive_2:=λc vs _=>Reps K E c vs) .none .bool .int .str (λq _ a=>.list (L2.aV.seq e q) a) (λq _ a=>.tuple (aV.seqT e q) a) (λh=>.wild (e _ _ h)) (λx h=>.exc x (e _ _ h)) (λx h g=>.excA x (e _ _ h) (e _ _ g))
  (λx h g _ a=>.excD x (e _ _ h) (e _ _ g) a) (λh g=>.tape (e _ _ h) (L2.aV.seq e g)) (λh n _ a=>.dct (e _ _ h) n a) .addr (λh _ a=>.ins (e _ _ h) a) .nil (λ_ _ a b=>.cons a b) r
theorem Reps.same(e:aV H E){c:List D}:∀{vs:List V},Reps K H c vs->Reps K E c vs:=by
 induction c with
 |nil=>intro vs r;cases r;exact .nil
 |cons d c f=>
  intro vs r
  cases r with
  |cons a b=>exact .cons (a.same e) (f b)
theorem Reps.length:∀{a:List D}{vs:List V},Reps K H a vs->a.length=vs.length
|_,_,.nil=>rfl
|_,_,.cons _ s=>by simp[Reps.length s]
theorem Reps.get:∀{ds vs}{i:Nat}{d},Reps K H ds vs->ds[i]?=some d->∃v,vs[i]?=some v/\fR K H d v
|_,_,_,_,.nil,e=>by simp at e
|_,_,0,_,.cons r _,e=>by simp at e;subst e;exact⟨_,Db,r⟩
|_,_,i+1,d,.cons _ s,e=>by
 obtain⟨v,a,b⟩:=Reps.get (i:=i) (d:=d) s (by simpa using e);exact⟨v,by simpa using a,b⟩
theorem Reps.get':∀{ds vs}{i:Nat}{v},Reps K H ds vs->vs[i]?=some v->∃d,ds[i]?=some d/\fR K H d v
|_,_,_,_,.nil,e=>by simp at e
|_,_,0,_,.cons r _,e=>by simp at e;subst e;exact⟨_,Db,r⟩
|_,_,i+1,d,.cons _ s,e=>by
 obtain⟨v,a,b⟩:=Reps.get' (i:=i) (v:=d) s (by simpa using e);exact⟨v,by simpa using a,b⟩
theorem Reps.append:∀{ds es vs us},Reps K H ds vs->Reps K H es us->Reps K H (ds++es) (vs++us)
|_,_,_,_,.nil,s=>s
|_,_,_,_,.cons r t,s=>.cons r (Reps.append t s)
theorem Reps.take:∀{a:List D}{vs:List V}(n:Nat),Reps K H a vs->Reps K H (a.take n) (vs.take n)
|_,_,0,_=>.nil
|_,_,_+1,.nil=>.nil
|_,_,n+1,.cons r t=>.cons r (Reps.take n t)
theorem Reps.drop:∀{a:List D}{vs:List V}(n:Nat),Reps K H a vs->Reps K H (a.drop n) (vs.drop n)
|_,_,0,r=>r
|_,_,_+1,.nil=>.nil
|_,_,n+1,.cons _ t=>Reps.drop n t
noncomputable def mask(H:Hp)(a:List Addr):Hp:=λb=>if b∈a then none else H b
def bH(e:aV H E):aV (mask H ps) (mask E ps):=λb o h=>by
 unfold mask at h |-
 by_cases hb:b∈ps
 ·rw[a9 hb]at h;cases h
 ·rw[a8 hb]at h |-;exact e b o h
def eV(h:∀p∈u3,p∈ps):aV (mask H ps) (mask H u3):=λb o e=>by
 unfold mask at e |-
 by_cases hb:b∈ps
 ·rw[a9 hb]at e;cases e
 ·rw[a8 hb]at e;rw[a8 λz=>hb (h b z)];exact e
def bO:aV (mask H ps) H:=λb o e=>by
 unfold mask at e;by_cases hb:b∈ps
 ·rw[a9 hb]at e;cases e
 ·rw[a8 hb]at e;exact e
def mS{p:Addr}(h:H p=none):mask (eM H p o) (p::ps)=mask H ps:=by
 funext b;unfold mask;by_cases hb:b=p
 ·subst hb;rw[a9 (aN ..),h];by_cases z:b∈ps<;>simp[z]
 ·rw[bV hb];by_cases z:b∈ps
  ·rw[a9 (aJ _ z),a9 z]
  ·rw[a8 (λq=>(aK.mp q).elim hb z),a8 z]
def dY{p:Addr}(h:p∈ps):mask (eM H p o) ps=mask H ps:=by
 funext b;unfold mask;by_cases hb:b=p
 ·subst hb;rw[a9 h,a9 h]
 ·rw[bV hb]
def dB{p:Addr}(h:H p=none):aV H (eM H p o):=λb u q=>by rw[bV (eN q h)];exact q
def kL{p:Addr}(h:p∉ps)(e:H p=some o):mask H ps p=some o:=by
 unfold mask;rw[a8 h];exact e
noncomputable def Fj:HO->Bool
|.tup _=>true
|.frz _ (.tup _)=>true
|_=>false
def BA(u:Option HO):Prop:=∃v,u=some v/\Fj v=false
def BA.ne(h:BA u):u≠none:=λz=>by obtain⟨v,e,_⟩:=h;rw[z]at e;cases e
theorem BA.lst{xs}:BA (some (.lst xs)):=⟨_,Db,Db⟩
def iQ{a:List Addr}{p:Addr}(live:∀q∈a,BA (H q))(h:H p=none):p∉a:=λz=>(live p z).ne h
inductive Sl where
|un | val (d:D) | own (ts:List D) | dic (hs:List Int) (kvs:List (D×D))
def sD(K:aF)(B:Hp)(G:List Addr)(H:Hp)(f:List Addr)(m:List Sl)(C:L2.St):Prop:=∀(i:Nat)(d:List Int)(kvs:List (D×D)),m[i]?=some (.dic d kvs) ->
 (∃(p:Addr)(a:List (jB×V)),C[i]?=some (some (.ref p))/\p∈f/\B p=none/\p∉G/\H p=some (.dK a)/\d=[]/\kvs.map (·.1)=a.map (λe=>kD e.1)/\Reps K (mask H f) (kvs.map (·.2)) (a.map (·.2))) /\
 ∀(j:Nat)(b:List Int)(c:List (D×D)),m[j]?=some (.dic b c)->i=j
def sD.to{B g:Hp}(o:sD K B G H ps m C)(c:∀(i:Nat)(a:List Int)(kvs:List (D×D)),o9[i]?=some (.dic a kvs)->m[i]?=some (.dic a kvs)/\u7[i]?=C[i]?)
  (L:∀(p:Addr)(f:List (jB×V)),p∈ps->H p=some (.dK f)->p∉G->p∈u3/\E p=H p) (z:∀(p:Addr)(f:List (jB×V)),p∈ps->H p=some (.dK f)->B p=none->p∉G->g p=none/\p∉p0') (F:aV (mask H ps) (mask E u3)):sD K g p0' E u3 o9 u7:=λi a kvs h=>by
 obtain⟨x,y⟩:=c i a kvs h;obtain⟨⟨p,w,k,a2,l,a4,e,n,q,r⟩,u⟩:=o i a kvs x;obtain⟨s,t⟩:=L p _ a2 e a4;obtain⟨c1,v⟩:=z p _ a2 e l a4;exact⟨⟨p,w,y.trans k,s,c1,v,t.trans e,n,q,r.same F⟩,λj b d A=>u j b d (c j b d A).1⟩
def CZ{m:List Sl}{i j:Nat}(c:∀a kvs,s≠.dic a kvs)(h:(m.set i s)[j]?=some (.dic a kvs)):i≠j/\m[j]?=some (.dic a kvs):=by
 by_cases e:i=j
 ·subst e;have b:i<m.length:=by simpa using(aI.mp h).1
  rw[bF b]at h;exact c7 (c8 h) (c a kvs)
 ·rw[bC e]at h;exact⟨e,h⟩
def sD.setS{m:List Sl}{C:L2.St}(o:sD K B G H ps m C){i:Nat}(d:∀c kvs,s≠.dic c kvs):sD K B G H ps (m.set i s) (C.set i v):=
 o.to (λj c kvs h=>let ⟨e,h'⟩:=CZ d h;⟨h',bC e⟩) (λp f a b _=>⟨a,Db⟩) (λp f _ _ a b=>⟨a,b⟩) (L2.aV.refl _)
def sD.setT{m:List Sl}(o:sD K B G H ps m C){i:Nat}(d:∀c kvs,s≠.dic c kvs):sD K B G H ps (m.set i s) C:=
 o.to (λj c kvs h=>⟨(CZ d h).2,Db⟩) (λp e a b _=>⟨a,Db⟩) (λp e _ _ a b=>⟨a,b⟩) (L2.aV.refl _)
def sD.grow(o:sD K B G H ps m C)(e:aV H E):sD K B G E ps m C:=
 o.to (λj d kvs h=>⟨h,Db⟩) (λp c a b _=>⟨a,(e p _ b).trans b.symm⟩) (λp c _ _ a b=>⟨a,b⟩) (bH e)
structure Ok(K:aF)(B:Hp)(G:List Addr)(H:Hp)(ps:List Addr)(m:List Sl)(C:L2.St):Prop where
 base:aV B H
 sub:∀p∈G,p∈ps
 live:∀p∈ps,BA (H p)
 len:m.length=C.length
 val:∀(i:Nat)(d:D),m[i]?=some (.val d)->∃v,C[i]?=some (some v)/\fR K (mask H ps) d v
 own:∀(i:Nat)(ts:List D),m[i]?=some (.own ts)->∃p xs,C[i]?=some (some (.ref p))/\p∈ps/\B p=none/\p∉G/\H p=some (.lst xs)/\Reps K (mask H ps) ts xs
 dis:∀(i j:Nat)(ts us:List D)(p:Addr),m[i]?=some (.own ts)->m[j]?=some (.own us)->C[i]?=some (some (.ref p))->C[j]?=some (some (.ref p))->i=j
 dc:sD K B G H ps m C
variable{B:Hp}{G ps:List Addr}{m:List Sl}{C:L2.St}
theorem Ok.grow(o:Ok K B G H ps m C)(e:aV H E):Ok K B G E ps m C where
 base:=o.base.trans e
 sub:=o.sub
 live:=λp hp=>let ⟨u,h1,h2⟩:=o.live p hp;⟨u,e p u h1,h2⟩
 len:=o.len
 val:=λi d h=>let ⟨v,h1,h2⟩:=o.val i d h;⟨v,h1,h2.same (bH e)⟩
 own:=λi ts h=>let ⟨p,xs,h1,h2,h3,h4,h5,h6⟩:=o.own i ts h;⟨p,xs,h1,h2,h3,h4,e _ _ h5,h6.same (bH e)⟩
 dis:=o.dis
 dc:=o.dc.grow e
theorem Ok.set(o:Ok K B G H ps m C){i:Nat}(r:fR K (mask H ps) d v):Ok K B G H ps (m.set i (.val d)) (C.set i (some v)) where
 base:=o.base
 sub:=o.sub
 live:=o.live
 len:=by simpa using o.len
 val:=λj d' h=>by
  by_cases e:i=j
  ·subst e
   have hi:i<m.length:=by
    have:=(aI.mp h).1;simpa using this
   rw[bF hi]at h;cases h;exact⟨v,by rw[bF (by rw[<- o.len];exact hi)],r⟩
  ·rw[bC e]at h |-
   exact o.val j d' h
 own:=λj ts h=>by
  by_cases e:i=j
  ·subst e
   have hi:i<m.length:=by
    have:=(aI.mp h).1;simpa using this
   rw[bF hi]at h;cases h
  ·rw[bC e]at h |-
   exact o.own j ts h
 dis:=λj k ts us p h1 h2 h3 h4=>by
  have ne:∀{l:Nat}{ts:List D},(m.set i (.val d))[l]?=some (.own ts)->i≠l:=λ{l ts} h e=>by
   subst e
   have hi:i<m.length:=by
    have:=(aI.mp h).1;simpa using this
   rw[bF hi]at h;cases h
  have e1:=ne h1;have e2:=ne h2;rw[bC e1]at h1 h3;rw[bC e2]at h2 h4;exact o.dis j k ts us p h1 h2 h3 h4
 dc:=o.dc.setS λ_ _ z=>nomatch z
def Ok.setOwn(o:Ok K B G H ps m C){i:Nat}{ts:List D}{xs:List V}{p:Addr}(A:H p=none)(r:Reps K (mask H ps) ts xs):Ok K B G (eM H p (.lst xs)) (p::ps) (m.set i (.own ts)) (C.set i (some (.ref p))):=by
 have L:mask (eM H p (.lst xs)) (p::ps)=mask H ps:=mS A;have w:p∉ps:=iQ o.live A
 have N:∀{l:Nat}{x:List D},i≠l->m[l]?=some (.own x)->C[l]?≠some (some (.ref p)):=λ{l x} _ h z=>by
  obtain⟨q,_,c,f,_⟩:=o.own l x h;rw[z]at c;cases c;exact w f
 refine⟨o.base.trans (dB A),λq M=>aJ _ (o.sub q M),λq M=>?_,by simpa using o.len,λj d h=>?_,λj x h=>?_,λj k x Q q c f g n=>?_,?_⟩
 ·by_cases e:q=p
  ·subst e;rw[bQ];exact .lst
  ·rw[bV e];rcases aK.mp M with z | z
   ·exact c7 z e
   ·exact o.live q z
 ·rw[L];by_cases e:i=j
  ·subst e;have t:i<m.length:=by simpa using(aI.mp h).1
   rw[bF t]at h;cases h
  ·rw[bC e]at h |-
   exact o.val j d h
 ·rw[L];by_cases e:i=j
  ·subst e;have t:i<m.length:=by simpa using(aI.mp h).1
   rw[bF t]at h;cases h;refine⟨p,xs,by rw[bF (by rw[<- o.len];exact t)],aN ..,?_,λz=>w (o.sub p z),bQ,r⟩
   cases q:B p with
   |none=>rfl
   |some u=>rw[o.base p u q]at A;cases A
  ·rw[bC e]at h |-
   obtain⟨q,R,c,f,g,n,O,P⟩:=o.own j x h;refine⟨q,R,c,aJ _ f,g,n,?_,P⟩;rw[bV (λz:q=p=>w (z▸f))];exact O
 ·by_cases F:i=j
  ·by_cases y:i=k
   ·exact F.symm.trans y
   ·subst F;have t:i<m.length:=by simpa using(aI.mp c).1
    rw[bF (by rw[<- o.len];exact t)]at g;cases g;rw[bC y]at f n;exact c7 n (N y f)
  ·by_cases y:i=k
   ·subst y;have t:i<m.length:=by simpa using(aI.mp f).1
    rw[bF (by rw[<- o.len];exact t)]at n;cases n;rw[bC F]at c g;exact c7 g (N F c)
   ·rw[bC F]at c g;rw[bC y]at f n;exact o.dis j k x Q q c f g n
 ·exact(o.dc.setS (i:=i) (s:=.own ts) (v:=some (.ref p)) λ_ _ z=>nomatch z).to (λj T kvs h=>⟨h,Db⟩) (λq S a b _=>⟨aJ _ a,bV λz=>by rw[z,A]at b;cases b⟩) (λq S _ _ a b=>⟨a,b⟩) (by rw[L];exact L2.aV.refl _)
def Ok.write(o:Ok K B G H ps m C){i:Nat}{p:Addr}(v:m[i]?=some (.own ts))(c:C[i]?=some (some (.ref p)))(r:Reps K (mask H ps) us ys) :
  Ok K B G (eM H p (.lst ys)) ps (m.set i (.own us)) C:=by
 obtain⟨q,X,L,M,N,O,P,U⟩:=o.own i ts v;rw[c]at L;cases L;have w:mask (eM H p (.lst ys)) ps=mask H ps:=dY M;have n:i<m.length:=(aI.mp v).1;refine⟨λb u e=>?_,o.sub,λq Q=>?_,by simpa using o.len,λj d h=>?_,λj A h=>?_,λj k vs A q g t x y=>?_,?_⟩
 ·have ne:b≠p:=λz=>by rw[z,N]at e;cases e
  rw[bV ne];exact o.base b u e
 ·by_cases e:q=p
  ·subst e;rw[bQ];exact .lst
  ·rw[bV e];exact o.live q Q
 ·rw[w];by_cases e:i=j
  ·subst e;rw[bF n]at h;cases h
  ·rw[bC e]at h;exact o.val j d h
 ·rw[w];by_cases e:i=j
  ·subst e;rw[bF n]at h;cases h;exact⟨p,ys,c,M,N,O,bQ,r⟩
  ·rw[bC e]at h;obtain⟨q,vs,g,t,x,y,R,S⟩:=o.own j A h;refine⟨q,vs,g,t,x,y,?_,S⟩;rw[bV (λz:q=p=>e (o.dis i j ts A p v h c (z▸g)))];exact R
 ·have back:∀{l:Nat}{vs:List D},(m.set i (.own us))[l]?=some (.own vs)->∃f,m[l]?=some (.own f):=λ{l vs} h=>by
   by_cases e:i=l
   ·subst e;exact⟨ts,v⟩
   ·rw[bC e]at h;exact⟨vs,h⟩
  obtain⟨f,g⟩:=back g;obtain⟨F,t⟩:=back t;exact o.dis j k f F q g t x y
 ·exact(o.dc.setT (i:=i) (s:=.own us) λ_ _ z=>nomatch z).to (λj W kvs h=>⟨h,Db⟩) (λq T a b _=>⟨a,bV λz=>by rw[z,P]at b;cases b⟩) (λq T _ _ a b=>⟨a,b⟩) (by rw[w];exact L2.aV.refl _)
def Ok.share(o:Ok K B G H ps m C){i:Nat}(w:m[i]?=some (.own ts)):∃t,Ok K B G H t (m.set i (.val (.list ts))) C/\aV (mask H ps) (mask H t):=by
 obtain⟨p,X,F,T,U,M,L,N⟩:=o.own i ts w;have f:i<m.length:=(aI.mp w).1;have c:aV (mask H ps) (mask H (ps.filter λq=>decide (q≠p))):=eV λq g=>(cH.mp g).1;have x:p∉ps.filter λq=>decide (q≠p):=λz=>(b8 (cH.mp z).2) Db;refine⟨ps.filter λq=>decide (q≠p),⟨o.base,λq g=>cH.mpr ⟨o.sub q g,b7 λz=>M (z▸g)⟩,λq g=>o.live q (cH.mp g).1,by simpa using o.len,λj d h=>?_,λj u h=>?_,λj k u Q q n r y A=>?_,?_⟩,c⟩
 ·by_cases e:i=j
  ·subst e;rw[bF f]at h;cases h;exact⟨_,F,.list (mL.of (kL x L)) (N.same c)⟩
  ·rw[bC e]at h;obtain⟨v,n,r⟩:=o.val j d h;exact⟨v,n,r.same c⟩
 ·by_cases e:i=j
  ·subst e;rw[bF f]at h;cases h
  ·rw[bC e]at h;obtain⟨q,R,n,r,y,A,O,P⟩:=o.own j u h;exact⟨q,R,n,cH.mpr ⟨r,b7 λz=>e (o.dis i j ts u p w h F (z▸n))⟩,y,A,O,P.same c⟩
 ·have back:∀{l:Nat}{vs:List D},(m.set i (.val (.list ts)))[l]?=some (.own vs)->m[l]?=some (.own vs):=λ{l vs} h=>by
   by_cases e:i=l
   ·subst e;rw[bF f]at h;cases h
   ·rw[bC e]at h;exact h
  exact o.dis j k u Q q (back n) (back r) y A
 ·exact(o.dc.setT (i:=i) (s:=.val (.list ts)) λ_ _ z=>nomatch z).to (λj W kvs h=>⟨h,Db⟩) (λq S a b _=>⟨cH.mpr ⟨a,b7 λz=>by rw[z,L]at b;cases b⟩,Db⟩) (λq S _ _ a b=>⟨a,b⟩) c
abbrev ET:=List Sl->(D->Prop)->Prop
abbrev vF:=List Sl->(Bool->Prop)->Prop
abbrev AT:=List Sl->(List D->Prop)->Prop
def fK(X:Cx)(e:Expr)(t:ET):Prop:=∃b:TE,PE X e b/\∀B G H ps m C (Q:D->Prop)(a:VK),Ok X.K B G H ps m C->t m Q ->
 (∀d v E,aV H E->fR X.K (mask E ps) d v->Q d->a v E)->b C H a
def FO(X:Cx)(e:Expr)(t:vF):Prop:=∃c:TT,PT X e c/\∀B G H ps m C (Q:Bool->Prop)(a:Bool->Hp->Prop),Ok X.K B G H ps m C->t m Q ->
 (∀b E,aV H E->Q b->a b E)->c C H a
def Ea(X:Cx)(e:Expr)(t:vF):Prop:=∃c:TT,PW X e c/\∀B G H ps m C (Q:Bool->Prop)(a:Bool->Hp->Prop),Ok X.K B G H ps m C->t m Q ->
 (∀b E,aV H E->Q b->a b E)->c C H a
def yM(X:Cx)(d:List Expr)(t:AT):Prop:=∃c:TA,PA X d c/\∀B G H ps m C (Q:List D->Prop)(a:List V->Hp->Prop),Ok X.K B G H ps m C->t m Q ->
 (∀b vs E,aV H E->Reps X.K (mask E ps) b vs->Q b->a vs E)->c C H a
structure vI where
 nx:List Sl->Prop
 rt:D->Prop
 bk:List Sl->Prop:=λ_=>False
 ct:List Sl->Prop:=λ_=>False
 ro:List D->Prop:=λ_=>False
 rp:List D->List D->Prop:=λ_ _=>False
 rq:D->List D->Prop:=λ_ _=>False
 xB:Hp->Prop:=λ_=>True
abbrev yL:=vI->List Sl->Prop
structure IZ(K:aF)(B:Hp)(G:List Addr)(H:Hp)(ps:List Addr)(DT:vI)(DV:BB):Prop where
 nx:∀E u3 o9 u7,Ok K B G E u3 o9 u7->aV (mask H ps) (mask E u3)->DT.nx o9->DV.nx u7 E
 bk:∀E u3 o9 u7,Ok K B G E u3 o9 u7->aV (mask H ps) (mask E u3)->DT.bk o9->DV.bk u7 E
 ct:∀E u3 o9 u7,Ok K B G E u3 o9 u7->aV (mask H ps) (mask E u3)->DT.ct o9->DV.ct u7 E
 rt:∀d v E,aV B E->fR K (mask E G) d v->DT.rt d->DV.rt v E
 ro:∀ts p xs E,aV B E->B p=none->p∉G->E p=some (.lst xs)->Reps K (mask E (p::G)) ts xs->DT.ro ts->DV.rt (.ref p) E
 rp:∀as bs r p q xs ys E,aV B E->B r=none->B p=none->B q=none->p≠q->E r=some (.tup [.ref p,.ref q])->E p=some (.lst xs)->E q=some (.lst ys)->Reps K (mask E (p::q::G)) as xs->Reps K (mask E (p::q::G)) bs ys->DT.rp as bs->DV.rt (.ref r) E
 rq:∀a ts r p x xs E,aV B E->B r=none->B p=none->E r=some (.tup [x,.ref p])->E p=some (.lst xs)->fR K (mask E (p::G)) a x->Reps K (mask E (p::G)) ts xs->DT.rq a ts->DV.rt (.ref r) E
 xb:DT.xB B
def IZ.later(f:IZ K B G H ps DT DV)(e:aV (mask H ps) (mask E u3)):IZ K B G E u3 DT DV:=
 ⟨λ_ _ _ _ o s q=>f.nx _ _ _ _ o (e.trans s) q,λ_ _ _ _ o s q=>f.bk _ _ _ _ o (e.trans s) q,λ_ _ _ _ o s q=>f.ct _ _ _ _ o (e.trans s) q,f.rt,f.ro,f.rp,f.rq,f.xb⟩
def C4(X:Cx)(st:Stmt)(t:yL):Prop:=∃c:TS,PS X st c/\∀B G H ps m C (a:vI)(b:BB),Ok X.K B G H ps m C->t a m->IZ X.K B G H ps a b->c b C H
def wV(X:Cx)(st:List Stmt)(t:yL):Prop:=∃c:TS,A9 X st c/\∀B G H ps m C (a:vI)(b:BB),Ok X.K B G H ps m C->t a m->IZ X.K B G H ps a b->c b C H
def FC(X:Cx)(r:R2)(f:D->D->(D->Prop)->Prop):Prop:=∀H ps(a b:D)(x y:V)(Q:D->Prop)QV,(∀p∈ps,BA (H p))->fR X.K (mask H ps) a x->fR X.K (mask H ps) b y->f a b Q ->
 (∀d v E,aV H E->fR X.K (mask E ps) d v->Q d->QV v E)->r x y H QV
def vK(X:Cx)(r:List V->Hp->VK->Prop)(f:List D->(D->Prop)->Prop):Prop:=∀H ps(a:List D)(b:List V)(Q:D->Prop)QV,(∀p∈ps,BA (H p))->Reps X.K (mask H ps) a b->f a Q ->
 (∀d v E,aV H E->fR X.K (mask E ps) d v->Q d->QV v E)->r b H QV
section
variable{X:Cx}{a b e:Expr}{L:List Expr}{l s P:ET}{pos:Pos}
inductive aFa(C:List Sl)(i:Nat)(Q:D->Prop):Prop
|mk (d:D) (h:C[i]?=some (.val d)) (k:Q d):aFa C i Q
def A4(i:Nat):ET:=λC Q=>aFa C i Q
def eC(d:D):ET:=λ_ Q=>Q d
def aH(i:Nat){x:Str}{pos}(g:X.N[i]?=some x:=by rfl)(j:Fq X.env.scope x:=by first | exact j7 Db | exact j1 (j7 Db) | exact j1 (j1 Db))(hd:(x==("__debug__":Str))=false:=by decide)
  (c:(x==("__classdict__":Str))=false:=by decide):fK X (.Name x pos) (A4 i):=
 ⟨_,WB g j hd c,λB G H ps m C Q n o h k=>by
  obtain⟨d,e,q⟩:=h;obtain⟨v,f,r⟩:=o.val i d e;exact⟨v,f,k d v H (L2.aV.refl H) r q⟩⟩
def aQ{pos}:fK X (.Constant (.int i) j pos) (eC (.int i)):=⟨_,mZ,λ_ _ H _ _ _ _ _ _ h k=>k _ _ H (L2.aV.refl H) (.int i) h⟩
def vD{b pos}:fK X (.Constant (.bool b) j pos) (eC (.bool b)):=⟨_,Rt,λ_ _ H _ _ _ _ _ _ h k=>k _ _ H (L2.aV.refl H) (.bool b) h⟩
def kU{pos}:fK X (.Constant .none j pos) (eC .none):=⟨_,Xu,λ_ _ H _ _ _ _ _ _ h k=>k _ _ H (L2.aV.refl H) .none h⟩
def cK{x pos}:fK X (.Constant (.str x) j pos) (eC (.str x)):=⟨_,fD,λ_ _ H _ _ _ _ _ _ h k=>k _ _ H (L2.aV.refl H) (.str x) h⟩
def Zp{x:Str}{i:Int}{pos}(c:Gl X x)(d:X.mg x=some (.int i t))(hd:(x==("__debug__":Str))=false:=by decide):fK X (.Name x pos) (eC (.int i)):=⟨_,lX (v:=.int i) c d ⟨t,Db⟩ hd,λ_ _ H _ _ _ _ _ _ h k=>k _ _ H (L2.aV.refl H) (.int i) h⟩
def Di(f:D->D->(D->Prop)->Prop)(l s:ET):ET:=λC Q=>l C λx=>s C λy=>f x y Q
def CM{f:D->D->(D->Prop)->Prop}(t:FC X r f){j n:TE}
  (u:∀B G H ps m C (Q:D->Prop)(c:VK),Ok X.K B G H ps m C->l m Q->(∀d v E,aV H E->fR X.K (mask E ps) d v->Q d->c v E)->j C H c)
  (hb:∀B G H ps m C (Q:D->Prop)(c:VK),Ok X.K B G H ps m C->s m Q->(∀d v E,aV H E->fR X.K (mask E ps) d v->Q d->c v E)->n C H c)
  (B:Hp) (G:List Addr) (H:Hp) (ps:List Addr) (m:List Sl) (C:L2.St) (Q:D->Prop) (c:VK) (o:Ok X.K B G H ps m C) (h:Di f l s m Q) (k:∀d v E,aV H E->fR X.K (mask E ps) d v->Q d->c v E):Dt r j n C H c:=by
 refine u B G H ps m C _ _ o h λp x I g M z=>?_;refine hb B G I ps m C _ _ (o.grow g) z λq y J i N A=>?_;exact t J ps p q x y Q c ((o.grow g).grow i).live (M.same (bH i)) N A λd v E O F w=>k d v E (g.trans (i.trans O)) F w
def cV{f:D->D->(D->Prop)->Prop}(g:qI X (j8 op) r)(c:FC X r f)(d:fK X a l)(hb:fK X b s):fK X (.BinOp a op b pos) (Di f l s):=by
 obtain⟨n,h,j⟩:=d;obtain⟨o,i,k⟩:=hb;exact⟨_,KI g h i,CM c j k⟩
def rE{f:D->D->(D->Prop)->Prop}(h:qI X (f8 op) r)(c:FC X r f)(d:fK X a l)(hb:fK X b s)(g:h8 op b=false:=by first | exact DW _ | rfl):fK X (.Compare a [op] [b] pos) (Di f l s):=by
 obtain⟨o,i,k⟩:=d;obtain⟨p,j,n⟩:=hb;exact⟨_,O9 h i j g,CM c k n⟩
def bU{f:D->D->(D->Prop)->Prop}(g:ZG X r)(c:FC X r f)(d:fK X a l)(hb:fK X b s)(h:QN b:=by intro _ _;rfl):fK X (.Subscript a b pos) (Di f l s):=by
 obtain⟨n,i,j⟩:=d;obtain⟨o,pb,k⟩:=hb;exact⟨_,wY g i pb h,CM c j k⟩
def Nv(l:ET):ET:=λC Q=>l C λx=>match x with | .int i=>Q (.int (-i)) | _=>False
def YD(f:fK X a l):fK X (.UnaryOp .USub a pos) (Nv l):=by
 obtain⟨r,g,n⟩:=f;refine⟨_,Rv Yq g,λB G H ps m C Q q o h k=>n B G H ps m C _ _ o h λd x I p j c=>?_⟩
 cases j with
 |int i=>exact⟨i,Db,k _ _ I p (.int _) c⟩
 |_=>exact c.elim
def IW:AT:=λ_ Q=>Q []
def xG(t:ET)(r:AT):AT:=λC Q=>t C λx=>r C λc=>Q (x::c)
def aL:yM X [] IW:=⟨_,gM,λ_ _ H _ _ _ _ _ _ h k=>k _ _ H (L2.aV.refl H) .nil h⟩
def aB(g:fK X e P)(i:yM X L tr)(j:bI (e::L) X.env=(false,eval e X.env)::bI L X.env:=by rfl):yM X (e::L) (xG P tr):=by
 obtain⟨A,n,v⟩:=g;obtain⟨F,p,w⟩:=i;refine⟨_,cI n p j,λB G H ps m C Q y o h k=>v B G H ps m C _ _ o h λd x I c t q=>?_⟩;refine w B G I ps m C _ _ (o.grow c) q λz M J f u r=>?_;exact k _ _ J (c.trans f) (.cons (t.same (bH f)) u) r
def Iu(t:AT):ET:=λC Q=>t C λc=>c.length<=1000/\Q (.tuple c)
def Nu(t:AT):ET:=λC Q=>t C λc=>c.length<=1000/\Q (.list c)
def qP{ps:List Addr}{p:Addr}{c:List D}{f:List V}(live:∀q∈ps,BA (H q))(d:H p=none)(r:Reps K (mask H ps) c f):fR K (mask (eM H p (.tup f)) ps) (.tuple c) (.ref p):=
 .tuple (pY.of (kL (iQ live d) bQ)) (r.same (bH (dB d)))
def vY{ps:List Addr}{p:Addr}{c:List D}{f:List V}(live:∀q∈ps,BA (H q))(d:H p=none)(r:Reps K (mask H ps) c f):fR K (mask (eM H p (.lst f)) ps) (.list c) (.ref p):=
 .list (mL.of (kL (iQ live d) bQ)) (r.same (bH (dB d)))
def wF{n:Nat}(h:n<=1000):n<=bG:=hV (Q8 h)
def dD(h:yM X L t):fK X (.Tuple L x1 pos) (Iu t):=by
 obtain⟨v,p,r⟩:=h;refine⟨_,DS p,λB G H ps m C Q i o h k=>r B G H ps m C _ _ o h λj n I g f d=>⟨wF (by rw[<- f.length];exact d.1),λq c=>?_⟩⟩;exact k _ _ _ (g.trans (dB c)) (qP (o.grow g).live c f) d.2
def mH(h:yM X L t):fK X (.List L pos) (Nu t):=by
 obtain⟨v,p,r⟩:=h;refine⟨_,M8 p,λB G H ps m C Q i o h k=>r B G H ps m C _ _ o h λj n I g f d=>⟨wF (by rw[<- f.length];exact d.1),λq c=>?_⟩⟩;exact k _ _ _ (g.trans (dB c)) (vY (o.grow g).live c f) d.2
def pO(f:List D->(D->Prop)->Prop)(t:AT):ET:=λC Q=>t C λc=>f c Q
abbrev pU:=List D->(D->Prop)->Prop
def cZ(K:aF)(g:pU):Sp:=λvs H Q _=>∃(ps:List Addr)(f:List D)(c:D->Prop),(∀p∈ps,BA (H p))/\Reps K (mask H ps) f vs/\g f c/\∀d v E,aV H E->fR K (mask E ps) d v->c d->Q v E
def Zo{k:Nat}{f:Addr}{pn x}(F:dI X.prog X.w X.K X.mg X.base iG k f fd pn (cZ X.K sp))(S:X.mg x=some (.ref f))(R:gB X.K (.ref f)=true)(hb:qF X.K fd pn [])
  (T:gQ k X.A) (j:yM X (e::L) t) (q:∀{l},PA X (e::L) l->PE X (.Call (.Name x p) (e::L) [] pos) (BF (cZ X.K sp) [] E0 l)):fK X (.Call (.Name x p) (e::L) [] pos) (pO sp t):=by
 obtain⟨v,n,M⟩:=j;refine⟨_,q n,λB G H ps m C Q g o h k=>M B G H ps m C _ _ o h λi O I c z u=>?_⟩;show cZ X.K sp (O++[]) I g E0;rw[dW];exact⟨ps,i,Q,(o.grow c).live,z,u,λd v E N y r=>k d v E (c.trans N) y r⟩
def BR(t:ET):vF:=λC Q=>t C λx=>match x with | .bool b=>Q b | _=>False
def Zc(h:fK X e P)(pt:∀{t},PE X e t->PT X e (tB t)):FO X e (BR P):=by
 obtain⟨v,p,r⟩:=h;refine⟨_,pt p,λB G H ps m C Q j o h k=>r B G H ps m C _ _ o h λd x I i g f=>?_⟩
 cases g with
 |bool c=>exact⟨c,Db,k c I i f⟩
 |_=>exact f.elim
def dF{f:D->D->(D->Prop)->Prop}(p:qI X (f8 op) r)(i:FC X r f)(j:fK X a l)(hb:fK X b s)(n:h8 op b=false:=by first | exact DW _ | rfl):FO X (.Compare a [op] [b] pos) (BR (Di f l s)):=by
 obtain⟨F,q,w⟩:=j;obtain⟨M,t,y⟩:=hb;refine⟨_,O4 p q t n,λB G H ps m C Q A o h k=>?_⟩;refine CM i w y B G H ps m C (λx=>match x with | .bool b=>Q b | _=>False) _ o h λd v E z u g=>?_
 cases u with
 |bool c=>exact⟨c,Db,k c E z g⟩
 |_=>exact g.elim
def Iq(t:vF):vF:=λC Q=>t C λb=>Q (!b)
def Ip(t u:vF):vF:=λC Q=>t C λb=>if b=true then u C Q else Q false
def Nn(t u:vF):vF:=λC Q=>t C λb=>if b=true then Q true else u C Q
variable{M O:vF}{jK:List Expr}
def HA(h:FO X a M):FO X (.UnaryOp .Not a pos) (Iq M):=by
 obtain⟨v,p,r⟩:=h;exact⟨_,V1 p,λB G H ps m C Q f o h k=>r B G H ps m C _ _ o h λb E d c=>k _ E d c⟩
def pM(h:Ea X e M):FO X e M:=by
 obtain⟨v,p,r⟩:=h;exact⟨_,p.pt,r⟩
def qL(h:FO X a M):Ea X (.BoolOp .And [a] pos) M:=by
 obtain⟨v,p,r⟩:=h;exact⟨_,aA3 p,r⟩
def uK(h:FO X a M):Ea X (.BoolOp .Or [a] pos) M:=by
 obtain⟨v,p,r⟩:=h;exact⟨_,VZ p,r⟩
def qZ(g:FO X a M)(hb:Ea X (.BoolOp .And (b::jK) pos) O):Ea X (.BoolOp .And (a::b::jK) pos) (Ip M O):=by
 obtain⟨u,i,p⟩:=g;obtain⟨v,j,q⟩:=hb;refine⟨_,Xx i j,λB G H ps m C Q t o h k=>p B G H ps m C _ _ o h λc I d f=>?_⟩
 cases c with
 |true=>exact q B G I ps m C Q _ (o.grow d) f λb E r n=>k b E (d.trans r) n
 |false=>exact k _ I d f
def yV(g:FO X a M)(hb:Ea X (.BoolOp .Or (b::jK) pos) O):Ea X (.BoolOp .Or (a::b::jK) pos) (Nn M O):=by
 obtain⟨u,i,p⟩:=g;obtain⟨v,j,q⟩:=hb;refine⟨_,Mi i j,λB G H ps m C Q t o h k=>p B G H ps m C _ _ o h λc I d f=>?_⟩
 cases c with
 |true=>exact k _ I d f
 |false=>exact q B G I ps m C Q _ (o.grow d) f λb E r n=>k b E (d.trans r) n
def Nt(l s:ET):ET:=λC Q=>l C λx=>match x with | .bool c=>if c=true then s C Q else Q (.bool false) | _=>False
def EI(h:fK X a l):fK X (.BoolOp op [a] pos) l:=by
 obtain⟨v,p,r⟩:=h;exact⟨_,WE p,r⟩
def EL(i:fK X a l)(hb:fK X (.BoolOp .And (b::jK) pos) s):fK X (.BoolOp .And (a::b::jK) pos) (Nt l s):=by
 obtain⟨z,j,t⟩:=i;obtain⟨A,n,u⟩:=hb;refine⟨_,WI j n,λB G H ps m C Q y o h k=>t B G H ps m C _ _ o h λd x I g r f=>?_⟩
 cases r with
 |bool c=>
  refine⟨c,Db,?_⟩
  cases c with
  |true=>exact u B G I ps m C Q _ (o.grow g) f λd v E w q p=>k d v E (g.trans w) q p
  |false=>exact k _ _ I g (.bool false) f
 |_=>exact f.elim
def YK(f g:D->D->(D->Prop)->Prop)(l s d:ET):ET:=λC Q=>l C λx=>s C λy=>f x y λz=>match z with | .bool c=>if c=true then d C λw=>g y w Q else Q (.bool false) | _=>False
end
end TL
set_option maxHeartbeats 1000000
namespace L2
def N8{a b:Int}{x}:∀(l:List Value),TriplesOk l->∀y,codeAmong p (l++[r8 a,r8 b,x])=some y->codeAmong p l=some y\/y=x:=by
 intro l h
 fun_induction TriplesOk l with
 |case1=>
  intro y e;have c:(if(a==p.line&&b==p.col)=true then some x else codeAmong p [])=some y:=e;split at c
  ·exact .inr (c8 c).symm
  ·cases c
 |case2 u t v w z r f=>
  intro y e;simp only[List.cons_append,codeAmong]at e |-
  split at e
  ·rename_i d;rw[a9 d];exact .inl e
  ·rename_i d;rw[a8 d];exact f h y e
 |case3=>exact h.elim
section
variable{X:Cx}{a:List (Addr×Obj)}{d:St}{H:Hp}{s:Shared}
structure Lam(X:Cx)(H:Hp)(h:Heap)(f c:Addr)(fd:iF):Prop where
 obj:h.get? f=some { cls:=.type "function",data:=.func fd }
 free:H f=none
 code:fd.code=.ref c
 trk:∃oc P,H c=some (.frz oc (.own P))/\Y4 oc
 nfr:f∉pS X.stack
def cU.builtinsAt(I:cU X a d H s){P:Addr}{qs}(e:s.heap.get? P=some { cls:=.none,data:=.fields qs }):s.heap.BuiltinsAt X.mg P/\eB≠P:=by
 obtain⟨l,o,h,i,b,j,k,c⟩:=I.mod.bmod;have m:=I.mod.glob;obtain⟨q,p,n,f,g,_⟩:=m;refine⟨⟨l,o,h,i,λz=>?_,λz=>?_,I.bk _ _ b,j,k,c⟩,λz=>?_⟩
 ·rw[z,f]at b;cases b;rw[g]at c;cases c
 ·have:=I.bk _ _ b;rw[z,e]at this;cases this;cases c
 ·have:=I.bk _ _ f;rw[z,e]at this;cases this;cases g
def XI{g:Scope}{c P:Addr}{Q:Value->Shared->Prop}{E:Value->Shared->Prop}{name}{R:Nat}(I:cU X a d H s)(hT:tabA=some P)(hc:X.env.code=.ref c)(C:Y6 X.base c P)(Y:∀x∈g.names,x.2=.free->∃c,X.env.cells.lookup x.1=some c)
  (h:∀H'(s':Shared)(f j:Addr)(cl:List (Str×Addr))(pm i:Value),cU X a d H' s'->(∀b u,H b=some u->H' b=some u)->Lam X H' s'.heap f j (PySem.W.kla_fn name qual params body g cl pm (.ref j) i)->(∀n c,cl.lookup n=some c->X.env.cells.lookup n=some c)->(∀n,(n,f9)∈g.names->∃c,cl.lookup n=some c)->Q (.ref f) s') :
  wpAny (model X.prog X.w) X.A (makeFunction name qual params (.expr body) g X.env [] [] [] pos R) Q E s:=by
 obtain⟨cl,L,J,K⟩:=yG Y;obtain⟨ps,G⟩:=I.env0.tab P hT;obtain⟨qs,T,S,e3⟩:=I.hok P _ G;obtain⟨hb,Z⟩:=I.builtinsAt T;have hg:=I.mod.glob.keeps I.bk;have C':=C.keeps I.bk
 have nofr:∀b,s.heap.objs.size<=b->b∉pS X.stack:=λb hb z=>by
  rcases aK.mp (I.stkSub b z)with y | y
  ·rw[y]at hb;exact c7 I.lt (Y7.mpr hb)
  ·exact I.nofs hb y
 cases hm:codeAmong pos qs.toList with
 |none=>
  refine PySem.W.kla_makeFunction (mg:=X.mg) L I.ok.glob hg hc C' T S hm Z hb λj i m tk hx k B M O=>?_;obtain⟨c2,F,vs,t,q1,q2,q3,q4⟩:=M;cases q1;have q:H j=none:=I.hok.fresh k;have U:H m.objs.size=none:=I.hok.fresh (bL k (hV B));have cP:j≠P:=λz=>by rw[z,G]at q;cases q
  have kp:∀b o,b≠P->s.heap.get? b=some o->(m.push (CB name qual params body g cl ((X.mg "__name__").getD .none) j i)).get? b=some o:=λb o z e=>aD _ (hx b o z e);have nP:∀b,H b=none->b≠P:=λb e z=>by rw[z,G]at e;cases e
  have l:∀b u,H b=some u->eM H j (.frz F (.own P)) b=some u:=λb u e=>by rw[bV (eN e q)];exact e
  have un:Un X.fs [] H (eM H j (.frz F (.own P))) s.heap (m.push (CB name qual params body g cl ((X.mg "__name__").getD .none) j i)):=
   ⟨λb o e n _ _=>kp b o (nP b n) e,λb o e n _ _=>⟨o.slots,kp b o (nP b n) e⟩,λb o e n _=>by rw[bV (cL (bT (aY e) k))];exact n,λb o e _=>by
    by_cases z:b=P
    ·exact⟨_,by rw[z];exact aD _ O⟩
    ·exact⟨o,kp b o z e⟩,λb xs e=>l _ _ e,λb o u e=>l _ _ e,λb ps e=>⟨#[],by rw[l _ _ e];simp⟩⟩
  have hok:pV X.prog X.w (eM H j (.frz F (.own P))) (m.push (CB name qual params body g cl ((X.mg "__name__").getD .none) j i)):=λb u e=>by
   by_cases z:b=j
   ·subst z;rw[bQ]at e;cases e;exact⟨aD _ q2,_,aD _ q2⟩
   ·rw[bV z]at e;by_cases z2:b=P
    ·subst z2;rw[G]at e;cases e;refine⟨_,aD _ O,?_,λp x hp=>?_⟩
     ·rw[QW];exact TriplesOk_snoc _ _ _ _ S
     ·rw[QW]at hp;rcases N8 _ S _ hp with hp | hp
      ·obtain⟨c3,o3,r1,r2,r3⟩:=e3 p x hp;exact⟨c3,o3,r1,l _ _ r2,r3⟩
      ·exact⟨j,F,hp,bQ,vs,_,t,q3,q4⟩
    ·refine(I.hok b u e).stay (λy v hy r=>kp y v ?_ r) (λy r=>l _ _ r) (λy xs r=>l _ _ r) λy o v r=>l _ _ r;rcases hy with rfl | hy
     ·exact z2
     ·intro z3;rw[z3,G]at hy;cases hy
  refine h _ _ m.objs.size j cl _ i (I.un (t':=tk) un hok) l ⟨aU _ Db,by rw[bV (hU B)];exact U,Db,⟨F,P,bQ,vs,_,t,q3,q4⟩,nofr _ (bL k (hV B))⟩ J K
 |some cv=>
  obtain⟨j,F,r1,r2,r3⟩:=e3 pos cv hm;subst r1;refine PySem.W.kla_makeFunctionHit (mg:=X.mg) L I.ok.glob hg hc C' T S hm hb λi m tk hx N=>?_;exact h H _ m.objs.size j cl _ i (I.kept (t':=tk) λb o e=>aD _ (hx b o e)) (λ_ _ e=>e) ⟨aU _ Db,I.hok.fresh N,Db,⟨F,P,r2,r3⟩,nofr _ N⟩ J K
end
def SQ{A:d9}{R:Result->Shared->Prop}{s:Shared}{f c:Addr}{a:iF}{binds:List (Str×Value)}(i:A.depth<bg)(l:s.heap.NoLimit)
  (I:s.heap.get? f=some { cls:=.type "function",data:=.func a }) (u:a.scope.isCoroutine=false) (k:a.scope.isGenerator=false) (hb:a.body=.expr body) (F:a.code=.ref c) (E:s.heap.get? c=some oc) (G:Y4 oc)
  (d:bindArgs a args=pure binds) (g:∀x∈a.scope.names,x.2≠.cell) (n:∀x∈binds,a.scope.names.lookup x.1=some .local) (H:a.scope.kind=.function) (z:a.globals=eB) (p:a.builtins=t5)
  (h:∀(q:Str)(j:Heap),j.Ns s.heap.objs.size (λy=>binds.reverse.lookup y)->(∀b o,s.heap.get? b=some o->j.get? b=some o) ->
   wpAny (model prog w) (A.deeper (tV q a.scope s.heap.objs.size f a.code a.closure)) (eval body (tV q a.scope s.heap.objs.size f a.code a.closure)) (λv K=>R (.ok (.ret v)) K) (λ_ _=>False) { s with heap:=j,toks:=s.toks+binds.length }) :
  x6 (model prog w) A (.call (.ref f) args) R s:=by
 obtain⟨vs,q,t,hd,J⟩:=G;refine codeAny_of_tree ?_;show wpAny _ A.in1 (callAny (.ref f) args) _ _ s;simp only[callAny];refine aE (sx I ?_);simp only[callFunction,u,k,hb,F];refine aE (m:=ig (.ref c) 1) (f6 E hd J (aE (aZ ?_)));rw[d,z,p];refine aE (aZ (aE (wpAny_newFunctionEnv g n (λj B C=>?_) H)));have kp:∀b o,s.heap.get? b=some o->j.get? b=some o:=λb o e=>C.extBut b o (cL (aY e)) (aD _ e);refine aE (wpAny_enterFrame (l.keeps kp) i (aZ ⟨Db,?_⟩));have:=h q j B kp;rw[F]at this;exact PySem.W.kla_codeExpr (dN this (λ_ _ r=>r) λ_ _ r=>r.elim)
noncomputable abbrev zO:Scope:={ kind:=.function,names:=[(d7 "entry",.local),(d7 "bottom",.free)],isGenerator:=false,isCoroutine:=false,more:=[] }
noncomputable def K5(X:Cx)(A':d9)(q:Str)(f:Addr)(cd:Value)(cl:List (Str×Addr))(s:Shared)(H:Hp):Cx where
 prog:=X.prog
 w:=X.w
 K:=X.K
 mg:=X.mg
 base:=X.base
 A:=A'.deeper (tV q zO s.heap.objs.size f cd cl)
 N:=["entry","bottom"]
 s₀:=s
 H₀:=H
 env:=tV q zO s.heap.objs.size f cd cl
 outer:=X.stack
 stack:=tV q zO s.heap.objs.size f cd cl::X.stack
 ex:=[]
 fn:=λ_=>false
 calm:=true
 pn:=[]
 xe:=λ_ _=>False
def aCa{X:Cx}{A':d9}{q:Str}{f m:Addr}{cd}{cl:List (Str×Addr)}{s:Shared}{l:Heap}{tk:Nat}{x}{b:Int}(I:cU X pins σ H s)(F:A'.frames=some X.stack)(E:A'.handled=none)
  (g:∀n c,cl.lookup n=some c->X.env.cells.lookup n=some c) (w:cl.lookup ("bottom":Str)=some m) (j:s.heap.IsCell m (some (.int b t))) (r:eZ x u)
  (B:l.Ns s.heap.objs.size (λy=>[((d7 "entry":Str),u)].reverse.lookup y)) (kp:∀b o,s.heap.get? b=some o->l.get? b=some o) :
  cU (K5 X A' q f cd cl s H) [] [some x,some (.int b)] H { s with heap:=l,toks:=tk }:=by
 have d:=I.env0;have Dc:∀b:Addr,b∉(K5 X A' q f cd cl s H).ex:=λb z=>c7 (show b∈([]:List Addr)from z) Cy
 have K:∀y:Str,zO.names.lookup y=some .cell\/zO.names.lookup y=some .free->y="bottom":=λy k=>by
  have e:zO.names.lookup y=if y==(d7 "entry")then some .local else if y==(d7 "bottom")then some .free else none:=by
   show kG y [(d7 "entry",NameKind.local),(d7 "bottom",f9)]=_;rw[cE,cE];cases (y==d7 "entry")<;>cases (y==d7 "bottom")<;>rfl
  rw[e]at k;split at k
  ·rcases k with z | z<;>cases z
  ·split at k
   ·rename_i z;exact bo z
   ·rcases k with z | z<;>cases z
 obtain⟨L,G,A⟩:=j;have h:l.IsCell m (some (.int b t)):=⟨L,kp _ _ G,A⟩
 refine⟨⟨d.mod,Db,Db,Db,aM _,λy z c a a2=>I.ok.inj y z c (g y c a) (g z c a2),λy k=>?_,λy c z=>(nomatch (show false=true from z)),λ_=>E,gb F,.inr ⟨Db,Db⟩,λb z=>c7 z (Dc b),d.bs,d.bsz,λb _ _=>Dc b,λb z=>c7 z (Dc b),d.funs,d.frf,d.tab⟩,
  rfl,d.bare,Un.kept kp,⟨_,B,λi y v a a2 M=>?_⟩,λy c a=>?_,d.hok.fresh (aM _),λy c a=>I.freeC y c (g y c a),λp J=>c7 (show p∈([]:List (Addr×Obj))from J) Cy,d.hok.kept kp,Db⟩
 ·have:=K y k;rw[this];exact⟨m,w⟩
 ·match i,a,a2 with
  |0,a,a2=>
   cases a;cases a2;exact⟨u,r,.inl ⟨Db,Db⟩⟩
  |1,a,a2=>
   cases a;cases a2;exact⟨.int b t,⟨t,Db⟩,.inr ⟨.inr Db,m,w,h⟩⟩
  |i+2,a,a2=>cases a
 ·obtain⟨v,o,l,C⟩:=I.cell y c (g y c a);exact⟨v,o,kp _ _ l,C⟩
def Un.butA{fs}{h c g:Heap}{a:Addr}(u:Un fs ex H H1 h c)(f:fF a c g)(i:h.objs.size<=a):Un fs ex H H1 h g:=by
 have ne:∀b o,h.get? b=some o->b≠a:=λb o e=>cL (bT (aY e) i);refine⟨λb o e n c d=>(f.2 b (ne b o e)).trans (u.keep b o e n c d),λb o e n c d=>?_,u.free,λb o e d=>?_,u.tups,u.frzs,u.tbls⟩
 ·obtain⟨k,z⟩:=u.slot b o e n c d;exact⟨k,(f.2 b (ne b o e)).trans z⟩
 ·obtain⟨j,z⟩:=u.there b o e d;exact⟨j,(f.2 b (ne b o e)).trans z⟩
def Un.new{fs}{h h1:Heap}{a:Addr}(u:Un fs ex H H1 h h1)(hn:H1 a=none)(ha:h.objs.size<=a):Un fs ex H (eM H1 a o) h h1 where
 keep:=u.keep
 slot:=u.slot
 free:=λb ob e n hx=>by rw[bV (cL (bT (aY e) ha))];exact u.free b ob e n hx
 there:=u.there
 tups:=λb xs e=>by have z:=u.tups b xs e;rw[bV (eN z hn)];exact z
 frzs:=λb ob v e=>by have z:=u.frzs b ob v e;rw[bV (eN z hn)];exact z
 tbls:=λb ps e=>by
  obtain⟨m,z⟩:=u.tbls b ps e;exact⟨m,by rw[bV (eN z hn)];exact z⟩
theorem pV.new{h}{a:Addr}(x:pV P w H h)(d:H a=none)(new:iR P w (eM H a o) h a o):pV P w (eM H a o) h:=λb u e=>by
 by_cases hb:b=a
 ·subst hb;rw[bQ]at e;cases e;exact new
 ·rw[bV hb]at e;have st:∀c v,H c=some v->eM H a o c=some v:=λc v q=>by rw[bV (eN q d)];exact q
  exact(x b u e).stay (λc v _ q=>q) (λc q=>st _ _ q) (λc f q=>st _ _ q) λc ob v q=>st _ _ q
noncomputable abbrev Ki(p:Pos):Arguments:={ posonlyargs:=[],args:=[{ arg:="entry",annotation:=none,pos:=p }],vararg:=none,kwonlyargs:=[],kw_defaults:=[],kwarg:=none,defaults:=[] }
def FQ(K:aF)(H:Hp)(b:Int)(x:V)(k:Int):Prop:=∃(q:Addr)(a c:V)(d:Addr)(top bot:Int),x=.ref q/\pY K H q [a,c,.ref d]/\pY K H d [.int top,.int bot]/\Gq b bot/\OE top (b / bot)/\k=top*(b / bot)
def FQ.same{K}{H a:Hp}{b:Int}{x}{k:Int}(h:FQ K H b x k)(s:∀c u,H c=some u->a c=some u):FQ K a b x k:=by
 obtain⟨q,j,l,d,top,bot,e,f,g,i⟩:=h;exact⟨q,j,l,d,top,bot,e,TL.aV.seqT s f,TL.aV.seqT s g,i⟩
section
variable{g l n B E F G M O a R S U:Pos}
def Xt{X:Cx}{q:Str}{f:Addr}{cd}{pins:List (Addr×Obj)}{x}{b k:Int}(I:cU (K5 X A' q f cd cl s H) [] [some x,some (.int b)] H s1)(h:FQ X.K H b x k) :
  wpAny (model X.prog X.w) (K5 X A' q f cd cl s H).A (eval (.BinOp (.Subscript (.Subscript (.Name "entry" g) (.Constant (.int 2) 0 l) n) (.Constant (.int 0) 0 B) E) .Mult (.BinOp (.Name "bottom" F) .FloorDiv (.Subscript (.Subscript (.Name "entry" G) (.Constant (.int 2) 0 M) O) (.Constant (.int 1) 0 a) R) S) U) (K5 X A' q f cd cl s H).env)
   (EP (K5 X A' q f cd cl s H) [] [some x,some (.int b)] λv j=>v=.int k/\j=H) (λ_ _=>False) s1:=by
 have p:PE (K5 X A' q f cd cl s H) (.BinOp (.Subscript (.Subscript (.Name "entry" g) (.Constant (.int 2) 0 l) n) (.Constant (.int 0) 0 B) E) .Mult (.BinOp (.Name "bottom" F) .FloorDiv (.Subscript (.Subscript (.Name "entry" G) (.Constant (.int 2) 0 M) O) (.Constant (.int 1) 0 a) R) S) U) _:=
  KI WJ (wY bE (wY bE (pv 0) mZ (by intro _ _;rfl)) mZ (by intro _ _;rfl)) (KI zK (pv 1) (wY bE (wY bE (pv 0) mZ (by intro _ _;rfl)) mZ (by intro _ _;rfl)))
 obtain⟨i,r,t,d,top,bot,rfl,c,e,m,o,rfl⟩:=h;refine p [] s1 _ H _ I ?_;refine⟨_,Db,.inr (.inl ⟨i,_,2,.ref d,Db,Db,c,Db,.inr (.inl ⟨d,_,0,.int top,Db,Db,e,Db,?_⟩)⟩)⟩;refine⟨_,Db,_,Db,.inr (.inl ⟨i,_,2,.ref d,Db,Db,c,Db,.inr (.inl ⟨d,_,1,.int bot,Db,Db,e,Db,?_⟩)⟩)⟩;exact⟨b,bot,Db,Db,m,top,b / bot,Db,Db,o,Db,Db⟩
def Yz(K:aF)(ib:Nat)(m:TA):TE:=λj H Q=>m j H λvs e=>∃(p:Addr)(d:List V)(b:Int)(h:List Int),vs=[.ref p]/\mL K e p d/\d.length<64/\j[ib]?=some (some (.int b))/\h.length=d.length/\(∀(i:Nat) x k,d[i]?=some x->h[i]?=some k->FQ K e b x k) /\
 ∀f,(∀c u,e c=some u->f c=some u)->∀(J:List Nat) r,SS.JK d.length (λi=>h.getD i 0) J->f r=none->Q (.ref r) (eM f r (.lst (J.map λi=>d.getD i .non)))
def WC{X:Cx}{ib:Nat}{k:Nat}{c P:Addr}(hr:gQ (k+3) X.A)(hT:tabA=some P)(hc:X.env.code=.ref c)(C:BC X.K c P=true)(zy:X.N[ib]?=some "bottom")(hk:X.env.kindOf "bottom"=some .cell)
  (hg:Gl X "sorted") (hm:X.mg "sorted"=none) (hv:e4 "sorted"=some (.builtin "sorted")) (ha:PA X [e] ta)
  (he:i9 pos (bI [e] X.env)=(false,eval e X.env)::i9 pos (bI [] X.env):=by rfl)
  (vg:(i9 pos (bI [e] X.env)).any (·.1)=false:=by rfl) :
  PE X (.Call (.Name "sorted" np) [e] [⟨some (d7 "key"),.Lambda (Ki ap) (.BinOp (.Subscript (.Subscript (.Name "entry" g) (.Constant (.int 2) 0 l) n) (.Constant (.int 0) 0 B) E) .Mult (.BinOp (.Name "bottom" F) .FloorDiv (.Subscript (.Subscript (.Name "entry" G) (.Constant (.int 2) 0 M) O) (.Constant (.int 1) 0 a) R) S) U) zO lp,kp⟩] pos) (Yz X.K ib ta):=by
 intro pins s σ H Q I h;refine t6 (uZ I hg hm hv ?_ Cv Cv);refine callWith_kw (jG (ha pos pins s σ H _ I h) λus s1 zq=>?_) he vg;obtain⟨vs,H1,I1,r1,a⟩:=zq;obtain⟨p,xs,b,kz,rfl,hS,wh,Av,gV,wq,q⟩:=a;obtain⟨u,rfl,ru⟩:=oQ r1;cases ru
 have Z:∀x∈zO.names,x.2=.free->∃c,X.env.cells.lookup x.1=some c:=λx hx hf=>by
  have xf:x=(d7 "entry",NameKind.local)\/x=(d7 "bottom",f9):=by simpa using hx
  rcases xf with rfl | rfl
  ·cases hf
  ·exact I.ok.has "bottom" (.inl hk)
 refine kws_cons (PySem.W.kla_eval Db (XI I1 hT hc (PySem.W.codeHd_of_K I.mod.kin C) Z λH2 s2 f c' cl pm Bp r sH L ya zj=>kws_nil ?_));obtain⟨cb,ux⟩:=zj "bottom" (aJ _ (aN ..));have zf:mL X.K H2 p xs:=L2.aV.seq sH hS;obtain⟨bc,rv,vg,hz⟩:=r.list zf;have d:=rv.length;have hA:=r.ok.frames;have Y:gQ (k+1) X.A.in1.in1:=(gQ.in1 (k:=k+2) hr).in1
 have nofr:∀b,s2.heap.objs.size<=b->b∉pS X.stack:=λb hb z=>by
  rcases aK.mp (r.stkSub b z)with y | y
  ·rw[y]at hb;exact c7 r.lt (Y7.mpr hb)
  ·exact r.nofs hb y
 let Tp:Shared->Prop:=λs'=>s'.os=s2.os/\v9 s'.gens/\Un (pS X.stack) [] H2 H2 s2.heap s'.heap/\pV X.prog X.w H2 s'.heap
 have Bi:∀s',Tp s'->cU X pins σ H2 s':=λs' t=>r.call' (ch:=[]) t.1 t.2.2.1 t.2.2.2 t.2.1 (λb z=>c7 z Cy)
 have T:SS.S3 Tp s2.heap.objs.size:=by
  refine⟨λs' x h' tk t hx hs=>⟨t.1,t.2.1,t.2.2.1.butA hs hx,t.2.2.2.but (r.hok.fresh hx) hs⟩,λs' o t=>⟨t.1,t.2.1,t.2.2.1.trans (Un.kept λb u e=>aD _ e),t.2.2.2.kept λb u e=>aD _ e⟩⟩
 have t0:Tp s2:=⟨Db,r.bare,Un.refl,r.hok⟩;have Az:f∉pS X.stack:=L.nfr
 have turn:SS.jB X.prog X.w X.A.in1.in1 Tp s2.heap.objs.size f bc kz:=λi v k0 s' hv gC t=>by
  have I':=Bi s' t
  obtain⟨x,hx,rx⟩:∃x,xs[i]?=some x/\eZ x v:=by
   have hi:i<xs.length:=by rw[d];exact(aI.mp hv).1
   obtain⟨u,h1,h2⟩:=rv.get (aG hi);rw[hv]at h1;cases h1;exact⟨_,aG hi,h2⟩
  have yz:=(wq i x k0 hx gC).same sH;obtain⟨m,hn,hl⟩:=I'.loc;obtain⟨ub,Bf,lb⟩:=hl ib "bottom" (.int b) zy Av (.inr (.inl hk));obtain⟨tb,rfl⟩:=Bf
  have cell:s'.heap.IsCell cb (some (.int b tb)):=by
   rcases lb with⟨z,_⟩ | ⟨_,c0,z1,z2⟩
   ·rw[hk]at z;cases z
   ·have:=ya _ _ ux;rw[this]at z1;cases z1;exact z2
  obtain⟨oc,P',w1,w2⟩:=L.trk;obtain⟨Bc,_⟩:=I'.hok c' _ w1;refine ik (SQ Y.depth I'.nolimit (t.2.2.1.keep f _ L.obj L.free Az Cy) Db Db Db Db Bc w2 (binds:=[(d7 "entry",v)]) Db (λy hy=>?_) (λy hy=>?_) Db Db Db λqn h1 wv kp=>?_)
  ·have kd:y=(d7 "entry",NameKind.local)\/y=(d7 "bottom",f9):=by simpa using hy
   rcases kd with rfl | rfl<;>simp
  ·rw[aP.mp hy];rfl
  ·have J:=aCa (q:=qn) (f:=f) (cd:=.ref c') (tk:=s'.toks+1) (A':=X.A.in1.in1) I' hA Y.hd ya ux cell rx wv kp;refine dN (Xt (pins:=pins) J yz) (λu s3 hu=>?_) λ_ _ z=>z;obtain⟨v3,H3,J3,r3,rfl,rfl⟩:=hu;obtain⟨t3,rfl⟩:=r3;exact⟨t3,Db,⟨J3.os.trans t.1,J3.bare,t.2.2.1.trans J3.base,J3.hok⟩,λb o hb e=>J3.base.keep b o e (r.hok.fresh hb) (nofr b hb) (by simp[K5])⟩
 show wpAny (model X.prog X.w) X.A (call (.builtin "sorted") [.ref p] [(d7 "key",.ref f)]) _ _ s2;refine SS.Q7 T t0 vg.isList (aM _) (by rw[gV,d]) (by rw[<- d];exact wh) turn λs' D out cc J t hD ho sb ww=>?_;have wj:H2 D=none:=r.hok.fresh hD;rw[<- d]at sb;have hL:(2:Nat)^24=bG:=rfl
 have vals:eW (J.map λi=>xs.getD i .non) out.toList:=by
  rw[ww]
  have:∀J:List Nat,(∀i∈J,i<xs.length)->eW (J.map λi=>xs.getD i .non) (J.map λi=>bc.getD i .none):=by
   intro J hJ
   induction J with
   |nil=>exact .nil
   |cons j J ih=>
    refine .cons ?_ (ih λi hi=>hJ i (aJ _ hi));have hj:=hJ j (aN ..);obtain⟨u,h1,h2⟩:=rv.get (aG hj);show eZ (xs.getD j .non) (bc.getD j .none);rw[dH,dH,h1,aG hj];exact h2
  exact this J sb.lt
 refine⟨.ref D,_,r.call' (ch:=[]) (s':=s') (H':=eM H2 D (.lst (J.map λi=>xs.getD i .non))) t.1 (t.2.2.1.new wj hD) (t.2.2.2.new wj ⟨?_,out.toList,cc,vals,?_⟩) t.2.1 (λb z=>c7 z Cy),Db,q H2 sH J D sb wj⟩
 ·rw[aC,sb.len,<- hL];lia
 ·simpa[g3]using ho
end
end L2
namespace TL
open L2
variable{K:aF}{H L T U:Hp}{B:Hp}{O I:List Addr}{C:List Sl}{G:L2.St}
section
variable{X:Cx}{a b c e:Expr}{es:List Expr}{Y Z tc W:ET}{pos:Pos}
def N4{f g:D->D->(D->Prop)->Prop}(N:FC X r f)(n:FC X m g){u A E:TE}
  (P:∀B O H I C G (Q:D->Prop)(i:VK),Ok X.K B O H I C G->Y C Q->(∀d v L,aV H L->fR X.K (mask L I) d v->Q d->i v L)->u G H i)
  (hb:∀B O H I C G (Q:D->Prop)(i:VK),Ok X.K B O H I C G->Z C Q->(∀d v L,aV H L->fR X.K (mask L I) d v->Q d->i v L)->A G H i)
  (R:∀B O H I C G (Q:D->Prop)(i:VK),Ok X.K B O H I C G->tc C Q->(∀d v L,aV H L->fR X.K (mask L I) d v->Q d->i v L)->E G H i)
  (B:Hp) (O:List Addr) (H:Hp) (I:List Addr) (C:List Sl) (G:L2.St) (Q:D->Prop) (i:VK) (o:Ok X.K B O H I C G) (h:YK f g Y Z tc C Q) (k:∀d v L,aV H L->fR X.K (mask L I) d v->Q d->i v L):U2 r m u A E G H i:=by
 refine P B O H I C G _ _ o h λJ x T j r1 q1=>?_;refine hb B O T I C G _ _ (o.grow j) q1 λs y U l t q2=>?_;refine N U I J s x y _ _ ((o.grow j).grow l).live (r1.same (bH l)) t q2 λd3 z H3 s3 r3 p=>?_
 cases r3 with
 |bool c=>
  refine⟨c,Db,?_⟩
  cases c with
  |false=>exact k _ _ H3 (j.trans (l.trans s3)) (.bool false) p
  |true=>
   refine R B O H3 I C G _ _ (((o.grow j).grow l).grow s3) p λM w F q r4 q4=>?_;exact n F I s M y w Q i ((((o.grow j).grow l).grow s3).grow q).live ((t.same (bH s3)).same (bH q)) r4 q4 λd v L s' m S=>k d v L (j.trans (l.trans (s3.trans (q.trans s')))) m S
 |_=>exact p.elim
def YF{f g:D->D->(D->Prop)->Prop}(m:qI X (f8 op) r)(h:qI X (f8 op') r')(i:FC X r f)(d:FC X r' g)(j:fK X a Y)(hb:fK X b Z)(k:fK X c tc)
  (l:lastMarks [op,op'] [b,c]=false:=by with_unfolding_all rfl):fK X (.Compare a [op,op'] [b,c] pos) (YK f g Y Z tc):=by
 obtain⟨u,n,q⟩:=j;obtain⟨v,o,s⟩:=hb;obtain⟨w,p,t⟩:=k;exact⟨_,WH m h n o p l,N4 i d q s t⟩
abbrev OT:=List Sl->(Option Int->Prop)->Prop
def Fw(X:Cx)(e:Option Expr)(t:OT):Prop:=∃to:TO,PO X e to/\∀B O H I C G (Q:Option Int->Prop)(d:Option Int->Hp->Prop),Ok X.K B O H I C G->t C Q ->
 (∀i L,aV H L->Q i->d i L)->to G H d
def Qt:OT:=λ_ Q=>Q none
def Qu(t:ET):OT:=λG Q=>t G λx=>match x with | .int i=>Q (some i) | _=>False
def jX:Fw X none Qt:=⟨_,aBa,λ_ _ H _ _ _ _ _ _ h k=>k _ H (L2.aV.refl H) h⟩
def gT(h:fK X e W):Fw X (some e) (Qu W):=by
 obtain⟨v,p,r⟩:=h;refine⟨_,aA9 p,λB O H I C G Q l o h k=>r B O H I C G _ _ o h λd x T j g f=>?_⟩
 cases g with
 |int i=>exact⟨i,Db,k _ T j f⟩
 |_=>exact f.elim
def Mp(X:Cx)(r:V->Option Int->Option Int->Hp->VK->Prop)(f:D->Option Int->Option Int->(D->Prop)->Prop):Prop:=∀H I(d:D)(x:V)(lo g:Option Int)(Q:D->Prop)QV,(∀p∈I,BA (H p))->fR X.K (mask H I) d x->f d lo g Q ->
 (∀d v L,aV H L->fR X.K (mask L I) d v->Q d->QV v L)->r x lo g H QV
def Nj(f:D->Option Int->Option Int->(D->Prop)->Prop)(t:ET)(d th:OT):ET:=λG Q=>t G λx=>d G λl=>th G λu=>f x l u Q
def gI{r:V->Option Int->Option Int->Hp->VK->Prop}{f:D->Option Int->Option Int->(D->Prop)->Prop}{lo}(q:Y2 X r)(m:Mp X r f)(n:fK X e W)(p:Fw X lo tl)(s:Fw X hi th) :
  fK X (.Subscript e (.Slice lo hi none p2) pos) (Nj f W tl th):=by
 obtain⟨S,t,N⟩:=n;obtain⟨vl,w,rl⟩:=p;obtain⟨vu,y,P⟩:=s;refine⟨_,WD q t w y,λB O H I C G Q j o h k=>N B O H I C G _ _ o h λd x T g M A=>?_⟩;refine rl B O T I C G _ _ (o.grow g) A λl U i E=>?_;refine P B O U I C G _ _ ((o.grow g).grow i) E λu H3 s3 F=>?_;exact m H3 I d x l u Q j (((o.grow g).grow i).grow s3).live ((M.same (bH i)).same (bH s3)) F λd v L R J z=>k d v L (g.trans (i.trans (s3.trans R))) J z
variable{st:Stmt}{jK:List Stmt}{t u:yL}
def lM:yL:=λd G=>d.nx G
def jA(t u:yL):yL:=λd G=>t { d with nx:=u d } G
def fU:wV X [] lM:=⟨_,O5,λB O H I C G d g o h f=>f.nx H I C G o (L2.aV.refl _) h⟩
def aW(l:C4 X st t)(m:wV X jK u):wV X (st::jK) (jA t u):=by
 obtain⟨y,p,s⟩:=l;obtain⟨x,q,v⟩:=m;refine⟨_,kQ p q,λB O H I C G g i o h f=>s B O H I C G { g with nx:=u g } { i with nx:=x i } o h ⟨λL j d k n w r=>?_,f.bk,f.ct,f.rt,f.ro,f.rp,f.rq,f.xb⟩⟩;exact v B O L j d k g i n r (f.later w)
def cA(d:C4 X st t):wV X [st] t:=by
 obtain⟨h,f,g⟩:=d;exact⟨_,tF f,g⟩
def Xz(i:Nat)(t:yL):yL:=λf G=>∃d,G[i]?=some (.own d)/\t f (G.set i (.val (.list d)))
def rP(i:Nat)(h:wV X sts t):wV X sts (Xz i t):=by
 obtain⟨v,p,r⟩:=h;refine⟨_,p,λB O H I C G g j o h f=>?_⟩;obtain⟨m,e,h⟩:=h;obtain⟨d,k,l⟩:=o.share e;exact r B O H d _ G g j k h (f.later l)
def MX(W:ET):yL:=λd G=>W G d.rt
def dM(h:fK X e W):C4 X (.Return (some e) pos) (MX W):=by
 obtain⟨v,p,r⟩:=h;refine⟨_,AQ p,λB O H I C G k l o h f=>r B O H I C G _ _ o h λd x L j i g=>?_⟩;exact f.rt d x L (o.base.trans j) (i.same (eV o.sub)) g
def Dd(c:vF)(t u:yL):yL:=λd G=>c G λb=>if b=true then t d G else u d G
def jC{c a b tc}(m:FO X c tc)(l:wV X a t)(hb:wV X b u):C4 X (.If c a b pos) (Dd tc t u):=by
 obtain⟨y,q,v⟩:=m;obtain⟨w,n,r⟩:=l;obtain⟨x,p,s⟩:=hb;refine⟨_,V7 q n p,λB O H I C G i j o h f=>v B O H I C G _ _ o h λd T g k=>?_⟩
 cases d with
 |true=>exact r B O T I C G i j (o.grow g) k (f.later (bH g))
 |false=>exact s B O T I C G i j (o.grow g) k (f.later (bH g))
def HK(i:Nat)(W:ET):yL:=λf G=>W G λd=>f.nx (G.set i (.val d))
def VB{i:Nat}{x}(h:fK X e W)(g:∀{v},PE X e v->PS X (.Assign [.Name x pos'] e pos) (sX v (lO i))):C4 X (.Assign [.Name x pos'] e pos) (HK i W):=by
 obtain⟨v,p,r⟩:=h;refine⟨_,g p,λB O H I C G m n o h f=>r B O H I C G _ _ o h λd x L j l k=>?_⟩;exact f.nx L I _ _ ((o.grow j).set l) (bH j) k
def Hj(i:Nat)(t:AT):yL:=λf G=>t G λd=>d.length<=1000/\f.nx (G.set i (.own d))
def Yf{i:Nat}{x t}(h:yM X es t)(d:∀{v},PE X (.List es p2) v->PS X (.Assign [.Name x pos'] (.List es p2) pos) (sX v (lO i))):C4 X (.Assign [.Name x pos'] (.List es p2) pos) (Hj i t):=by
 obtain⟨v,p,r⟩:=h;refine⟨_,d (M8 p),λB O H I C G m n o h f=>r B O H I C G _ _ o h λs w T l k j=>⟨wF (by rw[<- k.length];exact j.1),λq g=>?_⟩⟩;exact f.nx _ (q::I) _ _ ((o.grow l).setOwn g k) ((bH l).trans (by rw[mS g];exact L2.aV.refl _)) j.2
def Js(i:Nat)(W:ET):yL:=λg G=>∃f,G[i]?=some (.own f)/\W G λd=>f.length<=100000/\g.nx (G.set i (.own (f++[d])))
def HB{i:Nat}{e W}(R:PE X n (nZ i))(y:fK X e W)(A:bI [e] X.env=(false,eval e X.env)::bI [] X.env:=by rfl)
  (pb:∀{Y},PA X [e] Y->PS X (.Expr (.Call (.Attribute n "append" ap) [e] [] cp) pos) (yX (Q3 X.K "list" CK (nZ i) Y))):C4 X (.Expr (.Call (.Attribute n "append" ap) [e] [] cp) pos) (Js i W):=by
 obtain⟨v,p,r⟩:=y;refine⟨_,pb (cI p gM A),λB O H I C G M N o h f=>?_⟩;obtain⟨s,e,h⟩:=h;obtain⟨q,j,k,w,P,Q,l,m⟩:=o.own i s e;refine⟨.ref q,k,.inl ⟨Db,j,mL.of l⟩,r B O H I C G _ _ o h λd x T g J F=>?_⟩;refine⟨q,j,x,Db,Db,g _ _ l,?_,?_⟩
 ·rw[<- m.length];have:bG=2^24:=rfl;lia
 ·have E:=o.grow g;have z:Reps X.K (mask T I) (s++[d]) (j++[x]):=(m.same (bH g)).append (.cons J .nil);exact f.nx _ I _ G (E.write (ys:=j++[x]) e k z) ((bH g).trans (by rw[dY w];exact L2.aV.refl _)) F.2
noncomputable def J5(x:Str):List D:=x.cps.toList.map λc=>.str ⟨#[c]⟩
noncomputable def P3:D->Option (List D)
|.list ts=>some ts
|.tuple ts=>some ts
|.str x=>some (J5 x)
|_=>none
def pN(G:List Sl):Prop:=∀(i:Nat)(s:Sl),(∀d,s≠.val d)->s≠.un->G[i]?≠some s
def pX{G:List Sl}(h:pN G)(i:Nat)(d:D):pN (G.set i (.val d)):=λj s f k e=>by
 by_cases z:i=j
 ·subst z;have g:i<G.length:=by simpa using(aI.mp e).1
  rw[bF g]at e;exact f d (c8 e).symm
 ·rw[bC z]at e;exact h j s f k e
theorem pN.own{G}(h:pN G)(i:Nat)(d:List D):G[i]?≠some (.own d):=h i _ (λ_ z=>nomatch z) λz=>nomatch z
theorem pN.dic{G}(h:pN G)(i:Nat)(d:List Int)(kvs:List (D×D)):G[i]?≠some (.dic d kvs):=h i _ (λ_ z=>nomatch z) λz=>nomatch z
abbrev GT:=D->List Sl->(List Sl->Prop)->Prop
def MA(X:Cx)(k:Expr)(g:GT):Prop:=∃j:TG,PG X k j/\∀B O H I C G (d:D)(v:V)(Q:List Sl->Prop)(i:L2.St->Hp->Prop),Ok X.K B O H I C G->fR X.K (mask H I) d v->g d C Q ->
 (∀f h,Ok X.K B O H I f h->(pN C->pN f)->Q f->i h H)->j v G H i
def gN(i:Nat):GT:=λd G Q=>Q (G.set i (.val d))
def eA{i:Nat}{x}(h:PG X (.Name x p) (lO i)):MA X (.Name x p) (gN i):=
 ⟨_,h,λB O H I C G d v Q f o r h k=>k _ _ (o.set r) (λn=>pX n _ _) h⟩
def gP(i j:Nat):GT:=λd G Q=>∃a b,d=.tuple [a,b]/\Q ((G.set i (.val a)).set j (.val b))
def qR{i j:Nat}{t}(h:PG X t (Hb X.K 2 (GN (lO i) (GN (lO j) Ha)))):MA X t (gP i j):=
 ⟨_,h,λB O H I C G d v Q l o r h k=>by
  obtain⟨a,b,rfl,h⟩:=h
  cases r with
  |@tuple p xs _ hq r=>
   cases r with
   |cons f r=>
    cases r with
    |cons g r=>
     cases r;exact⟨_,_,Db,aV.seqT bO hq,Db,_,_,Db,_,_,Db,Db,k _ _ ((o.set f).set g) (λn=>pX (pX n _ _) _ _) h⟩⟩
structure aC9(K:aF)(Hs:Hp)(ts:List D)(J:It):Prop where
 stop:∀(i:Nat)H,aV Hs H->ts.length<=i->J.stop i H
 go:∀(i:Nat)H,aV Hs H->i<ts.length->J.go i H
 yld:∀(i:Nat)H I(y:V)L,(∀p∈I,BA (H p))->aV Hs (mask H I)->i<ts.length->J.yld i H y L->aV H L/\∃dx,ts[i]?=some dx/\fR K (mask L I) dx y
abbrev IT:=List Sl->(List D->Prop)->Prop
def L9(X:Cx)(g iter:Expr)(t:IT):Prop:=∃f:TI,PI X g iter f/\∀B O H I C G (Q:List D->Prop)(R:It->Hp->Prop),Ok X.K B O H I C G->t C Q ->
 (∀d J L,aV H L->aC9 X.K (mask L I) d J->Q d->R J L)->f G H R
def Jf(W:ET):IT:=λG Q=>W G λd=>∃f,P3 d=some f/\Q f
def aA1{x}(r:fR K Hs d x)(l:P3 d=some ts){R:It->Hp->Prop}(o:aV Hs T)(h:∀J:It,aC9 K Hs ts J->R J T) :
  (∃a,x=.ref a/\(∃f,mL K T a f)/\R (Ig K a) T)\/(∃a,x=.ref a/\(∃f,pY K T a f)/\R (Ic K a) T)\/∃z,x=.str z/\R (Fz z) T:=by
 cases r with
 |@list p f us q rs=>
  obtain rfl:us=ts:=c8 l;refine .inl ⟨p,Db,⟨f,L2.aV.seq o q⟩,h _ ⟨λi H e g=>⟨f,L2.aV.seq e q,by rw[<- rs.length];exact g⟩,λi H e g=>?_,λi H I y L _ e g j=>?_⟩⟩
  ·obtain⟨v,n,_⟩:=rs.get (aG g);exact⟨f,v,L2.aV.seq e q,n⟩
  ·obtain⟨rfl,j⟩:=j;obtain⟨dx,m,k⟩:=rs.get' (j f (L2.aV.seq (e.trans bO) q));exact⟨L2.aV.refl _,dx,m,k.same e⟩
 |@tuple p f us q rs=>
  obtain rfl:us=ts:=c8 l;refine .inr (.inl ⟨p,Db,⟨f,aV.seqT o q⟩,h _ ⟨λi H e g=>⟨f,aV.seqT e q,by rw[<- rs.length];exact g⟩,λi H e g=>?_,λi H I y L _ e g j=>?_⟩⟩)
  ·obtain⟨v,n,_⟩:=rs.get (aG g);exact⟨f,v,aV.seqT e q,n⟩
  ·obtain⟨rfl,j⟩:=j;obtain⟨dx,m,k⟩:=rs.get' (j f (aV.seqT (e.trans bO) q));exact⟨L2.aV.refl _,dx,m,k.same e⟩
 |str z=>
  obtain rfl:J5 z=ts:=c8 l;have g:(J5 z).length=z.cps.size:=by unfold J5;simp
  refine .inr (.inr ⟨z,Db,h _ ⟨λi H _ e=>by rw[g]at e;exact e,λi H _ e=>by rw[g]at e;exact e,λi H I y L _ _ e j=>?_⟩⟩);obtain⟨rfl,c,k,rfl⟩:=j;refine⟨L2.aV.refl _,.str ⟨#[c]⟩,?_,.str _⟩;unfold J5;rw[aO];have:z.cps.toList[i]?=some c:=by simpa using k
  rw[this];rfl
 |_=>cases l
def fN(f:fK X e W):L9 X tg e (Jf W):=by
 obtain⟨s,i,m⟩:=f;refine⟨_,Xv i,λB O H I C G Q R o h k=>m B O H I C G _ _ o h λd x T p l j=>?_⟩;obtain⟨r,g,q⟩:=j;exact aA1 l g bO λJ n=>k r J T p n q
noncomputable def eI(n:Nat):List D:=(fX n).map λ(k:Nat)=>bM (k:Int)
def Ws(t:AT):IT:=λG Q=>t G λd=>∃n:Int,d=[.int n]/\-(2^62)<=n/\n<2^62/\Q (eI n.toNat)
def qE{e t}(m:yM X [e] t)(v:∀{Y},PA X [e] Y->PI X tg (.Call (.Name "range" p) [e] [] p') (Kf Y)):L9 X tg (.Call (.Name "range" p) [e] [] p') (Ws t):=by
 obtain⟨F,s,z⟩:=m;refine⟨_,v s,λB O H I C G Q R o h k=>z B O H I C G _ _ o h λE J T A f w=>?_⟩;obtain⟨n,rfl,j,l,q⟩:=w
 cases f with
 |cons f x=>
  cases x;cases f;refine⟨n,Db,j,l,k (eI n.toNat) _ T A ?_ q⟩;have d:(eI n.toNat).length=n.toNat:=by unfold eI;simp
  refine⟨λi H _ e=>by rw[d]at e;exact e,λi H _ e=>by rw[d]at e;exact e,λi H I y L _ _ e r=>?_⟩;obtain⟨rfl,rfl⟩:=r;have g:(0:Int)+(i:Int)=(i:Int):=by lia
  rw[g];rw[d]at e;refine⟨L2.aV.refl _,.int i,?_,.int _⟩;unfold eI;rw[aO,kZ e];rfl
def VM(j:IT)(g:GT)(Z:yL):yL:=λf G=>j G λi=>∃P:Nat->List Sl->Prop,P 0 G /\
 (∀(k:Nat)(x:D)d,i[k]?=some x->P k d->g x d λh=>Z { f with nx:=P (k+1),ct:=P (k+1),bk:=f.nx } h)/\∀d,P i.length d->f.nx d
def Ye{iter Z}(he:L9 X tg iter ti)(hg:MA X tg g)(hb:wV X body Z)
  (pf:∀{wi S bv},PI X tg iter wi->PG X tg S->A9 X body bv->PS X (.For tg iter body [] pos) (Hm wi S bv)):C4 X (.For tg iter body [] pos) (VM ti g Z):=by
 obtain⟨ve,pe,re⟩:=he;obtain⟨S,pg,rg⟩:=hg;obtain⟨vb,pb,rb⟩:=hb;refine⟨_,pf pe pg pb,λB O H I C G DT DV o h f=>re B O H I C G _ _ o h λF J T s1 rj q1=>?_⟩;obtain⟨P,h0,hs,hd⟩:=q1;refine⟨λi m n L=>m=F.length-i/\i<=F.length/\∃j d,Ok X.K B O L j d n/\aV (mask T I) (mask L j)/\P i d,⟨_,Db,cD _,I,C,o.grow s1,L2.aV.refl _,h0⟩,?_⟩;rintro i m n L ⟨rfl,vf,j,d,o',Q,p'⟩;have sH:aV (mask T I) L:=Q.trans bO;have f':IZ X.K B O L j DT DV:=f.later ((bH s1).trans Q);by_cases q:i<F.length
 ·refine .inr ⟨rj.go i L sH q,λM U=>∃w p,Ok X.K B O U w p M/\aV (mask T I) (mask U w)/\P (i+1) p,λM U z=>⟨F.length-(i+1),Cw,Db,q,z⟩,λy U kd=>?_⟩;obtain⟨s2,dx,hx,rx⟩:=rj.yld i L j y U o'.live Q q kd;have s:=f'.later (bH (ps:=j) s2);have A:aV (mask T I) (mask U j):=Q.trans (bH s2);refine rg B O U j d n dx y _ _ (o'.grow s2) rx (hs i dx d hx p') λN ug o3 _ q3=>?_;exact rb B O U j N ug _ _ o3 q3 ⟨λR l k r v E x=>⟨l,k,v,A.trans E,x⟩,λR l k r v E x=>s.nx R l k r v E x,λR l k r v E x=>⟨l,k,v,A.trans E,x⟩,s.rt,s.ro,s.rp,s.rq,s.xb⟩
 ·obtain rfl:i=F.length:=by lia
  exact .inl ⟨rj.stop _ L sH (aM _),f'.nx L j d n o' (L2.aV.refl _) (hd d p')⟩
noncomputable def GV(G:List Sl):Option Nat->Sl
|none=>.un
|some j=>match G[j]? with | some (.val d)=>.val d | _=>.un
noncomputable def jS(d:List (Option Nat))(G:List Sl):List Sl:=d.map (GV G)
def SU{G}(h:GV G q=.val d):∃j,q=some j/\G[j]?=some (.val d):=by
 cases q with
 |none=>cases h
 |some j=>
  refine⟨j,Db,?_⟩;unfold GV at h;dsimp only at h;split at h
  ·next e=>cases h;exact e
  ·cases h
def SV{G}(g:∀d,s≠.val d)(f:s≠.un):GV G q≠s:=λh=>by
 cases q with
 |none=>exact f h.symm
 |some j=>
  unfold GV at h;dsimp only at h;split at h
  ·exact g _ h.symm
  ·exact f h.symm
def rX(d:List (Option Nat))(G:List Sl):pN (jS d G):=λi s j g h=>by
 unfold jS at h;rw[aO]at h
 cases f:d[i]? with
 |none=>rw[f]at h;cases h
 |some q=>
  rw[f]at h;exact SV j g (c8 h)
def Ok.blk(o:Ok K B O H I C G)(fr:List (Option Nat)):Ok K B O H I (jS fr C) (zR fr G) where
 base:=o.base
 sub:=o.sub
 live:=o.live
 len:=by unfold jS zR;simp
 val:=λi d h=>by
  unfold jS at h;rw[aO]at h
  cases hf:fr[i]? with
  |none=>rw[hf]at h;cases h
  |some q=>
   rw[hf]at h;obtain⟨j,rfl,e⟩:=SU (c8 h);obtain⟨v,h1,h2⟩:=o.val j d e;refine⟨v,?_,h2⟩;unfold zR;rw[aO,hf];simp[h1]
 own:=λi ts h=>c7 h ((rX fr C).own i ts)
 dis:=λi j ts us p h=>c7 h ((rX fr C).own i ts)
 dc:=λi hs kvs h=>c7 h ((rX fr C).dic i hs kvs)
def Ok.adopt(o:Ok K B O H I C G){p:Addr}{u}(f:H p=none)(w:Fj u=false:=by rfl):Ok K B O (eM H p u) (p::I) C G:=by
 have k:mask (eM H p u) (p::I)=mask H I:=mS f;refine⟨o.base.trans (dB f),λq l=>aJ _ (o.sub q l),λq l=>?_,o.len,λi d h=>by rw[k];exact o.val i d h,λi x h=>?_,o.dis,o.dc.to (λj E kvs h=>⟨h,Db⟩) (λq A a b _=>⟨aJ _ a,bV λz=>by rw[z,f]at b;cases b⟩) (λq A _ _ a b=>⟨a,b⟩) (by rw[k];exact L2.aV.refl _)⟩
 ·by_cases e:q=p
  ·subst e;rw[bQ];exact⟨_,Db,w⟩
  ·rw[bV e];rcases aK.mp l with z | z
   ·exact c7 z e
   ·exact o.live q z
 ·rw[k];obtain⟨q,y,m,n,r,s,g,v⟩:=o.own i x h;exact⟨q,y,m,aJ _ n,r,s,by rw[bV λz=>by rw[z,f]at g;cases g];exact g,v⟩
def Ok.aside(o:Ok K B O H I C G){q:Addr}{u}(hp:q∈I)(hB:B q=none)(hn:pN C)(hu:Fj u=false:=by rfl):Ok K B O (eM H q u) I C G where
 base:=λb w e=>by
  rw[bV λz=>by rw[z,hB]at e;cases e];exact o.base b w e
 sub:=o.sub
 live:=λp hp'=>by
  by_cases e:p=q
  ·subst e;rw[bQ];exact⟨_,Db,hu⟩
  ·rw[bV e];exact o.live p hp'
 len:=o.len
 val:=λi d h=>by rw[dY hp];exact o.val i d h
 own:=λi ts h=>c7 h (hn.own i ts)
 dis:=λi j ts us p h=>c7 h (hn.own i ts)
 dc:=λi hs kvs h=>c7 h (hn.dic i hs kvs)
def FP(X:Cx)(d:List Expr)(t:vF):Prop:=∃g:TT,QO X d g/\∀B O H I C G (Q:Bool->Prop)(f:Bool->Hp->Prop),Ok X.K B O H I C G->t C Q ->
 (∀b L,aV H L->Q b->f b L)->g G H f
def BQ:vF:=λ_ Q=>Q true
def gY:FP X [] BQ:=⟨_,aBc,λ_ _ H _ _ _ _ _ _ h k=>k _ H (L2.aV.refl H) h⟩
def EB{t}(h:FO X e t):FP X [e] t:=by
 obtain⟨v,p,r⟩:=h;exact⟨_,aBb p,r⟩
def QC(j:List (Option Nat))(l:IT)(g:GT)(m:vF)(W:ET):ET:=λG Q=>l G λi=>i.length<=100000/\∃P:Nat->List Sl->List D->Prop,P 0 (jS j G) [] /\
 (∀(k:Nat)(x:D)d(h:List D),i[k]?=some x->P k d h->g x d λf=>m f λb=>if b=true then W f λy=>P (k+1) f (h++[y])else P (k+1) f h)/\∀d h,P i.length d h->Q (.list h)
def aBy{ti:IT}{g:GT}{tt:vF}{W:ET}{wi:TI}{gv:BP->TG}{vt:BP->TT}{ve:BP->TE}
  (ri:∀B O H I C G (Q:List D->Prop)(R:It->Hp->Prop),Ok X.K B O H I C G->ti C Q->(∀M J L,aV H L->aC9 X.K (mask L I) M J->Q M->R J L)->wi G H R)
  (rg:∀(x:BP)B O H I C G(d:D)(v:V)(Q:List Sl->Prop)(s:L2.St->Hp->Prop),Ok X.K B O H I C G->fR X.K (mask H I) d v->g d C Q->(∀f r,Ok X.K B O H I f r->(pN C->pN f)->Q f->s r H)->gv x v G H s)
  (rt:∀(x:BP)B O H I C G(Q:Bool->Prop)(s:Bool->Hp->Prop),Ok X.K B O H I C G->tt C Q->(∀b L,aV H L->Q b->s b L)->vt x G H s)
  (re:∀(x:BP)B O H I C G(Q:D->Prop)s,Ok X.K B O H I C G->W C Q->(∀d v L,aV H L->fR X.K (mask L I) d v->Q d->s v L)->ve x G H s)
  (B:Hp) (O:List Addr) (H:Hp) (I:List Addr) (C:List Sl) (G:L2.St) (Q:D->Prop) (s:VK) (o:Ok X.K B O H I C G) (h:QC fr ti g tt W C Q) (k:∀d v L,aV H L->fR X.K (mask L I) d v->Q d->s v L):TQ fr wi gv vt ve G H s:=by
 refine ri B O H I C G _ _ o h λM J T s1 rj q1=>?_;obtain⟨hz,P,h0,hs,hd⟩:=q1;intro x j l
 have N:B j=none:=by
  cases q:B j with
  |none=>rfl
  |some u=>rw[(o.grow s1).base j u q]at l;cases l
 have wu:j∉I:=iQ (o.grow s1).live l
 refine⟨λi m r L=>m=M.length-i/\i<=M.length/\∃f A S,Ok X.K B O L (j::I) f r/\pN f/\L j=some (.lst S)/\A.length<=i/\Reps X.K (mask L (j::I)) A S/\aV (mask T I) (mask L (j::I))/\aV T L/\P i f A,
  ⟨_,Db,cD _,jS fr C,[],[],((o.grow s1).blk fr).adopt l,rX fr C,bQ,aM _,.nil,by rw[mS l];exact L2.aV.refl _,dB l,h0⟩,?_⟩
 rintro i m r L ⟨rfl,vf,f,A,S,o',n',ha,hl,hr,s',sF,p'⟩;have hL:bG=2^24:=rfl;by_cases E:i<M.length
 ·refine .inr ⟨rj.go i L (s'.trans bO) E,λy U hy=>?_⟩;obtain⟨s2,dx,hx,rx⟩:=rj.yld i L (j::I) y U o'.live s' E hy;refine rg x B O U (j::I) f r dx y _ _ (o'.grow s2) rx (hs i dx f A hx p') λn ug o3 n3 q3=>?_;refine rt x B O U (j::I) n ug _ _ o3 q3 λb H4 s4 q4=>?_;have w:=s2.trans s4
  cases b with
  |false=>
   exact⟨M.length-(i+1),Cw,Db,E,n,A,S,o3.grow s4,n3 n',w _ _ ha,Cw,hr.same (bH w),s'.trans (bH w),sF.trans w,q4⟩
  |true=>
   refine re x B O H4 (j::I) n ug _ _ (o3.grow s4) q4 λd v H5 s5 r5 q5=>?_;have F:=w.trans s5;have hm:mask (eM H5 j (.lst (S++[v]))) (j::I)=mask H5 (j::I):=dY (aN ..);refine⟨S,F _ _ ha,by rw[<- hr.length];lia,M.length-(i+1),Cw,Db,E,n,A++[d],S++[v],((o3.grow s4).grow s5).aside (aN ..) N (n3 n'),n3 n',bQ,by rw[bP,pB];lia,?_,?_,?_,q5⟩
   ·rw[hm];exact(hr.same (bH F)).append (.cons r5 .nil)
   ·rw[hm];exact s'.trans (bH F)
   ·intro b u e;have ne:b≠j:=λz=>by rw[z,l]at e;cases e
    rw[bV ne];exact(sF.trans F) b u e
 ·obtain rfl:i=M.length:=by lia
  refine .inl ⟨rj.stop _ L (s'.trans bO) (aM _),k (.list A) _ L (s1.trans sF) (.list (mL.of (kL wu ha)) (hr.same (eV λp hp=>aJ _ hp))) (hd f A p')⟩
def NS{iter W}(j:L9 X tg iter ti)
  (f:∀b:BP,MA (blk X scope N' b) tg g/\FP (blk X scope N' b) ifs tt/\fK (blk X scope N' b) elt W) {M:(TE)->Prop}
  (fin:∀{h}{gv:BP->TG}{vt:BP->TT}{ve:BP->TE},PI X tg iter h->(∀b:BP,PG (blk X scope N' b) tg (gv b)/\QO (blk X scope N' b) ifs (vt b)/\PE (blk X scope N' b) elt (ve b))->M (TQ fr h gv vt ve)) :
  ∃v:TE,M v/\∀B O H I C G (Q:D->Prop)(i:VK),Ok X.K B O H I C G->QC fr ti g tt W C Q ->
   (∀d v L,aV H L->fR X.K (mask L I) d v->Q d->i v L)->v G H i:=by
 obtain⟨h,k,l⟩:=j;refine⟨_,fin (gv:=λb=>l4 (f b).1) (vt:=λb=>l4 (f b).2.1) (ve:=λb=>l4 (f b).2.2) k λb=>⟨(e5 (f b).1).1,(e5 (f b).2.1).1,(e5 (f b).2.2).1⟩,?_⟩;exact aBy l (λb=>(e5 (f b).1).2) (λb=>(e5 (f b).2.1).2) λb=>(e5 (f b).2.2).2
def Qh{iter W}(j:L9 X tg iter ti)
  (i:∀b:BP,MA (blk X scope N' b) tg g/\FP (blk X scope N' b) ifs tt/\fK (blk X scope N' b) elt W)
  (k:∀{wi}{d:BP->TG}{h:BP->TT}{f:BP->TE},PI X tg iter wi->(∀b:BP,PG (blk X scope N' b) tg (d b)/\QO (blk X scope N' b) ifs (h b)/\PE (blk X scope N' b) elt (f b))->PE X (.ListComp elt [⟨tg,iter,ifs,0⟩] scope pos) (TQ fr wi d h f)) :
  fK X (.ListComp elt [⟨tg,iter,ifs,0⟩] scope pos) (QC fr ti g tt W):=NS j i k
def mR{i:Nat}{x iter W}(q:L9 X tg iter ti)
  (n:∀b:BP,MA (blk X scope N' b) tg g/\FP (blk X scope N' b) ifs tt/\fK (blk X scope N' b) elt W)
  (s:∀{wi}{j:BP->TG}{m:BP->TT}{l:BP->TE},PI X tg iter wi->(∀b:BP,PG (blk X scope N' b) tg (j b)/\QO (blk X scope N' b) ifs (m b)/\PE (blk X scope N' b) elt (l b)) ->
   PS X (.Assign [.Name x px] (.ListComp elt [⟨tg,iter,ifs,0⟩] scope pos) spos) (sX (TQ fr wi j m l) (lO i))) :
  C4 X (.Assign [.Name x px] (.ListComp elt [⟨tg,iter,ifs,0⟩] scope pos) spos) (HK i (QC fr ti g tt W)):=by
 obtain⟨v,p,r⟩:=NS (M:=λv=>PS X (.Assign [.Name x px] (.ListComp elt [⟨tg,iter,ifs,0⟩] scope pos) spos) (sX v (lO i))) (fr:=fr) q n s;refine⟨_,p,λB O H I C G z A o h f=>r B O H I C G _ _ o h λd x L k y w=>?_⟩;exact f.nx L I _ _ ((o.grow k).set y) (bH k) w
noncomputable def iO(N:List Str)(d:List D):List Sl:=d.map Sl.val++G4 (N.length-d.length) .un
def oS(live:∀p∈I,BA (H p))(r:Reps K (mask H I) ds vs):Ok K H I H I (iO N ds) (L2.mE N vs):=by
 have k:=r.length;refine⟨L2.aV.refl _,λ_ h=>h,live,?_,λi d h=>?_,λi n h=>?_,λi j n q p h=>?_,λi o kvs h=>?_⟩
 ·unfold iO L2.mE;simp[k]
 ·unfold iO at h;by_cases f:i<ds.length
  ·rw[eG (by simpa using f),aO]at h
   cases hd:ds[i]? with
   |none=>rw[hd]at h;cases h
   |some g=>
    rw[hd]at h;cases h;obtain⟨v,l,m⟩:=r.get hd;refine⟨v,?_,m⟩;unfold L2.mE;rw[eG (by rw[aC,<- k];exact f),aO,l];rfl
  ·rw[eD (by simpa using f),lE]at h;split at h<;>cases h
 ·unfold iO at h;by_cases f:i<ds.length
  ·rw[eG (by simpa using f),aO]at h
   cases hd:ds[i]? with
   |none=>rw[hd]at h;cases h
   |some g=>rw[hd]at h;cases h
  ·rw[eD (by simpa using f),lE]at h;split at h<;>cases h
 ·unfold iO at h;by_cases f:i<ds.length
  ·rw[eG (by simpa using f),aO]at h
   cases hd:ds[i]? with
   |none=>rw[hd]at h;cases h
   |some g=>rw[hd]at h;cases h
  ·rw[eD (by simpa using f),lE]at h;split at h<;>cases h
 ·unfold iO at h;by_cases f:i<ds.length
  ·rw[eG (by simpa using f),aO]at h
   cases hd:ds[i]? with
   |none=>rw[hd]at h;cases h
   |some g=>rw[hd]at h;cases h
  ·rw[eD (by simpa using f),lE]at h;split at h<;>cases h
def uJ{mg:Str->Option Value}{x st}{f:Addr}{N pn:List Str}{k:Nat}{n:pU}(F:MB K x qual st f fd)(S:bZ N pn (aX st))
  (l:∀{j}{A:d9}{outer}{s:Shared}{H E},gQ k (A.deeper (i3 qual (aX st) s.heap.objs.size f j))->N.Nodup->∀(i:List D)(Q:D->Prop),n i Q ->
   ∃t,wV (rF iG P w K mg base N qual (aX st) f j A outer s H E).nox (lK st) t/\t { nx:=λ_=>Q .none,rt:=Q } (iO N i)) (len:∀i Q,n i Q->i.length=pn.length:=by intro i Q h;(repeat obtain⟨_,h⟩:=h)<;>subst_vars<;>rfl):dI P w K mg base iG (k+1) f fd pn (cZ K n):=by
 refine F.ok S (λvs H Q E h=>?_) λj A outer s H vs Q E z h=>?_
 ·obtain⟨I,i,m,_,r,q,_⟩:=h;rw[<- r.length];exact len i m q
 ·obtain⟨I,i,m,live,r,q,k⟩:=h;obtain⟨t,⟨ts,p,rd⟩,h⟩:=l z S.nd i m q;refine⟨ts,p,rd H I H I _ _ _ _ (oS live r) h ⟨λL M y u7 J o g=>?_,λ_ _ _ _ _ _ g=>g.elim,λ_ _ _ _ _ _ g=>g.elim,λd v L o R g=>k d v L o R g,λ_ _ _ _ _ _ _ _ _ g=>g.elim,λ_ _ _ _ _ _ _ _ _ _ _ _ _ _ _ _ _ _ g=>g.elim,λ_ _ _ _ _ _ _ _ _ _ _ _ _ _ g=>g.elim,e7⟩⟩;exact k _ _ L J.base .none g
end
end TL
namespace HT
section
variable{prog:cW}{w:f7}{A:d9}{E:Value->Shared->Prop}{s:Shared}
def getItem_tuple_all{t g:Addr}{a:Array Value}{lo}{Q:Value->Shared->Prop}(b:sy s.heap t a)(i:s.heap.IsSliceOf g vl vu .none)(k:IsPart vl lo)(l:IsPart vu hi)
  (hw:sIx a.size 0 lo=0/\sIx a.size a.size hi=a.size) (h:Q (.ref t) s):wpAny (model prog w) A (y8 (.ref t) (.ref g)) Q E s:=by
 obtain⟨os,f,e,j⟩:=id i;have d:s.TypeIs (.ref g) "slice":=⟨os,f,e⟩;unfold y8
 try with_reducible refine m5 ?_
 first | refine aE (aZ ?_) | skip
 refine aE (ue b.typeIs Cv ?_)
 refine aE (j3 (name:=d7 "__getitem__") b.typeIs j6
  (lR j6 b.typeIs qz ?_ (rz _ _)))
 show wpAny _ _ (av (.ref t) >>= _) _ _ s;refine aE (tupleItemsOf_ b ?_);refine aE (kt d ?_);rw[a9 Cv];refine aE (rR i k l ?_)
 have c:(((sIx a.size 0 lo:Nat):Int)==0&&(1:Int)==1&&(sIx a.size a.size hi-sIx a.size 0 lo)==a.size)=true:=by
  rw[hw.1,hw.2];simp
 show wpAny _ _ (if(((sIx a.size 0 lo:Nat):Int)==0&&(1:Int)==1&&(sIx a.size a.size hi-sIx a.size 0 lo)==a.size)=true then _ else _) _ _ s;rw[a9 c];unfold Builtin.Tuple.tupleIsExact;refine aE (aE (kt b.typeIs (aZ ?_)));rw[a9 Cv]
 first
  |exact aE (t7 (aE (aZ (aZ ⟨_,Db,aZ h⟩))))
  |exact aE (t7 (aZ ⟨_,Db,aZ h⟩))
  |exact aE (t7 (aE (aZ ⟨_,Db,aZ h⟩)))
end
end HT
namespace L2
section
variable{X:Cx}
def Jr:V->Option Int->Option Int->Hp->VK->Prop:=λx lo a H Q=>∃z,x=.str z/\z.length<=bG/\Q (.str (Txt.slice z lo a)) H
def Ya:Y2 X Jr:=by
 intro b s p H x v w y lo a r Q I o c n f h;obtain⟨z,rfl,m,q⟩:=h;obtain⟨t,rfl⟩:=o;refine⟨"str",_,PySem.F.slot_str_getitem.lookup,sv _ _ _,?_⟩
 have fin:∀lo a:Option Int,Q (.str (Txt.slice z lo a)) H->(Txt.slice z lo a).length<=bG/\∀(d:Tok)(k:Nat),EP X b p Q (.str (Txt.slice z lo a) d) { s with toks:=k }:=λlo a q=>
  ⟨bL (Txt.slice_le z _ _) m,λd k=>⟨.str _,H,I.tok k,⟨d,Db⟩,q⟩⟩
 cases n with
 |none=>
  cases f with
  |none=>exact t8 (l:=none) (u:=none) (st:=none) c Db (ar (fin none none q))
  |int j e=>exact t8 (l:=none) (u:=some (j,e)) (st:=none) c Db (ar (fin none (some j) q))
 |int i g=>
  cases f with
  |none=>exact t8 (l:=some (i,g)) (u:=none) (st:=none) c Db (ar (fin (some i) none q))
  |int j e=>exact t8 (l:=some (i,g)) (u:=some (j,e)) (st:=none) c Db (ar (fin (some i) (some j) q))
def Mo(K:aF):V->Option Int->Option Int->Hp->VK->Prop:=λx lo c H Q=>∃a b,x=.ref a/\pY K H a b /\
 ((HT.sIx b.length 0 lo=0/\HT.sIx b.length b.length c=b.length)->Q (.ref a) H)/\(¬(HT.sIx b.length 0 lo=0/\HT.sIx b.length b.length c=b.length)->∀p,H p=none->Q (.ref p) (eM H p (.tup (IL b lo c))))
def aAp:Y2 X (Mo X.K):=by
 intro d s u H x v q t lo f p Q I m g k l h;obtain⟨a,b,rfl,j,n,o⟩:=h;by_cases hw:HT.sIx b.length 0 lo=0/\HT.sIx b.length b.length f=b.length
 ·cases m;obtain⟨e,r,i,w⟩:=I.tuple j;have c:e.toArray.size=b.length:=by rw[bA];exact r.length.symm
  exact⟨"tuple",_,PyProof.Rows.slot_tuple_getitem.lookup,i.typeIs,HT.getItem_tuple_all i g k l (by rw[c];exact hw) ⟨.ref a,H,I,Db,n hw⟩⟩
 ·exact Yb d s u H (.ref a) v q t lo f p Q I m g k l ⟨a,b,Db,j,hw,o hw⟩
def VW(K:aF):V->Option Int->Option Int->Hp->VK->Prop:=λx lo a H Q=>Jq K x lo a H Q\/Mo K x lo a H Q\/Jr x lo a H Q
def kO:Y2 X (VW X.K):=aAq.or (aAp.or Ya)
def VY(K:aF):R2:=λx y H Q=>∃a b c d,x=.ref a/\y=.ref b/\pY K H a c/\pY K H b d/\c.length+d.length<=bG /\
 (c=[]->Q (.ref b) H)/\(c≠[]->d=[]->Q (.ref a) H)/\(c≠[]->d≠[]->∀p,H p=none->Q (.ref p) (eM H p (.tup (c++d))))
def WK:qI X (j8 .Add) (VY X.K):=by
 intro j s S H x y v u Q I t w h;obtain⟨a,b,z,R,rfl,rfl,p,hb,E,L,M,N⟩:=h;by_cases f:z=[]
 ·cases t;cases w;obtain⟨g,O,G,_⟩:=I.tuple p;obtain⟨i,T,J,_⟩:=I.tuple hb;obtain⟨⟨A,B,o,P⟩,r,q,n,hd⟩:=id G;obtain⟨⟨m,k,data2,l⟩,e,c,F,d⟩:=id J;simp only at q hd c d;subst q hd c d;have C:g=[]:=O.nil_iff.mpr f;exact cq ⟨_,r,Db⟩ ⟨_,e,Db⟩ eh jj tW sI (rM _ _) (tuple_addW0 a b g.toArray i.toArray n F B k P l (by simp[C])) ⟨r,e,⟨.ref b,H,I,Db,L f⟩⟩
 ·exact aBi j s S H (.ref a) (.ref b) v u Q I t w ⟨a,b,z,R,Db,Db,p,hb,f,E,M f,N f⟩
def Mj(K:aF):R2:=λx y H Q=>∃l b a c,x=.ref l/\y=.ref b/\mL K H l a/\mL K H b c/\a.length+c.length<=bG/\∀p,H p=none->Q (.ref p) (eM H p (.lst (a++c)))
def HR:qI X (j8 .Add) (Mj X.K):=by
 intro w s S H x y v u Q I M N h;obtain⟨l,b,P,R,rfl,rfl,G,hb,t,q⟩:=h;cases M;cases N;obtain⟨c,z,⟨⟨B,C,m,O⟩,n,r,o,J,hd⟩,_⟩:=I.list G;obtain⟨a,A,⟨⟨k,g,data2,j⟩,L,f,d,p,e⟩,_⟩:=I.list hb;simp only at o hd d e;subst o hd d e;have i:c.toArray.size+a.toArray.size<=bG:=by rw[bA,bA,<- z.length,<- A.length];exact t
 refine cq ⟨_,r,Db⟩ ⟨_,f,Db⟩ noFill_list_add seq_list_add PySem.F.slot_list_add PySem.F.entry_list_add (PySem.F.args_list_add_2 _ _) (list_addW l b c.toArray a.toArray n L C g O j i) ⟨r,f,?_⟩;have E:c.toArray++a.toArray=(c++a).toArray:=by simp
 rw[E];exact⟨.ref _,_,I.lnew (t':=s.toks) (z.append A) (by rw[bP];exact t),Db,q _ I.fresh⟩
def O3(K:aF):R2:=λx y H Q=>(VX λi j=>.int (i+j)) x y H Q\/(∃i j,x=.str i/\y=.str j/\i.length+j.length<=bG/\Q (.str (i++j)) H)\/VY K x y H Q\/Mj K x y H Q
def cJ:qI X (j8 .Add) (O3 X.K):=Yn.or (NE.or (WK.or HR))
def O2:R2:=λx y H Q=>(rI OE λi j=>.int (i*j)) x y H Q\/∃z n,x=.str z/\y=.int n/\z.length<=1000/\0<=n/\n<=1000/\Q (.str (Txt.mul z n)) H
def NA:qI X (j8 .Mult) (λx y H Q=>∃z n,x=.str z/\y=.int n/\z.length<=1000/\0<=n/\n<=1000/\Q (.str (Txt.mul z n)) H):=by
 intro c s o H x y v u Q I e f h;obtain⟨z,n,rfl,rfl,d,g,i,q⟩:=h;obtain⟨t,rfl⟩:=e;obtain⟨m,rfl⟩:=f;refine SB.mul ⟨by simp;lia,λa _=>?_,λ_ _=>?_⟩ λb k=>⟨.str _,H,I.tok k,⟨b,Db⟩,q⟩
 ·have l:1<=n:=by lia
  have:(1000:Int)<=(2^63-1) / n:=by
   rw[Int.le_ediv_iff_mul_le Cw];lia
  lia
 ·have:z.length*n.toNat<=1000*1000:=mP d Cw;unfold Builtin.Str.tooLong;have j:bG=2^24:=rfl;simp only[l9];lia
def fM:qI X (j8 .Mult) O2:=WJ.or NA
def AH(E:X.calm=true):lZ X (.builtin "all") (λy H Q=>∃(p:Addr)(bs:List Bool),y=[.ref p]/\mL X.K H p (bs.map V.bl)/\Q (.bl (bs.all id)) H):=by
 intro k s M H y W Q I r h;obtain⟨p,bs,rfl,J,q⟩:=h;obtain⟨u,rfl,L⟩:=oQ r;cases L;obtain⟨c,m,w,S⟩:=I.list J
 have l:p≠s.heap.objs.size:=by
  obtain⟨o,G,_⟩:=w.isList;exact cL (aY G)
 have j:=w.isList;refine call_all_walk (i4 j ?_);refine⟨_,_,_,_,_,_,λi=>(bs[i]?).getD true,Db,iu (A:=X.A.in1) (I.ok.hd E) _ p l c.toArray,⟨⟨_,aU _ Db,Db,Db⟩,j.push _⟩,λi v T P N C d=>?_,λR U F=>?_⟩
 ·have t:c[i]?=some v:=by simpa using C
  have a:=m.length;have f:i<c.length:=(aI.mp t).1;have hb:i<bs.length:=by rw[aC]at a;lia
  obtain⟨Y,n,B⟩:=m.get (i:=i) (x:=.bl bs[i]) (by rw[aO,aG hb];rfl);rw[t]at n;cases n;cases B;refine k6 ?_;dsimp only at d;rw[aG hb]at d;exact d
 ·have e:(fX c.toArray.size).all (λi=>(bs[i]?).getD true)=bs.all id:=by
   have a:=m.length;rw[aC]at a;rw[bA,<- a];rw[eL,gO,gO];constructor
   ·intro h b hb;obtain⟨i,f,rfl⟩:=xK.mp hb;have:=h i (qY.mpr f);rw[aG f]at this;exact this
   ·intro h i f;have g:=qY.mp f;rw[aG g];exact h _ (jO g)
  rw[e];have O:cU X k M H { s with heap:=s.heap.push { cls:=.type "list_iterator",data:=.fields #[.ref p,.int 0 0] } }:=I.kept (t':=s.toks) λb o e=>aD _ e;refine⟨.bl _,H,I.kept λb o e=>F b o ?_ (aD _ e),Db,q⟩;intro z;have:b=s.heap.objs.size:=by simpa using z
  exact c7 (aY e) (by rw[this];exact eO _)
def Hh:R2:=λx y H Q=>∃b,y=.bl b/\Q (.bl (decide (x=.bl b))) H
def Qo{x}{b:Bool}(r:eZ x v):plainIs v (.bool b)=true/\(v==ax b)=decide (x=.bl b):=by
 cases x with
 |non=>cases r;exact⟨Db,Db⟩
 |bl c=>cases r;cases b<;>cases c<;>exact⟨Db,Db⟩
 |int _=>obtain⟨t,rfl⟩:=r;exact⟨Db,Db⟩
 |str _=>obtain⟨t,rfl⟩:=r;exact⟨Db,Db⟩
 |byt _=>obtain⟨t,rfl⟩:=r;exact⟨Db,Db⟩
 |flt _=>obtain⟨t,rfl⟩:=r;exact⟨Db,Db⟩
 |ref _=>cases r;exact⟨Db,Db⟩
 |ty _=>cases r;exact⟨Db,Db⟩
def Yo:qI X (f8 .Is) Hh:=by
 intro a s g H x y v u Q I e f h;obtain⟨b,rfl,q⟩:=h;cases f;obtain⟨c,d⟩:=Qo (b:=b) e;refine wpAny_is_plain c ?_;rw[d];exact⟨.bl _,H,I,Db,q⟩
theorem OR:∀{a:List Str}{us},eW (a.map V.str) us->StrsAre us a
|[],_,r=>by rw[nY]at r;cases r;exact .nil
|y::a,us,r=>by
 rw[bS]at r
 cases r with
 |cons b c=>
  obtain⟨t,rfl⟩:=b;exact .cons y t (OR c)
def aBv:S6 X "str.join" (λx c H Q=>∃z p a,x=.str z/\c=[.ref p]/\mL X.K H p (a.map V.str)/\(a.map (·.length)).sum+a.length*z.length<=16777216/\Q (.str (Txt.join z a)) H):=by
 intro b s o H x c v n Q I l r h;obtain⟨z,p,a,rfl,rfl,d,e,q⟩:=h;obtain⟨t,rfl⟩:=l;obtain⟨u,rfl,i⟩:=oQ r;cases i;obtain⟨f,j,g,_⟩:=I.list d;exact PyProof.Rows.join_list g.isList (by simpa using OR j) e λm k=>⟨.str _,H,I.tok k,⟨m,Db⟩,q⟩
def MN(K:aF)(H:Hp):V->String->Prop
|.non,T=>T="NoneType"
|.bl _,T=>T="bool"
|.int _,T=>T="int"
|.str _,T=>T="str"
|.ref p,T=>(T="list"/\∃a,mL K H p a)\/(T="tuple"/\∃a,pY K H p a)\/(T="list"/\∃P,H p=some (.ext P)/\∀h:Heap,P h->∃o,h.get? p=some o/\o.cls=.type "list")
|_,_=>False
def aB6{E:Value->Shared->Prop}{Q:Value->Shared->Prop}{x}{b:Bool}(I:cU X pins σ H s)(g:eZ x u)(ty:MN X.K H x T)
  (e:bX X.K (.type T) c=some b) (h:∀m,Q (.bool b) { s with toks:=m }):wpAny (model X.prog X.w) A (call (.builtin "isinstance") [u,c]) Q E s:=by
 cases x with
 |non=>cases (show T="NoneType" from ty);exact wI I g .non e h
 |bl y=>cases (show T="bool" from ty);exact wI I g (.bl y) e h
 |int i=>cases (show T="int" from ty);exact wI I g (.int i) e h
 |str y=>cases (show T="str" from ty);exact wI I g (.str y) e h
 |ref p=>
  cases g;rcases ty with⟨rfl,q,f⟩ | ⟨rfl,q,f⟩ | ⟨rfl,P,f,l⟩
  ·obtain⟨j,_,k,_⟩:=I.list f;obtain⟨o,n,d,a,_⟩:=k;exact eF qX I.kIn ⟨o,d,a⟩ e (λz=>nomatch z) h
  ·obtain⟨j,_,k,_⟩:=I.tuple f;obtain⟨o,d,a,_⟩:=k;exact eF OF I.kIn ⟨o,d,a⟩ e (λz=>nomatch z) h
  ·obtain⟨o,d,a⟩:=l _ (I.hok p _ f).1;exact eF qX I.kIn ⟨o,d,a⟩ e (λz=>nomatch z) h
 |_=>exact g7 ty
end
end L2
namespace TL
open L2
variable{K:aF}{H J L N:Hp}{B:Hp}{M m:List Addr}{G:List Sl}{F:L2.St}
section
variable{X:Cx}{a b c e:Expr}{O:List Expr}{R P:ET}{pos p:Pos}
def fI(C:Int->Int->Prop)(g:Int->Int->Int):D->D->(D->Prop)->Prop
|.int i,.int j,Q=>C i j/\Q (.int (g i j))
|_,_,_=>False
def Nh(g:Int->Int->Int):D->D->(D->Prop)->Prop
|.int i,.int j,Q=>Q (.int (g i j))
|_,_,_=>False
def Ni(g:Int->Int->Bool):D->D->(D->Prop)->Prop
|.int i,.int j,Q=>Q (.bool (g i j))
|_,_,_=>False
def HV{C:Int->Int->Prop}{g:Int->Int->Int}:FC X (rI C λi j=>.int (g i j)) (fI C g):=by
 intro H m n o x y Q l live d f h k
 cases d with
 |int i=>
  cases f with
  |int j=>exact⟨i,j,Db,Db,h.1,k _ _ H (L2.aV.refl H) (.int _) h.2⟩
  |_=>exact h.elim
 |_=>exact h.elim
def HU{g:Int->Int->Int}:FC X (VX λi j=>.int (g i j)) (Nh g):=by
 intro H m n o x y Q l live d f h k
 cases d with
 |int i=>
  cases f with
  |int j=>exact⟨i,j,Db,Db,k _ _ H (L2.aV.refl H) (.int _) h⟩
  |_=>exact h.elim
 |_=>exact h.elim
def uW{g:Int->Int->Bool}:FC X (VX λi j=>.bl (g i j)) (Ni g):=by
 intro H m n o x y Q l live d f h k
 cases d with
 |int i=>
  cases f with
  |int j=>exact⟨i,j,Db,Db,k _ _ H (L2.aV.refl H) (.bool _) h⟩
  |_=>exact h.elim
 |_=>exact h.elim
def He:D->D->(D->Prop)->Prop
|.int i,.int j,Q=>Q (.int (i+j))
|.str x,.str y,Q=>x.length+y.length<=100000/\Q (.str (x++y))
|.tuple x,.tuple y,Q=>x.length+y.length<=100000/\Q (.tuple (x++y))
|.list x,.list y,Q=>x.length+y.length<=100000/\Q (.list (x++y))
|_,_,_=>False
def zM{n:Nat}(h:n<=100000):n<=bG:=by have:bG=2^24:=rfl;lia
def gU:FC X (O3 X.K) He:=by
 intro H m s t x y Q r live q o h k
 cases q with
 |int i=>
  cases o with
  |int j=>exact .inl ⟨i,j,Db,Db,k _ _ H (L2.aV.refl H) (.int _) h⟩
  |_=>exact h.elim
 |str i=>
  cases o with
  |str j=>exact .inr (.inl ⟨i,j,Db,Db,zM h.1,k _ _ H (L2.aV.refl H) (.str _) h.2⟩)
  |_=>exact h.elim
 |tuple l d=>
  cases o with
  |tuple n f=>
   refine .inr (.inr (.inl ⟨_,_,_,_,Db,Db,aV.seqT bO l,aV.seqT bO n,zM (by rw[<- d.length,<- f.length];exact h.1),λz=>?_,λz1 z2=>?_,λz1 z2 p g=>?_⟩))
   ·subst z;cases d;exact k _ _ H (L2.aV.refl H) (.tuple n f) h.2
   ·subst z2;cases f;have e:=h.2;rw[dW]at e;exact k _ _ H (L2.aV.refl H) (.tuple l d) e
   ·exact k _ _ _ (dB g) (qP live g (d.append f)) h.2
  |_=>exact h.elim
 |list l d=>
  cases o with
  |list n f=>
   exact .inr (.inr (.inr ⟨_,_,_,_,Db,Db,L2.aV.seq bO l,L2.aV.seq bO n,zM (by rw[<- d.length,<- f.length];exact h.1),λp g=>k _ _ _ (dB g) (vY live g (d.append f)) h.2⟩))
  |_=>exact h.elim
 |_=>exact h.elim
def Ny:D->D->(D->Prop)->Prop
|.int i,.int j,Q=>OE i j/\Q (.int (i*j))
|.str z,.int n,Q=>z.length<=1000/\0<=n/\n<=1000/\Q (.str (Txt.mul z n))
|_,_,_=>False
def nK:FC X O2 Ny:=by
 intro H m l o x y Q g live f d h k
 cases f with
 |int i=>
  cases d with
  |int j=>exact .inl ⟨i,j,Db,Db,h.1,k _ _ H (L2.aV.refl H) (.int _) h.2⟩
  |_=>exact h.elim
 |str z=>
  cases d with
  |int n=>exact .inr ⟨z,n,Db,Db,h.1,h.2.1,h.2.2.1,k _ _ H (L2.aV.refl H) (.str _) h.2.2.2⟩
  |_=>exact h.elim
 |_=>exact h.elim
noncomputable def Fa:D->D->Option Bool
|.none,.none=>some true
|.bool x,.bool y=>some (decide (x=y))
|.int x,.int y=>some (decide (x=y))
|.str x,.str y=>some (decide (x=y))
|.str _,.none | .none,.str _=>some false
|_,_=>none
def EM(x y:D)(Q:D->Prop):Prop:=match Fa x y with | some c=>Q (.bool c) | none=>False
def YI{x y:D}{u v:V}{c:Bool}(d:fR K H x u)(f:fR K H y v)(h:Fa x y=some c):Jy u v=true/\decide (u=v)=c:=by
 unfold Fa at h;split at h<;>cases h<;>cases d<;>cases f<;>exact⟨Db,Cy⟩
def oU:FC X Il EM:=by
 intro H m d f x y Q n live j l h k;unfold EM at h
 cases e:Fa d f with
 |none=>rw[e]at h;exact h.elim
 |some c=>
  rw[e]at h;obtain⟨g,i⟩:=YI j l e;refine⟨g,?_⟩;rw[i];exact k _ _ H (L2.aV.refl H) (.bool c) h
noncomputable def IC(b:Bool):D->Bool
|.bool c=>decide (c=b)
|_=>false
theorem Reps.atI{i:Int}(r:Reps K H ds vs)(h:atI ds i=some d):∃v,atI vs i=some v/\fR K H d v:=by
 unfold L2.atI at h |-
 rw[<- r.length]
 cases e:Do ds.length i with
 |none=>rw[e]at h;cases h
 |some j=>
  rw[e]at h;exact r.get h
inductive OC(ts:List D)(i:Int)(Q:D->Prop):Prop
|mk (d:D) (h:atI ts i=some d) (k:Q d):OC ts i Q
def Go(x y:D)(Q:D->Prop):Prop:=match x,y with
|.list ts,.int i=>OC ts i Q
|.tuple ts,.int i=>OC ts i Q
|.str z,.int i=>z.length<=100000/\∃c,atI z.cps.toList i=some c/\Q (.str ⟨#[c]⟩)
|_,_=>False
def cN:FC X (Ex X.K) Go:=by
 intro H m g t x y Q o live l n h k
 cases n with
 |int i=>
  cases l with
  |list q s=>
   obtain⟨d,e,h⟩:=h;obtain⟨v,f,r⟩:=s.atI e;exact .inl ⟨_,_,i,v,Db,Db,L2.aV.seq bO q,f,k _ _ H (L2.aV.refl H) r h⟩
  |tuple q s=>
   obtain⟨d,e,h⟩:=h;obtain⟨v,f,r⟩:=s.atI e;exact .inr (.inl ⟨_,_,i,v,Db,Db,aV.seqT bO q,f,k _ _ H (L2.aV.refl H) r h⟩)
  |str z=>
   obtain⟨j,c,e,h⟩:=h;exact .inr (.inr ⟨z,i,c,Db,Db,zM j,e,k _ _ H (L2.aV.refl H) (.str _) h⟩)
  |_=>exact h.elim
 |_=>cases g<;>exact h.elim
noncomputable def kW{f:Type}(d:List f)(lo g:Option Int):List f:=(d.drop (HT.sIx d.length 0 lo)).take (HT.sIx d.length d.length g-HT.sIx d.length 0 lo)
def Im(x:D)(lo d:Option Int)(Q:D->Prop):Prop:=match x with
|.list ts=>Q (.list (kW ts lo d))
|.tuple ts=>Q (.tuple (kW ts lo d))
|.str z=>z.length<=100000/\Q (.str (Txt.slice z lo d))
|_=>False
def Reps.cut(r:Reps K H ds vs)(lo d:Option Int):Reps K H (kW ds lo d) (IL vs lo d):=by
 unfold kW IL;rw[r.length];exact(r.drop _).take _
def rV:Mp X (VW X.K) Im:=by
 intro H m d x lo g Q j live r h k
 cases r with
 |list q s=>exact .inl ⟨_,_,Db,L2.aV.seq bO q,λp f=>k _ _ _ (dB f) (vY live f (s.cut lo g)) h⟩
 |@tuple p xs ts q s=>
  refine .inr (.inl ⟨_,_,Db,aV.seqT bO q,λz=>?_,λ_ p f=>k _ _ _ (dB f) (qP live f (s.cut lo g)) h⟩)
  have e:kW ts lo g=ts:=by
   unfold kW;rw[s.length,z.1,z.2,OI,G6,<- s.length,eU]
  have i:Q (.tuple (kW ts lo g)):=h;rw[e]at i;exact k _ _ H (L2.aV.refl H) (.tuple q s) i
 |str z=>exact .inr (.inr ⟨z,Db,zM h.1,k _ _ H (L2.aV.refl H) (.str _) h.2⟩)
 |_=>exact h.elim
theorem GB:∀{d:List Str}{vs},Reps K H (d.map aR) vs->vs=d.map V.str
|[],_,r=>by rw[nY]at r;cases r;rfl
|y::d,vs,r=>by
 rw[bS]at r
 cases r with
 |cons f g=>
  cases f;rw[bS,GB g]
def aRp(x y:D)(Q:D->Prop):Prop:=match x,y with
|.str z,.list ts=>∃d:List Str,ts=d.map .str/\Q (.bool (!decide (z∈d)))
|.str z,.tuple ts=>∃d:List Str,ts=d.map .str/\Q (.bool (!decide (z∈d)))
|_,_=>False
def Li{r:List V->Hp->VK->Prop}{f:List D->(D->Prop)->Prop}(q:vK X r f)(n:yM X (e::O) t)(u:∀{R},PA X (e::O) R->PE X (.Call g (e::O) [] pos) (ZC r R)):fK X (.Call g (e::O) [] pos) (pO f t):=by
 obtain⟨v,s,A⟩:=n;refine⟨_,u s,λB M H m G F Q j o h k=>A B M H m G F _ _ o h λl E L i z x=>?_⟩;exact q L m l E Q j (o.grow i).live z x λd v J C y w=>k d v J (i.trans C) y w
def f1(f:D->(D->Prop)->Prop):List D->(D->Prop)->Prop
|[d],Q=>f d Q
|_,_=>False
def c1{r:List V->Hp->VK->Prop}{f:D->(D->Prop)->Prop}(h:∀H m(d:D)(x:V)(Q:D->Prop)g,(∀p∈m,BA (H p))->fR X.K (mask H m) d x->f d Q ->
  (∀d v J,aV H J->fR X.K (mask J m) d v->Q d->g v J)->r [x] H g):vK X r (f1 f):=by
 intro H m n o Q g live rs i k
 cases rs with
 |nil=>exact i.elim
 |cons j l=>
  cases l with
  |nil=>exact h H m _ _ Q g live j i k
  |cons _ _=>exact i.elim
def Jc(d:D)(Q:D->Prop):Prop:=match d with
|.list ts=>Q (.int ts.length)
|.tuple ts=>Q (.int ts.length)
|.str z=>z.length<=100000/\Q (.int z.length)
|_=>False
def cG:lZ X (.builtin "len") (λf H Q=>(∃p d,f=[.ref p]/\(mL X.K H p d\/pY X.K H p d)/\Q (.int d.length) H)\/∃z,f=[.str z]/\z.length<=bG/\Q (.int z.length) H):=IS.or IR
def jM:vK X (λg H Q=>(∃p f,g=[.ref p]/\(mL X.K H p f\/pY X.K H p f)/\Q (.int f.length) H)\/∃z,g=[.str z]/\z.length<=bG/\Q (.int z.length) H) (f1 Jc):=c1 λH m d x Q i live r h k=>by
 cases r with
 |list q s=>
  refine .inl ⟨_,_,Db,.inl (L2.aV.seq bO q),?_⟩;rw[<- s.length];exact k _ _ H (L2.aV.refl H) (.int _) h
 |tuple q s=>
  refine .inl ⟨_,_,Db,.inr (aV.seqT bO q),?_⟩;rw[<- s.length];exact k _ _ H (L2.aV.refl H) (.int _) h
 |str z=>exact .inr ⟨z,Db,zM h.1,k _ _ H (L2.aV.refl H) (.int _) h.2⟩
 |_=>exact h.elim
def Wq(d:D)(Q:D->Prop):Prop:=match d with
|.list ts=>Q (.tuple ts)
|.tuple ts=>Q (.tuple ts)
|_=>False
def C2:vK X (λi H Q=>∃p f,i=[.ref p]/\((mL X.K H p f/\∀l,H l=none->Q (.ref l) (eM H l (.tup f)))\/(pY X.K H p f/\Q (.ref p) H))) (f1 Wq):=c1 λH m d x Q j live r h k=>by
 cases r with
 |list q s=>exact⟨_,_,Db,.inl ⟨L2.aV.seq bO q,λl g=>k _ _ _ (dB g) (qP live g s) h⟩⟩
 |tuple q s=>exact⟨_,_,Db,.inr ⟨aV.seqT bO q,k _ _ H (L2.aV.refl H) (.tuple q s) h⟩⟩
 |_=>exact h.elim
def Ro(d:D)(Q:D->Prop):Prop:=match d with
|.list ts=>Q (.list ts)
|.tuple ts=>Q (.list ts)
|_=>False
def Wn:vK X (λi H Q=>∃p g,i=[.ref p]/\(mL X.K H p g\/pY X.K H p g)/\∀l,H l=none->Q (.ref l) (eM H l (.lst g))) (f1 Ro):=c1 λH m d x Q j live r h k=>by
 cases r with
 |list q s=>exact⟨_,_,Db,.inl (L2.aV.seq bO q),λl f=>k _ _ _ (dB f) (vY live f s) h⟩
 |tuple q s=>exact⟨_,_,Db,.inr (aV.seqT bO q),λl f=>k _ _ _ (dB f) (vY live f s) h⟩
 |_=>exact h.elim
theorem KC:∀{d:List Bool}{vs},Reps K H (d.map CF) vs->vs=d.map V.bl
|[],_,r=>by rw[nY]at r;cases r;rfl
|y::d,vs,r=>by
 rw[bS]at r
 cases r with
 |cons f g=>
  cases f;rw[bS,KC g]
theorem vX:∀{d:List Int}{vs},Reps K H (d.map bM) vs->vs=d.map V.int
|[],_,r=>by rw[nY]at r;cases r;rfl
|y::d,vs,r=>by
 rw[bS]at r
 cases r with
 |cons f g=>
  cases f;rw[bS,vX g]
def Jb(d:D)(Q:D->Prop):Prop:=∃bs:List Bool,d=.list (bs.map CF)/\Q (.bool (bs.all id))
def Ld:vK X (λf H Q=>∃(p:Addr)(bs:List Bool),f=[.ref p]/\mL X.K H p (bs.map V.bl)/\Q (.bl (bs.all id)) H) (f1 Jb):=c1 λH m d x Q g live r h k=>by
 obtain⟨bs,rfl,h⟩:=h
 cases r with
 |list q s=>
  have e:=KC s;subst e;exact⟨_,bs,Db,L2.aV.seq bO q,k _ _ H (L2.aV.refl H) (.bool _) h⟩
noncomputable def Gd:D->String
|.none=>"NoneType"
|.bool _=>"bool"
|.int _=>"int"
|.str _=>"str"
|.list _=>"list"
|.tuple _=>"tuple"
|.dict []=>"list"
|.dict [(.none,_)]=>"list"
|.dict _=>"dict"
noncomputable def P4(T:String)(d:D):Bool:=(Gd d==T)||(T=="int"&&Gd d=="bool")
def ID{i:Int}{x}(h:T∈["int","str","list","tuple","bool"]):P4 T (.dict [(.int i,x)])=false:=by
 simp only[aK,bR,e9]at h;rcases h with rfl | rfl | rfl | rfl | rfl<;>rfl
def Hc(T:String)(d:D)(Q:D->Prop):Prop:=match d with | .dict ((.str _,_)::_)=>False | d=>Q (.bool (P4 T d))
def aB7{Q:D->Prop}(h:∀x y r,d≠.dict ((.str x,y)::r))(q:Hc T d Q):Q (.bool (P4 T d)):=by
 unfold Hc at q;split at q
 ·exact q.elim
 ·exact q
def Ir(T:String)(P:ET):ET:=λF Q=>P F λd=>Hc T d Q
def QP(K:aF)(T:String):Prop:=∀tn∈["NoneType","bool","int","str","list","tuple"],bX K (.type tn) (.type T)=some ((tn==T)||(T=="int"&&tn=="bool"))
def Hi(K:aF)(T:String):List V->Hp->VK->Prop:=λg H Q=>∃x b,g=[x,.ty T]/\((∃f,MN K H x f/\bX K (.type f) (.type T)=some b)\/(∃p C dx,x=.ref p/\H p=some (.ext (oX p C dx))/\(∀d,dx=some d->∃fs,H d=some (.xd fs))/\E4 K C/\bX K (.ref C) (.type T)=some b))/\Q (.bl b) H
def D8{F}{H:Hp}{E:Value->Shared->Prop}{Q:Value->Shared->Prop}{p C:Addr}{c}{b:Bool}(I:cU X pins F H s)(q:H p=some (.ext (oX p C dx)))(hd:∀d,dx=some d->∃fs,H d=some (.xd fs))(x:E4 X.K C)
  (e:bX X.K (.ref C) c=some b) (h:∀t,Q (.bool b) { s with toks:=t }):wpAny (model X.prog X.w) A (call (.builtin "isinstance") [.ref p,c]) Q E s:=by
 refine eF (K7 x) I.kIn ?_ e (λz=>nomatch z) h;obtain⟨⟨o,vs,f,g,i,k⟩,_⟩:=I.hok p _ q;have j:vM o=true:=by unfold vM;rw[k]
 cases dx with
 |none=>exact⟨o,none,f,g,j,by rw[i];trivial⟩
 |some d=>
  obtain⟨fs,n⟩:=hd d Db;obtain⟨v,⟨r,O,u,l,_⟩,_⟩:=I.hok d _ n;exact⟨o,some r,f,g,j,by rw[i];exact l⟩
def nN:lZ X (.builtin "isinstance") (Hi X.K T):=by
 intro j s F H v t Q I r h;obtain⟨x,b,rfl,⟨o,l,f⟩ | ⟨p,C,dx,rfl,k,hd,n,f⟩,q⟩:=h
 ·obtain⟨u,w,rfl,g,d⟩:=ON r;cases d;exact aB6 I g l f λi=>⟨.bl b,H,I.tok i,Db,q⟩
 ·obtain⟨u,w,rfl,g,d⟩:=ON r;cases d;cases g;exact D8 I k hd n f λi=>⟨.bl b,H,I.tok i,Db,q⟩
def tO(E:QP X.K T)(C:fK X e P)
  (S:∀{v},PE X e v->PE X (.Call g1 [e,g2] [] pos) (ZC (Hi X.K T) (tZ v (tZ (tC (.ty T)) BY))))
  (n:T∈["int","str","list","tuple","bool"]:=by decide):fK X (.Call g1 [e,g2] [] pos) (Ir T P):=by
 obtain⟨v,U,Y⟩:=C;refine⟨_,S U,λB M H m G F Q A o h k=>Y B M H m G F _ _ o h λd x L t W j=>?_⟩
 have fin:∀l,l∈["NoneType","bool","int","str","list","tuple"]->Gd d=l->MN X.K L x l->Hi X.K T [x,V.ty T] L A:=λl u w I=>by
  refine⟨x,_,Db,.inl ⟨l,I,E l u⟩,?_⟩;have q:Q (.bool (P4 T d)):=aB7 (λx y r z=>by subst z;have z2:("dict":String)=l:=w;subst z2;exact c7 u Cv) j;unfold P4 at q;rw[w]at q;exact k _ _ L t (.bool _) q
 cases W with
 |none=>exact fin "NoneType" Cy Db Db
 |bool b=>exact fin "bool" Cy Db Db
 |int i=>exact fin "int" Cy Db Db
 |str z=>exact fin "str" Cy Db Db
 |list q s=>exact fin "list" Cy Db (.inl ⟨Db,_,L2.aV.seq bO q⟩)
 |tuple q s=>exact fin "tuple" Cy Db (.inr (.inl ⟨Db,_,aV.seqT bO q⟩))
 |wild h=>exact fin "list" Cy Db (.inr (.inr ⟨Db,_,bO _ _ h,λ_ ⟨_,_,e,_⟩=>⟨_,e,Db⟩⟩))
 |tape h _=>exact fin "list" Cy Db (.inr (.inr ⟨Db,_,bO _ _ h,λ_ ⟨_,_,_,_,_,_,_,e,_⟩=>⟨_,e,Db⟩⟩))
 |exc x h=>
  refine⟨_,false,Db,.inr ⟨_,_,_,Db,bO _ _ h,(λ_ z=>nomatch z),x.1,x.2 T n⟩,?_⟩;have f:Q (.bool (P4 T (.dict _))):=j;rw[ID n]at f;exact k _ _ L t (.bool _) f
 |excA x h g=>
  refine⟨_,false,Db,.inr ⟨_,_,_,Db,bO _ _ h,λ_ z=>by cases z;exact⟨_,bO _ _ g⟩,x.1,x.2 T n⟩,?_⟩;have f:Q (.bool (P4 T (.dict _))):=j;rw[ID n]at f;exact k _ _ L t (.bool _) f
 |excD x h g _=>
  refine⟨_,false,Db,.inr ⟨_,_,_,Db,bO _ _ h,λ_ z=>by cases z;exact⟨_,bO _ _ g⟩,x.1,x.2 T n⟩,?_⟩;have f:Q (.bool (P4 T (.dict _))):=j;rw[ID n]at f;exact k _ _ L t (.bool _) f
 |dct _ _ _=>exact(show False from j).elim
 |addr z=>exact(show False from j).elim
 |ins _ _=>exact(show False from j).elim
def Lg(f:Str->List D->(D->Prop)->Prop)(P:ET)(t:AT):ET:=λF Q=>P F λd=>∃z,d=.str z/\t F λg=>f z g Q
def Rm(z:Str)(f:List D)(Q:D->Prop):Prop:=match f with | [.list ts]=>∃d:List Str,ts=d.map aR/\(d.map (·.length)).sum+d.length*z.length<=16777216/\Q (.str (Txt.join z d)) | _=>False
def R0{f:Str->List D->(D->Prop)->Prop}{r:V->List V->Hp->VK->Prop}(y:fK X n P)(u:yM X (e::O) t)
  (w:∀H m(z:Str)(j:List D)(l:List V)(Q:D->Prop)i,Reps X.K (mask H m) j l->f z j Q->(∀d v J,aV H J->fR X.K (mask J m) d v->Q d->i v J)->r (.str z) l H i)
  (C:∀{v R},PE X n v->PA X (e::O) R->PE X (.Call g (e::O) [] pos) (Q3 X.K "str" r v R)):fK X (.Call g (e::O) [] pos) (Lg f P t):=by
 obtain⟨v,E,Z⟩:=y;obtain⟨va,A,Y⟩:=u;refine⟨_,C E A,λB M H m G F Q i o h k=>Z B M H m G F _ _ o h λd x L s U q=>?_⟩;obtain⟨z,rfl,q⟩:=q;cases U;refine⟨Db,Y B M L m G F _ _ (o.grow s) q λj l N s2 W S=>?_⟩;exact w N m z j l Q i W S λd v J s' T I=>k d v J (s.trans (s2.trans s')) T I
def Zr(j:fK X n P)(i:yM X (e::O) t)
  (o:∀{v R},PE X n v->PA X (e::O) R->PE X (.Call (.Attribute n "join" ap) (e::O) [] pos) (Q3 X.K "str" (λx g H Q=>∃z p d,x=.str z/\g=[.ref p]/\mL X.K H p (d.map V.str)/\(d.map (·.length)).sum+d.length*z.length<=16777216/\Q (.str (Txt.join z d)) H) v R)):fK X (.Call (.Attribute n "join" ap) (e::O) [] pos) (Lg Rm P t):=
 R0 j i (λH m z y g Q w r h k=>by
  cases r with
  |nil=>exact h.elim
  |cons f u=>
   cases u with
   |cons _ _=>cases f<;>exact h.elim
   |nil=>
    cases f with
    |list q s=>
     obtain⟨d,rfl,l,h⟩:=h;have e:=GB s;subst e;exact⟨z,_,d,Db,Db,L2.aV.seq bO q,l,k _ _ H (L2.aV.refl H) (.str _) h⟩
    |_=>exact h.elim) o
def fR.reads{k:List (Addr×Obj)}{s:Shared}{F:L2.St}(I:cU X k F H s){d:D}{x:V}{u:Value}(hd:d.hasDict=false)(r:fR X.K H d x)(l:eZ x u):∃f,Reads s.heap u d f:=by
 refine fR.rec (motive_1:=λd x _=>∀u,d.hasDict=false->eZ x u->∃f,Reads s.heap u d f) (motive_2:=λv E _=>∀w,mC v=false->eW E w->∃f,ReadsAll s.heap w v f)
  (λu _ r=>by cases r;exact⟨_,.none⟩) (λb u _ r=>by cases r;exact⟨_,.bool b⟩) (λi u _ r=>by obtain⟨t,rfl⟩:=r;exact⟨_,.int i t⟩) (λz u _ r=>by obtain⟨t,rfl⟩:=r;exact⟨_,.str z t⟩)
  (λq _ a u hd r=>?_) (λq _ a u hd r=>?_) ?_ ?_ ?_ ?_ ?_ ?_ ?_ ?_ (λw _ r=>by cases r;exact⟨_,.nil⟩) (λ{d v x E} _ _ a b w hd r=>?_) r u hd l
 ·cases r;obtain⟨C,l,⟨o,n,h,j,_,y⟩,_⟩:=I.list q;obtain⟨f,A⟩:=a _ hd l;exact⟨_,.list h j y (by simpa using A)⟩
 ·cases r;obtain⟨C,l,⟨o,h,j,n,y⟩,_⟩:=I.tuple q;obtain⟨f,A⟩:=a _ hd l;exact⟨_,.tuple h j y (by simpa using A)⟩
 case refine_11=>
  have g:(d.hasDict||mC v)=false:=hd;rw[xN]at g
  cases r with
  |cons Q S=>
   obtain⟨f,h⟩:=a _ g.1 Q;obtain⟨bs,j⟩:=b _ g.2 S;exact⟨_,.cons h j⟩
 all_goals intros;rename_i hd _;cases hd
end
end TL
namespace TL
open L2
noncomputable def Ho(a:List (Str×m3)):Bool:=match a.filter (λy=>y.2==e6)with
|[]=>true
|[x]=>a.lookup x.1==some .cell
|_=>false
def aBk(h:Ho names=true):wQ names:=by
 unfold Ho at h;split at h
 ·rename_i e;exact .inl e
 ·rename_i x e;have b:x∈names.filter (λy=>y.2==e6):=by rw[e];exact aP.mpr Db
  have a:x.2=.cell:=bo (cH.mp b).2;exact .inr ⟨x.1,by rw[e,<- a],beq_iff_eq.mp h⟩
 ·cases h
noncomputable def nT(a out:Scope)(c b:List Str)(d:List (Option Nat)):Bool:=
 decide (a.kind=.function)&&Ho a.names&&a.names.all (λy=>decide (y.2≠.free)||decide (out.names.lookup y.1=some .cell))&&a.names.all (λy=>decide (y.2≠.local)||decide (a.names.lookup y.1=some .local))&&vB a.names out.names c b d
section
variable{X:Cx}{c iter j:Expr}{d:List Expr}{a:Scope}{pos:Pos}{f:List Str}{k:List (Option Nat)}{n:TI}{g:BP->TG}{m:BP->TT}{l:BP->TE}
def GH{out:Scope}(h:nT a out Nx f k=true):a.kind=.function/\wQ a.names/\(∀y∈a.names,y.2=.free->out.names.lookup y.1=some .cell)/\(∀y∈a.names,y.2=.local->a.names.lookup y.1=some .local)/\vB a.names out.names Nx f k=true:=by
 unfold nT at h;simp only[dR,gO,vS,d0]at h;obtain⟨⟨⟨⟨i,o⟩,p⟩,q⟩,r⟩:=h;exact⟨i,aBk o,λy b e=>(p y b).elim (λz=>c7 e z) id,λy b e=>(q y b).elim (λz=>c7 e z) id,r⟩
def WF(h:nT a X.env.scope X.N f k=true)(e:X.calm=true)(t:PI X j iter n)
  (s:∀b:BP,PG (blk X a f b) j (g b)/\QO (blk X a f b) d (m b)/\PE (blk X a f b) c (l b)) (u:∀x,j2 iter X.env x=pure x:=by intro _;rfl):PE X (.ListComp c [⟨j,iter,d,0⟩] a pos) (TQ k n g m l):=by
 obtain⟨i,o,p,q,r⟩:=GH h;exact Ru e i o r p q t s u
def jU{i:Nat}{x}{r e:Pos}(h:nT a X.env.scope X.N f k=true)(y:X.N.Nodup)(p:X.N[i]?=some x)(E:TY X.env.scope x)(o:X.calm=true)(B:PI X j iter n)
  (z:∀b:BP,PG (blk X a f b) j (g b)/\QO (blk X a f b) d (m b)/\PE (blk X a f b) c (l b))
  (q:lT (.ListComp c [⟨j,iter,d,0⟩] a pos) (some (.Name x r)) e.line X.env=pure true) (C:∀x,j2 iter X.env x=pure x:=by intro _;rfl) (A:X.fn x=true\/X.env.scope.names.lookup x=some .local:=by first | exact .inl Db | exact .inr Db) :
  PS X (.Assign [.Name x r] (.ListComp c [⟨j,iter,d,0⟩] a pos) e) (sX (TQ k n g m l) (lO i)):=by
 obtain⟨s,t,u,v,w⟩:=GH h;exact V6 y p E o s t w u v B z q C A
end
def YX:e4 "all"=some (.builtin "all"):=by decide +kernel
def YW:e4 "max"=some (.builtin "max"):=by decide +kernel
def eY:e4 "isinstance"=some (.builtin "isinstance"):=by decide +kernel
def fZ:e4 "len"=some (.builtin "len"):=by decide +kernel
def oY:e4 "tuple"=some (.type "tuple"):=by decide +kernel
def wN:e4 "list"=some (.type "list"):=by decide +kernel
def QK:e4 "bool"=some (.type "bool"):=by decide +kernel
def Wm:e4 "int"=some (.type "int"):=by decide +kernel
def wG(K:aF):QP K "tuple":=by
 intro a h;simp only[aK,bR,e9]at h;rcases h with rfl | rfl | rfl | rfl | rfl | rfl<;>first | rfl | (with_unfolding_all rfl) | decide +kernel
def K9(K:aF):QP K "bool":=by
 intro a h;simp only[aK,bR,e9]at h;rcases h with rfl | rfl | rfl | rfl | rfl | rfl<;>first | rfl | (with_unfolding_all rfl) | decide +kernel
def D3(K:aF):QP K "list":=by
 intro a h;simp only[aK,bR,e9]at h;rcases h with rfl | rfl | rfl | rfl | rfl | rfl<;>first | rfl | (with_unfolding_all rfl) | decide +kernel
def HG{d:Type}(l:List d)(i:Nat)(a b:d):(l.set i a).set i b=l.set i b:=by
 apply kI;intro j;by_cases h:i=j
 ·subst h;by_cases c:i<l.length
  ·rw[bF (by simpa using c),bF c]
  ·rw[eR (by simpa using c),eR (by simpa using c)]
 ·rw[bC h,bC h,bC h]
def Kj{f:List D}{i:List Sl}{te:ET}{Q:D->Prop}(R:Nat->D->D->Prop)(w:f.length<=100000)
  (u:∀(k:Nat)(x:D)(q:D->Prop),f[k]?=some x->(∀y,R k x y->q y)->te (i.set 0 (.val x)) q)
  (t:∀m:List D,m.length=f.length->(∀(k:Nat)(x y:D),f[k]?=some x->m[k]?=some y->R k x y)->Q (.list m)) :
  f.length<=100000/\∃P:Nat->List Sl->List D->Prop,P 0 i [] /\
   (∀(k:Nat)(x:D)(a:List Sl)(c:List D),f[k]?=some x->P k a c->gN 0 x a λd=>BQ d λb=>if b=true then te d λy=>P (k+1) d (c++[y])else P (k+1) d c)/\∀a c,P f.length a c->Q (.list c):=by
 refine⟨w,λk a c=>(∀x,a.set 0 (.val x)=i.set 0 (.val x))/\c.length=k/\∀(j:Nat)(x y:D),f[j]?=some x->c[j]?=some y->R j x y,⟨λ_=>rfl,Db,λj x y _ h=>by simp at h⟩,λk x a c p h=>?_,λa c h=>t c h.2.1 h.2.2⟩;obtain⟨r,o,s⟩:=h;show te (a.set 0 (.val x)) _;rw[r x];refine u k x _ p λy v=>⟨λz=>HG _ _ _ _,by simp[o],λj A B l g=>?_⟩;by_cases C:j<k
 ·rw[eG Cw]at g;exact s j A B l g
 ·rw[eD Cw]at g
  have:j=k:=by
   by_cases e:j=k
   ·exact e
   ·have:j-c.length≠0:=by lia
    cases q:j-c.length with
    |zero=>exact c7 q this
    |succ n=>rw[q]at g;simp at g
  subst this;rw[p]at l;cases l;simp[o]at g;subst g;exact v
def Xg{d:List D}{l:List Sl}{te:ET}{Q:D->Prop}(f:D->D)(s:d.length<=100000)(r:∀(x:D)(q:D->Prop),x∈d->q (f x)->te (l.set 0 (.val x)) q)(p:Q (.list (d.map f))) :
  d.length<=100000/\∃P:Nat->List Sl->List D->Prop,P 0 l [] /\
   (∀(k:Nat)(x:D)a(g:List D),d[k]?=some x->P k a g->gN 0 x a λc=>BQ c λb=>if b=true then te c λy=>P (k+1) c (g++[y])else P (k+1) c g)/\∀a g,P d.length a g->Q (.list g):=by
 refine Kj (λk x y=>y=f x) s (λk x q j h=>r x q (bB j) (h _ Db)) λm o h=>?_
 have e:m=d.map f:=by
  apply kI;intro i;rw[aO]
  cases j:d[i]? with
  |none=>
   rw[eR (by rw[o];exact JF.mp j)];rfl
  |some x=>
   have n:i<m.length:=by rw[o];exact(aI.mp j).1
   have:=h i x m[i] j (aG n);rw[aG n,this];rfl
 rw[e];exact p
def aBz{c:List D}{i:List Sl}{tt:vF}{te:ET}{Q:D->Prop}(p:D->Bool)(f:D->D)(s:c.length<=100000)(n:∀(x:D)(q:Bool->Prop),x∈c->q (p x)->tt (i.set 0 (.val x)) q)
  (r:∀(x:D)(q:D->Prop),x∈c->q (f x)->te (i.set 0 (.val x)) q) (o:Q (.list ((c.filter p).map f))) :
  c.length<=100000/\∃P:Nat->List Sl->List D->Prop,P 0 i [] /\
   (∀(k:Nat)(x:D)(a:List Sl)(d:List D),c[k]?=some x->P k a d->gN 0 x a λg=>tt g λb=>if b=true then te g λy=>P (k+1) g (d++[y])else P (k+1) g d)/\∀a d,P c.length a d->Q (.list d):=by
 refine⟨s,λk a d=>(∀x,a.set 0 (.val x)=i.set 0 (.val x))/\d=((c.take k).filter p).map f,⟨λ_=>rfl,Db⟩,λk x a d l h=>?_,λa d h=>?_⟩
 ·obtain⟨m,rfl⟩:=h;have j:x∈c:=bB l;show tt (a.set 0 (.val x)) _;rw[m x];refine n x _ j ?_;have e:c.take (k+1)=c.take k++[x]:=by rw[dG,l];rfl
  cases hb:p x with
  |true=>
   rw[a9 rfl];refine r x _ j ⟨λz=>HG _ _ _ _,?_⟩;rw[e,jQ,cX];simp[hb]
  |false=>
   rw[a8 Cv];refine⟨λz=>HG _ _ _ _,?_⟩;rw[e,jQ,cX];simp[hb]
 ·obtain⟨_,rfl⟩:=h;rw[eU];exact o
section
variable{d:List (Option Nat)}{c:IT}{e:vF}{b:ET}{a:List Sl}{Q:D->Prop}{ts:List D}
abbrev tU(c:IT)(a:List Sl)(ts:List D):Prop:=∀R:List D->Prop,R ts->c a R
def iI(g:tU c a ts)(f:D->D)(j:ts.length<=100000)(i:∀(x:D)(q:D->Prop),x∈ts->q (f x)->b ((jS d a).set 0 (.val x)) q)(h:Q (.list (ts.map f))):QC d c (gN 0) BQ b a Q:=
 g _ (Xg (te:=b) (Q:=Q) f j i h)
def NR(f:tU c a ts)(R:Nat->D->D->Prop)(j:ts.length<=100000)
  (i:∀(k:Nat)(x:D)(q:D->Prop),ts[k]?=some x->(∀y,R k x y->q y)->b ((jS d a).set 0 (.val x)) q)
  (h:∀g:List D,g.length=ts.length->(∀(k:Nat)(x y:D),ts[k]?=some x->g[k]?=some y->R k x y)->Q (.list g)):QC d c (gN 0) BQ b a Q:=
 f _ (Kj (te:=b) (Q:=Q) R j i h)
def zN(g:tU c a ts)(p:D->Bool)(f:D->D)(k:ts.length<=100000)(h:∀(x:D)(q:Bool->Prop),x∈ts->q (p x)->e ((jS d a).set 0 (.val x)) q)
  (j:∀(x:D)(q:D->Prop),x∈ts->q (f x)->b ((jS d a).set 0 (.val x)) q) (i:Q (.list ((ts.filter p).map f))):QC d c (gN 0) e b a Q:=
 g _ (aBz (tt:=e) (te:=b) (Q:=Q) p f k h j i)
def Iw{g:GT}{DT:vI}(h:tU c a ts)(P:Nat->List Sl->Prop)(j:P 0 a)
  (l:∀(k:Nat)(x:D)f,ts[k]?=some x->P k f->g x f λi=>tb { DT with nx:=P (k+1),ct:=P (k+1),bk:=DT.nx } i) (hd:∀f,P ts.length f->DT.nx f):VM c g tb DT a:=h _ ⟨P,j,l,hd⟩
end
def wP(x y:Str):(x++y).cps.toList=x.cps.toList++y.cps.toList:=by
 show(x.cps++y.cps).toList=_;simp
def M6(b:Array Nat)(a k:Nat):(fX k).filterMap (λm=>b[a+m]?)=(b.toList.drop a).take k:=by
 induction k with
 |zero=>simp
 |succ k c=>
  rw[aDg,List.filterMap_append,c,dG,nH];congr 1;simp only[lA,List.filterMap_nil];rw[jR];cases b[a+k]?<;>rfl
def QH(v:Option Int)(n d:Nat)(hd:d<=n):(match v with | none=>(d:Int) | some i=>max 0 (min (if i<0 then i+(n:Int)else i) (n:Int)))=((HT.sIx n d v:Nat):Int):=by
 cases v with
 |none=>rfl
 |some i=>
  have:=HT.clip_eq i n d;rw[<- this];dsimp only;split<;>lia
def YO(v:Option Int)(n:Nat):(match v with | none=>(0:Int) | some i=>max 0 (min (if i<0 then i+(n:Int)else i) (n:Int)))=((HT.sIx n 0 v:Nat):Int):=QH v n 0 (cD _)
def VC{a c b d:Int}(e:a=c)(f:b=d):sr a b 1=sr c d 1:=by rw[e,f]
def uR(z:Str)(lo c:Option Int):(Txt.slice z lo c).cps.toList=kW z.cps.toList lo c:=by
 have d:z.cps.toList.length=z.length:=by simp[bd]
 have j:=HT.sIx_le z.length 0 (cD _) lo;have hb:=HT.sIx_le z.length z.length (aM _) c
 have i:ba lo c 1 z.length=(fX (HT.sIx z.length z.length c-HT.sIx z.length 0 lo)).map (λk=>HT.sIx z.length 0 lo+k):=by
  unfold ba;simp only[show(1:Int)>0 by decide,n8];refine(VC (YO lo z.length) (QH c z.length z.length (aM _))).trans ?_;unfold sr;simp only[show(1:Int)>0 by decide,n8]
  generalize HT.sIx z.length 0 lo=a
  generalize HT.sIx z.length z.length c=b
  have e:(if(a:Int)<(b:Int)then((b:Int)-a+1-1) / 1 else 0).toNat=b-a:=by split<;>lia
  rw[e];apply jI;intro k _;lia
 unfold Txt.slice kW;rw[d,i]
 generalize HT.sIx z.length 0 lo=a at *
 generalize HT.sIx z.length z.length c=b at *
 split
 ·next h=>
  simp only[bb,pL,ff,aC,sK]at h;have f:a=0:=by lia
  have g:b-a=z.cps.toList.length:=by rw[d];exact h
  rw[g,f,G6,eU]
 ·rw[T8];exact M6 z.cps a (b-a)
def NV:∀a:List Str,(Txt.join ⟨#[]⟩ a).cps.toList=(a.map (·.cps.toList)).flatten:=by
 intro a;show(Builtin.Str.glued ⟨#[]⟩ a).cps.toList=_;rw[StrLaws.glued_eq_join]
 induction a with
 |nil=>rfl
 |cons x a b=>
  cases a with
  |nil=>simp[Str.join]
  |cons y r=>
   show(x++⟨#[]⟩++Str.join ⟨#[]⟩ (y::r)).cps.toList=_;rw[wP,wP,b];simp
def XV(x:Str)(c:Nat):Txt.contains x ⟨#[c]⟩=decide (c∈x.cps.toList):=StrLaws.found_one x c
section
variable{f:ET}{u t e:yL}{c:vF}{d:vI}{a:List Sl}{i:Nat}
def cM(v:D)(h:∀q:D->Prop,q v->f a q)(k:u d (a.set i (.val v))):jA (HK i f) u d a:=h _ k
def dZ(R:D->Prop)(h:∀q:D->Prop,(∀v,R v->q v)->f a q)(k:∀v,R v->u d (a.set i (.val v))):jA (HK i f) u d a:=h _ k
def jZ(R:Bool->Prop)(h:∀q:Bool->Prop,(∀b,R b->q b)->c a q)(j:R true->t { d with nx:=u d } a)(g:R false->e { d with nx:=u d } a):jA (Dd c t e) u d a:=by
 refine h _ λb hb=>?_
 cases b with
 |true=>rw[a9 rfl];exact j hb
 |false=>rw[a8 Cv];exact g hb
def AU(R:Bool->Prop)(h:∀q:Bool->Prop,(∀b,R b->q b)->c a q)(j:R true->t d a)(g:R false->e d a):Dd c t e d a:=by
 refine h _ λb hb=>?_
 cases b with
 |true=>rw[a9 rfl];exact j hb
 |false=>rw[a8 Cv];exact g hb
def qO{ts:List D}{g:GT}(h:tU ti a ts)(P:Nat->List Sl->Prop)(l:P 0 a)
  (m:∀(k:Nat)(x:D)b,ts[k]?=some x->P k b->g x b λj=>tb { d with nx:=P (k+1),ct:=P (k+1),bk:=u d } j) (hd:∀b,P ts.length b->u d b):jA (VM ti g tb) u d a:=
 Iw (DT:={ d with nx:=u d }) h P l m hd
def vV{t:AT}(b:List D)(g:b.length<=1000)(h:∀q:List D->Prop,q b->t a q)(k:u d (a.set i (.own b))):jA (Hj i t) u d a:=h _ ⟨g,k⟩
def zL{ts:List D}(v:D)(b:a[i]?=some (.own ts))(g:ts.length<=100000)(h:∀q:D->Prop,q v->f a q)(k:d.nx (a.set i (.own (ts++[v])))):Js i f d a:=⟨ts,b,h _ ⟨g,k⟩⟩
def CN(v:D)(h:∀q:D->Prop,q v->f a q)(k:d.nx (a.set i (.val v))):HK i f d a:=h _ k
end
mutual
theorem oF:∀{d:D},d.canLay0=true->d.hasDict=false
|.none,_=>rfl
|.bool _,_=>rfl
|.int _,_=>rfl
|.str _,_=>rfl
|.list _,h=>noDictAll h
|.tuple _,h=>noDictAll h
|.dict _,h=>by cases h
theorem noDictAll:∀{a:List D},eK a=true->mC a=false
|[],_=>rfl
|d::a,h=>by
 have b:(d.canLay0&&eK a)=true:=h;rw[dR]at b;show(d.hasDict||mC a)=false;rw[oF b.1,noDictAll b.2];rfl
end
section
variable{X:Cx}{b e:Expr}
def DO(K:aF)(ok:D->D->Prop)(f:D->D->Bool):R2:=λx y H Q=>∃a c,fR K H a x/\fR K H c y/\ok a c/\Q (.bl (f a c)) H
def Qj(ok:D->D->Prop)(f:D->D->Bool)(x y:D)(Q:D->Prop):Prop:=ok x y/\Q (.bool (f x y))
def iP{ok:D->D->Prop}{f:D->D->Bool}:FC X (DO X.K ok f) (Qj ok f):=by
 intro H j a c x y Q i live d g h k;exact⟨a,c,d.same bO,g.same bO,h.1,k _ _ H (L2.aV.refl H) (.bool _) h.2⟩
def RO(a c:D):Prop:=a.canLay0=true/\c.canLay0=true/\min a.depth c.depth<=60
def kR{k:Nat}(g:gQ k X.A):qI X (f8 .Eq) (DO X.K RO bK):=by
 intro c s t H x y v u Q I l m h;obtain⟨o,p,i,j,⟨c1,a,r⟩,q⟩:=h;obtain⟨n,d⟩:=fR.reads I (oF c1) i l;obtain⟨bs,f⟩:=fR.reads I (oF a) j m;exact SeqAt.compareEq_reads d f c1 a (by have:=g.un;lia) ⟨.bl _,H,I,Db,q⟩
def AS{k:Nat}(g:gQ k X.A):qI X (f8 .NotEq) (DO X.K RO λx y=>!bK x y):=by
 intro c s t H x y v u Q I l m h;obtain⟨o,p,i,j,⟨c1,a,r⟩,q⟩:=h;obtain⟨n,d⟩:=fR.reads I (oF c1) i l;obtain⟨bs,f⟩:=fR.reads I (oF a) j m;exact SeqAt.compareNe_reads d f c1 a (by have:=g.un;lia) ⟨.bl _,H,I,Db,q⟩
def FK(x y:D):Prop:=match y with
|.list ts=>eK ts=true/\x.canLay0=true/\min (eQ ts) x.depth<=60
|.tuple ts=>eK ts=true/\x.canLay0=true/\min (eQ ts) x.depth<=60
|_=>False
noncomputable def R8(x y:D):Bool:=match y with
|.list ts=>ts.any λz=>bK z x
|.tuple ts=>ts.any λz=>bK z x
|_=>false
def RL{k:Nat}(i:gQ k X.A):qI X (f8 .In) (DO X.K FK R8):=by
 intro j s t H x y v u Q I o p h;obtain⟨l,c,m,n,a,q⟩:=h
 have hd:l.hasDict=false/\c.hasDict=false:=by
  cases c with
  |list d=>exact⟨oF a.2.1,noDictAll a.1⟩
  |tuple d=>exact⟨oF a.2.1,noDictAll a.1⟩
  |_=>exact a.elim
 obtain⟨r,f⟩:=fR.reads I hd.1 m o;obtain⟨bs,g⟩:=fR.reads I hd.2 n p
 cases c with
 |list d=>exact SeqAt.in_list_reads g f a.1 a.2.1 (by have:=i.un;have:=a.2.2;lia) ⟨.bl _,H,I,Db,q⟩
 |tuple d=>exact SeqAt.in_tuple_reads g f a.1 a.2.1 (by have:=i.un;have:=a.2.2;lia) ⟨.bl _,H,I,Db,q⟩
 |_=>exact a.elim
def Iv(x y:D)(Q:D->Prop):Prop:=match x,y with
|.str z,.str y=>Q (.bool (Txt.contains y z))
|x,y=>FK x y/\Q (.bool (R8 x y))
def ND{k:Nat}(a:gQ k X.A):qI X (f8 .In) (λx y H Q=>(∃i j,x=.str i/\y=.str j/\Q (.bl (!(m7 j i 0 j.length 1).isEmpty)) H)\/DO X.K FK R8 x y H Q):=RK.or (RL a)
def WS:FC X (λx y H Q=>(∃i j,x=.str i/\y=.str j/\Q (.bl (!(m7 j i 0 j.length 1).isEmpty)) H)\/DO X.K FK R8 x y H Q) Iv:=by
 intro H l a c x y Q d live f g h k;have gen:FK a c/\Q (.bool (R8 a c))->_:=λh=>(.inr ⟨a,c,f.same bO,g.same bO,h.1,k _ _ H (L2.aV.refl H) (.bool _) h.2⟩:(∃i j,x=.str i/\y=.str j/\d (.bl (!(m7 j i 0 j.length 1).isEmpty)) H)\/DO X.K FK R8 x y H d)
 cases f with
 |str z=>
  cases g with
  |str w=>exact .inl ⟨z,w,Db,Db,k _ _ H (L2.aV.refl H) (.bool _) h⟩
  |_=>exact gen h
 |_=>exact gen h
noncomputable def CU:D->Bool
|.none=>true
|_=>false
def Nf(x y:D)(Q:D->Prop):Prop:=match y with | .bool b=>Q (.bool (IC b x)) | .none=>Q (.bool (CU x)) | _=>False
def NB:qI X (f8 .Is) (λx y H Q=>Hh x y H Q\/(y=.non/\Q (.bl (decide (x=.non))) H)):=Yo.or Yp
def WR:FC X (λx y H Q=>Hh x y H Q\/(y=.non/\Q (.bl (decide (x=.non))) H)) Nf:=by
 intro H i a g x y Q f live c d h k
 cases d with
 |bool b=>
  refine .inl ⟨b,Db,?_⟩;have e:(decide (x=V.bl b))=IC b a:=by cases c<;>simp[IC]
  rw[e];exact k _ _ H (L2.aV.refl H) (.bool _) h
 |none=>
  refine .inr ⟨Db,?_⟩;have e:(decide (x=V.non))=CU a:=by cases c<;>simp[CU]
  rw[e];exact k _ _ H (L2.aV.refl H) (.bool _) h
 |_=>exact h.elim
end
end TL
namespace L2
section
variable{P:cW}{w:f7}{A:d9}{E:Value->Shared->Prop}{s:Shared}
def NG{i t:Addr}{k:Nat}{x}{Q:Value->Shared->Prop}(a:s.heap.IsTupleIter i t k)(h:s.heap.IsTuple t xs)(j:xs[k]?=some x)
  (f:∀c,c.IsTupleIter i t (k+1)->fF i s.heap c->Q x { s with heap:=c }):wpAny (model P w) A (d8 (.ref i)) Q E s:=by
 obtain⟨o,b,g,hd⟩:=id a;obtain⟨m,e,_,l,d⟩:=h;unfold d8;refine aE (j3 (name:=d7 "__next__") a.typeIs m8 (lR m8 a.typeIs fe ?_ (ed _)));show wpAny _ _ (ig (.ref i) 0 >>= _) _ _ s;refine aE (f6 b hd (x:=.ref t) Db ?_);show wpAny _ _ (if(c9 t==g8)=true then _ else _) _ _ s;rw[a8 (show¬((c9 t==g8)=true)from dA)];show wpAny _ _ (ig (.ref i) 1 >>= _) _ _ s;refine aE (f6 b hd (x:=.int k 0) Db ?_);show wpAny _ _ (seqItems? (.ref t) >>= _) _ _ s;refine aE (k9 e d ?_);simp only[oM,j];refine aE (y4 b hd Cy (aZ ⟨x,Db,aZ (f _ ?_ (fF.update ..))⟩));exact⟨_,pC _ b (z7 (q9 hd _)),(kx ..).trans g,by rw[q9 hd];simp[r8]⟩
def DZ{i t:Addr}{k:Nat}{Q:Value->Shared->Prop}(h:A.handled=none)(b:s.heap.IsTupleIter i t k)(l:s.heap.IsTuple t xs)(n:xs[k]?=none)
  (j:∀c e,aPc i s.heap c->(∃o,c.get? e=some o/\o.cls=.type "StopIteration")->E (.ref e) { s with heap:=c }):wpAny (model P w) A (d8 (.ref i)) Q E s:=by
 obtain⟨o,f,p,hd⟩:=id b;obtain⟨r,g,_,q,d⟩:=l;unfold d8;refine aE (j3 (name:=d7 "__next__") b.typeIs m8 (lR m8 b.typeIs fe ?_ (ed _)));show wpAny _ _ (ig (.ref i) 0 >>= _) _ _ s;refine aE (f6 f hd (x:=.ref t) Db ?_);show wpAny _ _ (if(c9 t==g8)=true then _ else _) _ _ s;rw[a8 (show¬((c9 t==g8)=true)from dA)];show wpAny _ _ (ig (.ref i) 1 >>= _) _ _ s;refine aE (f6 f hd (x:=.int k 0) Db ?_);show wpAny _ _ (seqItems? (.ref t) >>= _) _ _ s;refine aE (k9 g d ?_);simp only[oM,n];refine aE (t7 (aE (y4 f hd Cy ?_)));show wpAny _ _ (newExc (.type "StopIteration") [] >>= _) _ _ _;refine aE ?_;simp only[newExc,newTuple];refine aE (iD ?_ (by size_fits));refine aE (m:=firstArgMember _ _) (wpAny_of_eq (a:=g8) (by first | rfl | (simp only[firstArgMember];rfl)) ?_);refine iD ?_ (by size_fits);simp only[raiseNew];refine aE (wpAny_handled ?_)
 first | rw[show A.in1.handled=none from h] | rw[h]
 refine aE (aZ (wpAny_throw ?_));exact j _ _ (((fF.update ..).extBut.push _).push _) ⟨_,aU _ Db,Db⟩
end
structure pJ(P:cW)(w:f7)(i l:Addr)(st:Nat->Heap->Prop)(src:Array Value->Heap->Prop):Prop where
 stAt:∀k h h',st k h->(∀o,h.get? i=some o->h'.get? i=some o)->st k h'
 srcAt:∀xs h h',src xs h->(∀o,h.get? l=some o->h'.get? l=some o)->src xs h'
 has:∀k h,st k h->∃o,h.get? i=some o/\∀v,o.data≠.cell v
 item:∀(A:d9)E(s:Shared)(k:Nat)(xs:Array Value)(x:Value)Q,st k s.heap->src xs s.heap->xs[k]?=some x ->
  (∀h',st (k+1) h'->fF i s.heap h'->Q x { s with heap:=h' })->wpAny (model P w) A (d8 (.ref i)) Q E s
 fin:∀(A:d9)E(s:Shared)(k:Nat)(xs:Array Value)Q,A.handled=none->st k s.heap->src xs s.heap->xs[k]?=none ->
  (∀h' e,aPc i s.heap h'->(∃o,h'.get? e=some o/\o.cls=.type "StopIteration")->E (.ref e) { s with heap:=h' })->wpAny (model P w) A (d8 (.ref i)) Q E s
def ES(i l:Addr):pJ P w i l (λk h=>h.IsListIter i l k) (λxs h=>h.IsList l xs) where
 stAt:=λ_ _ _ x e=>x.at e
 srcAt:=λ_ _ _ x e=>x.at e
 has:=λk h x=>by obtain⟨o,e,c,d⟩:=x;exact⟨o,e,λv q=>by rw[d]at q;cases q⟩
 item:=λ_ _ _ _ _ _ _ h1 h2 hx hQ=>wpAny_nextOf_list_item h1 h2 hx hQ
 fin:=λ_ _ _ _ _ _ hh h1 h2 hx hE=>wpAny_nextOf_list_end hh h1 h2 hx hE
def wL(i l:Addr):pJ P w i l (λk h=>h.IsTupleIter i l k) (λxs h=>h.IsTuple l xs) where
 stAt:=λ_ _ _ x e=>x.at e
 srcAt:=λ_ _ _ x e=>x.at e
 has:=λk h x=>by obtain⟨o,e,c,d⟩:=x;exact⟨o,e,λv q=>by rw[d]at q;cases q⟩
 item:=λ_ _ _ _ _ _ _ h1 h2 hx hQ=>NG h1 h2 hx hQ
 fin:=λ_ _ _ _ _ _ hh h1 h2 hx hE=>DZ hh h1 h2 hx hE
section
variable{P:cW}{w:f7}{A:d9}{E:Value->Shared->Prop}{s:Shared}{z TI TO j l p q:Addr}{g i:Nat->Heap->Prop}{d f:Array Value->Heap->Prop}{k:Nat}{m n:Array Value}{a b:Value}
def UE{x}{Q:Value->Shared->Prop}(I:pJ P w j p g d)(J:pJ P w l q i f)(D:gi z TI TO j l p q)(M:y3 s.heap z TI TO .none)(ka:IsPair s.heap TI (.ref j) (.ref l))(la:IsPair s.heap TO a b)
  (h1:g k s.heap) (h2:i k s.heap) (hG:d m s.heap) (hH:f n s.heap) (hx:m[k]?=some x) (hy:n[k]?=some y)
  (hQ:∀u,y3 u z TI TO (r8 s.heap.objs.size)->IsPair u TO x y->g (k+1) u->i (k+1) u->IsPair u s.heap.objs.size x y->u.objs.size=s.heap.objs.size+1 ->
   (∀c o,c≠z->c≠TO->c≠j->c≠l->s.heap.get? c=some o->u.get? c=some o)->Q (.ref s.heap.objs.size) { s with heap:=u }) :
  wpAny (model P w) A (u4.«zip.__next__» ⟨[.ref z],[]⟩) (λfin s'=>∃v,fin=.done (.ret v)/\Q v s') E s:=by
 show wpAny _ _ (ig (.ref z) 2 >>= _) _ _ _;refine aE (f6 M Db (x:=.bool false) Db ?_);show wpAny _ _ (ig (.ref z) 3 >>= _) _ _ _;refine aE (f6 M Db (x:=.ref TI) Db ?_);refine aE (k9 ka Db ?_);show wpAny _ _ (i5 (.ref z) >>= _) _ _ _;refine aE ?_;unfold i5;refine aE (f6 M Db (x:=.none) Db (aZ ?_));simp only[n8];refine aE (t7 ?_);refine aE (f6 M Db (x:=.ref TO) Db ?_);refine aE (l6 M Cy λha C sa=>?_)
 replace C:y3 ha z TI TO .ellipsis:=C
 refine aE ?_;simp only[ZL,aDf,vQ,aFh];refine aE (aE (bz ?_));show wpAny _ _ (d8 (.ref j) >>= _) _ _ _;refine aE (I.item _ _ _ k m x _ (I.stAt _ _ _ h1 λo e=>sa.extBut _ _ D.i1z e) (I.srcAt _ _ _ hG λo e=>sa.extBut _ _ D.l1z e) hx λhb Y sb=>aZ ?_);have S:IsPair hb TO a b:=sb.extBut _ _ D.TOi1 (sa.extBut _ _ D.TOz la);refine aE (k9 S Db ?_);refine aE (bi S λhc G H=>?_)
 replace G:IsPair hc TO x b:=G
 refine aE (fj (aZ ?_));refine aE (aE (bz ?_));show wpAny _ _ (d8 (.ref l) >>= _) _ _ _
 refine aE (J.item _ _ _ k n y _ (J.stAt _ _ _ h2 λo e=>H.extBut _ _ D.TOi2.symm (sb.extBut _ _ D.i12.symm (sa.extBut _ _ D.i2z e)))
  (J.srcAt _ _ _ hH λo e=>H.extBut _ _ D.l2TO (sb.extBut _ _ D.l2i1 (sa.extBut _ _ D.l2z e))) hy λhd zb sd=>aZ ?_)
 have T:IsPair hd TO x b:=sd.extBut _ _ D.TOi2 G;refine aE (k9 T Db ?_);refine aE (bi T λh t R=>?_)
 replace t:IsPair h TO x y:=t
 refine aE (fj (aZ (aZ ?_)));refine aE (k9 t Db ?_);refine aE (wpAny_newTuple ?_);have L:h.objs.size=s.heap.objs.size:=by rw[R.1,sd.1,H.1,sb.1,sa.1]
 have O:y3 h z TI TO .ellipsis:=R.extBut _ _ D.TOz.symm (sd.extBut _ _ D.i2z.symm (H.extBut _ _ D.TOz.symm (sb.extBut _ _ D.i1z.symm C)))
 have ke:∀c o,c≠z->c≠TO->c≠j->c≠l->s.heap.get? c=some o->h.get? c=some o:=λc o c1 U W X e=>
  R.extBut _ _ U (sd.extBut _ _ X (H.extBut _ _ U (sb.extBut _ _ W (sa.extBut _ _ c1 e))))
 have Z:g (k+1) h:=I.stAt _ _ _ Y λo e=>R.extBut _ _ D.TOi1.symm (sd.extBut _ _ D.i12 (H.extBut _ _ D.TOi1.symm e));have zc:i (k+1) h:=J.stAt _ _ _ zb λo e=>R.extBut _ _ D.TOi2.symm e;have B:z<h.objs.size:=aY O;show wpAny _ _ (u9 (.ref z) (.ref h.objs.size) >>= _) _ _ _;refine aE ?_;unfold u9;have Au:y3 (h.push { cls:=.type "tuple",data:=.seq #[x,y] }) z TI TO .ellipsis:=aD _ O;refine aE (l6 Au Cy λhg F sg=>?_)
 replace F:y3 hg z TI TO (r8 h.objs.size):=F
 refine l6 F Cy λK r si=>?_
 replace r:y3 K z TI TO (r8 h.objs.size):=r
 have up:∀c o,c≠z->h.get? c=some o->K.get? c=some o:=λc o c1 e=>si.extBut _ _ c1 (sg.extBut _ _ c1 (aD _ e));have hT:IsPair K h.objs.size x y:=si.extBut _ _ (hU B) (sg.extBut _ _ (hU B) (aU _ Db));have N:K.objs.size=h.objs.size+1:=by rw[si.1,sg.1,dX]
 rw[L]at r hT N;refine aZ ⟨_,Db,?_⟩;show Q (.ref h.objs.size) _;rw[L];exact hQ K r (up _ _ D.TOz t) (I.stAt _ _ _ Z λo e=>up _ o D.i1z e) (J.stAt _ _ _ zc λo e=>up _ o D.i2z e) hT N λc o c1 U W X e=>up c o c1 (ke c o c1 U W X e)
def UB{Q:Fin->Shared->Prop}(hh:A.handled=none)(I:pJ P w j p g d)(K:pJ P w l q i f)(D:gi z TI TO j l p q)(C:y3 s.heap z TI TO .none)(M:IsPair s.heap TI (.ref j) (.ref l))(N:IsPair s.heap TO a b)
  (h1:g k s.heap) (h2:i k s.heap) (S:d m s.heap) (T:f n s.heap) (B:m[k]?=none\/n[k]?=none)
  (Y:∀L e,(∀c o,c≠z->c≠TO->c≠j->c≠l->s.heap.get? c=some o->L.get? c=some o)->(∃o,L.get? e=some o/\o.cls=.type "StopIteration")->E (.ref e) { s with heap:=L }) :
  wpAny (model P w) A (u4.«zip.__next__» ⟨[.ref z],[]⟩) Q E s:=by
 show wpAny _ _ (ig (.ref z) 2 >>= _) _ _ _;refine aE (f6 C Db (x:=.bool false) Db ?_);show wpAny _ _ (ig (.ref z) 3 >>= _) _ _ _;refine aE (f6 C Db (x:=.ref TI) Db ?_);refine aE (k9 M Db ?_);show wpAny _ _ (i5 (.ref z) >>= _) _ _ _;refine aE ?_;unfold i5;refine aE (f6 C Db (x:=.none) Db (aZ ?_));simp only[n8];refine aE (t7 ?_);refine aE (f6 C Db (x:=.ref TO) Db ?_);refine aE (l6 C Cy λO u sa=>?_)
 replace u:y3 O z TI TO .ellipsis:=u
 refine aE ?_;simp only[ZL,aDf,vQ,aFh];refine aE (aE (bz ?_));show wpAny _ _ (d8 (.ref j) >>= _) _ _ _;have X:g k O:=I.stAt _ _ _ h1 λo e=>sa.extBut _ _ D.i1z e;have q1:d m O:=I.srcAt _ _ _ S λo e=>sa.extBut _ _ D.l1z e
 cases U:m[k]? with
 |none=>
  refine aE (I.fin _ _ _ k m _ hh X q1 U λhb e sb R=>?_);obtain⟨W,r,t⟩:=R;have F:y3 hb z TI TO .ellipsis:=sb _ _ D.i1z.symm u;have v:e≠z:=λx=>by subst x;rw[F]at r;cases r;simp at t
  refine l6 F Cy λZ _ y=>Y Z e (λc o c1 _ J _ x=>y.extBut _ _ c1 (sb _ _ J (sa.extBut _ _ c1 x))) ⟨W,y.extBut _ _ v r,t⟩
 |some x=>
  have hy:n[k]?=none:=by rcases B with h | h;rw[U]at h;cases h;exact h
  refine aE (I.item _ _ _ k m x _ X q1 U λhb Bq sb=>aZ ?_);have H:IsPair hb TO a b:=sb.extBut _ _ D.TOi1 (sa.extBut _ _ D.TOz N);refine aE (k9 H Db ?_);refine aE (bi H λZ Cr y=>?_);refine aE (fj (aZ ?_));refine aE (aE (bz ?_));show wpAny _ _ (d8 (.ref l) >>= _) _ _ _
  refine aE (K.fin _ _ _ k n _ hh (K.stAt _ _ _ h2 λo e=>y.extBut _ _ D.TOi2.symm (sb.extBut _ _ D.i12.symm (sa.extBut _ _ D.i2z e)))
   (K.srcAt _ _ _ T λo e=>y.extBut _ _ D.l2TO (sb.extBut _ _ D.l2i1 (sa.extBut _ _ D.l2z e))) hy λhd e sd R=>?_)
  obtain⟨W,r,t⟩:=R;have G:y3 hd z TI TO .ellipsis:=sd _ _ D.i2z.symm (y.extBut _ _ D.TOz.symm (sb.extBut _ _ D.i1z.symm u));have v:e≠z:=λx=>by subst x;rw[G]at r;cases r;simp at t
  refine l6 G Cy λhf _ sf=>Y hf e (λc o c1 c2 J c4 x=>sf.extBut _ _ c1 (sd _ _ c4 (y.extBut _ _ c2 (sb.extBut _ _ J (sa.extBut _ _ c1 x))))) ⟨W,sf.extBut _ _ v r,t⟩
def UD{x}{Q:Option Value->Shared->Prop}(K:pJ P w j p g d)(L:pJ P w l q i f)(D:gi z TI TO j l p q)(B:y3 s.heap z TI TO .none)(h:IsPair s.heap TI (.ref j) (.ref l))(r:IsPair s.heap TO a b)
  (M:g k s.heap) (N:i k s.heap) (t:d m s.heap) (u:f n s.heap) (R:m[k]?=some x) (S:n[k]?=some y)
  (O:∀e,y3 e z TI TO (r8 s.heap.objs.size)->IsPair e TO x y->g (k+1) e->i (k+1) e->IsPair e s.heap.objs.size x y->e.objs.size=s.heap.objs.size+1 ->
   (∀c o,c≠z->c≠TO->c≠j->c≠l->s.heap.get? c=some o->e.get? c=some o)->Q (some (.ref s.heap.objs.size)) { s with heap:=e }):wpAny (model P w) A (ij (.ref z)) Q E s:=by
 have v:s.TypeIs (.ref z) "zip":=⟨_,B,Db⟩;unfold ij
 exact aE (jl (j3 (name:=d7 "__next__") v aa (lR aa v F.entry_zip_next
  (UE K L D B h r M N t u R S λe C a2 G a4 H I J=>aZ (O e C a2 G a4 H I J)) (qx _))))
def ZQ{Q:Option Value->Shared->Prop}(M:A.handled=none)(C:pJ P w j p g d)(G:pJ P w l q i f)(D:gi z TI TO j l p q)(B:y3 s.heap z TI TO .none)(t:IsPair s.heap TI (.ref j) (.ref l))(u:IsPair s.heap TO a b)
  (H:g k s.heap) (I:i k s.heap) (v:d m s.heap) (x:f n s.heap) (h:m[k]?=none\/n[k]?=none)
  (J:∀r,(∀c o,c≠z->c≠TO->c≠j->c≠l->s.heap.get? c=some o->r.get? c=some o)->Q none { s with heap:=r }):wpAny (model P w) A (ij (.ref z)) Q E s:=by
 have y:s.TypeIs (.ref z) "zip":=⟨_,B,Db⟩;unfold ij;refine aE (jl (j3 (name:=d7 "__next__") y aa (lR aa y F.entry_zip_next (UB M C G D B t u H I v x h λr e N L=>?_) (qx _))));obtain⟨o,O,K⟩:=L;refine aE (wpAny_isInstance (T:="StopIteration") (b:=true) ⟨o,O,K⟩ isSubtype_stop ?_);exact aZ (J _ N)
end
section
variable{X:Cx}{a:List (Addr×Obj)}{f:St}{H:Hp}{s:Shared}{d:Heap}
def cU.turnedL{t':Nat}{ch:List Addr}(I:cU X a f H s)(i:∀b∈ch,B8 X a H b)(k:∀b o,b∉ch->s.heap.get? b=some o->d.get? b=some o):cU X a f H { s with heap:=d,toks:=t' }:=by
 have h:∀b u,H b=some u->b∉ch:=λb u e z=>by rw[(i b z).1]at e;cases e
 have x:X.env.locals∉ch:=λz=>(i _ z).2.1 Db
 refine I.step (g':=s.gens) (d':=s.drawn) (ch:=ch) (λb hb=>?_) (λb o _ _ g e _=>k b o g e) (λb o _ _ g e _=>⟨o.slots,k b o g e⟩) (λ_ _ _ _ n=>n)
  (λb o g e=>⟨o,k b o g e⟩) (λ_ _ e=>e) (λ_ _ _ e=>e) (λb E e=>⟨#[],by rw[e];simp⟩) (λm y=>?_) (λb u e=>?_) I.bare
 ·obtain⟨B,f1,C,p,t,w⟩:=i b hb;exact⟨p,f1,t,w⟩
 ·obtain⟨o,l,j,A,r⟩:=y;exact⟨o,l,j,k _ o x A,r⟩
 ·refine(I.hok b u e).stay (λc v g q=>k c v ?_ q) (λ_ q=>q) λ_ _ q=>q;rcases g with z | z
  ·rw[z];exact h b u e
  ·exact h c _ z
def cU.turnedNew{t':Nat}{ch:List Addr}{T:Addr}{o:HO}(I:cU X a f H s)(i:∀b∈ch,B8 X a H b)(k:∀b u,b∉ch->s.heap.get? b=some u->d.get? b=some u)(l:s.heap.objs.size<=T)(new:iR X.prog X.w (eM H T o) d T o) :
  cU X a f (eM H T o) { s with heap:=d,toks:=t' }:=by
 have h:∀b u,H b=some u->b∉ch:=λb u e z=>by rw[(i b z).1]at e;cases e
 have B:X.env.locals∉ch:=λz=>(i _ z).2.1 Db;have E:H T=none:=I.hok.fresh l;have ne:∀b u,H b=some u->(eM H T o) b=some u:=λb u e=>by rw[bV (eN e E)];exact e
 have j:∀b u,s.heap.get? b=some u->b≠T:=λb u e z=>by
  exact c7 (bT (aY e) l) (by rw[z];exact eO _)
 refine I.step (g':=s.gens) (d':=s.drawn) (ch:=ch) (λb hb=>?_) (λb o _ _ g e _=>k b o g e) (λb o _ _ g e _=>⟨o.slots,k b o g e⟩) (λb u _ e n=>by rw[bV (j b u e)];exact n)
  (λb o g e=>⟨o,k b o g e⟩) (λb G e=>ne _ _ e) (λb u v e=>ne _ _ e) (λb L e=>⟨#[],by rw[ne _ _ e];simp⟩) (λm C=>?_) (λb u e=>?_) I.bare
 ·obtain⟨J,f1,K,x,y,A⟩:=i b hb;exact⟨x,f1,y,A⟩
 ·obtain⟨o,t,p,F,r⟩:=C;exact⟨o,t,p,k _ o B F,r⟩
 ·by_cases hb:b=T
  ·subst hb;rw[bQ]at e;cases e;exact new
  ·rw[bV hb]at e;refine(I.hok b u e).stay (λc v g q=>k c v ?_ q) (λc q=>ne _ _ q) (λc G q=>ne _ _ q) λc ob v q=>ne _ _ q;rcases g with z | z
   ·rw[z];exact h b u e
   ·exact h c _ z
end
noncomputable def Fy(c d:Hp->List V->Prop):It:=
 ⟨λi H=>∃a b x y,c H a/\d H b/\a[i]?=some x/\b[i]?=some y,
  λi H v e=>∃p x y,H p=none/\v=.ref p/\e=eM H p (.tup [x,y])/\(∀a,c H a->a[i]?=some x)/\∀b,d H b->b[i]?=some y,
  λi H=>∃a b,c H a/\d H b/\(a.length<=i\/b.length<=i)⟩
structure Src(P:cW)(w:f7)(K:aF)(S:Hp->List V->Prop)(src:Array Value->Heap->Prop):Prop where
 vals:∀(X:Cx),X.prog=P->X.w=w->X.K=K->∀{pins:List (Addr×Obj)}{σ:St}{H:Hp}{s:Shared}{xs:List V},cU X pins σ H s->S H xs->∃bc:List Value,eW xs bc/\src bc.toArray s.heap
 inj:∀(X:Cx),X.prog=P->X.w=w->X.K=K->∀{pins:List (Addr×Obj)}{σ:St}{H:Hp}{s:Shared}{xs ys:List V},cU X pins σ H s->S H xs->S H ys->xs=ys
def CJ{K}(a:Addr):Src P w K (λH xs=>pY K H a xs) (λbc h=>h.IsTuple a bc) where
 vals:=λX hP hw hK _ _ _ _ _ I h=>by subst hK;obtain⟨bc,r,p,_⟩:=I.tuple h;exact⟨bc,r,p⟩
 inj:=λX hP hw hK _ _ _ _ _ _ I h h'=>by subst hK;exact I.tuple_inj h h'
def J1{K}(a:Addr):Src P w K (λH xs=>mL K H a xs) (λbc h=>h.IsList a bc) where
 vals:=λX hP hw hK _ _ _ _ _ I h=>by subst hK;obtain⟨bc,r,p,_⟩:=I.list h;exact⟨bc,r,p.isList⟩
 inj:=λX hP hw hK _ _ _ _ _ _ I h h'=>by subst hK;exact I.list_inj h h'
def C8{P:cW}{w:f7}{K:aF}{y7:List Expr}{x1:Nat}{pos:Pos}{z TI TO i1 i2 l1 l2:Addr}{ym rm:Nat->Heap->Prop}{vn vo:Array Value->Heap->Prop}{S1 S2:Hp->List V->Prop}
  (d1:pJ P w i1 l1 ym vn) (d2:pJ P w i2 l2 rm vo) (e1:Src P w K S1 vn) (e2:Src P w K S2 vo) (D:gi z TI TO i1 i2 l1 l2) :
  L3 P w K (.Tuple y7 x1 pos) (Fy S1 S2) [z,TI,TO,i1,i2] z (λi h=>y3 h z TI TO .none/\IsPair h TI (.ref i1) (.ref i2)/\(∃a b,IsPair h TO a b)/\ym i h/\rm i h) where
 mem:=by simp
 obj:=λi h st b hb=>by
  obtain⟨hz,ka,⟨a,c,la⟩,h1,h2⟩:=st;simp only[aK,bR,e9]at hb;rcases hb with rfl | rfl | rfl | rfl | rfl
  ·exact⟨_,hz,λv q=>by cases q⟩
  ·exact⟨_,ka,λv q=>by cases q⟩
  ·exact⟨_,la,λv q=>by cases q⟩
  ·exact d1.has i h h1
  ·exact d2.has i h h2
 keep:=λi h h' st k=>by
  obtain⟨hz,ka,⟨a,b,la⟩,h1,h2⟩:=st;exact⟨k z Cy _ hz,k TI Cy _ ka,⟨a,b,k TO Cy _ la⟩,d1.stAt _ _ _ h1 λo e=>k i1 Cy o e,d2.stAt _ _ _ h2 λo e=>k i2 Cy o e⟩
 item:=by
  intro X hP hw hK hc i pins s σ H E I hf st hg;obtain⟨hz,ka,⟨a,b,la⟩,h1,h2⟩:=st;obtain⟨xs,ys,x,y,s1,s2,hx,hy⟩:=hg;obtain⟨us,r1,q1⟩:=e1.vals X hP hw hK I s1;obtain⟨vs,r2,q2⟩:=e2.vals X hP hw hK I s2;obtain⟨u,hu,ru⟩:=r1.get hx;obtain⟨v,hv,rv⟩:=r2.get hy;refine UD d1 d2 D hz ka la h1 h2 q1 q2 (x:=u) (y:=v) (by simpa using hu) (by simpa using hv) λh' a1 a2 a3 a4 a5 a6 a7=>⟨_,Db,?_⟩;refine wpAny_letOwnedTupleGo_zip (s:={ s with heap:=h' }) a1 λrh As sb=>?_;have xg:=aY hz;have neT:∀c o,s.heap.get? c=some o->c≠s.heap.objs.size:=λc o e=>cL (aY e)
  have kk:∀c o,c∉[z,TI,TO,i1,i2]->s.heap.get? c=some o->rh.get? c=some o:=λc o ak e=>by
   simp only[aK,bR,e9,not_or]at ak;exact sb.extBut _ _ ak.1 (a7 c o ak.1 ak.2.2.1 ak.2.2.2.1 ak.2.2.2.2 e)
  have hT:IsPair rh s.heap.objs.size u v:=sb.extBut _ _ (hU xg) a5;have I1:cU X pins σ (eM H s.heap.objs.size (.tup [x,y])) { s with heap:=rh }:=I.turnedNew (t':=s.toks) hf kk (aM _) ⟨(by show 2<=bG;decide),[u,v],.cons ru (.cons rv .nil),⟨_,hT,Db,_,Db,Db⟩⟩;refine⟨.ref s.heap.objs.size,_,I1,Db,⟨_,x,y,I.hok.fresh (aM _),Db,Db,λCs h'=>by rw[e1.inj X hP hw hK I h' s1];exact hx,λCt h'=>by rw[e2.inj X hP hw hK I h' s2];exact hy⟩,?_,λc ak=>?_⟩
  ·exact⟨As,sb.extBut _ _ D.TIz (a7 _ _ D.TIz D.TITO D.TIi1 D.TIi2 ka),⟨_,_,sb.extBut _ _ D.TOz a2⟩,d1.stAt _ _ _ a3 λo e=>sb.extBut _ _ D.i1z e,d2.stAt _ _ _ a4 λo e=>sb.extBut _ _ D.i2z e⟩
  ·have eg:c≠s.heap.objs.size:=by
    simp only[aK,bR,e9]at ak;rcases ak with rfl | rfl | rfl | rfl | rfl
    ·exact neT _ _ hz
    ·exact neT _ _ ka
    ·exact neT _ _ la
    ·obtain⟨o,e,_⟩:=d1.has _ _ h1;exact neT _ _ e
    ·obtain⟨o,e,_⟩:=d2.has _ _ h2;exact neT _ _ e
   rw[bV eg];exact(hf c ak).1
 done:=by
  intro X hP hw hK hc i pins s σ H E I hf st hg;obtain⟨hz,ka,⟨a,b,la⟩,h1,h2⟩:=st;obtain⟨xs,ys,s1,s2,vf⟩:=hg;obtain⟨us,r1,q1⟩:=e1.vals X hP hw hK I s1;obtain⟨vs,r2,q2⟩:=e2.vals X hP hw hK I s2;have n1:=r1.length;have n2:=r2.length;refine ZQ (I.ok.hd hc) d1 d2 D hz ka la h1 h2 q1 q2 ?_ λh' a7=>⟨Db,I.turnedL (t':=s.toks) hf λc o ak e=>?_⟩
  ·rcases vf with q | q
   ·exact .inl (nS (by rw[bA];lia))
   ·exact .inr (nS (by rw[bA];lia))
  ·simp only[aK,bR,e9,not_or]at ak;exact a7 c o ak.1 ak.2.2.1 ak.2.2.2.1 ak.2.2.2.2 e
 self:=λA i s Q E st h=>z9 st.1 h
noncomputable abbrev Ed(c1:String)(h:Heap)(a:Addr):Heap:=h.push { cls:=.type c1,data:=.fields #[.ref a,.int 0 0] }
noncomputable abbrev Ec(c1 a:String)(h:Heap)(b c:Addr):Heap:=(Ed c1 h b).push { cls:=.type a,data:=.fields #[.ref c,.int 0 0] }
noncomputable abbrev Eb(c1 b:String)(h:Heap)(a c:Addr):Heap:=(Ec c1 b h a c).push { cls:=.type "tuple",data:=.seq #[.ref h.objs.size,.ref (Ed c1 h a).objs.size] }
noncomputable abbrev Dq(c1 a:String)(h:Heap)(b c:Addr):Heap:=(Eb c1 a h b c).push { cls:=.type "tuple",data:=.seq #[.none,.none] }
noncomputable abbrev TN(c1 a:String)(h:Heap)(b c:Addr):Heap:=(Dq c1 a h b c).push { cls:=.type "zip",data:=.fields #[.none,.bool false,.bool false,.ref (Ec c1 a h b c).objs.size,.ref (Eb c1 a h b c).objs.size] }
def MI(a b:Addr)(m n:Array Value) :
  Meets (u4.«zip.__new__» ⟨[.type "zip",.ref a,.ref b],[]⟩) (λ_ R s=>s.heap.IsTuple a m/\s.heap.IsTuple b n /\
   R (.ok (.ret (.ref (Dq "tuple_iterator" "tuple_iterator" s.heap a b).objs.size))) { s with heap:=TN "tuple_iterator" "tuple_iterator" s.heap a b }):=
 .of_wp λprog w A R s h=>by
  obtain⟨j,g,d,l,os⟩:=s;obtain⟨f,i,h⟩:=h;have k:=sub_zip;have c:MG (z6 ⟨j,g,d,l,os⟩) a m:=f;have e:MG (z6 ⟨j.push { cls:=.type "tuple_iterator",data:=.fields #[.ref a,.int 0 0] },g,d,l,os⟩) b n:=MG.push i _
  wp_walk using ci c,ci e
  exact⟨_,Db,h⟩
section
variable{P:cW}{w:f7}{A:d9}{E:Value->Shared->Prop}{s:Shared}
def BO{a b:Addr}{Q:Value->Shared->Prop}(f:s.heap.IsTuple a xs)(g:s.heap.IsTuple b ys)
  (h:∀d,y3 d (s.heap.objs.size+4) (s.heap.objs.size+2) (s.heap.objs.size+3) .none->IsPair d (s.heap.objs.size+2) (.ref s.heap.objs.size) (.ref (s.heap.objs.size+1)) ->
   IsPair d (s.heap.objs.size+3) .none .none->d.IsTupleIter s.heap.objs.size a 0->d.IsTupleIter (s.heap.objs.size+1) b 0 ->
   (∀c o,s.heap.get? c=some o->d.get? c=some o)->Q (.ref (s.heap.objs.size+4)) { s with heap:=d }) :
  wpAny (model P w) A (call (.type "zip") [.ref a,.ref b]) Q E s:=by
 refine jv F.called_zip Cv (F.typeCall_zip_2 _ _) (F.newCall_zip_2 _ _) (λobj=>jr obj _ _) F.entry_zip_new (MI a b xs ys) ⟨f,g,?_⟩;have n1:(Ed "tuple_iterator" s.heap a).objs.size=s.heap.objs.size+1:=dX ..;have i:(Ec "tuple_iterator" "tuple_iterator" s.heap a b).objs.size=s.heap.objs.size+2:=by rw[dX,n1]
 have n3:(Eb "tuple_iterator" "tuple_iterator" s.heap a b).objs.size=s.heap.objs.size+3:=by rw[dX,i]
 have m:(Dq "tuple_iterator" "tuple_iterator" s.heap a b).objs.size=s.heap.objs.size+4:=by rw[dX,n3]
 have e:(TN "tuple_iterator" "tuple_iterator" s.heap a b).get? (Dq "tuple_iterator" "tuple_iterator" s.heap a b).objs.size=some _:=aU _ Db;have l:(TN "tuple_iterator" "tuple_iterator" s.heap a b).get? (Eb "tuple_iterator" "tuple_iterator" s.heap a b).objs.size=some _:=aD _ (aU _ Db);have k:(TN "tuple_iterator" "tuple_iterator" s.heap a b).get? (Ec "tuple_iterator" "tuple_iterator" s.heap a b).objs.size=some _:=aD _ (aD _ (aU _ Db));have j:(TN "tuple_iterator" "tuple_iterator" s.heap a b).get? (Ed "tuple_iterator" s.heap a).objs.size=some _:=aD _ (aD _ (aD _ (aU _ Db)));have n:(TN "tuple_iterator" "tuple_iterator" s.heap a b).get? s.heap.objs.size=some _:=aD _ (aD _ (aD _ (aD _ (aU _ Db))));show _/\_;rw[i,n3,m]at e;rw[n1,i]at k;rw[n3]at l;rw[n1]at j;rw[m];exact⟨⟨_,e,Db⟩,h _ e k l ⟨_,n,Db,Db⟩ ⟨_,j,Db,Db⟩ λc o x=>aD _ (aD _ (aD _ (aD _ (aD _ x))))⟩
end
def LW:e4 "zip"=some (.type "zip"):=by decide +kernel
def Jg(K:aF)(e:TA):TI:=λg H R=>e g H λvs b=>∃c d a f,vs=[.ref c,.ref d]/\pY K b c a/\pY K b d f/\R (Fy (λH a=>pY K H c a) λH a=>pY K H d a) b
section
variable{X:Cx}
def Xw{Y:Nat}(J:Gl X "zip")(M:X.mg "zip"=none)(G:PA X [a,b] ta)(N:bI [a,b] X.env=[(false,eval a X.env),(false,eval b X.env)]:=by rfl)(f:bI [b] X.env=[(false,eval b X.env)]:=by rfl) :
  PI X (.Tuple y7 Y tpos) (.Call (.Name "zip" p) [a,b] [] pos) (Jg X.K ta):=by
 intro g s σ H R I h;refine Call_ (uZ I J M LW (i7 (jG (G pos g s σ H _ I h) λus d Z=>?_) (by rw[N,f]) (by rw[f];rfl)));obtain⟨vs,E,e,T,Q⟩:=Z;obtain⟨i,j,xs,ys,rfl,o,t,q⟩:=Q
 cases T with
 |cons r w=>
  cases w with
  |cons S w=>
   cases w;cases r;cases S;obtain⟨x,U,B,O⟩:=e.tuple o;obtain⟨y,W,C,P⟩:=e.tuple t;have u:i<d.heap.objs.size:=B.lt;have v:j<d.heap.objs.size:=C.lt;refine BO (show d.heap.IsTuple i x.toArray from B) (show d.heap.IsTuple j y.toArray from C) λF A k l m n L=>z9 (s:={ d with heap:=F }) A ?_;refine⟨_,[d.heap.objs.size+4,d.heap.objs.size+2,d.heap.objs.size+3,d.heap.objs.size,d.heap.objs.size+1],_,_,E,Db,e.kept (t':=d.toks) L,C8 (wL _ i) (wL _ j) (CJ i) (CJ j) (ku u v),⟨A,k,⟨_,_,l⟩,m,n⟩,λc z=>?_,q⟩;simp only[aK,bR,e9]at z;have le:d.heap.objs.size<=c:=by rcases z with rfl | rfl | rfl | rfl | rfl<;>first | exact aM _ | exact uH _ _
   exact e.fpOk le (e.hok.fresh le)
end
end L2
namespace TL
open L2
variable{K:aF}
noncomputable def qJ(a bs:List D):List D:=(a.zip bs).map λp=>.tuple [p.1,p.2]
def mQ(a bs:List D):(qJ a bs).length=min a.length bs.length:=by unfold qJ;simp
def yO{bs}{i:Nat}{x}(h:(qJ as bs)[i]?=some x):∃a b,as[i]?=some a/\bs[i]?=some b/\x=.tuple [a,b]:=by
 unfold qJ at h;rw[aO]at h
 cases e:(as.zip bs)[i]? with
 |none=>rw[e]at h;cases h
 |some p=>
  rw[e]at h;obtain⟨c,d⟩:=fW.mp e;exact⟨p.1,p.2,c,d,(c8 h).symm⟩
def Rp(t:AT):IT:=λc Q=>t c λb=>∃a bs,b=[.tuple a,.tuple bs]/\Q (qJ a bs)
section
variable{X:Cx}{a b:Expr}
def Wv{m:Nat}(w:yM X [a,b] t)(I:∀{ta},PA X [a,b] ta->PI X (.Tuple y7 m tpos) (.Call (.Name "zip" p) [a,b] [] p') (Jg X.K ta)):L9 X (.Tuple y7 m tpos) (.Call (.Name "zip" p) [a,b] [] p') (Rp t):=by
 obtain⟨va,E,O⟩:=w;refine⟨_,I E,λB C H F f U Q R o h k=>O B C H F f U _ _ o h λZ xs n P d J=>?_⟩;obtain⟨Y,bs,rfl,q⟩:=J
 cases d with
 |cons d L=>
  cases L with
  |cons M N=>
   cases N
   cases d with
   |@tuple p1 us _ hq1 rs1=>
    cases M with
    |@tuple p2 vs _ fg rs2=>
     have n1:=rs1.length;have n2:=rs2.length;refine⟨p1,p2,us,vs,Db,aV.seqT bO hq1,aV.seqT bO fg,k _ _ n P ⟨λi H e c=>?_,λi H e c=>?_,λi H G y W live e c A=>?_⟩ q⟩
     ·rw[mQ]at c;exact⟨us,vs,aV.seqT e hq1,aV.seqT e fg,Cw⟩
     ·rw[mQ]at c;exact⟨us,vs,us[i],vs[i],aV.seqT e hq1,aV.seqT e fg,aG Cw,aG Cw⟩
     ·obtain⟨p,x,y',l,rfl,rfl,u,v⟩:=A;obtain⟨g,r,S⟩:=rs1.get' (u us (aV.seqT (e.trans bO) hq1));obtain⟨j,s,T⟩:=rs2.get' (v vs (aV.seqT (e.trans bO) fg));refine⟨dB l,.tuple [g,j],?_,qP live l (.cons (S.same e) (.cons (T.same e) .nil))⟩;unfold qJ;rw[aO,(fW (z:=(g,j))).mpr ⟨r,s⟩];rfl
end
section
variable{g:List (Option Nat)}{j:IT}{i:ET}{e:List Sl}{Q:D->Prop}{ts:List D}
def AN{f:Type}(l:List f)(a b c d:f):(((l.set 0 a).set 1 b).set 0 c).set 1 d=(l.set 0 c).set 1 d:=by
 match l with
 |[]=>rfl
 |[_]=>rfl
 |_::_::_=>rfl
def IA(l:tU j e ts)(f:D->D)(t:ts.length<=100000)(p:∀x∈ts,∃a b,x=.tuple [a,b])(s:∀(a b:D)(q:D->Prop),.tuple [a,b]∈ts->q (f (.tuple [a,b]))->i (((jS g e).set 0 (.val a)).set 1 (.val b)) q)(r:Q (.list (ts.map f))):QC g j (gP 0 1) BQ i e Q:=by
 refine l _ ⟨t,λk c d=>(∀x y,(c.set 0 (.val x)).set 1 (.val y)=((jS g e).set 0 (.val x)).set 1 (.val y))/\d=(ts.take k).map f,⟨λ_ _=>rfl,Db⟩,λk x c d n h=>?_,λc d h=>?_⟩
 ·obtain⟨o,rfl⟩:=h;have m:x∈ts:=bB n;obtain⟨a,b,rfl⟩:=p x m;refine⟨a,b,Db,?_⟩;show i ((c.set 0 (.val a)).set 1 (.val b)) _;rw[o a b];refine s a b _ m ⟨λx y=>AN _ _ _ _ _,?_⟩;rw[dG,n,cX];rfl
 ·obtain⟨_,rfl⟩:=h;rw[eU];exact r
end
end TL
namespace L2
open PySem.SeqAt
open AutoSeq1 (wpAny_loadPart')
def FH(l:Addr)(a:Array Value)(n:Nat)(v:Option Addr)(I:Array (Option Value))(x:Value)(e:Value->Bool)(j:Nat)(K:j<a.size)(r:e a[j]=true)(t:∀m (L:m<a.size),m<j->e a[m]=false) :
  Meets (u4.«tuple.index» ⟨[.ref l,x],[]⟩)
   (λA R s=>s.heap.get? l=some { cls:=.type "tuple",dict:=v,data:=.seq a n,slots:=I }/\(∀y,y∈a->EqAt A.in1 s y x (e y))/\R (.ok (.ret (.int j s.toks))) { s with toks:=s.toks+1 }):=by
 intro prog w A R s h;obtain⟨H,g,d,J,os⟩:=s;obtain⟨G,C,h⟩:=h;unfold u4.«tuple.index»;simp only[Std.Legacy.Range.forIn_eq_forIn_range']
 wp_walk using fx G
 have B:([:min a.size a.size]:Std.Legacy.Range).size=a.size:=by simp[Std.Legacy.Range.size]
 rw[B];show wpAny _ _ (tx (aPa 0 a.size) (none,()) _) _ _ _;refine wpAny_forIn_list _ (λjK b u=>b=(none,())/\u=⟨H,g,d,J,os⟩/\∃k,jK=aPa k (a.size-k)/\k<=j) _ (λi jK b u p=>?_) (λb u p=>?_) _ _ ⟨Db,Db,0,Cy,cD _⟩
 ·obtain⟨rfl,rfl,k,o,F⟩:=p;have c:k<a.size:=by lia
  have z:a.size-k=(a.size-(k+1))+1:=by lia
  rw[z,List.range'_succ]at o;obtain⟨rfl,rfl⟩:=List.cons.inj o;have E:a[i]?=some a[i]:=by simp[c]
  rw[E];refine aE (C _ (Array.getElem_mem c) prog w _ _ ?_);by_cases q:i=j
  ·subst q;rw[r,a9 rfl]
   wp_walk
   exact h
  ·have f:i<j:=by lia
   rw[t i c f,a8 Cv];exact aZ ⟨Db,Db,i+1,Db,f⟩
 ·obtain⟨_,_,k,o,F⟩:=p;have:=h9 kH o;simp at this;lia
end L2
namespace TL
open L2 PySem.SeqAt
section
variable{X:Cx}{e:Expr}{a:List Expr}{b c:ET}{pos:Pos}
def RN(f:List D)(d:D)(j:Nat):Prop:=eK f=true/\d.canLay0=true/\min (eQ f) d.depth<=60/\(∃t,f[j]?=some t/\bK t d=true)/\∀(m:Nat) t,m<j->f[m]?=some t->bK t d=false
def M2(K:aF):V->List V->Hp->VK->Prop:=λx g H Q=>∃(y:V)(f:List D)(d:D)(j:Nat),g=[y]/\fR K H (.tuple f) x/\fR K H d y/\RN f d j/\Q (.int j) H
def RY(P:X.A.units+200<v7):S6 X "tuple.index" (M2 X.K):=by
 intro G s σ H x xs v us Q I Z Y h;obtain⟨y,g,d,j,rfl,T,U,⟨c1,z,k,⟨t,E,N⟩,r⟩,q⟩:=h;obtain⟨u,rfl,W⟩:=Y.one;obtain⟨as,L⟩:=fR.reads I (show(iN g).hasDict=false from noDictAll c1) T Z;obtain⟨bs,M⟩:=fR.reads I (oF z) U W
 cases L with
 |@tuple l o items n _ as' h3 h4 h5 h6=>
  have f:=km g items.toList _ c1 h6;have C:items.size=g.length:=by rw[<- f,aC,fB]
  have O:j<g.length:=(aI.mp E).1;have B:j<items.size:=by lia
  have J:∀(m:Nat)(k:m<items.size),g[m]?=some (kl s.heap items[m]):=λm k=>by
   rw[<- f,aO];simp[k]
  obtain⟨oc,R,S,w⟩:=o;cases h4;cases h5;refine ah F.slot_tuple_index ⟨_,h3,Db⟩ F.entry_tuple_index (F.args_tuple_index_2 _ _) (FH _ items _ R w u (λy=>bK (kl s.heap y) d) j B ?_ ?_) ⟨h3,sh h6 M c1 z (by have:=P;lia),?_⟩
  ·have:=J j B;rw[E]at this;rw[<- c8 this];exact N
  ·intro m p i;exact r m _ i (J m p)
  ·exact⟨.int j,H,I.tok _,⟨_,Db⟩,q⟩
def D1{k:Nat}(d:gQ k X.A):S6 X "tuple.index" (M2 X.K):=RY (by have:=d.un;lia)
def Xk(b:ET)(t:AT):ET:=λg Q=>b g λd=>∃f,d=.tuple f/\t g λh=>∃(x:D)(j:Nat),h=[x]/\RN f x j/\Q (.int j)
def EJ(z:fK X n b)(y:yM X (e::a) t)
  (C:∀{v c},PE X n v->PA X (e::a) c->PE X (.Call (.Attribute n "index" ap) (e::a) [] pos) (Q3 X.K "tuple" (M2 X.K) v c)):fK X (.Call (.Attribute n "index" ap) (e::a) [] pos) (Xk b t):=by
 obtain⟨v,E,N⟩:=z;obtain⟨S,A,M⟩:=y;refine⟨_,C E A,λB i H l f s Q P o h k=>N B i H l f s _ _ o h λd x u m G g=>?_⟩;obtain⟨O,rfl,g⟩:=g
 cases G with
 |@tuple p xs _ hq rs=>
  refine⟨.inr (.inl ⟨Db,.inr ⟨_,aV.seqT bO hq⟩⟩),M B i u l f s _ _ (o.grow m) g λR T w r I F=>?_⟩;obtain⟨d,j,rfl,hok,q⟩:=F
  cases I with
  |cons J L=>
   cases L;exact⟨_,O,d,j,Db,(fR.tuple hq rs).same ((bH r).trans bO),J.same bO,hok,k _ _ w (m.trans r) (.int _) q⟩
end
section
variable{K:aF}{H a:Hp}{B:Hp}{f c:List Addr}{d:List Sl}{g:L2.St}
noncomputable def without(H:Hp)(p:Addr):Hp:=λb=>if b=p then none else H b
def yS{p:Addr}:mask (without H p) c=mask H (p::c):=by
 funext b;unfold mask without;by_cases e:b=p
 ·simp[e]
 ·by_cases h:b∈c<;>simp[e,h]
def sS{p:Addr}(s:aV H a)(h:H p=none):aV H (without a p):=λb o e=>by
 unfold without;rw[a8 λz=>by rw[z,h]at e;cases e];exact s b o e
def BE{p:Addr}(e:H p=some u):eM (without H p) p u=H:=by
 funext b;by_cases h:b=p
 ·subst h;rw[bQ,e]
 ·rw[bV h];unfold without;rw[a8 h]
def aV.free'(s:aV H a){p:Addr}(h:a p=none):H p=none:=by
 cases q:H p with
 |none=>rfl
 |some u=>rw[s p u q]at h;cases h
def Ok.takeOwn(o:Ok K B f H c d g){i:Nat}{p:Addr}(s:aV H a)(e:H p=none)(h:a p=some (.lst xs))(r:Reps K (mask a (p::c)) ts xs) :
  Ok K B f a (p::c) (d.set i (.own ts)) (g.set i (some (.ref p))):=by
 have j:=o.grow (sS s e);have b:without a p p=none:=by unfold without;rw[a9 rfl]
 have:=j.setOwn (i:=i) (ts:=ts) (xs:=xs) b (by rw[yS];exact r)
 rwa [BE h]at this
end
section
variable{X:Cx}{a b c e:Expr}{I:List Expr}{G C l:ET}{pos:Pos}
abbrev FT:=List Sl->(List D->Prop)->Prop
def JM(X:Cx)(e:Expr)(t:FT):Prop:=∃l:TE,PE X e l/\∀B p0 H ps u0 σ (Q:List D->Prop)(f:VK),Ok X.K B p0 H ps u0 σ->t u0 Q ->
 (∀g p h d,aV H d->H p=none->d p=some (.lst h)->Reps X.K (mask d (p::ps)) g h->Q g->f (.ref p) d)->l σ H f
def Nm(t:FT):ET:=λf Q=>t f λd=>Q (.list d)
def EK(h:JM X e t):fK X e (Nm t):=by
 obtain⟨v,p,r⟩:=h;refine⟨_,p,λB m H n d u Q w o h k=>r B m H n d u _ _ o h λx p y f s g j rs q=>k _ _ f s ?_ q⟩;exact .list (mL.of (kL (iQ o.live g) j)) (rs.same (eV λq i=>aJ _ i))
def Nw(t:AT):FT:=λf Q=>t f λd=>d.length<=1000/\Q d
def NY(h:yM X I t):JM X (.List I pos) (Nw t):=by
 obtain⟨v,p,r⟩:=h;refine⟨_,M8 p,λB n H s f w Q y o h k=>r B n H s f w _ _ o h λm u x j i g=>⟨wF (by rw[<- i.length];exact g.1),λq d=>?_⟩⟩;exact k m q u _ (j.trans (dB d)) (aV.free' j d) bQ (by rw[mS d];exact i) g.2
def Lk(G C:ET):FT:=λf Q=>G f λx=>C f λy=>∃d bs,x=.list d/\y=.list bs/\d.length+bs.length<=100000/\Q (d++bs)
def X4(w:fK X a G)(hb:fK X b C):JM X (.BinOp a .Add b pos) (Lk G C):=by
 obtain⟨U,A,M⟩:=w;obtain⟨W,E,N⟩:=hb;refine⟨_,KI HR A E,λB j H m d s Q P o h k=>M B j H m d s _ _ o h λS x t i K F=>?_⟩;refine N B j t m d s _ _ (o.grow i) F λT y O f L J=>?_;obtain⟨R,bs,rfl,rfl,z,q⟩:=J
 cases K with
 |list u n=>
  cases L with
  |list v r=>
   refine⟨_,_,_,_,Db,Db,L2.aV.seq ((bH f).trans bO) u,L2.aV.seq bO v,zM (by rw[<- n.length,<- r.length];exact z),λp g=>?_⟩;exact k _ p _ _ ((i.trans f).trans (dB g)) (aV.free' (i.trans f) g) bQ (by rw[mS g];exact(n.same (bH f)).append r) q
def Qi(i:Nat)(C:ET):FT:=λf Q=>∃d,f[i]?=some (.own d)/\C f λy=>∃bs,y=.list bs/\d.length+bs.length<=100000/\Q (d++bs)
def P7{i:Nat}(v:PE X n (nZ i))(hb:fK X b C):JM X (.BinOp n .Add b pos) (Qi i C):=by
 obtain⟨S,z,F⟩:=hb;refine⟨_,KI HR v z,λB x H A j K Q M o h k=>?_⟩;obtain⟨J,e,h⟩:=h;obtain⟨q,T,t,O,P,R,u,m⟩:=o.own i J e;refine⟨.ref q,t,F B x H A j K _ _ o h λN y L d E g=>?_⟩;obtain⟨bs,rfl,w,g⟩:=g
 cases E with
 |list s r=>
  refine⟨_,_,_,_,Db,Db,mL.of (d _ _ u),L2.aV.seq bO s,zM (by rw[<- m.length,<- r.length];exact w),λp f=>?_⟩;exact k _ p _ _ (d.trans (dB f)) (aV.free' d f) bQ (by rw[mS f];exact(m.same (bH d)).append r) g
def En(m:List (Option Nat))(n:IT)(g:GT)(o:vF)(l:ET):FT:=λj Q=>n j λi=>i.length<=100000/\∃P:Nat->List Sl->List D->Prop,P 0 (jS m j) [] /\
 (∀(k:Nat)(x:D)d(h:List D),i[k]?=some x->P k d h->g x d λf=>o f λb=>if b=true then l f λy=>P (k+1) f (h++[y])else P (k+1) f h)/\∀d h,P i.length d h->Q h
def No(Q:List D->Prop)(d:D):Prop:=match d with | .list ds=>Q ds | _=>False
def X9{l}{Q:List D->Prop}(h:QC fr ti g tt l σ (No Q)):En fr ti g tt l σ Q:=h
def XF{ti:IT}{g:GT}{tt:vF}{l:ET}{wi:TI}{gv:BP->TG}{vt:BP->TT}{ve:BP->TE}
  (ri:∀B t H r f w (Q:List D->Prop)(R:It->Hp->Prop),Ok X.K B t H r f w->ti f Q->(∀E J q,aV H q->aC9 X.K (mask q r) E J->Q E->R J q)->wi w H R)
  (rg:∀(M:BP)B t H r f w(d:D)(v:V)(Q:List Sl->Prop)(F:L2.St->Hp->Prop),Ok X.K B t H r f w->fR X.K (mask H r) d v->g d f Q->(∀j A,Ok X.K B t H r j A->(pN f->pN j)->Q j->F A H)->gv M v w H F)
  (rt:∀(M:BP)B t H r f w(Q:Bool->Prop)(F:Bool->Hp->Prop),Ok X.K B t H r f w->tt f Q->(∀b q,aV H q->Q b->F b q)->vt M w H F)
  (re:∀(M:BP)B t H r f w(Q:D->Prop)F,Ok X.K B t H r f w->l f Q->(∀d v q,aV H q->fR X.K (mask q r) d v->Q d->F v q)->ve M w H F)
  (B:Hp) (t:List Addr) (H:Hp) (r:List Addr) (f:List Sl) (w:L2.St) (Q:List D->Prop) (F:VK) (o:Ok X.K B t H r f w) (h:En fr ti g tt l f Q) (k:∀E p xs q,aV H q->H p=none->q p=some (.lst xs)->Reps X.K (mask q (p::r)) E xs->Q E->F (.ref p) q):TQ fr wi gv vt ve w H F:=by
 refine ri B t H r f w _ _ o h λE J H1 s1 rj q1=>?_;obtain⟨hz,P,h0,hs,hd⟩:=q1;intro M n s;have U:B n=none:=aV.free' (o.grow s1).base s
 refine⟨λi m A q=>m=E.length-i/\i<=E.length/\∃j N T,Ok X.K B t q (n::r) j A/\pN j/\q n=some (.lst T)/\N.length<=i/\Reps X.K (mask q (n::r)) N T/\aV (mask H1 r) (mask q (n::r))/\aV H1 q/\P i j N,
  ⟨_,Db,cD _,jS fr f,[],[],((o.grow s1).blk fr).adopt s,rX fr f,bQ,aM _,.nil,by rw[mS s];exact L2.aV.refl _,dB s,h0⟩,?_⟩
 rintro i m A q ⟨rfl,vf,j,N,T,o',n',ha,hl,Z,W,sF,p'⟩;have hL:bG=2^24:=rfl;by_cases O:i<E.length
 ·refine .inr ⟨rj.go i q (W.trans bO) O,λy H2 hy=>?_⟩;obtain⟨s2,dx,hx,rx⟩:=rj.yld i q (n::r) y H2 o'.live W O hy;refine rg M B t H2 (n::r) j A dx y _ _ (o'.grow s2) rx (hs i dx j N hx p') λx Y o3 n3 q3=>?_;refine rt M B t H2 (n::r) x Y _ _ o3 q3 λb H4 s4 q4=>?_;have L:=s2.trans s4
  cases b with
  |false=>
   exact⟨E.length-(i+1),Cw,Db,O,x,N,T,o3.grow s4,n3 n',L _ _ ha,Cw,Z.same (bH L),W.trans (bH L),sF.trans L,q4⟩
  |true=>
   refine re M B t H4 (n::r) x Y _ _ (o3.grow s4) q4 λd v H5 s5 r5 q5=>?_;have S:=L.trans s5;have hm:mask (eM H5 n (.lst (T++[v]))) (n::r)=mask H5 (n::r):=dY (aN ..);refine⟨T,S _ _ ha,by rw[<- Z.length];lia,E.length-(i+1),Cw,Db,O,x,N++[d],T++[v],((o3.grow s4).grow s5).aside (aN ..) U (n3 n'),n3 n',bQ,by rw[bP,pB];lia,?_,?_,?_,q5⟩
   ·rw[hm];exact(Z.same (bH S)).append (.cons r5 .nil)
   ·rw[hm];exact W.trans (bH S)
   ·intro b u e;have ne:b≠n:=λz=>by rw[z,s]at e;cases e
    rw[bV ne];exact(sF.trans S) b u e
 ·obtain rfl:i=E.length:=by lia
  exact .inl ⟨rj.stop _ q (W.trans bO) (aM _),k N n T q (s1.trans sF) (aV.free' s1 s) ha Z (hd j N p')⟩
def aB0{iter l}(m:L9 X tg iter ti)
  (d:∀b:BP,MA (blk X scope N' b) tg g/\FP (blk X scope N' b) ifs tt/\fK (blk X scope N' b) elt l) {M:(TE)->Prop}
  (fin:∀{h}{gv:BP->TG}{vt:BP->TT}{ve:BP->TE},PI X tg iter h->(∀b:BP,PG (blk X scope N' b) tg (gv b)/\QO (blk X scope N' b) ifs (vt b)/\PE (blk X scope N' b) elt (ve b))->M (TQ fr h gv vt ve)) :
  ∃v:TE,M v/\∀B p0 H ps u0 σ (Q:List D->Prop)(i:VK),Ok X.K B p0 H ps u0 σ->En fr ti g tt l u0 Q ->
   (∀j p k f,aV H f->H p=none->f p=some (.lst k)->Reps X.K (mask f (p::ps)) j k->Q j->i (.ref p) f)->v σ H i:=by
 obtain⟨h,n,o⟩:=m;refine⟨_,fin (gv:=λb=>l4 (d b).1) (vt:=λb=>l4 (d b).2.1) (ve:=λb=>l4 (d b).2.2) n λb=>⟨(e5 (d b).1).1,(e5 (d b).2.1).1,(e5 (d b).2.2).1⟩,?_⟩;exact XF o (λb=>(e5 (d b).1).2) (λb=>(e5 (d b).2.1).2) λb=>(e5 (d b).2.2).2
def Ql{iter l}(j:L9 X tg iter ti)
  (i:∀b:BP,MA (blk X scope N' b) tg g/\FP (blk X scope N' b) ifs tt/\fK (blk X scope N' b) elt l)
  (k:∀{wi}{d:BP->TG}{h:BP->TT}{f:BP->TE},PI X tg iter wi->(∀b:BP,PG (blk X scope N' b) tg (d b)/\QO (blk X scope N' b) ifs (h b)/\PE (blk X scope N' b) elt (f b))->PE X (.ListComp elt [⟨tg,iter,ifs,0⟩] scope pos) (TQ fr wi d h f)) :
  JM X (.ListComp elt [⟨tg,iter,ifs,0⟩] scope pos) (En fr ti g tt l):=aB0 j i k
abbrev QM:=List D->(List D->Prop)->Prop
def iH(K:aF)(k:QM):Sp:=λvs H Q _=>∃(f:List Addr)(h:List D)(g:List D->Prop),(∀p∈f,BA (H p))/\Reps K (mask H f) h vs/\k h g /\
 ∀i p j d,aV H d->H p=none->d p=some (.lst j)->Reps K (mask d (p::f)) i j->g i->Q (.ref p) d
def Ll(f:QM)(t:AT):FT:=λg Q=>t g λd=>f d Q
def Zw{k:Nat}{f:Addr}{pn x}(F:dI X.prog X.w X.K X.mg X.base iG k f fd pn (iH X.K sp))(W:X.mg x=some (.ref f))(U:gB X.K (.ref f)=true)(hb:qF X.K fd pn [])
  (Y:gQ k X.A) (u:yM X (e::I) t) (L:∀{G},PA X (e::I) G->PE X (.Call (.Name x p) (e::I) [] pos) (BF (iH X.K sp) [] E0 G)):JM X (.Call (.Name x p) (e::I) [] pos) (Ll sp t):=by
 obtain⟨v,J,O⟩:=u;refine⟨_,L J,λB E H j i T Q r o h k=>O B E H j i T _ _ o h λs S n d N M=>?_⟩;show iH X.K sp (S++[]) n r E0;rw[dW];exact⟨j,s,Q,(o.grow d).live,N,M,λR p g m P y z rs q=>k R p g m (d.trans P) (aV.free' d y) z rs q⟩
def Eg{K}{mg:Str->Option Value}{x st}{f:Addr}{N pn:List Str}{k:Nat}{o:QM}(F:MB K x qual st f fd)(S:bZ N pn (aX st))
  (j:∀{i}{A:d9}{outer}{s:Shared}{H E},gQ k (A.deeper (i3 qual (aX st) s.heap.objs.size f i))->N.Nodup->∀(g:List D)(Q:List D->Prop),o g Q ->
   ∃t,wV (rF iG P w K mg base N qual (aX st) f i A outer s H E).nox (lK st) t/\t { nx:=λ_=>False,rt:=λ_=>False,ro:=Q } (iO N g)) (len:∀g Q,o g Q->g.length=pn.length:=by intro g Q h;(repeat obtain⟨_,h⟩:=h)<;>subst_vars<;>rfl):dI P w K mg base iG (k+1) f fd pn (iH K o):=by
 refine F.ok S (λvs H Q E h=>?_) λi A outer s H vs Q E z h=>?_
 ·obtain⟨n,g,m,_,r,q,_⟩:=h;rw[<- r.length];exact len g m q
 ·obtain⟨n,g,m,live,r,q,k⟩:=h;obtain⟨t,⟨u,p,J⟩,h⟩:=j z S.nd g m q;exact⟨u,p,J H n H n _ _ _ _ (oS live r) h ⟨λ_ _ _ _ _ _ d=>d.elim,λ_ _ _ _ _ _ d=>d.elim,λ_ _ _ _ _ _ d=>d.elim,λ_ _ _ _ _ d=>d.elim,λu p M v L y O B rs d=>k u p M v L y B rs d,λ_ _ _ _ _ _ _ _ _ _ _ _ _ _ _ _ _ _ d=>d.elim,λ_ _ _ _ _ _ _ _ _ _ _ _ _ _ d=>d.elim,e7⟩⟩
def J9(i:Nat)(t:FT):yL:=λf d=>t d λg=>f.nx (d.set i (.own g))
def Q9{i:Nat}{t:FT}{v:TE}(r:∀B m H g d k (Q:List D->Prop)(y:VK),Ok X.K B m H g d k->t d Q ->
   (∀n p u j,aV H j->H p=none->j p=some (.lst u)->Reps X.K (mask j (p::g)) n u->Q n->y (.ref p) j)->v k H y)
  (B:Hp) (m:List Addr) (H:Hp) (g:List Addr) (d:List Sl) (k:L2.St) (w:vI) (x:BB) (o:Ok X.K B m H g d k) (h:J9 i t w d) (f:IZ X.K B m H g w x):sX v (lO i) x k H:=by
 refine r B m H g d k _ _ o h λn p u j s z A rs q=>?_;exact f.nx j (p::g) _ _ (o.takeOwn s z A rs) (by rw[<- yS];exact bH (sS s z)) q
def aAk{i:Nat}{x}(h:JM X e t)(d:∀{v},PE X e v->PS X (.Assign [.Name x pos'] e pos) (sX v (lO i))):C4 X (.Assign [.Name x pos'] e pos) (J9 i t):=by
 obtain⟨v,p,r⟩:=h;exact⟨_,d p,Q9 r⟩
def Lp(t:FT):yL:=λd f=>t f d.ro
def sZ(h:JM X e t):C4 X (.Return (some e) pos) (Lp t):=by
 obtain⟨v,p,r⟩:=h;refine⟨_,AQ p,λB k H m d w x y o h f=>r B k H m d w _ _ o h λn p u i s g j rs q=>?_⟩;refine f.ro n p u i (o.base.trans s) (aV.free' o.base g) (λz=>iQ o.live g (o.sub p z)) j (rs.same (eV λq hq=>?_)) q;rcases aK.mp hq with rfl | hq
 ·exact aN ..
 ·exact aJ _ (o.sub q hq)
def aAy(i:Nat):yL:=λf g=>∃d,g[i]?=some (.own d)/\f.ro d
def Q6{i:Nat}(s:PE X n (nZ i)):C4 X (.Return (some n) pos) (aAy i):=by
 refine⟨_,AQ s,λB x H y u A v w o h f=>?_⟩;obtain⟨d,e,h⟩:=h;obtain⟨q,t,g,j,k,m,p,r⟩:=o.own i d e;refine⟨.ref q,g,f.ro d q t H o.base k m p (r.same (eV λz hz=>?_)) h⟩;rcases aK.mp hz with rfl | hz
 ·exact j
 ·exact o.sub z hz
def VL(c:vF)(C:yL):yL:=λg h=>∃P:Nat->List Sl->Prop,(∃n,P n h)/\∀n d,P n d->c d λb=>if b=true then C { g with nx:=λf=>∃m,m<n/\P m f,ct:=λf=>∃m,m<n/\P m f,bk:=g.nx } d else g.nx d
def VA{c C}(hc:FO X c tc)(hb:wV X body C)(pw:∀{S R},PT X c S->A9 X body R->PS X (.While c body [] pos) (UX S R)):C4 X (.While c body [] pos) (VL tc C):=by
 obtain⟨S,pc,rc⟩:=hc;obtain⟨R,pb,rb⟩:=hb;refine⟨_,pw pc pb,λB t H F T σ W Y o h f=>?_⟩;obtain⟨P,⟨n0,Z⟩,hs⟩:=h;refine⟨λn k A=>∃g d,Ok X.K B t A g d k/\aV (mask H F) (mask A g)/\P n d,⟨n0,F,T,o,L2.aV.refl _,Z⟩,?_⟩;rintro n k A ⟨g,d,Q,U,p'⟩;refine rc B t A g d k _ _ Q (hs n d p') λb E L J=>?_;have q:IZ X.K B t E g W Y:=(f.later U).later (bH L);have w:aV (mask H F) (mask E g):=U.trans (bH L)
 cases b with
 |true=>
  rw[a9 rfl]at J |-
  refine⟨λy M=>∃m,m<n/\∃u p,Ok X.K B t M u p y/\aV (mask H F) (mask M u)/\P m p,λy M z=>z,?_⟩;exact rb B t E g d k _ _ (Q.grow L) J ⟨λN j i r s x ⟨m,O,v⟩=>⟨m,O,j,i,s,w.trans x,v⟩,λN j i r s x v=>q.nx N j i r s x v,λN j i r s x ⟨m,O,v⟩=>⟨m,O,j,i,s,w.trans x,v⟩,q.rt,q.ro,q.rp,q.rq,q.xb⟩
 |false=>
  rw[a8 Cv]at J |-
  exact q.nx E g d k (Q.grow L) (L2.aV.refl _) J
def Gm(i j k:Nat):GT:=λd f Q=>∃a b c,d=.tuple [a,b,c]/\Q (((f.set i (.val a)).set j (.val b)).set k (.val c))
def GM{i j k:Nat}(h:PG X t (Hb X.K 3 (GN (lO i) (GN (lO j) (GN (lO k) Ha))))):MA X t (Gm i j k):=
 ⟨_,h,λB u H w q x d v Q s o r h k=>by
  obtain⟨a,b,c,rfl,h⟩:=h
  cases r with
  |@tuple p xs _ hq r=>
   cases r with
   |cons f r=>
    cases r with
    |cons g r=>
     cases r with
     |cons m r=>
      cases r;exact⟨_,_,Db,aV.seqT bO hq,Db,_,_,Db,_,_,Db,_,_,Db,Db,k _ _ (((o.set f).set g).set m) (λn=>pX (pX (pX n _ _) _ _) _ _) h⟩⟩
def Lq(l:ET)(g:GT):yL:=λh f=>l f λd=>g d f h.nx
def OS(s:fK X e l)(t:MA X tg g)(w:∀{v j},PE X e v->PG X tg j->PS X (.Assign [tg] e pos) (sX v j)):C4 X (.Assign [tg] e pos) (Lq l g):=by
 obtain⟨v,y,F⟩:=s;obtain⟨j,pg,J⟩:=t;refine⟨_,w y pg,λB n H k i q L M o h f=>F B n H k i q _ _ o h λd x m p E A=>?_⟩;exact J B n m k i q d x _ _ (o.grow p) E A λr K u _ z=>f.nx m k _ _ u (bH p) z
def Nl(c:vF)(G C:ET):ET:=λd Q=>c d λb=>if b=true then G d Q else C d Q
def LG(w:FO X c tc)(u:fK X a G)(hb:fK X b C):fK X (.IfExp c a b pos) (Nl tc G C):=by
 obtain⟨M,z,F⟩:=w;obtain⟨K,x,A⟩:=u;obtain⟨L,y,E⟩:=hb;refine⟨_,KJ z x y,λB m H n f s Q J o h k=>F B m H n f s _ _ o h λd t i g=>?_⟩
 cases d with
 |true=>
  rw[a9 rfl]at g |-
  exact A B m t n f s Q _ (o.grow i) g λd v j r q p=>k d v j (i.trans r) q p
 |false=>
  rw[a8 Cv]at g |-
  exact E B m t n f s Q _ (o.grow i) g λd v j r q p=>k d v j (i.trans r) q p
def Nz(d:D)(Q:D->Prop):Prop:=match d with
|.int i=>Q (.int i)
|.bool b=>Q (.int (if b then 1 else 0))
|_=>False
def Pz:vK X (λf H Q=>(∃i,f=[.int i]/\Q (.int i) H)\/∃k,f=[.bl k]/\Q (.int (if k then 1 else 0)) H) (f1 Nz):=c1 λH j d x Q g live r h k=>by
 cases r with
 |int i=>exact .inl ⟨i,Db,k _ _ H (L2.aV.refl H) (.int _) h⟩
 |bool b=>exact .inr ⟨b,Db,k _ _ H (L2.aV.refl H) (.int _) h⟩
 |_=>exact h.elim
end
end TL
namespace L2
open PySem.SeqAt
open AutoSeq1 (wpAny_loadPart')
section
variable{X:Cx}{d:List (Addr×Obj)}{f:St}{H:Hp}{s:Shared}{p:Addr}
def cU.retold(I:cU X d f H s)(h:H p=some u)(k:∀g,u≠.tup g)(j:∀o v,u≠.frz o v)(nb:∀i,u≠.tbl i)(no:∀a,u≠.own a)(new:iR X.prog X.w (eM H p u') s.heap p u'):cU X d f (eM H p u') s:=by
 have ne:∀b v,H b=some v->v≠u->eM H p u' b=some v:=λb v e r=>by
  rw[bV λz=>by rw[z,h]at e;exact r (c8 e).symm];exact e
 have fin:=I.step (h':=s.heap) (H':=eM H p u') (g':=s.gens) (t':=s.toks) (d':=s.drawn) (ch:=[]) (λb hb=>by cases hb) (λb o _ _ _ e _=>e) (λb o _ _ _ e _=>⟨o.slots,e⟩)
  (λb o _ e n=>by rw[bV λz=>by rw[z,h]at n;cases n];exact n) (λb o _ e=>⟨o,e⟩) (λb g e=>ne _ _ e (λz=>k g z.symm)) (λb o v e=>ne _ _ e (λz=>j o v z.symm))
  (λb i e=>⟨#[],by rw[ne _ _ e (λz=>nb i z.symm)];simp⟩) (λm l=>l) (λb v e=>?_) I.bare
 ·exact fin
 ·by_cases hb:b=p
  ·subst hb;rw[bQ]at e;cases e;exact new
  ·rw[bV hb]at e;exact(I.hok b v e).stay (λc w _ q=>q) (λc q=>ne _ _ q λz=>no b z.symm) (λc g q=>ne _ _ q λz=>k g z.symm) λc ob y q=>ne _ _ q λz=>j ob y z.symm
end
def NZ(l:Addr)(c:Array Value)(n:Nat)(b:Addr)(a:Array Value)(o:Nat)(k:Option Addr)(p:Array (Option Value))(m:¬(!c.isEmpty&&l7 (c.size+a.size))=true)(e:c.size<=bG)(f:c.size+a.size<=bG+1) :
  Meets (u4.«list.extend» ⟨[.ref l,.ref b],[]⟩) (λ_ R s=>s.heap.get? l=some { cls:=.type "list",dict:=none,data:=.seq c n,slots:=#[] }/\s.heap.get? b=some { cls:=.type "list",dict:=k,data:=.seq a o,slots:=p }/\R (.ok (.ret g8)) { s with heap:=s.heap.update l (e8 λx=>x++a),toks:=s.toks }):=
 .of_wp λprog w A R s h=>by
  obtain⟨v,g,d,y,os⟩:=s;obtain⟨j,hb,h⟩:=h;have f1:=AutoSeq1.idx_int;have q:=AutoSeq1.sub_tuple_tuple;have r:=AutoSeq1.sub_list_list;have t:=AutoSeq1.sub_tuple_list;have u:=AutoSeq1.sub_list_tuple;have i:(c++a).size<=bG+1:=by rw[T9];exact f
  wp_walk using(wpAny_updateSeq j Db (hz:=e) (_hz':=i)),fx j,fx hb
  exact⟨_,Db,h⟩
section
variable{X:Cx}
def Ml(K:aF):V->List V->Hp->VK->Prop:=λx vs H Q=>∃l b a c,x=.ref l/\vs=[.ref b]/\H l=some (.lst a)/\mL K H b c/\a.length+c.length<=bG/\Q .non (eM H l (.lst (a++c)))
def PR:Ib X "list.extend" (Ml X.K):=by
 intro j s S H x vs v O Q I J G h;obtain⟨l,b,P,R,rfl,rfl,i,p,M,q⟩:=h;cases J;obtain⟨u,rfl,E⟩:=G.one;cases E;obtain⟨z,c,n,r,L,e⟩:=I.lstM i;obtain⟨a,k,⟨o,A,m,t,w,hd⟩,z2⟩:=I.list p;have y:=k.length;have f:c.toArray.size+a.toArray.size<=bG:=by rw[bA,bA];lia
 have d:¬(!c.toArray.isEmpty&&l7 (c.toArray.size+a.toArray.size))=true:=by
  rw[WV f,G7];exact dA
 obtain⟨N,B,C,g⟩:=o;cases t;cases hd;refine ah F.slot_list_extend ⟨_,e,Db⟩ F.entry_list_extend (F.args_list_extend_2 _ _) (NZ l c.toArray n b a.toArray A B g d (by rw[bA];lia) Cw) ⟨e,m,?_⟩;refine⟨.non,_,I.lset (its':=c++a) i e Cy (r.append k) ?_,Db,q⟩;rw[bP];lia
end
end L2
namespace TL
open L2
section
variable{X:Cx}{e:Expr}{b a:ET}{pos:Pos}
def Lo(i:Nat)(a:ET):yL:=λh g=>∃c,g[i]?=some (.own c)/\a g λd=>∃f,d=.list f/\c.length+f.length<=100000/\h.nx (g.set i (.own (c++f)))
def OU{i:Nat}{e a}(Q:PE X n (nZ i))(A:fK X e a)(E:bI [e] X.env=(false,eval e X.env)::bI [] X.env:=by rfl)
  (pb:∀{b},PA X [e] b->PS X (.Expr (.Call (.Attribute n "extend" ap) [e] [] cp) pos) (yX (Q3 X.K "list" (Ml X.K) (nZ i) b))):C4 X (.Expr (.Call (.Attribute n "extend" ap) [e] [] cp) pos) (Lo i a):=by
 obtain⟨v,p,r⟩:=A;refine⟨_,pb (cI p gM E),λB I H j l w M N o h f=>?_⟩;obtain⟨u,e,h⟩:=h;obtain⟨q,g,m,z,O,P,s,t⟩:=o.own i u e;refine⟨.ref q,m,.inl ⟨Db,g,mL.of s⟩,r B I H j l w _ _ o h λd x y c J k=>?_⟩;obtain⟨L,rfl,F,k⟩:=k;have G:=o.grow c
 cases J with
 |@list p2 zs _ hq rs=>
  refine⟨q,p2,g,zs,Db,Db,c _ _ s,L2.aV.seq bO hq,zM (by rw[<- t.length,<- rs.length];exact F),?_⟩;have C:Reps X.K (mask y j) (u++L) (g++zs):=(t.same (bH c)).append rs;exact f.nx _ j _ w (G.write (ys:=g++zs) e m C) ((bH c).trans (by rw[dY z];exact L2.aV.refl _)) k
def zV{K}{mg:Str->Option Value}{k:Nat}{f:Addr}{pn}:dI P w K mg base iG k f fd pn (cZ K λ_ _=>False):=
 ⟨λvs H Q E ⟨_,_,_,_,_,h,_⟩=>h.elim,λA outer s H c d vs Q E _ _ _ _ ⟨_,_,_,_,_,h,_⟩=>h.elim⟩
def SD{K}{mg:Str->Option Value}{k:Nat}{f:Addr}{pn}:dI P w K mg base iG k f fd pn (iH K λ_ _=>False):=
 ⟨λvs H Q E ⟨_,_,_,_,_,h,_⟩=>h.elim,λA outer s H c d vs Q E _ _ _ _ ⟨_,_,_,_,_,h,_⟩=>h.elim⟩
def II{K}{mg:Str->Option Value}{k:Nat}{f:Addr}{pn}{i d:pU}(F:dI P w K mg base iG k f fd pn (cZ K i))(h:∀c Q,d c Q->i c Q):dI P w K mg base iG k f fd pn (cZ K d):=
 F.imp λvs H Q E ⟨o,c,g,j,l,m,n⟩=>⟨o,c,g,j,l,h c g m,n⟩
def NC(d:D)(Q:D->Prop):Prop:=∃ns:List Int,d=.list (ns.map bM)/\ns≠[]/\∀m,m∈ns->(∀n∈ns,n<=m)->Q (.int m)
end
end TL
namespace L2
section
variable{X:Cx}
def xE(O:X.calm=true):lZ X (.builtin "max") (λM H Q=>∃(p:Addr)(ns:List Int),M=[.ref p]/\mL X.K H p (ns.map V.int)/\ns≠[]/\∀m,m∈ns->(∀n∈ns,n<=m)->Q (.int m) H):=by
 intro G s σ H M us Q I r h;obtain⟨p,ns,rfl,T,g,q⟩:=h;obtain⟨u,rfl,W⟩:=oQ r;cases W;obtain⟨a,L,J,Z⟩:=I.list T;have f:=L.length;rw[aC]at f;have E:0<ns.length:=mY.mpr g
 have y:p≠s.heap.objs.size:=by
  obtain⟨o,B,_⟩:=J.isList;exact cL (aY B)
 have d:=J.isList
 have k:p<s.heap.objs.size:=by
  obtain⟨o,B,_⟩:=d;exact aY B
 have c:∀(i:Nat)(v:Value),a.toArray[i]?=some v->∃t,v=.int ((ns[i]?).getD 0) t:=λi v l=>by
  have F:a[i]?=some v:=by simpa using l
  have w:i<a.length:=(aI.mp F).1;have hb:i<ns.length:=by lia
  obtain⟨w',C,N⟩:=L.get (i:=i) (x:=.int ns[i]) (by rw[aO,aG hb];rfl);rw[F]at C;cases C;rw[aG hb];exact N
 refine call_max_walk (i4 d ?_);refine⟨_,_,_,_,_,_,_,Db,iu (A:=X.A.in1) (I.ok.hd O) _ p y a.toArray,⟨⟨_,aU _ Db,Db,Db⟩,d.push _⟩,λb hb=>?_,by rw[bA];lia,CmpOf.ints_gt (λi=>(ns[i]?).getD 0) c,λv Y tk l R=>?_⟩
 ·show b<(s.heap.push _).objs.size;rw[dX];have:b=s.heap.objs.size\/b=p:=by simpa using hb
  rcases this with rfl | rfl
  ·exact mV _
  ·exact sO k
 ·obtain⟨t,rfl⟩:=c _ _ l;have hb:=argBest_gt (λi=>(ns[i]?).getD 0) (a.toArray.size-1);have U:a.toArray.size=ns.length:=by rw[bA];lia
  have w:argBest (λi j=>decide ((ns[i]?).getD 0>(ns[j]?).getD 0)) (a.toArray.size-1)<ns.length:=by have:=hb.1;lia
  refine⟨.int _,H,I.kept λb o e=>R b o ?_ (aD _ e),⟨t,Db⟩,q _ ?_ λn S=>?_⟩
  ·intro z;have:b=s.heap.objs.size:=by simpa using z
   exact c7 (aY e) (by rw[this];exact eO _)
  ·rw[aG w];exact jO w
  ·obtain⟨j,P,rfl⟩:=xK.mp S;have:=hb.2 j Cw;rw[aG P]at this;exact this
def Qm(_ j:Int):Prop:=0<j/\j<2^200
def KP:qI X (j8 .FloorDiv) (rI Qm λi j=>.int (i / j)):=El λi j _ _ _ _ _ a q=>by
 have c:(0:Int)<j:=a.1;have d:j<2^200:=a.2;have b:j.natAbs<2^200:=by lia
 have e:j.natAbs.log2<200:=(aPx Cw).mpr b;exact floordiv_int Cw (by rw[JG i Cw];exact q) (.inl (PyProof.noPylong_of_log2 Cw))
end
end L2
namespace TL
open L2
section
variable{X:Cx}{e:Expr}
theorem EA{K}:∀ns:List Int,Reps K H (ns.map bM) (ns.map V.int)
|[]=>.nil
|n::ns=>.cons (.int n) (EA ns)
def Le:vK X (λf H Q=>∃(p:Addr)(ns:List Int),f=[.ref p]/\mL X.K H p (ns.map V.int)/\ns≠[]/\∀m,m∈ns->(∀n∈ns,n<=m)->Q (.int m) H) (f1 NC):=c1 λH i d x Q g live r h k=>by
 obtain⟨ns,rfl,a,h⟩:=h
 cases r with
 |list q s=>
  have e:=vX s;subst e;exact⟨_,ns,Db,L2.aV.seq bO q,a,λm b c=>k _ _ H (L2.aV.refl H) (.int _) (h m b c)⟩
end
section
variable{X:Cx}{e:Expr}{a:List Expr}{b c:ET}{pos:Pos}
abbrev Hy:=List Sl->(List D->List D->Prop)->Prop
def Hz(X:Cx)(e:Expr)(t:Hy):Prop:=∃c:TE,PE X e c/\∀B p0 H ps u0 σ (Q:List D->List D->Prop)(f:VK),Ok X.K B p0 H ps u0 σ->t u0 Q ->
 (∀g bs r p q h i d,aV H d->H r=none->H p=none->H q=none->p≠q->d r=some (.tup [.ref p,.ref q])->d p=some (.lst h)->d q=some (.lst i)->Reps X.K (mask d (p::q::ps)) g h->Reps X.K (mask d (p::q::ps)) bs i->Q g bs->f (.ref r) d)->c σ H f
abbrev Ft:=List D->(List D->List D->Prop)->Prop
def wE(K:aF)(l:Ft):Sp:=λvs H Q _=>∃(f:List Addr)(i:List D)(g:List D->List D->Prop),(∀p∈f,BA (H p))/\Reps K (mask H f) i vs/\l i g /\
 ∀h bs r p q j k d,aV H d->H r=none->H p=none->H q=none->p≠q->d r=some (.tup [.ref p,.ref q])->d p=some (.lst j)->d q=some (.lst k)->Reps K (mask d (p::q::f)) h j->Reps K (mask d (p::q::f)) bs k->g h bs->Q (.ref r) d
def Mg(f:Ft)(t:AT):Hy:=λg Q=>t g λd=>f d Q
def V9{k:Nat}{f:Addr}{pn x}(F:dI X.prog X.w X.K X.mg X.base iG k f fd pn (wE X.K sp))(hm:X.mg x=some (.ref f))(Z:gB X.K (.ref f)=true)(hb:qF X.K fd pn [])
  (hr:gQ k X.A) (M:yM X (e::a) t) (P:∀{b},PA X (e::a) b->PE X (.Call (.Name x p) (e::a) [] pos) (BF (wE X.K sp) [] E0 b)):Hz X (.Call (.Name x p) (e::a) [] pos) (Mg sp t):=by
 obtain⟨v,O,g⟩:=M;refine⟨_,P O,λB N H l j Y Q s o h k=>g B N H l j Y _ _ o h λy i n d S R=>?_⟩;show wE X.K sp (i++[]) n s E0;rw[dW];exact⟨l,y,Q,(o.grow d).live,S,R,λu bs r p q i W m U z C E G I J L g T q=>k u bs r p _ i W m (d.trans U) (aV.free' d z) (aV.free' d C) (aV.free' d E) G I J L g T q⟩
def Nb{K}{mg:Str->Option Value}{x st}{f:Addr}{N pn:List Str}{k:Nat}{n:Ft}(F:MB K x qual st f fd)(S:bZ N pn (aX st))
  (j:∀{i}{A:d9}{outer}{s:Shared}{H E},gQ k (A.deeper (i3 qual (aX st) s.heap.objs.size f i))->N.Nodup->∀(g:List D)(Q:List D->List D->Prop),n g Q ->
   ∃t,wV (rF iG P w K mg base N qual (aX st) f i A outer s H E).nox (lK st) t/\t { nx:=λ_=>False,rt:=λ_=>False,rp:=Q } (iO N g)) (len:∀g Q,n g Q->g.length=pn.length:=by intro g Q h;(repeat obtain⟨_,h⟩:=h)<;>subst_vars<;>rfl):dI P w K mg base iG (k+1) f fd pn (wE K n):=by
 refine F.ok S (λvs H Q E h=>?_) λi A outer s H vs Q E J h=>?_
 ·obtain⟨m,g,l,_,r,q,_⟩:=h;rw[<- r.length];exact len g l q
 ·obtain⟨m,g,l,live,r,q,k⟩:=h;obtain⟨t,⟨T,p,O⟩,h⟩:=j J S.nd g l q;exact⟨T,p,O H m H m _ _ _ _ (oS live r) h ⟨λ_ _ _ _ _ _ d=>d.elim,λ_ _ _ _ _ _ d=>d.elim,λ_ _ _ _ _ _ d=>d.elim,λ_ _ _ _ _ d=>d.elim,λ_ _ _ _ _ _ _ _ _ d=>d.elim,λu bs r p q U W o R v y z B C G I L M d=>k u bs r p q U W o R v y z B C G I L M d,λ_ _ _ _ _ _ _ _ _ _ _ _ _ _ d=>d.elim,e7⟩⟩
def Nk(t:Hy):ET:=λf Q=>t f λd bs=>Q (.tuple [.list d,.list bs])
def Lj(h:Hz X e t):fK X e (Nk t):=by
 obtain⟨v,p,r⟩:=h;refine⟨_,p,λB y H d u G Q I o h k=>r B y H d u G _ _ o h λJ bs r p q K L w F m g j x n i l C E A=>?_⟩;have f:∀{z:Addr},H z=none->z∉d:=λs=>iQ o.live s;have sub:∀z∈d,z∈p::q::d:=λz s=>aJ _ (aJ _ s);exact k _ _ w F (.tuple (pY.of (kL (f m) n)) (.cons (.list (mL.of (kL (f g) i)) (C.same (eV sub))) (.cons (.list (mL.of (kL (f j) l)) (E.same (eV sub))) .nil))) A
end
end TL
namespace L2
open PySem.SeqAt
section
variable{X:Cx}
theorem uU(ns:List Int):∀k:Nat,preSum (λi=>(ns[i]?).getD 0) k=(ns.take k).sum
|0=>rfl
|k+1=>by
 show preSum _ k+(ns[k]?).getD 0=_;rw[uU ns k,dG,List.sum_append]
 cases ns[k]? with
 |none=>simp
 |some x=>simp
theorem F7:∀ns:List Int,(∀n∈ns,0<=n/\n<2^40)->0<=ns.sum/\ns.sum<=(ns.length:Int)*2^40
|[],_=>by simp
|n::ns,h=>by
 have b:=h n (aN ..);have c:=F7 ns λx a=>h x (aJ _ a);rw[gE,dQ];constructor
 ·lia
 ·have:((ns.length+1:Nat):Int)*2^40=(ns.length:Int)*2^40+2^40:=by rw[mD,TH];rfl
  lia
def xD(P:X.calm=true):lZ X (.builtin "sum") (λN H Q=>∃(p:Addr)(ns:List Int),N=[.ref p]/\mL X.K H p (ns.map V.int)/\(∀n∈ns,0<=n/\n<2^40)/\ns.length<=1000/\Q (.int ns.sum) H):=by
 intro J s σ H N us Q I r h;obtain⟨p,ns,rfl,U,m,B,q⟩:=h;obtain⟨u,rfl,W⟩:=oQ r;cases W;obtain⟨a,M,L,hz⟩:=I.list U;have g:=M.length;rw[aC]at g
 have C:p≠s.heap.objs.size:=by
  obtain⟨o,E,_⟩:=L.isList;exact cL (aY E)
 have c:=L.isList
 have l:p<s.heap.objs.size:=by
  obtain⟨o,E,_⟩:=c;exact aY E
 have w:∀(i:Nat)(v:Value),a.toArray[i]?=some v->∃t,v=.int ((ns[i]?).getD 0) t:=λi v O=>by
  have G:a[i]?=some v:=by simpa using O
  have hi:i<a.length:=(aI.mp G).1;have hb:i<ns.length:=by lia
  obtain⟨w',y,F⟩:=M.get (i:=i) (x:=.int ns[i]) (by rw[aO,aG hb];rfl);rw[G]at y;cases y;rw[aG hb];exact F
 have d:∀k:Nat,0<=(ns.take k).sum/\(ns.take k).sum<2^63:=λk=>by
  have y:=F7 (ns.take k) λn T=>m n (dU T);have F:(ns.take k).length<=1000:=by rw[bN];lia
  have h3:((ns.take k).length:Int)*2^40<=1000*2^40:=Int.mul_le_mul_of_nonneg_right Cw Cv;lia
 refine call_sum_walk (i4 c ?_);refine⟨_,_,_,_,_,_,λi=>(ns[i]?).getD 0,Db,iu (A:=X.A.in1) (I.ok.hd P) _ p C a.toArray,⟨⟨_,aU _ Db,Db,Db⟩,c.push _⟩,λb hb=>?_,w,λj R=>?_,λZ tk Y S=>?_⟩
 ·show b<(s.heap.push _).objs.size;rw[dX];have:b=s.heap.objs.size\/b=p:=by simpa using hb
  rcases this with rfl | rfl
  ·exact mV _
  ·exact sO l
 ·rw[bA]at R;have f:j<ns.length:=by lia
  refine⟨?_,?_⟩
  ·have:=m ns[j] (jO f);show InLong ((ns[j]?).getD 0);rw[aG f];show -(2^63)<=ns[j]/\ns[j]<2^63;lia
  ·rw[uU];have:=d (j+1);show -(2^63)<=_/\_<2^63;lia
 ·refine⟨.int _,H,I.kept λb o e=>S b o ?_ (aD _ e),⟨Y,Db⟩,?_⟩
  ·intro z;have:b=s.heap.objs.size:=by simpa using z
   exact c7 (aY e) (by rw[this];exact eO _)
  ·rw[uU,fS (by rw[bA];lia)];exact q
end
def EO(l:Addr)(a:Array Value) :
  Meets (u4.«enumerate.__new__» ⟨[.type "enumerate",.ref l],[]⟩) (λ_ R s=>s.heap.IsList l a /\
   R (.ok (.ret (.ref (s.heap.push { cls:=.type "list_iterator",data:=.fields #[.ref l,.int 0 0] }).objs.size)))
    { s with heap:=(s.heap.push { cls:=.type "list_iterator",data:=.fields #[.ref l,.int 0 0] }).push { cls:=.type "enumerate",data:=.fields #[.none,.bool false,.ref s.heap.objs.size,r8 0,.none,.none] } }):=
 .of_wp λprog w A R s h=>by
  obtain⟨i,g,d,j,os⟩:=s;obtain⟨f,h⟩:=h;have e:=sub_enumerate;have b:FB (z6 ⟨i,g,d,j,os⟩) l a:=f
  wp_walk
  refine wpAny_stack_any λst=>aZ ?_;split
  ·rename_i c _ _ _ _ _;cases (c==n7 "enumerate")
   ·wp_walk using i4 b
    exact⟨_,Db,h⟩
   ·wp_walk using i4 b
    exact⟨_,Db,h⟩
  ·wp_walk using i4 b
   exact⟨_,Db,h⟩
section
variable{P:cW}{w:f7}{A:d9}{E:Value->Shared->Prop}{s:Shared}
def B5{l:Addr}{Q:Value->Shared->Prop}(e:s.heap.IsList l items)
  (h:∀a,IsEnum a (s.heap.objs.size+1) s.heap.objs.size 0 .none->a.IsListIter s.heap.objs.size l 0->a.objs.size=s.heap.objs.size+2 ->
   (∀b o,s.heap.get? b=some o->a.get? b=some o)->Q (.ref (s.heap.objs.size+1)) { s with heap:=a }) :
  wpAny (model P w) A (call (.type "enumerate") [.ref l]) Q E s:=by
 refine jv F.called_enumerate Cv (F.typeCall_enumerate_1 _) (F.newCall_enumerate_1 _) (λobj=>F.args_object_init_2 obj _) F.entry_enumerate_new
  (EO l items) ⟨e,?_⟩
 have c:(s.heap.push { cls:=.type "list_iterator",data:=.fields #[.ref l,.int 0 0] }).objs.size=s.heap.objs.size+1:=dX ..;show _/\_;rw[c]
 have d:IsEnum ((s.heap.push { cls:=.type "list_iterator",data:=.fields #[.ref l,.int 0 0] }).push
   { cls:=.type "enumerate",data:=.fields #[.none,.bool false,.ref s.heap.objs.size,r8 0,.none,.none] }) (s.heap.objs.size+1) s.heap.objs.size 0 .none:=by
  have:=aU (s.heap.push { cls:=.type "list_iterator",data:=.fields #[.ref l,.int 0 0] })
   (o:={ cls:=.type "enumerate",data:=.fields #[.none,.bool false,.ref s.heap.objs.size,r8 0,.none,.none] }) Db
  rw[c]at this;exact this
 exact⟨⟨_,d,Db⟩,h _ d ⟨_,aD _ (aU _ Db),Db,Db⟩ (by rw[dX,c]) λb o x=>aD _ (aD _ x)⟩
end
noncomputable def Mq(K:aF)(a:Addr):It:=
 ⟨λi H=>∃b x,mL K H a b/\b[i]?=some x,
  λi H v c=>∃p x,H p=none/\v=.ref p/\c=eM H p (.tup [.int (i:Int),x])/\∀b,mL K H a b->b[i]?=some x,
  λi H=>∃b,mL K H a b/\b.length<=i⟩
def Q0{K}{x1:Nat}{e it l:Addr}(yd:e≠it) :
  L3 P w K (.Tuple y7 x1 pos) (Mq K l) [e,it] e (λi h=>(∃old,IsEnum h e it (i:Int) old)/\h.IsListIter it l i) where
 mem:=by simp
 obj:=λi h st b hb=>by
  obtain⟨⟨old,he⟩,rk⟩:=st;simp only[aK,bR,e9]at hb;rcases hb with rfl | rfl
  ·exact⟨_,he,λv q=>by cases q⟩
  ·obtain⟨o,e,c,d⟩:=rk;exact⟨o,e,λv z=>by rw[d]at z;cases z⟩
 keep:=λi h h' st k=>by
  obtain⟨⟨old,he⟩,rk⟩:=st;exact⟨⟨old,k e Cy _ he⟩,rk.at λo x=>k it Cy o x⟩
 item:=by
  intro X hP hw hK hc i pins s σ H E I hf st hg;subst hP hw hK;obtain⟨⟨old,he⟩,rk⟩:=st;obtain⟨xs,x,hq,hx⟩:=hg;obtain⟨bc,rv,p,hz⟩:=I.list hq;obtain⟨u,hu,ru⟩:=rv.get hx;refine wpAny_pyNext_enum_item he rk p.isList (x:=u) (by simpa using hu) yd λh' a1 a2 a3 a4 a5=>⟨_,Db,?_⟩;refine wpAny_letOwnedTupleGo_enum (s:={ s with heap:=h',toks:=s.toks+1 }) a1 λh2 b1 sb=>?_;have uz:e<s.heap.objs.size:=aY he
  have kk:∀c o,c∉[e,it]->s.heap.get? c=some o->h2.get? c=some o:=λc o ak x=>by
   simp only[aK,bR,e9,not_or]at ak;exact sb.extBut _ _ ak.1 (a5 c o ak.1 ak.2 x)
  have hT:=sb.extBut _ _ (hU uz) a3;have I1:cU X pins σ (eM H s.heap.objs.size (.tup [.int (i:Int),x])) { s with heap:=h2,toks:=s.toks+1 }:=I.turnedNew (t':=s.toks+1) hf kk (aM _) ⟨(by show 2<=bG;decide),[.int i s.toks,u],.cons ⟨_,Db⟩ (.cons ru .nil),⟨_,hT,Db,_,Db,Db⟩⟩;refine⟨.ref s.heap.objs.size,_,I1,Db,⟨_,x,I.hok.fresh (aM _),Db,Db,λys hy=>by rw[I.list_inj hy hq];exact hx⟩,?_,λc ak=>?_⟩
  ·exact⟨⟨_,by rw[mD];exact b1⟩,a2.at λo x=>sb.extBut _ _ (i6 yd) x⟩
  ·have eg:c≠s.heap.objs.size:=by
    simp only[aK,bR,e9]at ak;rcases ak with rfl | rfl
    ·exact cL uz
    ·obtain⟨o,z,_⟩:=rk;exact cL (aY z)
   rw[bV eg];exact(hf c ak).1
 done:=by
  intro X hP hw hK hc i pins s σ H E I hf st hg;subst hP hw hK;obtain⟨⟨old,he⟩,rk⟩:=st;obtain⟨xs,hq,hx⟩:=hg;obtain⟨bc,rv,p,hz⟩:=I.list hq;have hl:=rv.length;refine wpAny_pyNext_enum_end (I.ok.hd hc) he rk p.isList (by simp;lia) λh' eb=>⟨Db,I.turnedL (t':=s.toks) hf λc o ak x=>?_⟩;simp only[aK,bR,e9,not_or]at ak;exact eb c o ak.2 x
 self:=λA i s Q E st h=>by
  obtain⟨⟨old,he⟩,_⟩:=st;exact ud he h
def E2:e4 "enumerate"=some (.type "enumerate"):=by decide +kernel
def Lm(K:aF)(b:TA):TI:=λd H R=>b d H λvs a=>∃l c,vs=[.ref l]/\mL K a l c/\R (Mq K l) a
section
variable{X:Cx}
def aBe{G:Nat}(o:Gl X "enumerate")(u:X.mg "enumerate"=none)(n:PA X [a] ta)(w:bI [a] X.env=[(false,eval a X.env)]:=by rfl) :
  PI X (.Tuple y7 G tpos) (.Call (.Name "enumerate" p) [a] [] pos) (Lm X.K ta):=by
 intro d s L H R I h;refine Call_ (uZ I o u E2 (i7 (jG (n pos d s L H _ I h) λM b J=>?_) (by rw[w];rfl) (by rfl)));obtain⟨vs,k,f,B,A⟩:=J;obtain⟨l,N,rfl,v,q⟩:=A
 cases B with
 |cons r C=>
  cases C;cases r;obtain⟨F,E,z,y⟩:=f.list v;refine B5 z.isList λm j g x t=>ud (s:={ b with heap:=m }) j ?_;refine⟨_,[b.heap.objs.size+1,b.heap.objs.size],_,_,k,Db,f.kept (t':=b.toks) t,Q0 (e:=b.heap.objs.size+1) (it:=b.heap.objs.size) (l:=l) (Nat.succ_ne_self _),⟨⟨_,j⟩,g⟩,λc i=>?_,q⟩;simp only[aK,bR,e9]at i;have le:b.heap.objs.size<=c:=by rcases i with rfl | rfl<;>first | exact aM _ | exact uH _ _
  exact f.fpOk le (f.hok.fresh le)
end
end L2
namespace TL
open L2 PySem.SeqAt
variable{K:aF}
def Gv(K:aF)(a:Addr)(c:List Str):Prop:=∃(o:Obj)(b:Array Value)(n:Nat),K.lookup a=some o/\o.cls=.type "tuple"/\o.dict=none/\o.data=.seq b n/\b.size<=bG/\eW (c.map V.str) b.toList
theorem DL:∀a:List Str,Reps K H (a.map aR) (a.map V.str)
|[]=>.nil
|y::a=>.cons (.str y) (DL a)
noncomputable def BM(a:List D):List D:=qJ (eI a.length) a
def sA(a:List D):(BM a).length=a.length:=by unfold BM;rw[mQ];unfold eI;simp
def A3{i:Nat}(h:as[i]?=some a):(BM as)[i]?=some (.tuple [.int (i:Int),a]):=by
 have b:=(aI.mp h).1;unfold BM qJ eI;rw[aO,(fW (z:=(bM (i:Int),a))).mpr ⟨by rw[aO,kZ b];rfl,h⟩];rfl
def Wr(t:AT):IT:=λc Q=>t c λb=>∃a,b=[.list a]/\Q (BM a)
section
variable{X:Cx}{a b e:Expr}{w:List Expr}{c C g:ET}{pos:Pos}
def Zq{x:Str}{p:Addr}{d:List Str}{pos}(f:Gl X x)(j:X.mg x=some (.ref p))(i:Gv X.K p d)(hd:(x==("__debug__":Str))=false:=by decide):fK X (.Name x pos) (eC (.tuple (d.map aR))):=
 ⟨_,lX (v:=.ref p) f j Db hd,λ_ _ H _ _ _ _ _ _ h k=>k _ _ H (L2.aV.refl H) (.tuple (.inr i) (DL d)) h⟩
def aB5{m:Nat}(v:yM X [a] t)(I:∀{c},PA X [a] c->PI X (.Tuple y7 m tpos) (.Call (.Name "enumerate" p) [a] [] p') (Lm X.K c)):L9 X (.Tuple y7 m tpos) (.Call (.Name "enumerate" p) [a] [] p') (Wr t):=by
 obtain⟨W,E,M⟩:=v;refine⟨_,I E,λB A H F j P Q R o h k=>M B A H F j P _ _ o h λU Y n N f J=>?_⟩;obtain⟨T,rfl,q⟩:=J
 cases f with
 |cons f L=>
  cases L
  cases f with
  |@list p1 us _ hq1 rs1=>
   have n1:=rs1.length;refine⟨p1,us,Db,L2.aV.seq bO hq1,k _ _ n N ⟨λi H e d=>?_,λi H e d=>?_,λi H G y S live e d z=>?_⟩ q⟩
   ·rw[sA]at d;exact⟨us,L2.aV.seq e hq1,Cw⟩
   ·rw[sA]at d;exact⟨us,us[i],L2.aV.seq e hq1,aG Cw⟩
   ·obtain⟨p,x,l,rfl,rfl,u⟩:=z;obtain⟨r,s,O⟩:=rs1.get' (u us (L2.aV.seq (e.trans bO) hq1));exact⟨dB l,.tuple [.int (i:Int),r],A3 s,qP live l (.cons (.int _) (.cons (O.same e) .nil))⟩
def Je(d:D)(Q:D->Prop):Prop:=∃ns:List Int,d=.list (ns.map bM)/\(∀n∈ns,0<=n/\n<2^40)/\ns.length<=1000/\Q (.int ns.sum)
def Lf:vK X (λj H Q=>∃(p:Addr)(ns:List Int),j=[.ref p]/\mL X.K H p (ns.map V.int)/\(∀n∈ns,0<=n/\n<2^40)/\ns.length<=1000/\Q (.int ns.sum) H) (f1 Je):=c1 λH m d x Q l live r h k=>by
 obtain⟨ns,rfl,i,f,h⟩:=h
 cases r with
 |list q s=>
  have e:=vX s;subst e;exact⟨_,ns,Db,L2.aV.seq bO q,i,f,k _ _ H (L2.aV.refl H) (.int _) h⟩
def HN(K:aF):V->List V->Hp->VK->Prop:=λx h H Q=>∃(y:V)(f:List D)(d:D)(j:Nat),h=[y]/\fR K H (.list f) x/\fR K H d y/\RN f d j/\j<1000000/\Q (.int j) H
def NJ(U:X.A.units+200<v7):S6 X "list.index" (HN X.K):=by
 intro M s σ H x xs v us Q I rx rv h;obtain⟨y,i,d,j,rfl,Z,r2,⟨c1,E,p,⟨t,L,R⟩,z⟩,S,q⟩:=h;obtain⟨u,rfl,ru⟩:=rv.one;obtain⟨as,O⟩:=fR.reads I (show(MC i).hasDict=false from noDictAll c1) Z rx;obtain⟨bs,P⟩:=fR.reads I (oF E) r2 ru
 cases O with
 |@list l o items n _ as' h3 h4 h5 h6=>
  have f:=km i items.toList _ c1 h6;have J:items.size=i.length:=by rw[<- f,aC,fB]
  have T:j<i.length:=(aI.mp L).1;have G:j<items.size:=by lia
  have N:∀(m:Nat)(p:m<items.size),i[m]?=some (kl s.heap items[m]):=λm p=>by
   rw[<- f,aO];simp[p]
  obtain⟨oc,W,Y,B⟩:=o;cases h4;cases h5;refine ah F.slot_list_index ⟨_,h3,Db⟩ F.entry_list_index (F.args_list_index_2 _ _) (list_indexAt _ items _ W B u (λy=>bK (kl s.heap y) d) j G Cw ?_ ?_) ⟨h3,sh h6 P c1 E (by have:=U;lia),?_⟩
  ·have:=N j G;rw[L]at this;rw[<- c8 this];exact R
  ·intro m r k;exact z m _ k (N m r)
  ·exact⟨.int j,H,I.tok _,⟨_,Db⟩,q⟩
def wD{k:Nat}(d:gQ k X.A):S6 X "list.index" (HN X.K):=NJ (by have:=d.un;lia)
def CY(g:ET)(t:AT):ET:=λh Q=>g h λd=>∃f,d=.list f/\t h λi=>∃(x:D)(j:Nat),i=[x]/\RN f x j/\j<1000000/\Q (.int j)
def wK(F:fK X n g)(A:yM X (e::w) t)
  (I:∀{v c},PE X n v->PA X (e::w) c->PE X (.Call (.Attribute n "index" ap) (e::w) [] pos) (Q3 X.K "list" (HN X.K) v c)):fK X (.Call (.Attribute n "index" ap) (e::w) [] pos) (CY g t):=by
 obtain⟨v,J,S⟩:=F;obtain⟨Y,G,R⟩:=A;refine⟨_,I J G,λB l H m f u Q U o h k=>S B l H m f u _ _ o h λd x y r M i=>?_⟩;obtain⟨T,rfl,i⟩:=i
 cases M with
 |@list p xs _ hq rs=>
  refine⟨.inl ⟨Db,_,L2.aV.seq bO hq⟩,R B l y m f u _ _ (o.grow r) i λW Z z s N L=>?_⟩;obtain⟨d,j,rfl,hok,E,q⟩:=L
  cases N with
  |cons O P=>
   cases P;exact⟨_,T,d,j,Db,(fR.list hq rs).same ((bH s).trans bO),O.same bO,hok,E,k _ _ z (r.trans s) (.int _) q⟩
def I3(f:List D)(d:D):Prop:=eK f=true/\d.canLay0=true/\min (eQ f) d.depth<=60
def HP(K:aF):V->List V->Hp->VK->Prop:=λx h H Q=>∃(y:V)(f:List D)(d:D),h=[y]/\fR K H (.list f) x/\fR K H d y/\I3 f d/\Q (.int ((f.countP λt=>bK t d:Nat):Int)) H
def NK(z:X.A.units+200<v7):S6 X "list.count" (HP X.K):=by
 intro m s U H x T v S Q I N M h;obtain⟨y,j,d,rfl,G,J,⟨c1,k,P⟩,q⟩:=h;obtain⟨u,rfl,L⟩:=M.one;obtain⟨O,p⟩:=fR.reads I (show(MC j).hasDict=false from noDictAll c1) G N;obtain⟨bs,r⟩:=fR.reads I (oF k) J L
 cases p with
 |@list l o items n _ as' h3 h4 h5 h6=>
  have f:=km j items.toList _ c1 h6;obtain⟨R,B,E,i⟩:=o;cases h4;cases h5;refine ah F.slot_list_count ⟨_,h3,Db⟩ F.entry_list_count (F.args_list_count_2 _ _) (list_countAt _ items _ B i u (λy=>bK (kl s.heap y) d)) ⟨h3,sh h6 r c1 k (by have:=z;lia),?_⟩;refine⟨.int _,H,I.tok _,⟨_,Db⟩,?_⟩
  have e:(items.toList.countP λy=>bK (kl s.heap y) d)=j.countP λt=>bK t d:=by
   rw[<- f,aDh];rfl
  rw[e];exact q
def RW{k:Nat}(d:gQ k X.A):S6 X "list.count" (HP X.K):=NK (by have:=d.un;lia)
def Zm(g:ET)(t:AT):ET:=λh Q=>g h λd=>∃f,d=.list f/\t h λi=>∃x:D,i=[x]/\I3 f x/\Q (.int ((f.countP λt=>bK t x:Nat):Int))
def SG(A:fK X n g)(z:yM X (e::w) t)
  (F:∀{v c},PE X n v->PA X (e::w) c->PE X (.Call (.Attribute n "count" ap) (e::w) [] pos) (Q3 X.K "list" (HP X.K) v c)):fK X (.Call (.Attribute n "count" ap) (e::w) [] pos) (Zm g t):=by
 obtain⟨v,G,P⟩:=A;obtain⟨U,E,O⟩:=z;refine⟨_,F G E,λB j H l f s Q S o h k=>P B j H l f s _ _ o h λd x u m J i=>?_⟩;obtain⟨R,rfl,i⟩:=i
 cases J with
 |@list p xs _ hq rs=>
  refine⟨.inl ⟨Db,_,L2.aV.seq bO hq⟩,O B j u l f s _ _ (o.grow m) i λT W y r L I=>?_⟩;obtain⟨d,rfl,hok,q⟩:=I
  cases L with
  |cons M N=>
   cases N;exact⟨_,R,d,Db,(fR.list hq rs).same ((bH r).trans bO),M.same bO,hok,k _ _ y (m.trans r) (.int _) q⟩
def Zf(g:ET):vF:=λh Q=>g h λd=>∃f,d=.list f/\Q (!f.isEmpty)
def Q1(h:fK X e g)(pt:∀{t},PE X e t->PT X e (λf H Q=>t f H λx j=>∃k,Gy X.K x j k/\Q k j)):FO X e (Zf g):=by
 obtain⟨v,p,r⟩:=h;refine⟨_,pt p,λB s H u i f Q E o h k=>r B s H u i f _ _ o h λd x m A z y=>?_⟩;obtain⟨l,rfl,q⟩:=y
 cases z with
 |@list p xs _ hq rs=>
  have n:=rs.length;refine⟨!xs.isEmpty,.inl ⟨xs,L2.aV.seq bO hq,Db⟩,?_⟩
  have:(!xs.isEmpty)=(!l.isEmpty):=by
   cases xs<;>cases l<;>first | rfl | (simp at n)
  rw[this];exact k _ m A q
def RF(c C:FT):yL:=λf d=>c d λh=>C d λbs=>f.rp h bs
def JZ{c C}(I:JM X n c)(Y:JM X m C)(Z:bI [n,m] X.env=(false,eval n X.env)::bI [m] X.env:=by rfl)(M:bI [m] X.env=(false,eval m X.env)::bI [] X.env:=by rfl):C4 X (.Return (some (.Tuple [n,m] x1 p2)) pos) (RF c C):=by
 obtain⟨va,pa,ra⟩:=I;obtain⟨vb,pb,rb⟩:=Y;refine⟨_,AQ (DS (cI pa (cI pb gM M) Z)),λB l H s j R DT DV o h f=>?_⟩;refine ra B l H s j R _ _ o h λU p T t x S v rs q1=>?_
 have o1:Ok X.K B l t (p::s) j R:=by
  have o2:=o.grow (sS x S);have I:without t p p=none:=by unfold without;rw[a9 rfl]
  have o3:=o2.adopt (u:=.lst T) I
  rwa [BE v]at o3
 refine rb B l t (p::s) j R _ _ o1 q1 λbs q ys A y L N Q q2=>?_;refine⟨aA Db,λr k=>?_⟩;have i:=y _ _ v;have J:p≠q:=λz=>by rw[z,L]at v;cases v
 have O:p≠r:=λz=>by rw[z,k]at i;cases i
 have P:q≠r:=λz=>by rw[z,k]at N;cases N
 have W:∀{z:Addr},H z=none->B z=none:=λhz=>aV.free' o.base hz;have live:∀z∈l,BA (H z):=λz hz=>o.live z (o.sub z hz)
 have m1:aV (mask t (p::s)) (mask (eM A r (.tup [.ref p,.ref q])) (p::q::l)):=λb u hb=>by
  unfold mask at hb |-
  by_cases d:b∈p::s
  ·rw[a9 d]at hb;cases hb
  ·rw[a8 d]at hb;have E:=y _ _ hb;have G:b≠r:=λz=>by rw[z,k]at E;cases E
   have F:b≠q:=λz=>by rw[z,L]at hb;cases hb
   rw[a8,bV G]
   ·exact E
   ·intro z;rcases aK.mp z with z | z
    ·exact d (z▸aN ..)
    ·rcases aK.mp z with z | z
     ·exact F z
     ·exact d (aJ _ (o.sub b z))
 have m2:aV (mask A (q::p::s)) (mask (eM A r (.tup [.ref p,.ref q])) (p::q::l)):=(bH (dB k)).trans (eV λz hz=>by
  rcases aK.mp hz with rfl | hz
  ·exact aJ _ (aN ..)
  ·rcases aK.mp hz with rfl | hz
   ·exact aN ..
   ·exact aJ _ (aJ _ (o.sub z hz)))
 exact f.rp U bs r p q T ys _ (o.base.trans (x.trans (y.trans (dB k)))) (aV.free' (o.base.trans (x.trans y)) k) (W S) (aV.free' (o.base.trans x) L) J bQ (by rw[bV O];exact i) (by rw[bV P];exact N) (rs.same m1) (Q.same m2) q2
end
end TL
namespace TL
def YV:e4 "sum"=some (.builtin "sum"):=by decide +kernel
open L2
section
variable{d:List (Option Nat)}{j:IT}{g:vF}{i:ET}{c:List Sl}{Q:D->Prop}{ts:List D}
def XE(o:tU j c ts)(p:D->Bool)(f:D->D)(z:ts.length<=100000)(t:∀x∈ts,∃a b,x=.tuple [a,b])
  (u:∀(a b:D)(q:Bool->Prop),.tuple [a,b]∈ts->q (p (.tuple [a,b]))->g (((jS d c).set 0 (.val a)).set 1 (.val b)) q)
  (w:∀(a b:D)(q:D->Prop),.tuple [a,b]∈ts->q (f (.tuple [a,b]))->i (((jS d c).set 0 (.val a)).set 1 (.val b)) q) (v:Q (.list ((ts.filter p).map f))):QC d j (gP 0 1) g i c Q:=by
 refine o _ ⟨z,λk l m=>(∀x y,(l.set 0 (.val x)).set 1 (.val y)=((jS d c).set 0 (.val x)).set 1 (.val y))/\m=((ts.take k).filter p).map f,⟨λ_ _=>rfl,Db⟩,λk x l m r h=>?_,λl m h=>?_⟩
 ·obtain⟨s,rfl⟩:=h;have n:x∈ts:=bB r;obtain⟨a,b,rfl⟩:=t x n;refine⟨a,b,Db,?_⟩;show g ((l.set 0 (.val a)).set 1 (.val b)) _;rw[s a b];refine u a b _ n ?_;have e:ts.take (k+1)=ts.take k++[.tuple [a,b]]:=by rw[dG,r];rfl
  cases hb:p (.tuple [a,b])with
  |true=>
   rw[a9 rfl];refine w a b _ n ⟨λx y=>AN _ _ _ _ _,?_⟩;rw[e,jQ,cX];simp[hb]
  |false=>
   rw[a8 Cv];refine⟨λx y=>AN _ _ _ _ _,?_⟩;rw[e,jQ,cX];simp[hb]
 ·obtain⟨_,rfl⟩:=h;rw[eU];exact v
end
section
variable{X:Cx}
def rQ:C4 X s (λ_ _=>False):=⟨λ_ _ _=>False,λ_ _ _ _ _ _ h=>h.elim,λ_ _ _ _ _ _ _ _ _ h _=>h.elim⟩
end
end TL
namespace L2
open PySem.Builtin
section
theorem PK:∀{ns:List Int}{us},IntsAre us ns->eW (ns.map V.int) us
|_,_,.nil=>.nil
|_,_,.cons n t r=>.cons ⟨t,Db⟩ (PK r)
end
end L2
namespace TL
open L2
section
def sC:e4 "sorted"=some (.builtin "sorted"):=by decide +kernel
end
end TL
namespace L2
def L5(K:aF)(cd:Value):Prop:=∃c P,cd=.ref c/\tabA=some P/\BC K c P=true
def MB.okC{K}{mg:Str->Option Value}{x st}{f:Addr}{c:iF}{N g:List Str}{k:Nat}{i:Sp}(F:MB K x qual st f c)(S:bZ N g (aX st))(len:∀vs H Q E,i vs H Q E->vs.length=g.length)
  (b:∀(a:Value),c.code=a->∀(A:d9)outer(s:Shared)H(vs:List V)Q E,gQ k (A.deeper (i3 qual (aX st) s.heap.objs.size f a))->i vs H Q E ->
   ∃t,A9 (rF iG P w K mg base N qual (aX st) f a A outer s H E).nox (lK st) t/\t { nx:=λ_ j=>Q .non j,rt:=Q } (mE N vs) H):dI P w K mg base iG (k+1) f c g i:=by
 obtain⟨p,r,kV,l,u,an,a,ct,o,rfl,n,d⟩:=F.ex;refine X5 n d S len λA outer s H vs Q E m e=>?_;obtain⟨t,h,q⟩:=b a Db A outer s H vs Q E m e;exact⟨t,h.nox,q⟩
end L2
namespace TL
open L2
def Nc{K}{mg:Str->Option Value}{x st}{f:Addr}{g:iF}{N pn:List Str}{k:Nat}{l:QM}(L:L5 K g.code)(F:MB K x qual st f g)(S:bZ N pn (aX st))(len:∀c Q,l c Q->c.length=pn.length)
  (d:∀(b:Value),L5 K b->∀(A:d9)outer(s:Shared)H E,gQ k (A.deeper (i3 qual (aX st) s.heap.objs.size f b))->∀(c:List D)(Q:List D->Prop),l c Q ->
   ∃t,wV (rF iG P w K mg base N qual (aX st) f b A outer s H E).nox (lK st) t/\t { nx:=λ_=>False,rt:=λ_=>False,ro:=Q } (iO N c)):dI P w K mg base iG (k+1) f g pn (iH K l):=by
 refine F.okC S (λvs H Q E h=>?_) λb i A outer s H vs Q E u h=>?_
 ·obtain⟨j,c,e,_,r,q,_⟩:=h;rw[<- r.length];exact len c e q
 ·obtain⟨j,c,e,live,r,q,k⟩:=h;obtain⟨t,⟨m,p,y⟩,h⟩:=d b (i▸L) A outer s H E u c e q;exact⟨m,p,y H j H j _ _ _ _ (oS live r) h ⟨λ_ _ _ _ _ _ a=>a.elim,λ_ _ _ _ _ _ a=>a.elim,λ_ _ _ _ _ _ a=>a.elim,λ_ _ _ _ _ a=>a.elim,λm p B n z o C v rs a=>k m p B n z o v rs a,λ_ _ _ _ _ _ _ _ _ _ _ _ _ _ _ _ _ _ a=>a.elim,λ_ _ _ _ _ _ _ _ _ _ _ _ _ _ a=>a.elim,e7⟩⟩
def Gu(b:Int)(e:D)(k:Int):Prop:=∃(q st:D)(top bot:Int),e=.tuple [q,st,.tuple [.int top,.int bot]]/\Gq b bot/\OE top (b / bot)/\k=top*(b / bot)
def Gu.rep{K}{b k:Int}{x}(h:Gu b e k)(r:fR K H e x):FQ K H b x k:=by
 obtain⟨q,st,top,bot,rfl,d,f,g⟩:=h
 cases r with
 |tuple m a=>
  cases a with
  |cons o a=>
   cases a with
   |cons p a=>
    cases a with
    |cons i a=>
     cases a
     cases i with
     |tuple n c=>
      cases c with
      |cons j c=>
       cases c with
       |cons l c=>
        cases c;cases j;cases l;exact⟨_,_,_,_,top,bot,Db,m,n,d,f,g⟩
theorem FQ.mask{K}{b k:Int}{x}(h:FQ K (TL.mask H ps) b x k):FQ K H b x k:=h.same λ_ _ e=>bO _ _ e
def Xr(ib:Nat)(t:AT):FT:=λd Q=>t d λf=>∃(a:List D)(b:Int)(c:List Int),f=[.list a]/\a.length<64/\d[ib]?=some (.val (.int b))/\c.length=a.length/\(∀(i:Nat) e k,a[i]?=some e->c[i]?=some k->Gu b e k) /\
 ∀J:List Nat,SS.JK a.length (λi=>c.getD i 0) J->Q (J.map λi=>a.getD i .none)
def X3{X:Cx}{ib:Nat}{k:Nat}(g:gQ (k+3) X.A)(L:L5 X.K ee)(hc:X.env.code=ee)(n:X.N[ib]?=some "bottom")(hk:X.env.kindOf "bottom"=some .cell)
  (hg:Gl X "sorted") (hm:X.mg "sorted"=none) (hv:e4 "sorted"=some (.builtin "sorted")) (ha:yM X [e] t)
  (he:i9 pos (bI [e] X.env)=(false,eval e X.env)::i9 pos (bI [] X.env):=by rfl)
  (y:(i9 pos (bI [e] X.env)).any (·.1)=false:=by rfl) :
  JM X (.Call (.Name "sorted" np) [e] [⟨some (d7 "key"),.Lambda (Ki ap) (.BinOp (.Subscript (.Subscript (.Name "entry" p1) (.Constant (.int 2) 0 p2) p3) (.Constant (.int 0) 0 p4) p5) .Mult (.BinOp (.Name "bottom" p6) .FloorDiv (.Subscript (.Subscript (.Name "entry" p7) (.Constant (.int 2) 0 p8) p9) (.Constant (.int 1) 0 F) q2) q3) q4) zO lp,kp⟩] pos) (Xr ib t):=by
 obtain⟨c,P,rfl,Z,Y⟩:=L;obtain⟨ta,pa,ra⟩:=ha;refine⟨_,WC g Z hc Y n hk hg hm hv pa he y,λB p0 H E M σ Q QV o h k=>ra B p0 H E M σ _ _ o h λds vs H1 s1 G F=>?_⟩;obtain⟨l,b,kz,rfl,a,hb,s,f,q⟩:=F;obtain⟨v,z,C⟩:=o.val ib _ hb;cases C
 cases G with
 |cons G r2=>
  cases r2
  cases G with
  |@list pp xv _ hs rs=>
   have w:=rs.length;refine⟨_,_,b,kz,Db,L2.aV.seq bO hs,by rw[<- w];exact a,z,by rw[s,w],λi x k0 hx p=>?_,λm T J r sb g=>?_⟩
   ·obtain⟨d,hd,rd⟩:=rs.get' hx;exact FQ.mask ((f i d k0 hd p).rep rd)
   ·rw[<- w]at sb;have S:aV H m:=s1.trans T;refine k _ r _ _ (S.trans (dB g)) (aV.free' S g) bQ ?_ (q J sb);rw[mS g];have I:Reps X.K (TL.mask m E) l _:=rs.same (bH T)
    have:∀J:List Nat,(∀i∈J,i<l.length)->Reps X.K (TL.mask m E) (J.map λi=>l.getD i .none) (J.map λi=>xv.getD i .non):=by
     intro J O
     induction J with
     |nil=>exact .nil
     |cons j J ih=>
      refine .cons ?_ (ih λi hi=>O i (aJ _ hi));have R:=O j (aN ..);obtain⟨u,U,W⟩:=I.get (aG R);show fR _ _ (l.getD j .none) (xv.getD j .non);rw[dH,dH,U,aG R];exact W
    exact this J sb.lt
end TL
namespace L2
noncomputable def Qp(K:aF)(cd:Value)(P:Addr):Bool:=match cd with | .ref c=>BC K c P | _=>false
def Xf{K cd}{P:Addr}(h:Qp K cd P=true)(e:tabA=some P):L5 K cd:=by
 cases cd with
 |ref c=>exact⟨c,P,Db,e,h⟩
 |_=>cases h
def aF7{h:Heap}{c P:Addr}(C:Y6 h c P)(e:h.get? P=some { cls:=.none,data:=.fields #[] }):bf h P:=(C.tab e).isCodeTable
section
variable{X:Cx}{d:List (Addr×Obj)}{f:St}{H:Hp}{s:Shared}{p q:Addr}
def UN(h:H p=some u):eM H p u=H:=by
 funext b;by_cases e:b=p
 ·subst e;rw[bQ,h]
 ·rw[bV e]
def JU:∀g h:Heap,TL.sV p q g->(∀o,g.get? p=some o->h.get? p=some o)->TL.sV p q h:=λg h ⟨a,b,c,i,j,l,n,e,r⟩ k=>⟨a,b,c,i,j,l,n,k _ e,r⟩
noncomputable def yW(q:Addr)(a b c:Int):HO:=.lst [.ref q,.int a,.int b,.int c]
def cU.openTape(I:cU X d f H s)(h:H p=some (.ext (TL.sV p q))):∃a b c:Int,0<=a/\(c=0\/c=1)/\cU X d f (eM H p (yW q a b c)) s:=by
 obtain⟨⟨a,b,c,j,k,l,n,e,g,i⟩,_⟩:=I.hok p _ h;exact⟨a,b,c,g,i,I.retold h (λr z=>by cases z) (λo v z=>by cases z) (λm z=>by cases z) (λa z=>by cases z) ⟨aA Db,_,n,.cons Db (.cons ⟨j,Db⟩ (.cons ⟨k,Db⟩ (.cons ⟨l,Db⟩ .nil))),e⟩⟩
def cU.closeTape{a b c:Int}(I:cU X d f H s)(h:H p=some (yW q a b c))(g:0<=a)(i:c=0\/c=1):cU X d f (eM H p (.ext (TL.sV p q))) s:=by
 obtain⟨z,j,n,r,e⟩:=I.hok p _ h
 cases r with
 |cons k r=>cases r with
  |cons l r=>cases r with
   |cons m r=>cases r with
    |cons t r=>
     cases r;cases k;obtain⟨u,rfl⟩:=l;obtain⟨w,rfl⟩:=m;obtain⟨x,rfl⟩:=t;exact I.retold h (λA z=>by cases z) (λo v z=>by cases z) (λy z=>by cases z) (λa z=>by cases z) ⟨⟨a,b,c,u,w,x,n,e,g,i⟩,⟨_,e⟩,JU⟩
def aBg(i:Nat)(h:PE X e te):PE X e (λf H Q=>∃p q:Addr,f[i]?=some (some (.ref p))/\H p=some (.ext (TL.sV p q))/\∀a b c:Int,0<=a->(c=0\/c=1) ->
  te f (eM H p (yW q a b c)) λv g=>g=eM H p (yW q a b c)/\Q v H):=by
 intro d s f H Q I ⟨p,q,_,m,t⟩;obtain⟨a,b,c,k,l,o⟩:=I.openTape m;refine jG (h d s f _ _ o (t a b c k l)) λu y x=>?_;obtain⟨v,g,n,r,e,w⟩:=x;subst e;have j:=n.closeTape bQ k l;rw[CH,UN m]at j;exact⟨v,H,j,r,w⟩
def aBf(i:Nat)(h:PG X tg g):PG X tg (λv f H Q=>∃p q:Addr,f[i]?=some (some (.ref p))/\H p=some (.ext (TL.sV p q))/\∀a b c:Int,0<=a->(c=0\/c=1) ->
  g v f (eM H p (yW q a b c)) λj m=>(∃a b c:Int,0<=a/\(c=0\/c=1)/\m=eM H p (yW q a b c))/\Q j H):=by
 intro d s f H v u Q I y ⟨p,q,_,o,w⟩;obtain⟨a,b,c,k,l,t⟩:=I.openTape o;refine jG (h d s f _ v u _ t y (w a b c k l)) λ_ A z=>?_;obtain⟨j,m,r,⟨a,b,c,k,l,e⟩,x⟩:=z;subst e;have n:=r.closeTape bQ k l;rw[CH,UN o]at n;exact⟨j,H,n,x⟩
def RI(h:PE X e te):PE X e (λf H Q=>te f H λv g=>∃(p q:Addr)(a b c:Int),v=.ref p/\g p=some (yW q a b c)/\0<=a/\(c=0\/c=1)/\Q (.ref p) (eM g p (.ext (TL.sV p q)))):=by
 intro d s f H Q I l;refine jG (h d s f H _ I l) λu o n=>?_;obtain⟨v,g,i,r,q⟩:=n;obtain⟨p,q,a,b,c,rfl,e,j,k,m⟩:=q;exact⟨.ref p,_,i.closeTape e j k,r,m⟩
end
end L2
namespace TL
open L2
section
variable{X:Cx}{a b c e:Expr}{j:ET}{pos:Pos}
noncomputable def iU(ns:List Int):D:=.dict [(.none,.list (ns.map bM))]
def KD{K}{H:Hp}{ns:List Int}(r:fR K H (iU ns) v):∃p q:Addr,v=.ref p/\H p=some (.ext (sV p q))/\mL K H q (ns.map V.int):=by
 unfold iU at r
 generalize f:(pD [(.none,.list (ns.map bM))])=d at r
 cases r with
 |@tape p q ms h g=>
  injection f with f;injection f with f;injection f with _ f;injection f with f
  have e:ns=ms:=by
   have:=h9 (aSi λd:D=>match d with | .int i=>i | _=>0) f;simpa[bD,Function.comp_def]using this
  subst e;exact⟨p,q,Db,h,g⟩
 |_=>cases f
def Qg(i k:Nat):ET:=λd Q=>∃ns,d[i]?=some (.val (iU ns))/\match k with
|0=>Q (.list (ns.map bM))
|1=>∀a:Int,0<=a->Q (.int a)
|2=>∀b:Int,Q (.int b)
|3=>∀c:Int,(c=0\/c=1)->Q (.int c)
|_=>False
def zZ{i:Nat}(k:Nat)(w:PE X (.Subscript n ix pos) (Dt (Ex X.K) (nZ i) (tC (.int k)))):fK X (.Subscript n ix pos) (Qg i k):=by
 refine⟨_,aBg i w,λB G H E F I Q l o h C=>?_⟩;obtain⟨ns,e,h⟩:=h;obtain⟨v,f,r⟩:=o.val i _ e;obtain⟨p,q,rfl,m,y⟩:=KD r;refine⟨p,q,f,bO _ _ m,λa b c t u=>⟨.ref p,f,?_⟩⟩
 have fin:∀(x:V)(d:D),atI [V.ref q,.int a,.int b,.int c] (k:Int)=some x->fR X.K (mask H E) d x->Q d->Ex X.K (.ref p) (.int (k:Int)) (eM H p (yW q a b c)) (λv g=>g=eM H p (yW q a b c)/\l v H):=λx d A z s=>
  .inl ⟨p,_,_,x,Db,Db,mL.of bQ,A,Db,C d x H (L2.aV.refl H) z s⟩
 match k,h with
 |0,h=>exact fin _ _ Db (.list y (EA ns)) h
 |1,h=>exact fin _ _ Db (.int a) (h a t)
 |2,h=>exact fin _ _ Db (.int b) (h b)
 |3,h=>exact fin _ _ Db (.int c) (h c u)
def zD(i k:Nat)(j:ET):yL:=λg f=>j f λd=>(∃ns,f[i]?=some (.val (iU ns)))/\(match k with | 1=>∃a:Int,d=.int a/\0<=a | 2=>∃b:Int,d=.int b | _=>False)/\g.nx f
def xQ{i:Nat}{e}(k:Nat)(F:fK X e j)(G:PG X (.Subscript n ix p2) (Jd (nZ i) (tC (.int k)) Mn))
  (J:∀{v g},PE X e v->PG X (.Subscript n ix p2) g->PS X (.Assign [.Subscript n ix p2] e pos) (sX v g)):C4 X (.Assign [.Subscript n ix p2] e pos) (zD i k j):=by
 obtain⟨v,K,L⟩:=F;refine⟨_,J K (aBf i G),λB I H w m A M N o h f=>?_⟩;refine L B I H w m A _ _ o h λd x O z y l=>?_;have u:=o.grow z;obtain⟨⟨ns,e⟩,hd,l⟩:=l;obtain⟨v,t,r⟩:=u.val i _ e;obtain⟨p,q,rfl,C,P⟩:=KD r;refine⟨p,q,t,bO _ _ C,λa b c E s=>⟨.ref p,t,?_⟩⟩;have nx:=f.nx _ w _ A u (bH z) l
 match k,hd with
 |1,⟨a',hd,ha'⟩=>
  subst hd;cases y;exact⟨p,_,_,1,Db,Db,bQ,Db,⟨a',b,c,ha',s,CH⟩,nx⟩
 |2,⟨b',hd⟩=>
  subst hd;cases y;exact⟨p,_,_,2,Db,Db,bQ,Db,⟨a,b',c,E,s,CH⟩,nx⟩
def Zn(t:FT):ET:=λf Q=>t f λd=>∃(ns:List Int)(c:Int),d=[.list (ns.map bM),.int 0,.int 0,.int c]/\(c=0\/c=1)/\Q (iU ns)
def SF(h:JM X e t):fK X e (Zn t):=by
 obtain⟨v,p,r⟩:=h;refine⟨_,RI p,λB w H i f F Q I o h k=>r B w H i f F _ _ o h λJ p E G s g n rs q=>?_⟩;obtain⟨ns,c,rfl,m,q⟩:=q
 cases rs with
 |cons x rs=>cases rs with
  |cons y rs=>cases rs with
   |cons A rs=>cases rs with
    |cons C rs=>
     cases rs;cases y;cases A;cases C
     cases x with
     |@list l E _ hq hr=>
      have e:=vX hr;subst e;refine⟨p,l,0,0,c,Db,n,nQ 0,m,k (iU ns) _ _ (λb u d=>?_) (.tape (kL (iQ o.live g) bQ) (L2.aV.seq (λb u d=>?_) hq)) q⟩
      ·rw[bV λz=>by rw[z,g]at d;cases d];exact s b u d
      ·unfold mask at d |-
       by_cases hb:b∈p::i
       ·rw[a9 hb]at d;cases d
       ·rw[a8 hb]at d;rw[a8 λz=>hb (aJ _ z),bV λz=>hb (by rw[z];exact aN ..)];exact d
end
section
variable{X:Cx}{a b c e:Expr}{d:List Expr}{g j l:ET}{pos:Pos}
def Ng(c:vF)(g j:FT):FT:=λf Q=>c f λb=>if b=true then g f Q else j f Q
def Qk{fa}(C:FO X c tc)(A:JM X a fa)(hb:JM X b fb):JM X (.IfExp c a b pos) (Ng tc fa fb):=by
 obtain⟨R,J,N⟩:=C;obtain⟨O,G,L⟩:=A;obtain⟨P,I,M⟩:=hb;refine⟨_,KJ J G I,λB x H n f y Q w o h k=>N B x H n f y _ _ o h λb m t r=>?_⟩;have z:∀u p v i,aV m i->m p=none->i p=some (.lst v)->Reps X.K (mask i (p::n)) u v->Q u->w (.ref p) i:=λu p v i s E F rs q=>k u p v i (t.trans s) (aV.free' t E) F rs q
 cases b with
 |true=>
  rw[a9 rfl]at r |-
  exact L B x m n f y Q w (o.grow t) r z
 |false=>
  rw[a8 Cv]at r |-
  exact M B x m n f y Q w (o.grow t) r z
def Zu{K}{mg:Str->Option Value}{k:Nat}{f:Addr}{pn}{o m:QM}(F:dI P w K mg base iG k f fd pn (iH K o))(h:∀i Q,m i Q->o i Q):dI P w K mg base iG k f fd pn (iH K m):=
 F.imp λvs H Q E ⟨t,i,n,p,q,r,s⟩=>⟨t,i,n,p,q,h i n r,s⟩
inductive aDc:List Expr->List Str->Prop
|nil:aDc [] []
|cons {z:Str} {x1:Nat} {p:Pos} {d:List Expr} {zs:List Str}:aDc d zs->aDc (.Constant (.str z) x1 p::d) (z::zs)
def SX{d:List Expr}{f:List Str}(h:aDc d f):yM X d (λ_ Q=>Q (f.map aR)):=by
 induction h with
 |nil=>exact aL
 |cons _ i=>exact aB cK i
def aAj{i:Nat}{x}(f:X.N.Nodup)(n:X.N[i]?=some x)(p:TY X.env.scope x)(k:fK X e l)(o:lT e (some (.Name x pos')) pos.line X.env=pure false:=by rfl)(m:X.fn x=true\/X.env.scope.names.lookup x=some .local:=by first | exact .inl Db | exact .inr Db | assumption) :
  C4 X (.Assign [.Name x pos'] e pos) (HK i l):=VB k λh=>xW f n p h o m
end
end TL
namespace L2
def MJ(a b:Addr)(m n:Array Value) :
  Meets (u4.«zip.__new__» ⟨[.type "zip",.ref a,.ref b],[]⟩) (λ_ R s=>s.heap.IsList a m/\s.heap.IsList b n /\
   R (.ok (.ret (.ref (Dq "list_iterator" "list_iterator" s.heap a b).objs.size))) { s with heap:=TN "list_iterator" "list_iterator" s.heap a b }):=
 .of_wp λprog w A R s h=>by
  obtain⟨j,g,d,l,os⟩:=s;obtain⟨f,i,h⟩:=h;have k:=sub_zip;have c:FB (z6 ⟨j,g,d,l,os⟩) a m:=f;have e:FB (z6 ⟨j.push { cls:=.type "list_iterator",data:=.fields #[.ref a,.int 0 0] },g,d,l,os⟩) b n:=FB.push i _
  wp_walk using i4 c,i4 e
  exact⟨_,Db,h⟩
section
variable{P:cW}{w:f7}{A:d9}{E:Value->Shared->Prop}{s:Shared}
def LR{a b:Addr}{Q:Value->Shared->Prop}(f:s.heap.IsList a xs)(g:s.heap.IsList b ys)
  (h:∀d,y3 d (s.heap.objs.size+4) (s.heap.objs.size+2) (s.heap.objs.size+3) .none->IsPair d (s.heap.objs.size+2) (.ref s.heap.objs.size) (.ref (s.heap.objs.size+1)) ->
   IsPair d (s.heap.objs.size+3) .none .none->d.IsListIter s.heap.objs.size a 0->d.IsListIter (s.heap.objs.size+1) b 0 ->
   (∀c o,s.heap.get? c=some o->d.get? c=some o)->Q (.ref (s.heap.objs.size+4)) { s with heap:=d }) :
  wpAny (model P w) A (call (.type "zip") [.ref a,.ref b]) Q E s:=by
 refine jv F.called_zip Cv (F.typeCall_zip_2 _ _) (F.newCall_zip_2 _ _) (λobj=>jr obj _ _) F.entry_zip_new (MJ a b xs ys) ⟨f,g,?_⟩;have n1:(Ed "list_iterator" s.heap a).objs.size=s.heap.objs.size+1:=dX ..;have i:(Ec "list_iterator" "list_iterator" s.heap a b).objs.size=s.heap.objs.size+2:=by rw[dX,n1]
 have n3:(Eb "list_iterator" "list_iterator" s.heap a b).objs.size=s.heap.objs.size+3:=by rw[dX,i]
 have m:(Dq "list_iterator" "list_iterator" s.heap a b).objs.size=s.heap.objs.size+4:=by rw[dX,n3]
 have e:(TN "list_iterator" "list_iterator" s.heap a b).get? (Dq "list_iterator" "list_iterator" s.heap a b).objs.size=some _:=aU _ Db;have l:(TN "list_iterator" "list_iterator" s.heap a b).get? (Eb "list_iterator" "list_iterator" s.heap a b).objs.size=some _:=aD _ (aU _ Db);have k:(TN "list_iterator" "list_iterator" s.heap a b).get? (Ec "list_iterator" "list_iterator" s.heap a b).objs.size=some _:=aD _ (aD _ (aU _ Db));have j:(TN "list_iterator" "list_iterator" s.heap a b).get? (Ed "list_iterator" s.heap a).objs.size=some _:=aD _ (aD _ (aD _ (aU _ Db)));have n:(TN "list_iterator" "list_iterator" s.heap a b).get? s.heap.objs.size=some _:=aD _ (aD _ (aD _ (aD _ (aU _ Db))));show _/\_;rw[i,n3,m]at e;rw[n1,i]at k;rw[n3]at l;rw[n1]at j;rw[m];exact⟨⟨_,e,Db⟩,h _ e k l ⟨_,n,Db,Db⟩ ⟨_,j,Db,Db⟩ λc o x=>aD _ (aD _ (aD _ (aD _ (aD _ x))))⟩
end
def Kl{h:Heap}{a:Addr}(p:h.IsList a xs):a<h.objs.size:=by
 obtain⟨o,b,_⟩:=p;exact aY b
def Kg(K:aF)(f:TA):TI:=λg H R=>f g H λvs b=>∃c d a e,vs=[.ref c,.ref d]/\((pY K b c a/\pY K b d e/\R (Fy (λH a=>pY K H c a) λH a=>pY K H d a) b)\/(mL K b c a/\mL K b d e/\R (Fy (λH a=>mL K H c a) λH a=>mL K H d a) b))
section
variable{X:Cx}
def aBd{Y:Nat}(T:Gl X "zip")(U:X.mg "zip"=none)(S:PA X [a,b] ta)(W:bI [a,b] X.env=[(false,eval a X.env),(false,eval b X.env)]:=by rfl)(y:bI [b] X.env=[(false,eval b X.env)]:=by rfl) :
  PI X (.Tuple y7 Y tpos) (.Call (.Name "zip" p) [a,b] [] pos) (Kg X.K ta):=by
 intro C s σ H R I h;refine Call_ (uZ I T U LW (i7 (jG (S pos C s σ H _ I h) λus d Z=>?_) (by rw[W,y]) (by rw[y];rfl)));obtain⟨vs,P,e,Q,L⟩:=Z;obtain⟨f,g,xs,ys,rfl,L⟩:=L;rcases L with⟨m,n,q⟩ | ⟨m,n,q⟩
 ·cases Q with
  |cons r u=>
   cases u with
   |cons M u=>
    cases u;cases r;cases M;obtain⟨v,N,A,G⟩:=e.tuple m;obtain⟨w,O,B,J⟩:=e.tuple n;have o:f<d.heap.objs.size:=A.lt;have t:g<d.heap.objs.size:=B.lt;refine BO (show d.heap.IsTuple f v.toArray from A) (show d.heap.IsTuple g w.toArray from B) λE z i j k l F=>z9 (s:={ d with heap:=E }) z ?_;refine⟨_,[d.heap.objs.size+4,d.heap.objs.size+2,d.heap.objs.size+3,d.heap.objs.size,d.heap.objs.size+1],_,_,P,Db,e.kept (t':=d.toks) F,C8 (wL _ f) (wL _ g) (CJ f) (CJ g) (ku o t),⟨z,i,⟨_,_,j⟩,k,l⟩,λc x=>?_,q⟩;simp only[aK,bR,e9]at x;have le:d.heap.objs.size<=c:=by rcases x with rfl | rfl | rfl | rfl | rfl<;>first | exact aM _ | exact uH _ _
    exact e.fpOk le (e.hok.fresh le)
 ·cases Q with
  |cons r u=>
   cases u with
   |cons M u=>
    cases u;cases r;cases M;obtain⟨v,N,A,G⟩:=e.list m;obtain⟨w,O,B,J⟩:=e.list n;have o:f<d.heap.objs.size:=(Kl A.isList);have t:g<d.heap.objs.size:=(Kl B.isList);refine LR (show d.heap.IsList f v.toArray from A.isList) (show d.heap.IsList g w.toArray from B.isList) λE z i j k l F=>z9 (s:={ d with heap:=E }) z ?_;refine⟨_,[d.heap.objs.size+4,d.heap.objs.size+2,d.heap.objs.size+3,d.heap.objs.size,d.heap.objs.size+1],_,_,P,Db,e.kept (t':=d.toks) F,C8 (ES _ f) (ES _ g) (J1 f) (J1 g) (ku o t),⟨z,i,⟨_,_,j⟩,k,l⟩,λc x=>?_,q⟩;simp only[aK,bR,e9]at x;have le:d.heap.objs.size<=c:=by rcases x with rfl | rfl | rfl | rfl | rfl<;>first | exact aM _ | exact uH _ _
    exact e.fpOk le (e.hok.fresh le)
end
end L2
namespace TL
open L2
def Wt(t:AT):IT:=λc Q=>t c λb=>∃a bs,(b=[.tuple a,.tuple bs]\/b=[.list a,.list bs])/\Q (qJ a bs)
section
variable{X:Cx}{a b:Expr}
def aB4{L:Nat}(N:yM X [a,b] t)(U:∀{ta},PA X [a,b] ta->PI X (.Tuple y7 L tpos) (.Call (.Name "zip" p) [a,b] [] p') (Kg X.K ta)):L9 X (.Tuple y7 L tpos) (.Call (.Name "zip" p) [a,b] [] p') (Wt t):=by
 obtain⟨va,S,W⟩:=N;refine⟨_,U S,λB P H T G Z Q R o h k=>W B P H T G Z _ _ o h λds xs I J d v=>?_⟩;obtain⟨as,bs,v,q⟩:=v;rcases v with rfl | rfl
 ·cases d with
  |cons d w=>
   cases w with
   |cons A C=>
    cases C
    cases d with
    |@tuple p1 us _ hq1 rs1=>
     cases A with
     |@tuple p2 vs _ fg rs2=>
      have n1:=rs1.length;have O:=rs2.length;refine⟨p1,p2,us,vs,Db,.inl ⟨aV.seqT bO hq1,aV.seqT bO fg,k _ _ I J ⟨λi H e c=>?_,λi H e c=>?_,λi H u y M live e c s=>?_⟩ q⟩⟩
      ·rw[mQ]at c;exact⟨us,vs,aV.seqT e hq1,aV.seqT e fg,Cw⟩
      ·rw[mQ]at c;exact⟨us,vs,us[i],vs[i],aV.seqT e hq1,aV.seqT e fg,aG Cw,aG Cw⟩
      ·obtain⟨p,x,Y,j,rfl,rfl,n,r⟩:=s;obtain⟨f,l,E⟩:=rs1.get' (n us (aV.seqT (e.trans bO) hq1));obtain⟨g,m,F⟩:=rs2.get' (r vs (aV.seqT (e.trans bO) fg));refine⟨dB j,.tuple [f,g],?_,qP live j (.cons (E.same e) (.cons (F.same e) .nil))⟩;unfold qJ;rw[aO,(fW (z:=(f,g))).mpr ⟨l,m⟩];rfl
 ·cases d with
  |cons d w=>
   cases w with
   |cons A C=>
    cases C
    cases d with
    |@list p1 us _ hq1 rs1=>
     cases A with
     |@list p2 vs _ fg rs2=>
      have n1:=rs1.length;have O:=rs2.length;refine⟨p1,p2,us,vs,Db,.inr ⟨L2.aV.seq bO hq1,L2.aV.seq bO fg,k _ _ I J ⟨λi H e c=>?_,λi H e c=>?_,λi H u y M live e c s=>?_⟩ q⟩⟩
      ·rw[mQ]at c;exact⟨us,vs,L2.aV.seq e hq1,L2.aV.seq e fg,Cw⟩
      ·rw[mQ]at c;exact⟨us,vs,us[i],vs[i],L2.aV.seq e hq1,L2.aV.seq e fg,aG Cw,aG Cw⟩
      ·obtain⟨p,x,Y,j,rfl,rfl,n,r⟩:=s;obtain⟨f,l,E⟩:=rs1.get' (n us (L2.aV.seq (e.trans bO) hq1));obtain⟨g,m,F⟩:=rs2.get' (r vs (L2.aV.seq (e.trans bO) fg));refine⟨dB j,.tuple [f,g],?_,qP live j (.cons (E.same e) (.cons (F.same e) .nil))⟩;unfold qJ;rw[aO,(fW (z:=(f,g))).mpr ⟨l,m⟩];rfl
end
structure pP where
 I:Type
 S:Type
 ad:I->List Addr
 tau:I->D
 At:I->aF->Hp->List Addr->S->Prop
 to:∀{T:I}{K:aF}{H H':Hp}{ps u3:List Addr}{n:S},At T K H ps n->(∀a∈ad T,H' a=H a)->aV (mask H ps) (mask H' u3)->At T K H' u3 n
 liv:∀{T:I}{K:aF}{H:Hp}{ps:List Addr}{n:S},At T K H ps n->∀a∈ad T,BA (H a)
 inj:∀{T T':I},tau T=tau T'->T=T'
def fE(c:List Addr)(H b:Hp):Prop:=∀a o,a∉c->H a=some o->b a=some o
section
variable{K:aF}{H k p w B:Hp}{l g as:List Addr}{f:List Sl}{m:L2.St}
def fE.of(s:aV H k):fE as H k:=λa o _ e=>s a o e
def fE.refl:fE as H H:=λ_ _ _ e=>e
def fE.trans(s:fE as H p)(t:fE as p w):fE as H w:=λa o n e=>t a o n (s a o n e)
theorem fE.mask(c:∀a∈as,a∈g)(s:fE as H k):aV (mask H g) (mask k g):=λa o e=>by
 unfold TL.mask at e |-
 by_cases b:a∈g
 ·rw[a9 b]at e;cases e
 ·rw[a8 b]at e |-
  exact s a o (λz=>b (c a z)) e
def Ok.growZ(o:Ok K B l H g f m)(hp:∀a∈as,a∈l)(hB:∀a∈as,B a=none)(s:fE as H k)(hl:∀a∈as,BA (k a)):Ok K B l k g f m where
 base:=λa u e=>s a u (λz=>by rw[hB a z]at e;cases e) (o.base a u e)
 sub:=o.sub
 live:=λq hq=>by
  by_cases e:q∈as
  ·exact hl q e
  ·obtain⟨u,h1,h2⟩:=o.live q hq;exact⟨u,s q u e h1,h2⟩
 len:=o.len
 val:=λi d h=>let ⟨v,h1,h2⟩:=o.val i d h;⟨v,h1,h2.same (s.mask λa z=>o.sub a (hp a z))⟩
 own:=λi ts h=>let ⟨q,xs,h1,h2,h3,h4,h5,h6⟩:=o.own i ts h;⟨q,xs,h1,h2,h3,h4,s q _ (λz=>h4 (hp q z)) h5,h6.same (s.mask λa z=>o.sub a (hp a z))⟩
 dis:=o.dis
 dc:=o.dc.to (λj hs kvs h=>⟨h,Db⟩) (λq φ a b c=>⟨a,(s q _ (λz=>c (hp q z)) b).trans b.symm⟩) (λq φ _ _ a b=>⟨a,b⟩) (s.mask λa z=>o.sub a (hp a z))
variable{F:pP}{T:F.I}{n x:F.S}
def pP.At.grow(t:F.At T K H g n)(s:aV H k):F.At T K k g n:=F.to t (λa c=>by
 obtain⟨u,b,_⟩:=F.liv t a c;rw[b];exact s a u b) (bH s)
structure jY(F:pP)(K:aF)(B:Hp)(l:List Addr)(H:Hp)(g:List Addr)(f:List Sl)(m:L2.St)(T:F.I)(n:F.S):Prop where
 ok:Ok K B l H g f m
 mem:∀a∈F.ad T,a∈l
 nb:∀a∈F.ad T,B a=none
 tp:F.At T K H g n
def jY.mem'(o:jY F K B l H g f m T n):∀a∈F.ad T,a∈g:=λa h=>o.ok.sub a (o.mem a h)
theorem jY.grow(o:jY F K B l H g f m T n)(s:aV H k):jY F K B l k g f m T n:=⟨o.ok.grow s,o.mem,o.nb,o.tp.grow s⟩
def jY.growX(o:jY F K B l H g f m T n)(s:fE (F.ad T) H k)(t:F.At T K k g x):jY F K B l k g f m T x:=⟨o.ok.growZ o.mem o.nb s (F.liv t),o.mem,o.nb,t⟩
theorem jY.set(o:jY F K B l H g f m T n){i:Nat}(r:fR K (mask H g) d v):jY F K B l H g (f.set i (.val d)) (m.set i (some v)) T n:=⟨o.ok.set r,o.mem,o.nb,o.tp⟩
end
section
variable{F:pP}
abbrev EZ(F:pP):=D->F.S->List Sl->(F.S->D->Prop)->Prop
abbrev AZ(F:pP):=D->F.S->List Sl->(F.S->List D->Prop)->Prop
abbrev TZ(F:pP):=D->F.S->List Sl->(F.S->Bool->Prop)->Prop
def xH(X:Cx)(e:Expr)(t:EZ F):Prop:=∃f:TE,PE X e f/\∀B p0 H ps u0 σ T n (Q:F.S->D->Prop)(b:VK),jY F X.K B p0 H ps u0 σ T n->t (F.tau T) n u0 Q ->
 (∀c d v a,fE (F.ad T) H a->F.At T X.K a ps c->fR X.K (mask a ps) d v->Q c d->b v a)->f σ H b
def S5(X:Cx)(f:List Expr)(t:AZ F):Prop:=∃e:TA,PA X f e/\∀B p0 H ps u0 σ T n (Q:F.S->List D->Prop)(b:List V->Hp->Prop),jY F X.K B p0 H ps u0 σ T n->t (F.tau T) n u0 Q ->
 (∀d c vs a,fE (F.ad T) H a->F.At T X.K a ps d->Reps X.K (mask a ps) c vs->Q d c->b vs a)->e σ H b
def OA(X:Cx)(e:Expr)(t:TZ F):Prop:=∃f:TT,PT X e f/\∀B p0 H ps u0 σ T n (Q:F.S->Bool->Prop)(c:Bool->Hp->Prop),jY F X.K B p0 H ps u0 σ T n->t (F.tau T) n u0 Q ->
 (∀d b a,fE (F.ad T) H a->F.At T X.K a ps d->Q d b->c b a)->f σ H c
def Fu(X:Cx)(e:Expr)(t:TZ F):Prop:=∃f:TT,PW X e f/\∀B p0 H ps u0 σ T n (Q:F.S->Bool->Prop)(c:Bool->Hp->Prop),jY F X.K B p0 H ps u0 σ T n->t (F.tau T) n u0 Q ->
 (∀d b a,fE (F.ad T) H a->F.At T X.K a ps d->Q d b->c b a)->f σ H c
section
variable{X:Cx}{a b e:Expr}{g:List Expr}{i l z:EZ F}{pos:Pos}
def zE(t:ET):EZ F:=λ_ n c Q=>t c (Q n)
def mT(h:fK X e t):xH (F:=F) X e (zE t):=by
 obtain⟨v,p,r⟩:=h;exact⟨v,p,λB m H u c x T n Q j o h k=>r B m H u c x (Q n) j o.ok h λd v f s w q=>k n d v f (.of s) (o.tp.grow s) w q⟩
def zA(t:AT):AZ F:=λ_ n c Q=>t c (Q n)
def rG(h:yM X g t):S5 (F:=F) X g (zA t):=by
 obtain⟨v,p,r⟩:=h;exact⟨v,p,λB m H u c x T n Q j o h k=>r B m H u c x (Q n) j o.ok h λd v f s w q=>k n d v f (.of s) (o.tp.grow s) w q⟩
def zT(t:vF):TZ F:=λ_ n c Q=>t c (Q n)
def Hq(h:FO X e t):OA (F:=F) X e (zT t):=by
 obtain⟨v,p,r⟩:=h;exact⟨v,p,λB j H m c u T n Q f o h k=>r B j H m c u (Q n) f o.ok h λb d s q=>k n b d (.of s) (o.tp.grow s) q⟩
def Gb(f:D->D->(D->Prop)->Prop)(i l:EZ F):EZ F:=λd n c Q=>i d n c λn1 x=>l d n1 c λh y=>f x y (Q h)
def KN{f:D->D->(D->Prop)->Prop}(R:FC X r f){J L:TE}
  (U:∀B t H m c p T n (Q:F.S->D->Prop)(q:VK),jY F X.K B t H m c p T n->i (F.tau T) n c Q->(∀s d v j,fE (F.ad T) H j->F.At T X.K j m s->fR X.K (mask j m) d v->Q s d->q v j)->J p H q)
  (hb:∀B t H m c p T n (Q:F.S->D->Prop)(q:VK),jY F X.K B t H m c p T n->l (F.tau T) n c Q->(∀s d v j,fE (F.ad T) H j->F.At T X.K j m s->fR X.K (mask j m) d v->Q s d->q v j)->L p H q)
  (B:Hp) (t:List Addr) (H:Hp) (m:List Addr) (c:List Sl) (p:L2.St) (T:F.I) (n:F.S) (Q:F.S->D->Prop) (q:VK) (o:jY F X.K B t H m c p T n) (h:Gb f i l (F.tau T) n c Q) (k:∀s d v j,fE (F.ad T) H j->F.At T X.K j m s->fR X.K (mask j m) d v->Q s d->q v j):Dt r J L p H q:=by
 refine U B t H m c p T n _ _ o h λn1 O x M E t1 r1 Z=>?_;have A:=o.growX E t1;refine hb B t M m c p T n1 _ _ A Z λw P y N u G r2 q2=>?_;have W:=A.growX u G;exact R N m O P x y (Q w) q W.ok.live (r1.same (u.mask o.mem')) r2 q2 λd v j C r' Y=>k w d v j ((E.trans u).trans (.of C)) (G.grow C) r' Y
def YB{f:D->D->(D->Prop)->Prop}(j:qI X (f8 op) r)(c:FC X r f)(d:xH X a i)(hb:xH X b l)(h:h8 op b=false:=by first | exact DW _ | rfl):xH X (.Compare a [op] [b] pos) (Gb f i l):=by
 obtain⟨p,k,n⟩:=d;obtain⟨q,m,o⟩:=hb;exact⟨_,O9 j k m h,KN c n o⟩
def Hu:AZ F:=λ_ n _ Q=>Q n []
def UH(t:EZ F)(r:AZ F):AZ F:=λd n c Q=>t d n c λn1 x=>r d n1 c λf h=>Q f (x::h)
def oJ:S5 (F:=F) X [] Hu:=⟨_,gM,λ_ _ H _ _ _ _ _ _ _ o h k=>k _ _ _ H .refl o.tp .nil h⟩
def eS(t:xH X e z)(u:S5 X g tr)(v:bI (e::g) X.env=(false,eval e X.env)::bI g X.env:=by rfl):S5 X (e::g) (UH z tr):=by
 obtain⟨P,w,I⟩:=t;obtain⟨R,y,J⟩:=u;refine⟨_,cI w y v,λB f H j c q T n Q M o h k=>I B f H j c q T n _ _ o h λn1 d x r m K E A=>?_⟩;refine J B f r j c q T n1 _ _ (o.growX m K) A λO N S s p L G C=>?_;exact k _ _ _ s (m.trans p) L (.cons (E.same (p.mask o.mem')) G) C
def Vt(f:List D->(D->Prop)->Prop)(t:AZ F):EZ F:=λh n d Q=>t h n d λn1 c=>f c (Q n1)
def zW{k:Nat}{f:Addr}{pn:List Str}{c:pU}{x:Str}{t:AZ F}(F:dI X.prog X.w X.K X.mg X.base iG k f fd pn (cZ X.K c))(Y:X.mg x=some (.ref f))(W:gB X.K (.ref f)=true)(hb:qF X.K fd pn [])
  (Z:gQ k X.A) (G:S5 X (e::g) t) (L:∀{i:TA},PA X (e::g) i->PE X (.Call (.Name x p) (e::g) [] pos) (BF (cZ X.K c) [] E0 i)):xH X (.Call (.Name x p) (e::g) [] pos) (Vt c t):=by
 obtain⟨v,J,R⟩:=G;refine⟨_,L J,λB I H m j U T n Q C o h k=>R B I H m j U T n _ _ o h λn1 E S y r s P N=>?_⟩;show cZ X.K c (S++[]) y C E0;rw[dW];exact⟨m,E,Q n1,(o.growX r s).ok.live,P,N,λd v u q O M=>k n1 d v u (r.trans (.of q)) (s.grow q) O M⟩
abbrev JL(F:pP):=D->F.S->List D->(F.S->D->Prop)->Prop
def mK(K:aF)(m:JL F):Sp:=λvs H Q _=>∃(c:List Addr)(T:F.I)(n:F.S)(j:List D)(h:F.S->D->Prop),(∀p∈c,BA (H p))/\(∀a∈F.ad T,a∈c)/\F.At T K H c n/\Reps K (mask H c) j vs/\m (F.tau T) n j h /\
 ∀k d v f,fE (F.ad T) H f->F.At T K f c k->fR K (mask f c) d v->h k d->Q v f
def Mb(f:JL F)(t:AZ F):EZ F:=λc n h Q=>t c n h λn1 d=>f c n1 d Q
def zX{k:Nat}{f:Addr}{fd:iF}{pn:List Str}{c:JL F}{x:Str}{t:AZ F}(A:S5 X (e::g) t)(I:∀{i:TA},PA X (e::g) i->PE X (.Call (.Name x p) (e::g) [] pos) (BF (mK X.K c) [] E0 i)):xH X (.Call (.Name x p) (e::g) [] pos) (Mb c t):=by
 obtain⟨v,G,O⟩:=A;refine⟨_,I G,λB E H m j U T n Q w o h k=>O B E H m j U T n _ _ o h λn1 y S u q r N L=>?_⟩;show mK X.K c (S++[]) u w E0;rw[dW];exact⟨m,T,n1,y,Q,(o.growX q r).ok.live,o.mem',r,N,L,λC d v s P R M J=>k C d v s (q.trans P) R M J⟩
def Hv(t:EZ F):TZ F:=λd n c Q=>t d n c λn1 x=>match x with | .bool b=>Q n1 b | _=>False
def UP{f:D->D->(D->Prop)->Prop}(u:qI X (f8 op) r)(q:FC X r f)(s:xH X a i)(hb:xH X b l)(t:h8 op b=false:=by first | exact DW _ | rfl):OA X (.Compare a [op] [b] pos) (Hv (Gb f i l)):=by
 obtain⟨O,A,I⟩:=s;obtain⟨P,C,J⟩:=hb;refine⟨_,O4 u A C t,λB y H E j M T n Q N o h k=>?_⟩;refine KN q I J B y H E j M T n (λn1 x=>match x with | .bool b=>Q n1 b | _=>False) _ o h λw d v p K L G m=>?_
 cases G with
 |bool c=>exact⟨c,Db,k w c p K L m⟩
 |_=>exact m.elim
variable{j m:TZ F}{jK:List Expr}
def Mc(t:TZ F):TZ F:=λd n c Q=>t d n c λn1 b=>Q n1 (!b)
def Pr(t u:TZ F):TZ F:=λd n c Q=>t d n c λn1 b=>if b=true then Q n1 true else u d n1 c Q
def sT(h:OA X a j):OA X (.UnaryOp .Not a pos) (Mc j):=by
 obtain⟨v,p,r⟩:=h;exact⟨_,V1 p,λB f H q c w T n Q x o h k=>r B f H q c w T n _ _ o h λn1 b d t u s=>k _ _ d t u s⟩
def UJ(h:Fu X e j):OA X e j:=by
 obtain⟨v,p,r⟩:=h;exact⟨_,p.pt,r⟩
def MK(h:OA X a j):Fu X (.BoolOp .Or [a] pos) j:=by
 obtain⟨v,p,r⟩:=h;exact⟨_,VZ p,r⟩
def UK(w:OA X a j)(hb:Fu X (.BoolOp .Or (b::jK) pos) m):Fu X (.BoolOp .Or (a::b::jK) pos) (Pr j m):=by
 obtain⟨L,y,E⟩:=w;obtain⟨M,A,G⟩:=hb;refine⟨_,Mi y A,λB q H r d u T n Q K o h k=>E B q H r d u T n _ _ o h λn1 c p f t s=>?_⟩
 cases c with
 |true=>exact k _ _ p f t s
 |false=>exact G B q p r d u T n1 Q _ (o.growX f t) s λx b v I J C=>k x b v (f.trans I) J C
end
end
section
variable{F:pP}
section
variable{K:aF}{H B:Hp}{b c:List Addr}{a:List Sl}{d:L2.St}{T:F.I}{n:F.S}{p:Addr}
def jY.ne(o:jY F K B b H c a d T n)(f:H p=none):p∉F.ad T:=λz=>by
 obtain⟨u,e,_⟩:=F.liv o.tp p z;rw[f]at e;cases e
def jY.with(o:jY F K B b H c a d T n)(e:Ok K B b H c o9 u7):jY F K B b H c o9 u7 T n:=⟨e,o.mem,o.nb,o.tp⟩
end
structure qW(F:pP) where
 nx:F.S->List Sl->Prop
 rt:F.S->D->Prop
 bk:F.S->List Sl->Prop:=λ_ _=>False
 ct:F.S->List Sl->Prop:=λ_ _=>False
 xB:Hp->List Addr->Prop:=λ_ _=>True
abbrev SZ(F:pP):=D->qW F->F.S->List Sl->Prop
structure xI(F:pP)(K:aF)(B:Hp)(p0:List Addr)(H:Hp)(ps:List Addr)(T:F.I)(DC:qW F)(DV:BB):Prop where
 nx:∀H' u3 o9 u7 n',jY F K B p0 H' u3 o9 u7 T n'->aV (mask H ps) (mask H' u3)->DC.nx n' o9->DV.nx u7 H'
 bk:∀H' u3 o9 u7 n',jY F K B p0 H' u3 o9 u7 T n'->aV (mask H ps) (mask H' u3)->DC.bk n' o9->DV.bk u7 H'
 ct:∀H' u3 o9 u7 n',jY F K B p0 H' u3 o9 u7 T n'->aV (mask H ps) (mask H' u3)->DC.ct n' o9->DV.ct u7 H'
 rt:∀n' d v H',aV B H'->F.At T K H' p0 n'->fR K (mask H' p0) d v->DC.rt n' d->DV.rt v H'
 xb:DC.xB B p0
def uA(X:Cx)(st:Stmt)(t:SZ F):Prop:=∃c:TS,PS X st c/\∀B p0 H ps u0 σ T n (a:qW F)(b:BB),jY F X.K B p0 H ps u0 σ T n->t (F.tau T) a n u0->xI F X.K B p0 H ps T a b->c b σ H
def vH(X:Cx)(st:List Stmt)(t:SZ F):Prop:=∃c:TS,A9 X st c/\∀B p0 H ps u0 σ T n (a:qW F)(b:BB),jY F X.K B p0 H ps u0 σ T n->t (F.tau T) a n u0->xI F X.K B p0 H ps T a b->c b σ H
section
variable{K:aF}{H c B:Hp}{g k:List Addr}{l:List Sl}{m:L2.St}{T:F.I}{n:F.S}
def xI.later(f:xI F K B g H k T DC DV)(e:aV (mask H k) (mask c u3)):xI F K B g c u3 T DC DV:=
 ⟨λ_ _ _ _ _ o s q=>f.nx _ _ _ _ _ o (e.trans s) q,λ_ _ _ _ _ o s q=>f.bk _ _ _ _ _ o (e.trans s) q,λ_ _ _ _ _ o s q=>f.ct _ _ _ _ _ o (e.trans s) q,f.rt,f.xb⟩
noncomputable def qC(B:Hp)(b:List Addr)(H:Hp):Hp:=λa=>if a∈b then H a else B a
def wH{a:Addr}(h:a∈as):qC B as H a=H a:=a9 h
def lN{a:Addr}(h:a∉as):qC B as H a=B a:=a8 h
def rY(h:∀a∈as,B a=none):aV B (qC B as H):=λa u e=>by
 rw[lN λz=>by rw[h a z]at e;cases e];exact e
def jY.up(o:jY F K B g H k l m T n):Ok K (qC B (F.ad T) H) g H k l m where
 base:=λa u e=>by
  by_cases z:a∈F.ad T
  ·rw[wH z]at e;exact e
  ·rw[lN z]at e;exact o.ok.base a u e
 sub:=o.ok.sub
 live:=o.ok.live
 len:=o.ok.len
 val:=o.ok.val
 own:=λi ts h=>let ⟨q,xs,h1,h2,h3,h4,h5,h6⟩:=o.ok.own i ts h;⟨q,xs,h1,h2,by rw[lN λz=>h4 (o.mem q z)];exact h3,h4,h5,h6⟩
 dis:=o.ok.dis
 dc:=o.ok.dc.to (λj hs kvs h=>⟨h,Db⟩) (λq φ a b _=>⟨a,Db⟩) (λq φ _ _ a b=>⟨by rw[lN λz=>b (o.mem q z)];exact a,b⟩) (L2.aV.refl _)
def jY.down(o:jY F K B g H k l m T n)(o':Ok K (qC B (F.ad T) H) g c u3 o9 u7)(s:aV (mask H k) (mask c u3)):jY F K B g c u3 o9 u7 T n where
 ok:=⟨(rY o.nb).trans o'.base,o'.sub,o'.live,o'.len,o'.val,λi ts h=>let ⟨q,xs,h1,h2,h3,h4,h5,h6⟩:=o'.own i ts h;⟨q,xs,h1,h2,aV.free' (rY o.nb) h3,h4,h5,h6⟩,o'.dis,o'.dc.to (λj hs kvs h=>⟨h,Db⟩) (λq φ a b _=>⟨a,Db⟩) (λq φ _ _ a b=>⟨aV.free' (rY o.nb) a,b⟩) (L2.aV.refl _)⟩
 mem:=o.mem
 nb:=o.nb
 tp:=F.to o.tp (λa ha=>by
  obtain⟨u,e,_⟩:=F.liv o.tp a ha;rw[e];exact o'.base a u (by rw[wH ha];exact e)) s
def X8{p:qW F}(o:jY F K B g H k l m T n)(f:xI F K B g H k T p DV):IZ K (qC B (F.ad T) H) g H k { nx:=p.nx n,rt:=λ_=>False,bk:=p.bk n,ct:=p.ct n } DV:=
 ⟨λc e a h j i b=>f.nx c e a h n (o.down j i) i b,λc e a h j i b=>f.bk c e a h n (o.down j i) i b,λc e a h j i b=>f.ct c e a h n (o.down j i) i b,
  λd v c i q b=>b.elim,
  λ_ _ _ _ _ _ _ _ _ b=>b.elim,λ_ _ _ _ _ _ _ _ _ _ _ _ _ _ _ _ _ _ b=>b.elim,λ_ _ _ _ _ _ _ _ _ _ _ _ _ _ b=>b.elim,e7⟩
end
section
variable{X:Cx}{a b c e:Expr}{l:List Expr}{j:EZ F}{pos:Pos}{st:Stmt}{jK:List Stmt}{t u:SZ F}
def zP(t:yL):SZ F:=λ_ d n f=>t { nx:=d.nx n,rt:=λ_=>False,bk:=d.bk n,ct:=d.ct n } f
def sY{t}(h:C4 X st t):uA (F:=F) X st (zP t):=by
 obtain⟨m,p,r⟩:=h;refine⟨m,p,λB i H k d q T n s g o h f=>?_⟩;exact r _ i H k d q _ g o.up h (X8 o f)
def FW:SZ F:=λ_ d n f=>d.nx n f
def sQ(t u:SZ F):SZ F:=λf d n g=>t f { d with nx:=u f d } n g
def pE:vH (F:=F) X [] FW:=⟨_,O5,λB p H g d i T n k m o h f=>f.nx H g d i n o (L2.aV.refl _) h⟩
def eP(s:uA X st t)(v:vH X jK u):vH X (st::jK) (sQ t u):=by
 obtain⟨L,y,E⟩:=s;obtain⟨J,z,G⟩:=v;refine⟨_,kQ y z,λB q H A p K T n g i o h f=>E B q H A p K T n { g with nx:=u (F.tau T) g } { i with nx:=J i } o h ⟨λr k d m w x I C=>?_,f.bk,f.ct,f.rt,f.xb⟩⟩;exact G B q r k d m T w g i x C (f.later I)
def gF(d:uA X st t):vH X [st] t:=by
 obtain⟨h,f,g⟩:=d;exact⟨_,tF f,g⟩
def Pu(j:EZ F):SZ F:=λg d n f=>j g n f d.rt
def qA(h:xH X e j):uA X (.Return (some e) pos) (Pu j):=by
 obtain⟨v,p,r⟩:=h;refine⟨_,AQ p,λB s H w g C T n E G o h f=>r B s H w g C T n _ _ o h λm d x k A i z y=>?_⟩;have q:=o.growX A i;exact f.rt m d x k q.ok.base (F.to i (λ_ _=>rfl) (eV o.ok.sub)) (z.same (eV o.ok.sub)) y
def ZR(c:TZ F)(t u:SZ F):SZ F:=λf g n d=>c f n d λn1 b=>if b=true then t f g n1 d else u f g n1 d
def rO{c a b}(y:OA X c tc)(x:vH X a t)(hb:vH X b u):uA X (.If c a b pos) (ZR tc t u):=by
 obtain⟨M,C,I⟩:=y;obtain⟨K,z,E⟩:=x;obtain⟨L,A,G⟩:=hb;refine⟨_,V7 C z A,λB i H k g m T n p q o h f=>I B i H k g m T n _ _ o h λn1 d r w J v=>?_⟩;have s:=o.growX w J;have f1:=f.later (w.mask o.mem')
 cases d with
 |true=>exact E B i r k g m T n1 p q s v f1
 |false=>exact G B i r k g m T n1 p q s v f1
def UF(i:Nat)(j:EZ F):SZ F:=λh g n f=>j h n f λn1 d=>g.nx n1 (f.set i (.val d))
def uL{i:Nat}{x}(h:xH X e j)(g:∀{v},PE X e v->PS X (.Assign [.Name x pos'] e pos) (sX v (lO i))):uA X (.Assign [.Name x pos'] e pos) (UF i j):=by
 obtain⟨v,p,r⟩:=h;refine⟨_,g p,λB y H m k E T n G I o h f=>r B y H m k E T n _ _ o h λw d x s q C A z=>?_⟩;exact f.nx s m _ _ w ((o.growX q C).set A) (q.mask o.mem') z
def Pw(j:EZ F)(g:GT):SZ F:=λi h n f=>j i n f λn1 d=>g d f (h.nx n1)
def Yi(z:xH X e j)(A:MA X tg g)(E:∀{v k},PE X e v->PG X tg k->PS X (.Assign [tg] e pos) (sX v k)):uA X (.Assign [tg] e pos) (Pw j g):=by
 obtain⟨v,G,L⟩:=z;obtain⟨k,pg,M⟩:=A;refine⟨_,E G pg,λB r H m i w T n P Q o h f=>L B r H m i w T n _ _ o h λn1 d x p s N K J=>?_⟩;have q:=o.growX s N;exact M B r p m i w d x _ _ q.ok K J λy O C _ I=>f.nx p m _ _ n1 (q.with C) (s.mask o.mem') I
def Hr(q:IT)(g:GT)(p:SZ F):SZ F:=λr f n o=>q o λi=>∃P:Nat->F.S->List Sl->Prop,P 0 n o /\
 (∀(k:Nat)(m:F.S)(x:D)d,i[k]?=some x->P k m d->g x d λh=>p r { f with nx:=P (k+1),ct:=P (k+1),bk:=f.nx } m h)/\∀m d,P i.length m d->f.nx m d
def U6{iter}{tb:SZ F}(he:L9 X tg iter ti)(hg:MA X tg g)(hb:vH X body tb)
  (pf:∀{wi:TI}{gv:TG}{bv:TS},PI X tg iter wi->PG X tg gv->A9 X body bv->PS X (.For tg iter body [] pos) (Hm wi gv bv)):uA X (.For tg iter body [] pos) (Hr ti g tb):=by
 obtain⟨ve,pe,re⟩:=he;obtain⟨gv,pg,rg⟩:=hg;obtain⟨vb,pb,rb⟩:=hb;refine⟨_,pf pe pg pb,λB C H ps R σ T n DC DV o h f=>re B C H ps R σ _ _ o.ok h λO J U s1 rj q1=>?_⟩;obtain⟨P,h0,hs,hd⟩:=q1;refine⟨λi m s r=>m=O.length-i/\i<=O.length/\∃c k d,jY F X.K B C r k d s T c/\aV (mask U ps) (mask r k)/\P i c d,⟨_,Db,cD _,n,ps,R,o.grow s1,L2.aV.refl _,h0⟩,?_⟩;rintro i m s r ⟨rfl,vf,c,k,d,o',W,p'⟩;have sH:aV (mask U ps) r:=W.trans bO;have f':xI F X.K B C r k T DC DV:=f.later ((bH s1).trans W);by_cases x:i<O.length
 ·refine .inr ⟨rj.go i r sH x,λQ v=>∃c2 I w,jY F X.K B C v I w Q T c2/\aV (mask U ps) (mask v I)/\P (i+1) c2 w,λQ v z=>⟨O.length-(i+1),Cw,Db,x,z⟩,λy v kd=>?_⟩;obtain⟨s2,dx,hx,rx⟩:=rj.yld i r k y v o'.ok.live W x kd;have Z:=f'.later (bH (ps:=k) s2);have M:aV (mask U ps) (mask v k):=W.trans (bH s2);have o2:=o'.grow s2;refine rg B C v k d s dx y _ _ o2.ok rx (hs i c dx d hx p') λS ug o3 _ q3=>?_;exact rb B C v k S ug T c _ _ (o2.with o3) q3 ⟨λY q p A E G N L=>⟨E,q,p,G,M.trans N,L⟩,λY q p A E G N L=>Z.nx Y q p A E G N L,λY q p A E G N L=>⟨E,q,p,G,M.trans N,L⟩,Z.rt,Z.xb⟩
 ·obtain rfl:i=O.length:=by lia
  exact .inl ⟨rj.stop _ r sH (aM _),f'.nx r k d s c o' (L2.aV.refl _) (hd c d p')⟩
noncomputable def gH(H:Hp)(d:List Addr):Hp:=λa=>if a∈d then none else H a
def Ef{mg:Str->Option Value}{K x st}{f:Addr}{N pn:List Str}{k:Nat}{W:JL F}(Fn:MB K x qual st f fd)(S:bZ N pn (aX st))
  (y:∀{m}{A:d9}{outer}{s:Shared}{H E},gQ k (A.deeper (i3 qual (aX st) s.heap.objs.size f m))->N.Nodup->∀(Y:F.I)(n:F.S)(g:List D)(Q:F.S->D->Prop),W (F.tau Y) n g Q ->
   ∃t,vH (rF iG P w K mg base N qual (aX st) f m A outer s H E).nox (lK st) t/\t (F.tau Y) { nx:=λn _=>Q n .none,rt:=Q } n (iO N g)) (len:∀τ n g Q,W τ n g Q->g.length=pn.length:=by intro τ n g Q h;(repeat obtain⟨_,h⟩:=h)<;>subst_vars<;>rfl):dI P w K mg base iG (k+1) f fd pn (mK K W):=by
 refine Fn.ok S (λvs H Q E h=>?_) λm A outer s H vs Q E hr h=>?_
 ·obtain⟨z,T,n,g,L,_,_,_,r,q,_⟩:=h;rw[<- r.length];exact len _ _ g L q
 ·obtain⟨z,T,n,g,L,live,hp,tp,r,q,k⟩:=h;obtain⟨t,⟨ts,p,rd⟩,h⟩:=y hr S.nd T n g L q;have o:=oS (N:=N) live r
  have O:∀(i:Nat)(J:List D),(iO N g)[i]?≠some (.own J):=λi J e=>by
   obtain⟨q,_,_,_,M,_,G,_⟩:=o.own i J e;rw[M]at G;cases G
  have sW:aV (gH H (F.ad T)) H:=λa u e=>by
   unfold gH at e;split at e
   ·cases e
   ·exact e
  have Z:∀{C:Hp},aV (gH H (F.ad T)) C->fE (F.ad T) H C:=λs a u ne e=>s a u (by unfold gH;rw[a8 ne];exact e)
  have o2:Ok K (gH H (F.ad T)) z H z (iO N g) (L2.mE N vs):=⟨sW,o.sub,o.live,o.len,o.val,λi J e=>c7 e (O i J),o.dis,λi hs kvs e=>by
   obtain⟨⟨q,l,_,_,M,_,G,_⟩,_⟩:=o.dc i hs kvs e;rw[M]at G;cases G⟩
  have o3:jY F K (gH H (F.ad T)) z H z (iO N g) (L2.mE N vs) T n:=⟨o2,hp,λa ha=>a9 ha,tp⟩;refine⟨ts,p,rd _ z H z _ _ T n _ _ o3 h ⟨λC u3 o9 u7 R U s' B=>?_,λ_ _ _ _ _ _ _ B=>B.elim,λ_ _ _ _ _ _ _ B=>B.elim,λR d v C s' t' r' B=>k R d v C (Z s') t' r' B,e7⟩⟩;exact k R _ _ C (Z U.ok.base) (F.to U.tp (λ_ _=>rfl) (eV U.ok.sub)) .none B
end
end
end TL
namespace L2
section
variable{c:Type}[DecidableEq c]
noncomputable def pZ(kvs:List (c×V))(k:c):Option V:=(kvs.find? λkv=>decide (kv.1=k)).map (·.2)
noncomputable def tE(kvs:List (c×V))(k:c)(v:V):List (c×V):=
 if(kvs.any λkv=>decide (kv.1=k))=true then kvs.map (λkv=>if kv.1=k then(kv.1,v)else kv)else kvs++[(k,v)]
noncomputable def nV(kvs:List (c×V))(k:c):List (c×V):=kvs.filter λkv=>decide (kv.1≠k)
def C6{p:c×V}{k}(e:p.1=k):pZ (p::r) k=some p.2:=by simp[pZ,jF,e]
def C7{p:c×V}{k}(e:¬p.1=k):pZ (p::r) k=pZ r k:=by simp[pZ,jF,e]
theorem JT(k:c):∀kvs:List (c×V),(kvs.any λkv=>decide (kv.1=k))=(pZ kvs k).isSome
|[]=>rfl
|p::r=>by
 rw[pK];by_cases e:p.1=k
 ·simp only[C6 e,b7 e,aJa,QU]
 ·rw[C7 e,b9 e,JR];exact JT k r
def uY(kvs:List (c×V))(k:c)(v:V):(tE kvs k v).length<=kvs.length+1:=by
 unfold tE;split
 ·rw[aC];lia
 ·rw[bP,dQ,FF];lia
def tS.isSome_eq{o:Option V}{u:Option Value}(r:tS o u):o.isSome=u.isSome:=by
 cases o with
 |none=>cases u with
  |none=>rfl
  |some _=>exact(show False from r).elim
 |some _=>cases u with
  |none=>exact(show False from r).elim
  |some _=>rfl
theorem tS.getD{o:Option V}{u:Option Value}(r:tS o u)(a:eZ d d'):eZ (o.getD d) (u.getD d'):=by
 cases o with
 |none=>cases u with
  |none=>exact a
  |some _=>exact(show False from r).elim
 |some _=>cases u with
  |none=>exact(show False from r).elim
  |some _=>exact r
def KV.val(r:KV kvs vs)(k:c):tS (pZ kvs k) (bt vs k):=by
 unfold KV at r
 induction r with
 |nil=>exact e7
 |@cons p q ps qs h t ih=>
  obtain⟨d,f⟩:=h;by_cases e:p.1=k
  ·have a:q.1=k:=d.symm.trans e;have b:bt (q::qs) k=some q.2:=by simp[bt,jF,a]
   rw[C6 e,b];exact f
  ·have a:¬q.1=k:=λz=>e (d.trans z);have b:bt (q::qs) k=bt qs k:=by simp[bt,jF,a]
   rw[C7 e,b];exact ih
theorem KV.any{kvs:List (c×V)}{vs:List (c×Value)}(r:KV kvs vs)(k:c):(kvs.any λkv=>decide (kv.1=k))=vs.any λkv=>decide (kv.1=k):=by
 unfold KV at r
 induction r with
 |nil=>rfl
 |cons h t a=>rw[pK,pK,a,h.1]
def KV.repl{kvs:List (c×V)}{vs:List (c×Value)}(r:KV kvs vs)(k:c)(d:eZ y u) :
  KV (kvs.map λkv=>if kv.1=k then(kv.1,y)else kv) (vs.map λkv=>if kv.1=k then(kv.1,u)else kv):=by
 unfold KV at r |-
 induction r with
 |nil=>exact .nil
 |@cons p q ps qs h t ih=>
  rw[bS,bS];refine .cons ?_ ih;obtain⟨a,b⟩:=h;by_cases e:p.1=k
  ·rw[a9 e,a9 (a.symm.trans e)];exact⟨a,d⟩
  ·rw[a8 e,a8 (λz=>e (a.trans z))];exact⟨a,b⟩
def KV.put(r:KV kvs vs)(k:c)(a:eZ y u):KV (tE kvs k y) (stored vs k u):=by
 unfold tE stored;rw[r.any k];by_cases e:(vs.any λkv=>decide (kv.1=k))=true
 ·rw[a9 e,a9 e];exact r.repl k a
 ·rw[a8 e,a8 e];exact Paired.snoc r ⟨Db,a⟩
def KV.drop(r:KV kvs vs)(k:c):KV (nV kvs k) (without vs k):=by
 unfold KV at r |-
 unfold nV without
 induction r with
 |nil=>exact .nil
 |@cons p q ps qs h t ih=>
  obtain⟨d,g⟩:=h;rw[fA,fA];by_cases e:p.1=k
  ·have a:¬decide (p.1≠k)=true:=by simp[e]
   have b:¬decide (q.1≠k)=true:=by simp[d.symm.trans e]
   rw[a8 a,a8 b];exact ih
  ·have f:¬q.1=k:=λz=>e (d.trans z);have a:decide (p.1≠k)=true:=by simp[e]
   have b:decide (q.1≠k)=true:=by simp[f]
   rw[a9 a,a9 b];exact .cons ⟨d,g⟩ ih
def KV.keys{kvs:List (c×V)}{vs:List (c×Value)}(r:KV kvs vs):kvs.map (·.1)=vs.map (·.1):=by
 unfold KV at r
 induction r with
 |nil=>rfl
 |cons h t a=>rw[bS,bS,a,h.1]
theorem KV.length{kvs:List (c×V)}{vs:List (c×Value)}(r:KV kvs vs):kvs.length=vs.length:=af r
def YL(kvs:List (c×V))(k:c):(nV kvs k).length<=kvs.length:=bY _ _
end
def D6{k}(r:eZ (kV k) u):(fH P w).is k u=true:=by
 cases k with
 |inl i=>obtain⟨t,e⟩:=(show∃t,u=m6 i t from r);subst e;exact K0 P w i t
 |inr x=>obtain⟨t,e⟩:=(show∃t,u=ae x t from r);subst e;exact KZ P w x t
theorem GJ:∀{a:List jB}{us},eW (a.map kV) us->ItemsAre (fH P w) a us
|[],_,r=>by rw[nY]at r;cases r;exact .nil
|k::a,_,r=>by
 rw[bS]at r
 cases r with
 |cons h t=>exact .cons (D6 h) (GJ t)
abbrev KT(H:Hp):List (List jB×V)->List (List jB×Addr×Value)->Prop:=Paired λp q=>p.1=q.1/\H q.2.1=some (.tup (p.1.map kV))/\eZ p.2 q.2.2
def KT.val(r:KT H kvs xs)(k:List jB):tS (pZ kvs k) ((gq xs k).map (·.2)):=by
 induction r with
 |nil=>exact e7
 |@cons p q ps qs h t ih=>
  obtain⟨c,_,d⟩:=h;by_cases e:p.1=k
  ·have a:q.1=k:=c.symm.trans e;have b:gq (q::qs) k=some q.2:=by simp[gq,jF,a]
   rw[C6 e,b];exact d
  ·have a:¬q.1=k:=λz=>e (c.trans z);have b:gq (q::qs) k=gq qs k:=by simp[gq,jF,a]
   rw[C7 e,b];exact ih
def KT.repl{kvs:List (List jB×V)}{c:List (List jB×Addr×Value)}(r:KT H kvs c)(k:List jB)(f:eZ y u) :
  KT H (kvs.map λkv=>if kv.1=k then(kv.1,y)else kv) (c.map (putAt k u)):=by
 induction r with
 |nil=>exact .nil
 |@cons p q ps qs h t ih=>
  rw[bS,bS];refine .cons ?_ ih;obtain⟨a,b,d⟩:=h;unfold putAt;by_cases e:p.1=k
  ·rw[a9 e,a9 (a.symm.trans e)];exact⟨a,b,f⟩
  ·rw[a8 e,a8 (λz=>e (a.trans z))];exact⟨a,b,d⟩
def KT.put(r:KT H kvs xs)(k:List jB){b:Addr}(hb:H b=some (.tup (k.map kV)))(a:eZ y u) :
  KT H (tE kvs k y) (storedH xs k b u):=by
 have e:(kvs.any λkv=>decide (kv.1=k))=(gq xs k).isSome:=by
  rw[JT,(r.val k).isSome_eq,TB]
 unfold tE storedH;rw[e];by_cases q:(gq xs k).isSome=true
 ·rw[a9 q,a9 q];exact r.repl k a
 ·rw[a8 q,a8 q];exact Paired.snoc r ⟨Db,hb,a⟩
def KT.keeps{H a:Hp}(r:KT H kvs xs)(d:∀b c,H b=some (.tup c)->a b=some (.tup c)):KT a kvs xs:=
 Paired.mapP r λ_ _ z=>⟨z.1,d _ _ z.2.1,z.2.2⟩
section
variable{P:cW}{w:f7}{H:Hp}{h:Heap}{a:Addr}
def Ln(ok:pV P w H h)(e:Rd H a u):iR P w H h a u:=e.ok ok
def LJ{kvs:List (jB×V)}(ok:pV P w H h)(e:Rd H a (.dK kvs)):kvs.length<=bG/\(a==k8)=false/\∃vs,KV kvs vs/\h.DictOf (fH P w) a vs:=
 show iR P w H h a (.dK kvs)from Ln ok e
def AC{kvs:List (jB×V)}(ok:pV P w H h)(e:H a=some (.dK kvs)):kvs.length<=bG/\(a==k8)=false/\∃vs,KV kvs vs/\h.DictOf (fH P w) a vs:=LJ ok (.inl e)
def D4{c:List jB}(ok:pV P w H h)(e:H a=some (.tup (c.map kV))):(er (fH P w)).is h c a:=by
 obtain⟨_,b,r,o,d,f,n,g,_⟩:=(show iR P w H h a (.tup (c.map kV))from ok a _ e);exact⟨o,b.toArray,n,d,f,g,by simpa using GJ r⟩
def QF{kvs:List (List jB×V)}(ok:pV P w H h)(e:Rd H a (.dT kvs)):kvs.length<=bG/\(a==k8)=false /\
  ∃b,KT H kvs b/\h.DictOfH (er (fH P w)) a b:=by
 obtain⟨z,y,b,r,o,d,c,f,g,i,j,k⟩:=(show iR P w H h a (.dT kvs)from Ln ok e);refine⟨z,y,b,r,o,d,c,f,g,i,j,λx hx=>?_,k⟩
 have all:∀{l:List (List jB×V)}{m:List (List jB×Addr×Value)},KT H l m->∀x∈m,(er (fH P w)).is h x.1 x.2.1:=by
  intro l m q
  induction q with
  |nil=>intro x hx;exact nomatch hx
  |@cons p q ps qs hq t ih=>
   intro x hx;rcases aK.mp hx with e | hx
   ·subst e;exact D4 ok (by rw[<- hq.1];exact hq.2.1)
   ·exact ih x hx
 exact all r x hx
def Qd{kvs:List (List jB×V)}(ok:pV P w H h)(e:H a=some (.dT kvs)):kvs.length<=bG/\(a==k8)=false /\
  ∃b,KT H kvs b/\h.DictOfH (er (fH P w)) a b:=QF ok (.inl e)
end
def yJ(H:Hp)(a:Addr)(y:V)(r:Option V):Prop:=
 (∃kvs k,Rd H a (.dK kvs)/\y=kV k/\r=pZ kvs k)\/∃kvs k b,Rd H a (.dT kvs)/\y=.ref b/\H b=some (.tup (k.map kV))/\r=pZ kvs k
def I0(H:Hp)(a:Addr)(y v:V)(c:Hp):Prop:=
 (∃kvs k,H a=some (.dK kvs)/\y=kV k/\kvs.length<bG/\c=eM H a (.dK (tE kvs k v))) \/
 ∃kvs k b,H a=some (.dT kvs)/\y=.ref b/\H b=some (.tup (k.map kV))/\kvs.length<bG/\c=eM H a (.dT (tE kvs k v))
theorem yJ.k{a:Addr}{k}(e:H a=some (.dK kvs)):yJ H a (kV k) (pZ kvs k):=.inl ⟨kvs,k,.inl e,Db,Db⟩
theorem I0.k{a:Addr}{kvs:List (jB×V)}{k}(e:H a=some (.dK kvs))(b:kvs.length<bG):I0 H a (kV k) v (eM H a (.dK (tE kvs k v))):=.inl ⟨kvs,k,e,Db,b,Db⟩
section
variable{X:Cx}{d:List (Addr×Obj)}{f:St}{H:Hp}{s:Shared}{a:Addr}{y v:V}{u r:Value}{o:Option V}{A:d9}{E:Value->Shared->Prop}
def cU.big(I:cU X d f H s):k8<s.heap.objs.size:=by
 have h:eB<s.heap.objs.size:=(I.mod.glob.keeps I.bk).lt;exact OJ Cv h
def SI{Q:Value->Shared->Prop}(C:A.units+1<v7)(I:cU X d f H s)(g:yJ H a y (some v))(q:eZ y u)(h:∀i t,cU X d f H t->eZ v i->Q i t) :
  wpAny (model X.prog X.w) A (y8 (.ref a) u) Q E s:=by
 rcases g with⟨kvs,k,e,m,l⟩ | ⟨kvs,k,b,e,m,x,l⟩
 ·subst m;obtain⟨z,hd,vs,rel,j⟩:=LJ I.hok e;obtain⟨i,hw,c⟩:=tS.some_of (v:=v) (o:=bt vs k) (by rw[l];exact rel.val k);exact wpAny_getItem_of (D6 q) j.mapOf hw (h i _ (I.tok _) c)
 ·subst m;cases (show u=c9 b from q);obtain⟨z,hd,F,rel,j⟩:=QF I.hok e;obtain⟨i,hw,c⟩:=tS.some_of (v:=v) (o:=(gq F k).map (·.2)) (by rw[l];exact rel.val k);obtain⟨p,B,n⟩:=dS.mp hw;refine wpAny_getItem_heap (cg C) (D4 I.hok x) j B ?_;rw[n];exact h i _ (I.tok _) c
def Zi{Q:Value->Shared->Prop}(p:A.units+1<v7)(I:cU X d f H s)(g:yJ H a y o)(j:eZ y u)(h:∀m,cU X d f H m->Q (.bool (!o.isSome)) m) :
  wpAny (model X.prog X.w) A (f8 .NotIn u (.ref a)) Q E s:=by
 rcases g with⟨kvs,k,e,i,l⟩ | ⟨kvs,k,b,e,i,n,l⟩
 ·subst i;obtain⟨z,hd,vs,rel,c⟩:=LJ I.hok e;refine wpAny_notIn_of (D6 j) hd c.mapOf ?_;rw[<- (rel.val k).isSome_eq,<- l];exact h _ (I.tok _)
 ·subst i;cases (show u=c9 b from j);obtain⟨z,hd,t,rel,c⟩:=QF I.hok e;refine wpAny_notIn_heap (cg p) (D4 I.hok n) hd c ?_;have q:=(rel.val k).isSome_eq;rw[TB]at q;rw[<- q,<- l];exact h _ (I.tok _)
def C1{c:Heap}{j:Nat}(I:cU X d f H s)(i:Et (H a))(h:fF a s.heap c)(g:∃q,c.get? a=some q)(new:iR X.prog X.w (eM H a ob) c a ob) :
  cU X d f (eM H a ob) { s with heap:=c,toks:=j }:=
 I.write (x:=a) (e:=a) i (.inl Db) (λb q hb z=>(h.2 b hb).trans z) g new
def N1{b:Heap}{kvs:List (jB×V)}(z:kvs.length<=bG)(hd:(a==k8)=false)(rel:KV kvs vs)(c:b.DictOf (fH P w) a vs) :
  iR P w H' b a (.dK kvs):=⟨z,hd,vs,rel,c⟩
def SH{Q:Unit->Shared->Prop}(U:A.units+1<v7)(I:cU X d f H s)(g:I0 H a y v H')(K:eZ y u)(J:eZ v r)(h:∀L,cU X d f H' L->Q () L) :
  wpAny (model X.prog X.w) A (setItem (.ref a) u r) Q E s:=by
 rcases g with⟨kvs,k,e,p,l,n⟩ | ⟨kvs,k,b,e,p,C,l,n⟩
 ·subst p n;obtain⟨z,hd,vs,rel,m⟩:=AC I.hok e;have B:vs.length<=bG:=by rw[<- rel.length];exact z
  have t:(tE kvs k v).length<=bG:=by have:=uY kvs k v;lia
  refine wpAny_setItem_pairs (hsz:=B) (D6 K) m λG i x=>h _ ?_;have T:∃q,G.get? a=some q:=let ⟨q,_,_,j,_⟩:=i;⟨q,j⟩
  exact C1 I (by rw[e];exact e7) x T (N1 t hd (rel.put k J) i)
 ·subst p n;cases (show u=c9 b from K);obtain⟨z,hd,W,rel,m⟩:=Qd I.hok e;have B:W.length<=bG:=by rw[<- af rel];exact z
  have t:(tE kvs k v).length<=bG:=by have:=uY kvs k v;lia
  refine wpAny_setItem_heap (hsz:=B) (cg U) (D4 I.hok C) m λG i x=>h _ ?_;obtain⟨q,N,M,j,O,P,R,_,S⟩:=i;refine C1 I (by rw[e];exact e7) x ⟨q,j⟩ ⟨t,hd,_,(rel.put k C J).keeps λc Y F=>?_,q,N,M,j,O,P,R,S⟩;rw[bV (Qr F e (λz=>nomatch z))];exact F
end
section
variable{X:Cx}{b:List (Addr×Obj)}{c:St}{H:Hp}{s:Shared}{a:Addr}{kvs:List (jB×V)}{k:jB}{u:Value}{A:d9}{E:Value->Shared->Prop}
def Qc{more}{Q:Value->Shared->Prop}(I:cU X b c H s)(e:H a=some (.dK kvs))(j:eZ (kV k) u)(l:pZ kvs k=some v)(n:more=[]\/∃x,more=[x])
  (h:∀f p,cU X b c (eM H a (.dK (nV kvs k))) p->eZ v f->Q f p):wpAny (model X.prog X.w) A (call (.builtin "dict.pop") (.ref a::u::more)) Q E s:=by
 obtain⟨z,hd,vs,rel,m⟩:=AC I.hok e;obtain⟨f,hw,g⟩:=tS.some_of (v:=v) (o:=bt vs k) (by rw[<- l];exact rel.val k)
 have C:(keyPart u).isSome=true:=by
  cases k with
  |inl i=>obtain⟨t,q⟩:=(show∃t,u=m6 i t from j);subst q;rfl
  |inr x=>obtain⟨t,q⟩:=(show∃t,u=ae x t from j);subst q;rfl
 have y:argsOk "dict.pop" ⟨.ref a::u::more,[]⟩:=by
  rcases n with q | ⟨x,q⟩
  ·subst q;exact PySem.F.args_dict_pop_2 _ _
  ·subst q;exact PySem.F.args_dict_pop_3 _ _ _
 refine cm uG m.typeIs PySem.F.entry_dict_pop y (meets_dict_pop_there (fH X.prog X.w) a (D6 j) more n C)
  ⟨vs,f,m,by rw[<- rel.length];exact z,hw,λr d G=>h f _ ?_ g⟩
 have B:∃q,r.get? a=some q:=let ⟨q,_,_,hq,_⟩:=d;⟨q,hq⟩
 exact C1 I (by rw[e];exact e7) G B (N1 (bL (YL kvs k) z) hd (rel.drop k) d)
def Qb{Q:Value->Shared->Prop}(I:cU X b c H s)(e:Rd H a (.dK kvs))(h:∀t d,cU X b c H d->Q (.int kvs.length t) d):wpAny (model X.prog X.w) A (call (.builtin "len") [.ref a]) Q E s:=by
 obtain⟨z,hd,vs,rel,f⟩:=LJ I.hok e;refine call_len_dict hd f (by rw[<- rel.length];rw[bh]at z;lia) ?_;rw[<- rel.length];exact h _ _ (I.tok _)
end
def Y3(i:Expr):Prop:=∀b a,fi i false b a=operate [b,a] (y8 b a)
def aAb{E:Value->Shared->Prop}{id}{Q:Value->Shared->Prop}
  (j:typeLookup (.type T) "__getitem__"=pure (some (.builtin id))) (k:Y3 slice)
  (h:wpAny (model prog w) A (eval value env) (λo c=>wpAny (model prog w) A (eval slice env) (λi a=>a.TypeIs o T/\wpAny (model prog w) A (y8 o i) Q E a) E c) E s) :
  wpAny (model prog w) A (eval (.Subscript value slice pos) env) Q E s:=by
 refine ry (dN h (λo c e=>dN e (λi a b=>?_) λ_ _ x=>x) λ_ _ x=>x);obtain⟨g,b⟩:=b;unfold jk;refine aE ?_;rw[getitemInPython_of_ne g.not_modules];refine aE (wpAny_specialOf g j ?_)
 have fin:wpAny (model prog w) A (fi slice false o i) (λr d=>wpAny (model prog w) A (letTemporaryGo value o r >>= λ_=>pure r) Q E d) E a:=by
  rw[k o i];exact wpAny_operating (dN b (λr d f=>aE (wpAny_letTemporaryGo (aZ f))) λ_ _ x=>x)
 first
  |exact aZ (aE fin)
  |exact aE (aZ (aE fin))
  |exact aE fin
def LL{s:Shared}{a:Addr}(I:cU X pins σ H s)(g:yJ H a y o):s.TypeIs (.ref a) "dict":=by
 rcases g with⟨kvs,k,e,_,_⟩ | ⟨kvs,k,b,e,_,_,_⟩
 ·obtain⟨_,_,vs,_,c⟩:=LJ I.hok e;exact c.typeIs
 ·obtain⟨_,_,d,_,c⟩:=QF I.hok e;exact c.typeIs
def U1(e ty:TE):TE:=λc H Q=>e c H λx d=>ty c d λy b=>∃a v,x=.ref a/\yJ b a y (some v)/\Q v b
def ZX(ty e:TE):TE:=λc H Q=>ty c H λy d=>e c d λx b=>∃a o,x=.ref a/\yJ b a y o/\Q (.bl (!o.isSome)) b
def KA(f ty tv:TE):TS:=λD b H=>tv b H λv d=>f b d λx e=>ty b e λy H3=>∃a c,x=.ref a/\I0 H3 a y v c/\D.nx b c
section
variable{X:Cx}{o i b:Expr}{pos c:Pos}{d ty tv:TE}
def zJ(w:X.A.units+1<v7)(r:PE X o d)(q:PE X i ty)(t:Y3 i):PE X (.Subscript o i pos) (U1 d ty):=by
 intro e s k H Q I h;refine aAb PySem.F.slot_dict_getitem.lookup t (jG (r e s k H _ I h) λu G ⟨x,l,n,C,z⟩=>jG (q e G k l _ n z) λK L J=>?_);obtain⟨y,m,j,E,a,v,ex,g,B⟩:=J;subst ex;obtain rfl:u=c9 a:=C;exact⟨LL j g,SI w j g E λM s3 p f=>⟨v,m,p,f,B⟩⟩
def GC(r:X.A.units+1<v7)(p:PE X i ty)(q:PE X o d):PC X .NotIn i o (ZX ty d):=by
 intro e s f H Q I h;refine jG (p e s f H _ I h) λF C ⟨y,j,l,B,v⟩=>jG (q e C f j _ l v) λu G E=>?_;obtain⟨x,k,m,z,a,t,ex,g,w⟩:=E;subst ex;obtain rfl:u=c9 a:=z;exact Zi r m g B λs3 n=>⟨.bl (!t.isSome),k,n,Db,w⟩
def zH(B:X.A.units+1<v7)(w:PE X o d)(t:PE X i ty)(C:PE X b tv)(z:lT b (some (.Subscript o i c)) pos.line X.env=pure false) :
  PS X (.Assign [.Subscript o i c] b pos) (KA d ty tv):=by
 intro e s f H D I h;refine wpAny_Assign_Subscript (jG (C e s f H _ I h) λr M ⟨v,j,m,J,E⟩=>jG (w e M f j _ m E) λu N ⟨x,k,n,K,F⟩=>jG (t e N f k _ n F) λP s3 O=>?_) z;obtain⟨y,H3,p,L,a,l,ex,g,G⟩:=O;subst ex;obtain rfl:u=c9 a:=K;exact SH B p g L J λQ q=>⟨f,l,q,G⟩
end
def LK(h:Heap)(hb:k8<h.objs.size):iR P w H (h.push { cls:=.type "dict",data:=.dict #[] }) h.objs.size (.dK []):=
 ⟨cD _,beq_eq_false_iff_ne.mpr (i6 (cL hb)),[],.nil,Heap.DictOf.new h⟩
def MT:TE:=λ_ H Q=>∀p,H p=none->Q (.ref p) (eM H p (.dK []))
section
variable{X:Cx}{pos:Pos}
def KL:PE X (.Dict [] [] pos) MT:=λb s c H Q I h=>
 wpAny_Dict_empty ⟨.ref s.heap.objs.size,_,I.laid (a:=s.heap.objs.size) (o:=.dK []) (t':=s.toks) (λ_ _ q=>aD _ q) (aM _) (LK s.heap I.big),Db,h _ (I.hok.fresh (aM _))⟩
end
def MS:List (TE×TE)->St->Hp->(List (V×V)->Hp->Prop)->Prop
|[],_,H,Q=>Q [] H
| (tk,tv)::r,σ,H,Q=>tk σ H λx a=>tv σ a λy b=>MS r σ b λc H3=>Q ((x,y)::c) H3
abbrev VV:List (V×V)->List (Value×Value)->Prop:=Paired λp q=>eZ p.1 q.1/\eZ p.2 q.2
def Fv(X:Cx)(pos:Pos)(keys:List (Option Expr))(a:List Expr)(b:List (TE×TE)):Prop:=
 ∀pins s σ H(Q:List (V×V)->Hp->Prop),cU X pins σ H s->MS b σ H Q ->
  wpAny (model X.prog X.w) X.A (evalPairs (pairTrees keys a X.env pos)) (λvs e=>∃d c,cU X pins σ c e/\VV d vs/\Q d c) X.xe s
def aA8:Fv X pos [] [] []:=λa s b H Q I h=>pairTrees_nil_walk ⟨[],H,I,.nil,h⟩
def zI{k tv}(i:PE X k tk)(l:PE X v tv)(j:Fv X pos ks vs trs) :
  Fv X pos (some k::ks) (v::vs) ((tk,tv)::trs):=λa s b H Q I h=>
 pairTrees_cons_walk (jG (i a s b H _ I h) λu t ⟨x,c,e,q,n⟩=>jG (l a t b c _ e n) λz w ⟨y,d,f,r,o⟩=>
  jG (j a w b d _ f o) λA s3 ⟨m,H3,g,rel,p⟩=>⟨(x,y)::m,H3,g,.cons ⟨q,r⟩ rel,p⟩)
noncomputable def AX(kvs more:List (jB×V)):List (jB×V):=more.foldl (λa kv=>tE a kv.1 kv.2) kvs
def KV.merge:∀{more rs kvs vs},KV more rs->KV kvs vs->KV (AX kvs more) (merged vs rs):=by
 intro more rs kvs vs r;unfold KV at r
 induction r generalizing kvs vs with
 |nil=>intro q;exact q
 |@cons p q ps qs h t ih=>
  intro a
  have e:KV (tE kvs p.1 p.2) (stored vs q.1 q.2):=by
   have:=a.put p.1 h.2;rw[<- h.1];exact this
  exact ih e
theorem wZ:∀(more kvs:List (jB×V)),(AX kvs more).length<=kvs.length+more.length
|[],kvs=>by show kvs.length<=kvs.length+0;lia
|p::r,kvs=>by
 have a:=wZ r (tE kvs p.1 p.2);have b:=uY kvs p.1 p.2;show(AX (tE kvs p.1 p.2) r).length<=_;rw[dQ];lia
theorem E1:∀{kvs:List (jB×V)}{ws},VV (kvs.map λkv=>(kV kv.1,kv.2)) ws->∃rs,Carries (fH P w) ws rs/\KV kvs rs
|[],_,r=>by rw[nY]at r;cases r;exact⟨[],e7,.nil⟩
|p::kvs,_,r=>by
 rw[bS]at r
 cases r with
 |@cons a b as bs h t=>
  obtain⟨rs,c,q⟩:=E1 (P:=P) (w:=w) t;obtain⟨e,d⟩:=b;exact⟨(p.1,d)::rs,⟨D6 h.1,Db,c⟩,.cons ⟨Db,h.2⟩ q⟩
def Lv(a:List (TE×TE)):TE:=λd H Q=>∀p,H p=none->MS a d (eM H p (.dK [])) λc b=>b p=some (.dK [])/\∃kvs:List (jB×V),c=kvs.map (λkv=>(kV kv.1,kv.2))/\kvs.length<=15/\Q (.ref p) (eM b p (.dK (AX [] kvs)))
def aBh{keys:List (Option Expr)}{b:List Expr}(h:Fv X pos keys b trs)(f:keys.all (·.isSome)=true)(t:keys.length=b.length)(n:keys≠[])
  (i:keys.length<=15):PE X (.Dict keys b pos) (Lv trs):=by
 intro g s F H Q I q;have u:=I.hok.fresh (aM s.heap.objs.size);have k:=I.laid (a:=s.heap.objs.size) (o:=.dK []) (h':=s.heap.push { cls:=.type "dict",data:=.dict #[] }) (t':=s.toks) (λ_ _ q=>aD _ q) (aM _) (LK s.heap I.big);refine wpAny_Dict_walk (knd:=fH X.prog X.w) f t n i (jG (h g _ F _ _ k (q _ u)) λM L E=>?_);obtain⟨K,G,j,rel,e,kvs,m,J,y⟩:=E;subst m;obtain⟨rs,c,B⟩:=E1 (P:=X.prog) (w:=X.w) rel;obtain⟨z,hd,C,A,l⟩:=AC j.hok e;cases A;refine⟨rs,c,l,λh' d v=>⟨.ref s.heap.objs.size,_,?_,Db,y⟩⟩
 have x:(AX [] kvs).length<=bG:=by
  have p:=wZ kvs [];rw[FF]at p;rw[bh];lia
 have r:∃q,h'.get? s.heap.objs.size=some q:=let ⟨q,_,_,hq,_⟩:=d;⟨q,hq⟩
 exact C1 j (by rw[e];exact e7) v r (N1 x hd (B.merge .nil) d)
end L2
namespace TL
open L2
noncomputable def lQ(s:Stmt)(j:Nat):Stmt:=match s with
|.ClassDef _ _ _ b _ _ _ _ _ _ _=>b.getD j (.Pass ⟨0,0,0,0⟩)
|_=>.Pass ⟨0,0,0,0⟩
theorem BJ:∀{fs:List (Str×V)},f∉fs.map (·.1)->fs.lookup f=none
|[],_=>rfl
| (g,u)::fs,h=>by
 have a:(f==g)=false:=beq_eq_false_iff_ne.mpr λz=>h (by rw[z];exact aN ..);show(match f==g with | true=>some u | false=>fs.lookup f)=none;rw[a];exact BJ λz=>h (aJ _ z)
inductive tT(K:aF)(H:Hp):List (Int×D)->List (jB×V)->Prop
|nil:tT K H [] []
|cons {i:Int} {d:D} {v:V} {a:List (Int×D)} {b:List (jB×V)} (r:fR K H d v) (t:tT K H a b):tT K H ((i,d)::a) ((.inl i,v)::b)
noncomputable def BZ(kvs:List (Int×D))(i:Int)(d:D):List (Int×D):=if kvs.any (λe=>decide (e.1=i))=true then kvs.map (λe=>if e.1=i then(e.1,d)else e)else kvs++[(i,d)]
noncomputable def AB(kvs:List (Int×D))(i:Int):List (Int×D):=kvs.filter λe=>decide (e.1≠i)
noncomputable def oH(kvs:List (Int×D))(i:Int):Option D:=(kvs.find? λe=>decide (e.1=i)).map (·.2)
section
variable{K:aF}{H c:Hp}
theorem tT.same(s:aV H c):∀{a b},tT K H a b->tT K c a b
|_,_,.nil=>.nil
|_,_,.cons r t=>.cons (r.same s) (t.same s)
theorem tT.length:∀{a:List (Int×D)}{b:List (jB×V)},tT K H a b->a.length=b.length
|_,_,.nil=>rfl
|_,_,.cons r t=>h9 (·+1) t.length
theorem tT.vals:∀{a:List (Int×D)}{b:List (jB×V)},tT K H a b->Reps K H (a.map (·.2)) (b.map (·.2))
|_,_,.nil=>.nil
|_,_,.cons r t=>.cons r t.vals
theorem tT.val(i:Int):∀{a b},tT K H a b->(oH a i=none/\pZ b (.inl i)=none)\/∃d v,oH a i=some d/\pZ b (.inl i)=some v/\fR K H d v
|_,_,.nil=>.inl ⟨Db,Db⟩
| (j,d)::a,(_,v)::b,.cons r t=>by
 unfold oH pZ;rw[jF,jF];by_cases e:j=i
 ·subst e;refine .inr ⟨d,v,?_,?_,r⟩<;>simp
 ·have f:¬((l8 j:jB)=.inl i):=λz=>e (bj z);rw[show decide ((j,d).1=i)=false from b9 e,show decide (((l8 j:jB),v).1=.inl i)=false from b9 f];exact t.val i
theorem tT.any(i:Int):∀{a:List (Int×D)}{b:List (jB×V)},tT K H a b->(a.any λe=>decide (e.1=i))=b.any λe=>decide (e.1=.inl i)
|_,_,.nil=>rfl
| (j,d)::a,(_,v)::b,.cons r t=>by
 rw[pK,pK,t.any i];congr 1;show decide (j=i)=decide ((l8 j:jB)=.inl i);rw[eL,d0,d0];exact⟨λz=>by rw[z],λz=>bj z⟩
theorem tT.map(i:Int)(r:fR K H d v):∀{a:List (Int×D)}{b:List (jB×V)},tT K H a b->tT K H (a.map λe=>if e.1=i then(e.1,d)else e) (b.map λe=>if e.1=.inl i then(e.1,v)else e)
|_,_,.nil=>.nil
| (j,x)::a,(_,y)::b,.cons r0 t=>by
 rw[bS,bS];by_cases e:j=i
 ·subst e;rw[a9 Db,a9 rfl];exact .cons r (t.map j r)
 ·rw[a8 e,a8 λz:(l8 j:jB)=.inl i=>e (bj z)];exact .cons r0 (t.map i r)
theorem tT.snoc{i:Int}(r:fR K H d v):∀{a b},tT K H a b->tT K H (a++[(i,d)]) (b++[(.inl i,v)])
|_,_,.nil=>.cons r .nil
|_,_,.cons r0 t=>.cons r0 (t.snoc r)
def tT.put{i:Int}(r:fR K H d v)(h:tT K H a b):tT K H (BZ a i d) (tE b (.inl i) v):=by
 unfold BZ tE;rw[h.any i];split
 ·exact h.map i r
 ·exact h.snoc r
theorem tT.drop(i:Int):∀{a b},tT K H a b->tT K H (AB a i) (nV b (.inl i))
|_,_,.nil=>.nil
| (j,x)::a,(_,y)::b,.cons r0 t=>by
 unfold AB nV;rw[fA,fA];by_cases e:j=i
 ·subst e;rw[a8 Cy,a8 Cy];exact t.drop j
 ·rw[a9 (by simpa using e),a9 (by simpa using e)];exact .cons r0 (t.drop i)
end
structure Bk where
 p:Addr
 q:Addr
 dx:Addr
 fm:D
 dp:Int
 ls:Int
structure S8 where
 kvs:List (Int×D)
 fol:Int
 st:D
noncomputable def lL(T:Bk):D:=.dict [(.str "@",.list [.int (T.p:Nat),.int (T.q:Nat),.int (T.dx:Nat),T.fm,.int T.dp,.int T.ls])]
def iK(h:lL S=lL T):S=T:=by
 unfold lL at h;injection h with h
 injection h with h _
 injection h with _ h
 injection h with h
 injection h with g h
 injection h with i h
 injection h with j h
 injection h with m h
 injection h with k h
 injection h with l _
 injection g with g
 injection i with i
 injection j with j
 injection k with k
 injection l with l
 obtain⟨a,b,c,d,e,f⟩:=S;obtain⟨n,o,p,q,r,s⟩:=T;simp only[Bk.mk.injEq];exact⟨kJ.inj g,kJ.inj i,kJ.inj j,m,k,l⟩
def xV{K}(T:Bk):fR K H (lL T) (.ref T.p):=.addr _
def DN{K}{x:Addr}{z}(r:fR K H (.dict [(.str "@",.list (.int (x:Nat)::z))]) v):v=.ref x:=by
 generalize a:(pD [(.str "@",.list (.int (x:Nat)::z))])=d at r
 cases r with
 |@addr p z=>
  injection a with a
  injection a with a _
  injection a with _ a
  injection a with a
  injection a with a _
  injection a with a
  rw[kJ.inj a]
 |dct=>
  injection a with a
  injection a with a _
  injection a with a _
  injection a with a
  exact c7 a Cu
 |_=>cases a
def M1{K}{T:Bk}(r:fR K H (lL T) v):v=.ref T.p:=DN r
noncomputable def IU(T:Bk)(a b:V)(n:S8):List (Str×V):=[("form",a),("deep",.int T.dp),("least",.int T.ls),("numbered",.ref T.q),("following",.int n.fol),("standing",b)]
def LX(C:Addr)(T:Bk)(K:aF)(H:Hp)(a:List Addr)(n:S8):Prop:=T.p≠T.q/\∃(b c:V)(kv:List (jB×V)),H T.p=some (.ins C T.dx (IU T b c n))/\H T.q=some (.dK kv)/\fR K (mask H a) T.fm b/\fR K (mask H a) n.st c/\tT K (mask H a) n.kvs kv
noncomputable def mB(C:Addr):pP where
 I:=Bk
 S:=S8
 ad:=λT=>[T.p,T.q]
 tau:=lL
 At:=LX C
 to:=λ{T K H H' ps u3 n} h e s=>by
  obtain⟨eg,v1,v6,kv,h1,h2,h3,h4,h5⟩:=h;exact⟨eg,v1,v6,kv,by rw[e T.p Cy];exact h1,by rw[e T.q Cy];exact h2,h3.same s,h4.same s,h5.same s⟩
 liv:=λ{T K H ps n} h a ha=>by
  obtain⟨eg,v1,v6,kv,h1,h2,_⟩:=h;rcases aK.mp ha with rfl | ha
  ·exact⟨_,h1,Db⟩
  ·rw[aP.mp ha];exact⟨_,h2,Db⟩
 inj:=iK
noncomputable def X7(T:Bk)(n:S8):List (Str×D):=[("form",T.fm),("deep",.int T.dp),("least",.int T.ls),("following",.int n.fol),("standing",n.st)]
def Zt{K}{T:Bk}{n:S8}(g:fR K H T.fm v1)(i:fR K H n.st v6)(h:(X7 T n).lookup f=some y):∃v,(IU T v1 v6 n).lookup f=some v/\fR K H y v:=by
 by_cases a:f="form"
 ·subst a;cases h;exact⟨v1,Db,g⟩
 by_cases b:f="deep"
 ·subst b;cases h;exact⟨_,Db,.int _⟩
 by_cases c:f="least"
 ·subst c;cases h;exact⟨_,Db,.int _⟩
 by_cases d:f="following"
 ·subst d;cases h;exact⟨_,Db,.int _⟩
 by_cases e:f="standing"
 ·subst e;cases h;exact⟨_,Db,i⟩
 refine c7 h ?_;unfold X7;rw[cE,beq_eq_false_iff_ne.mpr a,cE,beq_eq_false_iff_ne.mpr b,cE,beq_eq_false_iff_ne.mpr c,cE,beq_eq_false_iff_ne.mpr d,cE,beq_eq_false_iff_ne.mpr e]
 exactλz=>nomatch z
section
variable{X:Cx}{C:Addr}{e i o b:Expr}{l E:ET}{pos m G c:Pos}{f:Str}
def kM{K}{T T':Bk}(o:jY (mB C) K B p0 H ps u0 σ T n)(s:aV H H1)(r:fR K (mask H1 ps) (lL T') v)(h:lL T'=lL T) :
  v=.ref T.p/\LX C T K H1 ps n:=by
 cases iK h;exact⟨M1 r,(o.grow s).tp⟩
def Pc(C:Addr)(f:Str)(l:ET):EZ (mB C):=λa n g Q=>l g λd=>d=a/\∃(T:Bk)(x:D),a=lL T/\(X7 T n).lookup f=some x/\Q n x
def tN(I:B9 X.K C)(M:gG X.K C f)(J:fK X e l)(hb:h7 e f X.env (eval e X.env)=eval e X.env:=by rfl):xH (F:=mB C) X (.Attribute e f pos) (Pc C f l):=by
 obtain⟨v,p,r⟩:=J;refine⟨_,WG p hb,λB P H R j W T n Q Y o h k=>r B P H R j W _ _ o.ok h λd x t s U S=>?_⟩;obtain⟨rfl,T',y,O,L,q⟩:=S;obtain⟨rfl,a⟩:=kM (T':=T) o s U Db;cases iK O;obtain⟨N,v1,v6,kv,u,Z,z,A,h5⟩:=id a;obtain⟨w,hw,g⟩:=Zt z A L;exact⟨_,C,_,_,w,Db,u,I,M,hw,k n y w t (.of s) a g q⟩
def xZ(a:B9 X.K C)(d:gG X.K C "numbered")(p:PE X e v)(hb:h7 e "numbered" X.env (eval e X.env)=eval e X.env:=by rfl):PE X (.Attribute e "numbered" pos) (Kb X.K v "numbered"):=WG p hb
def Pq(C:Addr)(E l:ET):TZ (mB C):=λg n a Q=>E a λy=>∃j:Int,y=.int j/\l a λd=>d=g/\Q n (oH n.kvs j).isNone
def UO(hu:X.A.units+1<v7)(J:B9 X.K C)(L:gG X.K C "numbered")(Z:fK X i E)(Y:fK X e l)(hb:h7 e "numbered" X.env (eval e X.env)=eval e X.env:=by rfl)(hm:h8 .NotIn (.Attribute e "numbered" c)=false:=by rfl) :
  OA (F:=mB C) X (.Compare i [.NotIn] [.Attribute e "numbered" c] pos) (Pq C E l):=by
 obtain⟨v,p,r⟩:=Y;obtain⟨vi,pi,ri⟩:=Z;refine⟨_,V2 (GC hu pi (xZ (pos:=c) J L p hb)) hm,λB M H N g P T n Q QV o h k=>?_⟩;refine ri B M H N g P _ _ o.ok h λy yv R I r1 z=>?_;obtain⟨j,rfl,z⟩:=z;cases r1;refine r B M R N g P _ _ (o.grow I).ok z λd x S O r2 q2=>?_;obtain⟨rfl,q⟩:=q2;obtain⟨rfl,a⟩:=kM (T':=T) (o.grow I) O r2 Db;obtain⟨_,_,_,_,u,_⟩:=id a;refine⟨_,C,_,_,_,Db,u,J,L,Db,?_⟩;obtain⟨eg,v1,v6,kv,h1,U,h3,h4,W⟩:=id a;refine⟨T.q,pZ kv (.inl j),Db,yJ.k (k:=.inl j) U,_,Db,k n _ S ((fE.of I).trans (.of O)) a ?_⟩;rcases W.val j with⟨s,t⟩ | ⟨d,w,s,t,_⟩
 ·rw[s]at q;rw[t];exact q
 ·rw[s]at q;rw[t];exact q
def Pd(C:Addr)(l E:ET):EZ (mB C):=λg n a Q=>l a λd=>d=g/\E a λy=>∃(j:Int)(x:D),y=.int j/\oH n.kvs j=some x/\Q n x
def Xn(hu:X.A.units+1<v7)(N:B9 X.K C)(O:gG X.K C "numbered")(he:fK X e l)(hi:fK X i E)(hs:Y3 i:=by intro _ _;rfl)(hb:h7 e "numbered" X.env (eval e X.env)=eval e X.env:=by rfl) :
  xH (F:=mB C) X (.Subscript (.Attribute e "numbered" c) i pos) (Pd C l E):=by
 obtain⟨v,p,r⟩:=he;obtain⟨vi,pi,ri⟩:=hi;refine⟨_,zJ hu (xZ (pos:=c) N O p hb) pi hs,λB P H R t U T n Q QV o h k=>?_⟩;refine r B P H R t U _ _ o.ok h λd x W u r1 J=>?_;obtain⟨rfl,J⟩:=J;obtain⟨rfl,z⟩:=kM (T':=T) o u r1 Db;obtain⟨_,_,_,_,I,_⟩:=id z;refine⟨_,C,_,_,_,Db,I,N,O,Db,?_⟩;refine ri B P W R t U _ _ (o.grow u).ok J λy yv Y S r2 q2=>?_;obtain⟨j,x,rfl,g,q⟩:=q2;cases r2;have a:=((o.grow u).grow S).tp;obtain⟨eg,v1,v6,kv,h1,Z,h3,h4,h5⟩:=id a;rcases h5.val j with⟨s,M⟩ | ⟨d,w,s,M,L⟩
 ·rw[g]at s;cases s
 ·rw[g]at s;cases s;refine⟨T.q,w,Db,?_,k n x w Y ((fE.of u).trans (.of S)) a L q⟩;have:=yJ.k (k:=.inl j) Z;rw[M]at this;exact this
def YY{K}{T:Bk}(a:LX C T K H ps n)(g:T.q∈ps)(h:tT K (mask H ps) kvs kv):LX C T K (eM H T.q (.dK kv)) ps { n with kvs:=kvs }:=by
 obtain⟨d,s,t,r,j,u,k,p,v⟩:=a;refine⟨d,s,t,kv,by rw[bV d];exact j,bQ,?_,?_,?_⟩
 ·rw[dY g];exact k
 ·rw[dY g];exact p
 ·rw[dY g];exact h
def vW{p:Addr}(h:p∈as):fE as H (eM H p u):=λa o ne e=>by
 rw[bV (show a≠p fromλz=>ne (by rw[z];exact h))];exact e
def jY.there{F:pP}{K B H p0 ps u0 σ T n n'}(o:jY F K B p0 H ps u0 σ T n){p:Addr}{u}(a:p∈F.ad T)(t:F.At T K (eM H p u) ps n'):jY F K B p0 (eM H p u) ps u0 σ T n':=o.growX (vW a) t
def Pt(C:Addr)(l E tv:ET):SZ (mB C):=λh g n a=>tv a λx=>l a λd=>d=h/\E a λy=>∃j:Int,y=.int j/\n.kvs.length<=100000/\g.nx { n with kvs:=BZ n.kvs j x } a
def U4{tv}(hu:X.A.units+1<v7)(P:B9 X.K C)(Q:gG X.K C "numbered")(Y:fK X e l)(Z:fK X i E)(hv:fK X b tv)(hs:lT b (some (.Subscript (.Attribute e "numbered" c) i m)) pos.line X.env=pure false:=by rfl)(hb:h7 e "numbered" X.env (eval e X.env)=eval e X.env:=by rfl) :
  uA (F:=mB C) X (.Assign [.Subscript (.Attribute e "numbered" c) i m] b pos) (Pt C l E tv):=by
 obtain⟨v,p,r⟩:=Y;obtain⟨vi,pi,ri⟩:=Z;obtain⟨vv,pv,rv⟩:=hv;refine⟨_,zH hu (xZ (pos:=c) P Q p hb) pi pv hs,λB L H g a u T n DC DV o h f=>?_⟩;refine rv B L H g a u _ _ o.ok h λx xv S s r0 q0=>?_;refine r B L S g a u _ _ (o.grow s).ok q0 λd xd U t r1 M=>?_;obtain⟨rfl,M⟩:=M;obtain⟨rfl,w⟩:=kM (T':=T) (o.grow s) t r1 Db;obtain⟨_,_,_,_,I,_⟩:=id w;refine⟨_,C,_,_,_,Db,I,P,Q,Db,?_⟩;refine ri B L U g a u _ _ ((o.grow s).grow t).ok M λy yv H2 N r2 q2=>?_;obtain⟨j,rfl,hz,q⟩:=q2;cases r2;have J:=((o.grow s).grow t).grow N;obtain⟨eg,v1,v6,kv,h1,W,h3,h4,O⟩:=id J.tp;have hL:bG=2^24:=rfl;refine⟨T.q,_,Db,I0.k (k:=.inl j) (v:=xv) W (by rw[<- O.length];lia),?_⟩;have R:T.q∈g:=o.mem' T.q (by show T.q∈[T.p,T.q];simp);have z:=YY J.tp R (O.put (i:=j) (r0.same (bH (t.trans N))));exact f.nx _ g a u _ (J.there (by show T.q∈[T.p,T.q];simp) z) ((bH (s.trans (t.trans N))).trans (by rw[dY R];exact L2.aV.refl _)) q
def YZ{K}{T:Bk}{d:S8}(a:T.p≠T.q)(h:H T.q=some (.dK kv))(j:fR K (mask H ps) T.fm v1)(k:fR K (mask H ps) d.st v6)(n:tT K (mask H ps) d.kvs kv)(g:T.p∈ps):LX C T K (eM H T.p (.ins C T.dx (IU T v1 v6 d))) ps d:=
 ⟨a,v1,v6,kv,bQ,by rw[bV (i6 a)];exact h,by rw[dY g];exact j,by rw[dY g];exact k,by rw[dY g];exact n⟩
def Vs(C:Addr)(l tv:ET):SZ (mB C):=λh g n a=>l a λd=>d=h/\tv a λx=>∃j:Int,x=.int j/\g.nx { n with fol:=n.fol+j } a
def Z6{tv}(U:B9 X.K C)(Y:gG X.K C "following")(W:fK X e l)(Z:fK X b tv):uA (F:=mB C) X (.AugAssign (.Attribute e "following" G) .Add b pos) (Vs C l tv):=by
 obtain⟨v,p,r⟩:=W;obtain⟨vv,pv,rv⟩:=Z;refine⟨_,RG p pv Wu,λB J H k g z T n DC DV o h f=>?_⟩;refine r B J H k g z _ _ o.ok h λd xd N s r1 x=>?_;obtain⟨rfl,x⟩:=x;obtain⟨rfl,t⟩:=kM (T':=T) o s r1 Db;obtain⟨w,L,M,kv,A,P,Q,R,S⟩:=id t;refine⟨_,C,_,_,_,Db,A,U,Y,Db,?_⟩;refine rv B J N k g z _ _ (o.grow s).ok x λy yv O a r2 q2=>?_;obtain⟨j,rfl,q⟩:=q2;cases r2;have o2:=(o.grow s).grow a;have I:T.p∈k:=o.mem' T.p (by show T.p∈[T.p,T.q];simp);refine⟨_,_,Db,Db,T.dx,IU T L M n,a _ _ A,Da,?_⟩;have u:LX C T X.K (eM O T.p (.ins C T.dx (IU T L M { n with fol:=n.fol+j }))) k { n with fol:=n.fol+j }:=YZ w (a _ _ P) (Q.same (bH a)) (R.same (bH a)) (S.same (bH a)) I;exact f.nx _ k g z _ (o2.there (by show T.p∈[T.p,T.q];simp) u) ((bH (s.trans a)).trans (by rw[dY I];exact L2.aV.refl _)) q
def Vy(C:Addr)(l:ET)(tv:EZ (mB C)):SZ (mB C):=λg h n a=>tv g n a λn1 x=>l a λd=>d=g/\h.nx { n1 with st:=x } a
def Z1{tv}(P:B9 X.K C)(R:gG X.K C "standing")(Q:fK X e l)(U:xH X b tv)(S:lT b (some (.Attribute e "standing" m)) pos.line X.env=pure false:=by rfl):uA (F:=mB C) X (.Assign [.Attribute e "standing" m] b pos) (Vy C l tv):=by
 obtain⟨v,p,r⟩:=Q;obtain⟨vv,pv,rv⟩:=U;refine⟨_,xX p pv S,λB z H g a w T n DC DV o h f=>?_⟩;refine rv B z H g a w T n _ _ o h λn1 x xv I A t0 Z W=>?_;have u:=o.growX A t0;refine r B z I g a w _ _ u.ok W λd xd J j r1 Y=>?_;obtain⟨rfl,q⟩:=Y;obtain⟨rfl,k⟩:=kM (T':=T) u j r1 Db;obtain⟨t,v1,v6,kv,L,M,N,h4,O⟩:=id k;have y:T.p∈g:=o.mem' T.p (by show T.p∈[T.p,T.q];simp);refine⟨_,C,_,_,Db,L,P,R,Da,?_⟩;have s:LX C T X.K (eM J T.p (.ins C T.dx (IU T v1 xv { n1 with st:=x }))) g { n1 with st:=x }:=YZ t M N (Z.same (bH j)) O y;exact f.nx _ g a w _ ((u.grow j).there (by show T.p∈[T.p,T.q];simp) s) ((A.mask o.mem').trans ((bH j).trans (by rw[dY y];exact L2.aV.refl _))) q
end
end TL
namespace L2
open TL
section
variable{X:Cx}{c:List (Addr×Obj)}{f:St}{H d:Hp}{s:Shared}
def cU.laidM{h:Heap}{t':Nat}(I:cU X c f H s)(k:∀b u,s.heap.get? b=some u->h.get? b=some u)(g:aV H d)(new:∀a o,d a=some o->H a=none->s.heap.objs.size<=a/\iR X.prog X.w d h a o):cU X c f d { s with heap:=h,toks:=t' }:=by
 refine I.un ⟨λb ob q _ _ _=>k b ob q,λb ob q _ _ _=>⟨ob.slots,k b ob q⟩,λb ob q n _=>?_,λb ob q _=>⟨ob,k b ob q⟩,λb j q=>g _ _ q,λb o u q=>g _ _ q,λb l q=>⟨#[],by rw[g _ _ q];simp⟩⟩ λa o e=>?_
 ·cases e:d b with
  |none=>rfl
  |some o=>exact c7 (aY q) (Y7.mpr (new b o e n).1)
 ·cases q:H a with
  |none=>exact(new a o e q).2
  |some u=>
   have i:=g _ _ q;rw[e]at i;cases i;exact(I.hok a o q).stay (λb v _ z=>k b v z) (λb z=>g _ _ z) (λb j z=>g _ _ z) λb ob v z=>g _ _ z
end
theorem K1{i:Type}{b:Addr}{y:i}:∀{c:List Addr}{f:List i}{j:Nat},c.Nodup->c[j]?=some b->f[j]?=some y->(c.zip f).lookup b=some y
|[],_,j,_,h,_=>by simp at h
|a::c,[],j,_,_,h=>by simp at h
|a::c,z::f,0,_,h1,h2=>by
 simp at h1 h2;subst h1 h2;simp[kG]
|a::c,z::f,j+1,nd,h1,h2=>by
 rw[kE]at nd;have d:c[j]?=some b:=by simpa using h1
 have g:f[j]?=some y:=by simpa using h2
 have ne:(b==a)=false:=beq_eq_false_iff_ne.mpr λe=>nd.1 (e▸bB d);rw[T5,cE,ne];exact K1 nd.2 d g
theorem D2{f:Type}{b:Addr}{y:f}:∀{c:List Addr}{d:List f},(c.zip d).lookup b=some y->∃j:Nat,c[j]?=some b/\d[j]?=some y
|[],_,h=>by simp[kG]at h
|a::c,[],h=>by simp[kG]at h
|a::c,z::d,h=>by
 rw[T5,cE]at h
 cases e:(b==a)with
 |true=>
  rw[e]at h;have g:b=a:=bo e;exact⟨0,by simp[g],by simpa using h⟩
 |false=>
  rw[e]at h;obtain⟨j,i,k⟩:=D2 h;exact⟨j+1,by simpa using i,by simpa using k⟩
end L2
namespace TL
open L2
theorem BG{K}:∀{a:List D}{vs:List V},a.length=vs.length->(∀(j:Nat)(d:D)(v:V),a[j]?=some d->vs[j]?=some v->fR K H d v)->Reps K H a vs
|[],[],_,_=>.nil
|[],_::_,h,_=>by simp at h
|_::_,[],h,_=>by simp at h
|d::a,v::vs,h,k=>.cons (k 0 d v Db Db) (BG (by simpa using h) λj b f c e=>k (j+1) b f (by simpa using c) (by simpa using e))
end TL
namespace L2
open TL
noncomputable def FZ(v p:Addr):HO:=.ext λh=>h.IsValuesView v p
noncomputable def F0(v p:Addr):HO:=.ext λh=>h.IsItemsView v p
theorem PX{a:Type}:∀{kvs:List (a×V)}{vs:List (a×Value)},KV kvs vs->eW (kvs.map (·.2)) (vs.map (·.2))
|_,_,.nil=>.nil
|_,_,.cons r t=>.cons r.2 (PX t)
theorem XL{e:Type}:∀{kvs:List (e×V)}{vs:List (e×Value)}{j:Nat}{k:e}{x},KV kvs vs->vs[j]?=some (k,x)->∃v,kvs[j]?=some (k,v)/\eZ v x
|_,_,_,_,_,.nil,h=>by simp at h
| (a,v)::_,(b,y)::_,0,k,x,.cons r t,h=>by
 simp at h;obtain⟨c,d⟩:=h;obtain⟨f,g⟩:=r;dsimp only at f g;subst c d f;exact⟨v,Db,g⟩
|_::_,_::_,j+1,k,x,.cons r t,h=>by
 obtain⟨v,c,d⟩:=XL (j:=j) t (by simpa using h);exact⟨v,by simpa using c,d⟩
def P1{k}(h:(fH P w).is k u=true):eZ (kV k) u:=by
 rcases jH h with⟨i,t,rfl,rfl⟩ | ⟨x,t,rfl,rfl⟩<;>exact⟨t,Db⟩
section
variable{X:Cx}
def NH:S6 X "dict.values" (λx c H Q=>c=[]/\∃(p:Addr)(kvs:List (jB×V)),x=.ref p/\H p=some (.dK kvs)/\∀v,H v=none->Q (.ref v) (eM H v (FZ v p))):=by
 intro b s l H x c v j Q I f r h;obtain⟨rfl,p,kvs,rfl,d,q⟩:=h;cases f;cases r;obtain⟨z,hd,vs,rel,a⟩:=AC I.hok d;refine cm FU a.typeIs PySem.F.entry_dict_values (PySem.F.args_dict_values_1 _) (meets_dict_values (fH X.prog X.w) p hd) ⟨⟨vs,a⟩,?_⟩;exact⟨.ref s.heap.objs.size,_,I.laid (t':=s.toks) (o:=FZ s.heap.objs.size p) (λ_ _ e=>aD _ e) (aM _) ⟨⟨_,aU _ Db,Db,Db⟩,⟨_,aU _ Db⟩,λg i ⟨o,e,r⟩ k=>⟨o,k _ e,r⟩⟩,Db,q _ (I.hok.fresh (aM _))⟩
def RX:S6 X "dict.items" (λx c H Q=>c=[]/\∃(p:Addr)(kvs:List (jB×V)),x=.ref p/\H p=some (.dK kvs)/\∀v,H v=none->Q (.ref v) (eM H v (F0 v p))):=by
 intro b s l H x c v j Q I f r h;obtain⟨rfl,p,kvs,rfl,d,q⟩:=h;cases f;cases r;obtain⟨z,hd,vs,rel,a⟩:=AC I.hok d;refine cm G2 a.typeIs PySem.F.entry_dict_items (PySem.F.args_dict_items_1 _) (meets_dict_items (fH X.prog X.w) p hd) ⟨⟨vs,a⟩,?_⟩;exact⟨.ref s.heap.objs.size,_,I.laid (t':=s.toks) (o:=F0 s.heap.objs.size p) (λ_ _ e=>aD _ e) (aM _) ⟨⟨_,aU _ Db,Db,Db⟩,⟨_,aU _ Db⟩,λg i ⟨o,e,r⟩ k=>⟨o,k _ e,r⟩⟩,Db,q _ (I.hok.fresh (aM _))⟩
def PQ:S6 X "dict.pop" (λx b H Q=>∃(p:Addr)(kvs:List (jB×V))(k:jB)(v:V),x=.ref p/\b=[kV k]/\H p=some (.dK kvs)/\pZ kvs k=some v/\Q v (eM H p (.dK (nV kvs k)))):=by
 intro a s n H x b v l Q I i r h;obtain⟨p,kvs,k,y,rfl,rfl,e,d,q⟩:=h;cases i;obtain⟨u,rfl,g⟩:=oQ r;exact Qc I e g d (.inl Db) λm j c f=>⟨y,_,c,f,q⟩
def SN:lZ X (.builtin "len") (λb H Q=>∃(p:Addr)(kvs:List (jB×V)),b=[.ref p]/\H p=some (.dK kvs)/\Q (.int kvs.length) H):=by
 intro a s i H b g Q I r h;obtain⟨p,kvs,rfl,d,q⟩:=h;obtain⟨u,rfl,e⟩:=oQ r;cases e;exact Qb I (.inl d) λt f c=>⟨.int kvs.length,H,c,⟨t,Db⟩,q⟩
def B4(x:X.calm=true):lZ X (.type "list") (λk H Q=>∃(v p:Addr)(kvs:List (jB×V)),k=[.ref v]/\H v=some (FZ v p)/\H p=some (.dK kvs)/\∀l,H l=none->Q (.ref l) (eM H l (.lst (kvs.map (·.2))))):=by
 intro i s G H k F Q I r h;obtain⟨v,p,kvs,rfl,B,A,q⟩:=h;obtain⟨u,rfl,C⟩:=oQ r;cases C;obtain⟨f,_⟩:=I.hok v _ B;obtain⟨z,hd,vs,rel,n⟩:=AC I.hok A;obtain⟨ep,m⟩:=n.dictAt;have g:=rel.length;refine PySem.W.kdl_call (PySem.W.kdl_values (knd:=fH X.prog X.w) (r:=v) (d:=p) (kvs:=vs) (ep:=ep)) (I.ok.hd x) ⟨f,m⟩ Cw λo E b c kp t a=>?_;have y:b.toList=vs.map (·.2):=PySem.W.kdl_vals_eq _ (by rw[fB];exact a.1) λj v e=>a.2 j v (by rw[<- jR];exact e);exact⟨.ref s.heap.objs.size,_,I.laid (t':=E) kp (aM _) (show iR X.prog X.w _ o _ (.lst (kvs.map (·.2)))from⟨by rw[aC];exact z,b.toList,c,by rw[y];exact PX rel,by simpa using t⟩),Db,q _ (I.hok.fresh (aM _))⟩
def A7(hc:X.calm=true):lZ X (.type "list") (λY H Q=>∃(v p:Addr)(kvs:List (jB×V)),Y=[.ref v]/\H v=some (F0 v p)/\H p=some (.dK kvs) /\
  ∀(f:List Addr)(l:Addr)g,aV H g->H l=none->f.length=kvs.length->(∀(j:Nat)(a:Addr)(e:jB×V),f[j]?=some a->kvs[j]?=some e->H a=none/\g a=some (.tup [kV e.1,e.2]))->g l=some (.lst (f.map V.ref))->Q (.ref l) g):=by
 intro U s σ H Y us Q I r h;obtain⟨v,p,kvs,rfl,hv,hp,q⟩:=h;obtain⟨u,rfl,rx⟩:=oQ r;cases rx;obtain⟨O,_⟩:=I.hok v _ hv;obtain⟨z,hd,vs,rel,dd⟩:=AC I.hok hp;obtain⟨ep,da⟩:=dd.dictAt;have hsz:=rel.length;refine PySem.W.kdx_call (knd:=fH X.prog X.w) (r:=v) (d:=p) (kvs:=vs) (ep:=ep) (I.ok.hd hc) O da Cw λh' tk L c f kk T M B A=>?_;have nd:f.Nodup:=B.rise.imp λh=>cL h
 generalize N:s.heap.objs.size=l at *
 let K:List HO:=kvs.map λe=>HO.tup [kV e.1,e.2]
 let g:Hp:=λb=>if b=l then some (.lst (f.map V.ref))else match(f.zip K).lookup b with | some o=>some o | none=>H b
 have t:∀a,l<=a->H a=none:=λa ha=>I.hok.fresh (by rw[N];exact ha)
 have i:∀(j:Nat)(a:Addr)(e:jB×V),f[j]?=some a->kvs[j]?=some e->g a=some (.tup [kV e.1,e.2]):=λj a e m F=>by
  have na:a≠l:=hU (B.above a (bB m));show(if a=l then _ else _)=_;rw[a8 na,K1 nd m (y:=HO.tup [kV e.1,e.2]) (by show(kvs.map _)[j]?=_;rw[aO,F];rfl)]
 have R:aV H g:=λb o e=>by
  have nb:¬l<=b:=λz=>by rw[t b z]at e;cases e
  show(if b=l then _ else _)=_;rw[a8 (show¬b=l fromλz=>nb (lU z.symm))]
  cases J:(f.zip K).lookup b with
  |none=>exact e
  |some y=>
   obtain⟨j,m,_⟩:=D2 J;exact c7 (hV (B.above b (bB m))) nb
 have C:g l=some (.lst (f.map V.ref)):=a9 Db;refine⟨.ref l,g,I.laidM (t':=tk) kk R λa o e n=>?_,Db,q f l g R (t l (aM _)) Cw (λj a e m F=>⟨t a (hV (B.above a (bB m))),i j a e m F⟩) C⟩;have hL:bG=2^24:=rfl;by_cases S:a=l
 ·subst S;rw[C]at e;cases e;refine⟨by rw[N];exact aM _,by rw[aC];lia,L.toList,c,?_,by simpa using T⟩;rw[A];clear A B nd K g t i R C q T M
  induction f with
  |nil=>exact .nil
  |cons x f ih=>exact .cons Db ih
 ·have E:(match(f.zip K).lookup a with | some o=>some o | none=>H a)=some o:=by
   have:=e;show _=_;rw[<- this];exact(a8 S).symm
  cases J:(f.zip K).lookup a with
  |none=>rw[J]at E;rw[n]at E;cases E
  |some y=>
   rw[J]at E;cases E;obtain⟨j,m,F⟩:=D2 J;obtain⟨P,k,x,Z,d2,d3⟩:=B.pairs j a m;obtain⟨y,e1,e2⟩:=XL rel Z;have G:(kvs.map λe=>HO.tup [kV e.1,e.2])[j]?=some o:=F;rw[aO,e1]at G;cases G;exact⟨by rw[N];exact hV (B.above a (bB m)),by show 2<=bG;lia,[P,x],.cons (P1 d2) (.cons e2 .nil),⟨_,d3,Db,_,Db,Db⟩⟩
end
end L2
namespace TL
open L2
section
variable{X:Cx}{C:Addr}{e i:Expr}{A:List Expr}{u E:ET}{pos s z c:Pos}
def Pp(C:Addr)(u:ET):EZ (mB C):=λb n a Q=>u a λd=>d=b/\Q n (.int n.kvs.length)
def Xo(f:B9 X.K C)(j:gG X.K C "numbered")(G:fK X e u)(hb:h7 e "numbered" X.env (eval e X.env)=eval e X.env:=by rfl)
  (pc:∀{v},PE X (.Attribute e "numbered" c) v->PE X (.Call g [.Attribute e "numbered" c] [] pos) (ZC (λO H Q=>∃(p:Addr)(kvs:List (jB×V)),O=[.ref p]/\H p=some (.dK kvs)/\Q (.int kvs.length) H) (tZ v BY))) :
  xH (F:=mB C) X (.Call g [.Attribute e "numbered" c] [] pos) (Pp C u):=by
 obtain⟨v,p,r⟩:=G;refine⟨_,pc (xZ (pos:=c) f j p hb),λB J H L b P T n Q R o h k=>r B J H L b P _ _ o.ok h λd x m l N M=>?_⟩;obtain⟨rfl,q⟩:=M;obtain⟨rfl,a⟩:=kM (T':=T) o l N Db;obtain⟨I,W,Y,kv,t,w,S,U,y⟩:=id a;refine⟨_,C,_,_,_,Db,t,f,j,Db,T.q,kv,Db,w,?_⟩;rw[<- y.length];exact k n _ _ m (.of l) a (.int _) q
def Ps(C:Addr)(u E:ET):EZ (mB C):=λb n a Q=>u a λd=>d=b/\E a λy=>∃(j:Int)(x:D),y=.int j/\oH n.kvs j=some x/\Q { n with kvs:=AB n.kvs j } x
def Xq(O:B9 X.K C)(P:gG X.K C "numbered")(he:fK X e u)(hi:fK X i E)(hb:h7 e "numbered" X.env (eval e X.env)=eval e X.env:=by rfl)
  (pc:∀{v va},PE X (.Attribute e "numbered" c) v->PE X i va->PE X (.Call (.Attribute (.Attribute e "numbered" c) "pop" s) [i] [] z) (Q3 X.K "dict" (λx xs H Q=>∃(p:Addr)(kvs:List (jB×V))(k:jB)(v:V),x=.ref p/\xs=[kV k]/\H p=some (.dK kvs)/\pZ kvs k=some v/\Q v (eM H p (.dK (nV kvs k)))) v (tZ va BY))) :
  xH (F:=mB C) X (.Call (.Attribute (.Attribute e "numbered" c) "pop" s) [i] [] z) (Ps C u E):=by
 obtain⟨v,p,r⟩:=he;obtain⟨vi,pi,ri⟩:=hi;refine⟨_,pc (xZ (pos:=c) O P p hb) pi,λB U H J b Y T n Q QV o h k=>r B U H J b Y _ _ o.ok h λd x Z f r1 q1=>?_⟩;obtain⟨rfl,q⟩:=q1;obtain⟨rfl,l⟩:=kM (T':=T) o f r1 Db;obtain⟨_,_,_,I,t,G,_⟩:=id l;refine⟨_,C,_,_,_,Db,t,O,P,Db,.inr (.inr (.inl ⟨Db,.inl ⟨I,G⟩⟩)),?_⟩;refine ri B U Z J b Y _ _ (o.grow f).ok q λy yv H2 W r2 q2=>?_;obtain⟨j,x,rfl,g,q⟩:=q2;cases r2;have S:=(o.grow f).grow W;obtain⟨eg,v1,v6,kv,h1,h2,h3,h4,N⟩:=id S.tp;have R:T.q∈J:=o.mem' T.q (by show T.q∈[T.p,T.q];simp);rcases N.val j with⟨a,M⟩ | ⟨d,w,a,M,L⟩
 ·rw[g]at a;cases a
 ·rw[g]at a;cases a;refine⟨T.q,kv,.inl j,w,Db,Db,h2,M,?_⟩;have m:=YY S.tp R (N.drop j);exact k _ x w _ (((fE.of f).trans (.of W)).trans (vW (by show T.q∈[T.p,T.q];simp))) m (L.same (by rw[dY R];exact L2.aV.refl _)) q
def Wa(C:Addr)(u:ET):EZ (mB C):=λb n a Q=>u a λd=>d=b/\Q n (.list (n.kvs.map (·.2)))
def Zs(J:B9 X.K C)(M:gG X.K C "numbered")(R:fK X e u)(hb:h7 e "numbered" X.env (eval e X.env)=eval e X.env:=by rfl)
  (pc:∀{v:TE},PE X (.Attribute e "numbered" c) v->PE X (.Call g [.Call (.Attribute (.Attribute e "numbered" c) "values" s) [] [] z] [] pos) (ZC (λy H Q=>∃(v p:Addr)(kvs:List (jB×V)),y=[.ref v]/\H v=some (FZ v p)/\H p=some (.dK kvs)/\∀l,H l=none->Q (.ref l) (eM H l (.lst (kvs.map (·.2)))))
   (tZ (ZY X.K "dict" (λx y H Q=>y=[]/\∃(p:Addr)(kvs:List (jB×V)),x=.ref p/\H p=some (.dK kvs)/\∀v,H v=none->Q (.ref v) (eM H v (FZ v p))) v) BY))) :
  xH (F:=mB C) X (.Call g [.Call (.Attribute (.Attribute e "numbered" c) "values" s) [] [] z] [] pos) (Wa C u):=by
 obtain⟨v,p,r⟩:=R;refine⟨_,pc (xZ (pos:=c) J M p hb),λB U H N G Z T n Q QV o h k=>r B U H N G Z _ _ o.ok h λd x I m Y W=>?_⟩;obtain⟨rfl,q⟩:=W;obtain⟨rfl,b⟩:=kM (T':=T) o m Y Db;obtain⟨S,v1,v6,kv,O,f,h3,h4,P⟩:=id b;refine⟨_,C,_,_,_,Db,O,J,M,Db,.inr (.inr (.inl ⟨Db,.inl ⟨kv,f⟩⟩)),Db,T.q,kv,Db,f,λw a=>?_⟩;refine⟨w,T.q,kv,Db,bQ,by rw[bV (eN f a)];exact f,λl L=>?_⟩;have t:aV I (eM (eM I w (FZ w T.q)) l (.lst (kv.map (·.2)))):=(dB a).trans (dB L);have j:l∉N:=iQ (o.grow m).ok.live (aV.free' (dB a) L);exact k n _ _ _ (.of (m.trans t)) (pP.At.grow (F:=mB C) b t) (.list (mL.of (kL j bQ)) (P.vals.same (bH t))) q
theorem tT.at{K}:∀{a b}{j:Nat}{e:Int×D},tT K H a b->a[j]?=some e->∃v,b[j]?=some (.inl e.1,v)/\fR K H e.2 v
|_,_,_,_,.nil,h=>by simp at h
|_,_,0,_,.cons r t,h=>by simp at h;subst h;exact⟨_,Db,r⟩
|_,_,j+1,_,.cons r t,h=>by
 obtain⟨v,d,f⟩:=t.at (j:=j) (by simpa using h);exact⟨v,by simpa using d,f⟩
def Ht(C:Addr)(g:JL (mB C))(u:ET)(t:AZ (mB C)):EZ (mB C):=λa n b Q=>u b λd=>d=a/\t a n b λn1 f=>g a n1 (a::f) Q
noncomputable def N6:List Str:=["form","deep","least","numbered","following","standing"]
def wO(h:m∉N6):(IU T v1 v6 n).lookup m=none:=BJ h
def qT(O:m∉N6)(N:fK X e u)(M:S5 X (i::A) t)
  (U:∀{v ta},PE X e v->PA X (i::A) ta->PE X (.Call (.Attribute e m s) (i::A) [] pos) (DB C m (mK X.K sp) [] E0 v ta)):xH X (.Call (.Attribute e m s) (i::A) [] pos) (Ht C sp u t):=by
 obtain⟨v,W,re⟩:=N;obtain⟨va,S,ra⟩:=M;refine⟨_,U W S,λB l H g a w T n Q I o h k=>re B l H g a w _ _ o.ok h λd x F b r1 j=>?_⟩;obtain⟨rfl,j⟩:=j;obtain⟨rfl,f⟩:=kM (T':=T) o b r1 Db;obtain⟨_,_,_,_,L,_⟩:=id f;refine⟨_,_,_,Db,L,wO O,ra B l F g a w T n _ _ (o.grow b) j λR J xs G q r r2 Z=>?_⟩;show mK X.K sp (.ref T.p::(xs++[])) G I E0;rw[dW];exact⟨g,T,R,lL T::J,Q,((o.grow b).growX q r).ok.live,o.mem',r,.cons (xV T) r2,Z,λP d v y s' t' r' Y=>k P d v y (((fE.of b).trans q).trans s') t' r' Y⟩
def LF(y:m∉N6)(w:fK X e u)
  (I:∀{v},PE X e v->PE X (.Call (.Attribute e m s) [] [] pos) (DB C m (mK X.K sp) [] E0 v BY)):xH X (.Call (.Attribute e m s) [] [] pos) (Ht C sp u Hu):=by
 obtain⟨v,J,O⟩:=w;refine⟨_,I J,λB G H j g S T n Q r o h k=>O B G H j g S _ _ o.ok h λd x q f N b=>?_⟩;obtain⟨rfl,b⟩:=b;obtain⟨rfl,a⟩:=kM (T':=T) o f N Db;obtain⟨_,_,_,_,t,_⟩:=id a;refine⟨_,_,_,Db,t,wO y,?_⟩;show mK X.K sp (.ref T.p::([]++[])) q r E0;exact⟨j,T,n,[lL T],Q,(o.grow f).ok.live,o.mem',a,.cons (xV T) .nil,b,λF d v l P R M L=>k F d v l ((fE.of f).trans P) R M L⟩
def Vu{F:pP}(u:EZ F):SZ F:=λd b n a=>u d n a λn1 _=>b.nx n1 a
def qM{u:EZ F}(h:xH X e u)(p:∀{v:TE},PE X e v->PS X (.Expr e pos) (yX v)):uA X (.Expr e pos) (Vu u):=by
 obtain⟨v,m,r⟩:=h;refine⟨_,p m,λB l H b a j T n w y o h f=>r B l H b a j T n _ _ o h λn1 d x k g t G q=>?_⟩;exact f.nx k b a j n1 (o.growX g t) (g.mask o.mem') q
end
section
variable{K:aF}{B l H:Hp}{g f:List Addr}{c:List Sl}{k:L2.St}
def Ok.less(o:Ok K B g H f c k)(hs:aV l B):Ok K l g H f c k where
 base:=hs.trans o.base
 sub:=o.sub
 live:=o.live
 len:=o.len
 val:=o.val
 own:=λi ts h=>let ⟨p,xs,h1,h2,h3,h4⟩:=o.own i ts h;⟨p,xs,h1,h2,aV.free' hs h3,h4⟩
 dis:=o.dis
 dc:=o.dc.to (λ_ _ _ h=>⟨h,Db⟩) (λ_ _ a _ _=>⟨a,Db⟩) (λ_ _ _ _ a b=>⟨aV.free' hs a,b⟩) (L2.aV.refl _)
def Ok.pokeI(o:Ok K B g H f c k){p C dx:Addr}{fs}(hp:p∈f)(hB:B p=none)(he:H p=some (.ins C dx fs))(hn:∀(j:Nat)(hs:List Int)(kvs:List (D×D)),c[j]?≠some (.dic hs kvs))(hu:Fj u=false:=by rfl):Ok K B g (eM H p u) f c k where
 base:=λb w e=>by
  rw[bV λz=>by rw[z,hB]at e;cases e];exact o.base b w e
 sub:=o.sub
 live:=λq hq=>by
  by_cases e:q=p
  ·subst e;rw[bQ];exact⟨_,Db,hu⟩
  ·rw[bV e];exact o.live q hq
 len:=o.len
 val:=λi d h=>by rw[dY hp];exact o.val i d h
 own:=λi ts h=>by
  rw[dY hp];obtain⟨q,xs,h1,h2,h3,h4,h5,h6⟩:=o.own i ts h;exact⟨q,xs,h1,h2,h3,h4,by rw[bV λz=>by rw[z,he]at h5;cases h5];exact h5,h6⟩
 dis:=o.dis
 dc:=λi hs kvs h=>c7 h (hn i hs kvs)
def JY(j:Nat)(a:List Int)(kvs:List (D×D)):(iO N ds)[j]?≠some (.dic a kvs):=λh=>by
 have hm:=bB h;unfold iO at hm;rcases cC.mp hm with hm | hm
 ·obtain⟨_,_,z⟩:=aS.mp hm;cases z
 ·have z:=(List.mem_replicate.mp hm).2;cases z
end
def Rq(K:aF)(a:TE):TS:=Q2 (MY K (nZ 0) (nZ 1) "form") (Q2 (MY K (nZ 0) (nZ 2) "deep") (Q2 (MY K (nZ 0) (nZ 3) "least") (Q2 (MY K (nZ 0) MT "numbered") (Q2 (MY K (nZ 0) (tC (.int 0)) "following") (MY K (nZ 0) a "standing")))))
noncomputable def J6(x:Addr):D:=.dict [(.str "@",.list [.int (x:Nat)])]
def HZ(C:Addr)(K:aF)(e:pU):Sp:=λvs H Q _=>∃(x dx:Addr)(b:V)(dp ls:Int)(a:List Addr)(fm:D)(c:D->Prop),vs=[.ref x,b,.int dp,.int ls]/\x∈a/\H x=some (.ins C dx [])/\(∀p∈a,BA (H p))/\fR K (mask H a) fm b/\e [fm,.int dp,.int ls] c /\
 ∀(q:Addr)(st:D)(d:V)H',aV (mask H [x]) H'->q≠x->H q=none->H' q=some (.dK [])->H' x=some (.ins C dx (IU ⟨x,q,dx,fm,dp,ls⟩ b d ⟨[],0,st⟩))->fR K (mask H' (q::a)) st d->c st->Q .non H'
def Nd{K}{mg:Str->Option Value}{C:Addr}{x c:Str}{st}{f:Addr}{N pn:List Str}{k:Nat}{L:pU}(O:MB K x c st f fd)(S:bZ N pn (aX st))(W:pn.length=4)
  (m:B9 K C) (n1:gG K C "form") (Y:gG K C "deep") (n3:gG K C "least") (Z:gG K C "numbered") (n5:gG K C "following") (n6:gG K C "standing")
  (i:∀(d:Value)(A:d9)outer(s:Shared)H E,gQ k (A.deeper (i3 c (aX st) s.heap.objs.size f d))->∀(z fm:D)(dp ls:Int)(Q:D->Prop),L [fm,.int dp,.int ls] Q ->
   ∃(e:Expr)(t:ET),fK (rF iG P w K mg base N c (aX st) f d A outer s H E).nox e t/\(∀{v},PE (rF iG P w K mg base N c (aX st) f d A outer s H E).nox e v->A9 (rF iG P w K mg base N c (aX st) f d A outer s H E).nox (lK st) (Rq K v))/\t (iO N [z,fm,.int dp,.int ls]) Q):dI P w K mg base iG (k+1) f fd pn (HZ C K L):=by
 refine O.ok S (λvs H Q E h=>?_) λd A outer s H vs Q E X h=>?_
 ·obtain⟨x,dx,a,dp,ls,p,fm,B,rfl,_⟩:=h;exact W.symm
 ·obtain⟨x,dx,a,dp,ls,p,fm,B,rfl,r,F,live,r1,q,k⟩:=h;obtain⟨e,t,⟨vv,pe,re⟩,pp,h⟩:=i d A outer s H E X (J6 x) fm dp ls B q;refine⟨_,pp pe,?_⟩;have sB:aV (mask H [x]) H:=bO;have l:mask H [x] x=none:=by unfold mask;rw[a9 (aP.mpr Db)]
  have o0:Ok K (mask H [x]) p H p (iO N [J6 x,fm,.int dp,.int ls]) (L2.mE N [.ref x,a,.int dp,.int ls]):=(oS (N:=N) live (.cons (.addr _) (.cons r1 (.cons (.int _) (.cons (.int _) .nil))))).less sB;have nd:=JY (N:=N) (ds:=[J6 x,fm,.int dp,.int ls]);have j:(L2.mE N [.ref x,a,.int dp,.int ls])[0]?=some (some (.ref x)):=rfl;have R:(L2.mE N [.ref x,a,.int dp,.int ls])[1]?=some (some a):=rfl;have T:(L2.mE N [.ref x,a,.int dp,.int ls])[2]?=some (some (.int dp)):=rfl;have U:(L2.mE N [.ref x,a,.int dp,.int ls])[3]?=some (some (.int ls)):=rfl;have o1:=o0.pokeI (u:=.ins C dx [("form",a)]) r l F nd;have o2:=o1.pokeI (u:=.ins C dx [("form",a),("deep",.int dp)]) r l bQ nd;have o3:=o2.pokeI (u:=.ins C dx [("form",a),("deep",.int dp),("least",.int ls)]) r l bQ nd;refine⟨a,R,.ref x,j,x,C,dx,[],Db,F,m,n1,Da,?_⟩;refine⟨.int dp,T,.ref x,j,x,C,dx,_,Db,bQ,m,Y,Da,?_⟩;refine⟨.int ls,U,.ref x,j,x,C,dx,_,Db,bQ,m,n3,Da,?_⟩;intro q n;have b:q≠x:=λz=>by rw[z]at n;rw[bQ]at n;cases n
  have o4:=o3.adopt (u:=.dK []) n;have g:x∈q::p:=aJ _ r;have G:eM (eM (eM (eM H x (.ins C dx [("form",a)])) x (.ins C dx [("form",a),("deep",.int dp)])) x (.ins C dx [("form",a),("deep",.int dp),("least",.int ls)])) q (.dK []) x=some (.ins C dx [("form",a),("deep",.int dp),("least",.int ls)]):=by rw[bV (i6 b)];exact bQ
  have o5:=o4.pokeI (u:=.ins C dx [("form",a),("deep",.int dp),("least",.int ls),("numbered",.ref q)]) g l G nd;have J:=o5.pokeI (u:=.ins C dx [("form",a),("deep",.int dp),("least",.int ls),("numbered",.ref q),("following",.int 0)]) g l bQ nd;refine⟨.ref x,j,x,C,dx,_,Db,G,m,Z,Da,?_⟩;refine⟨.ref x,j,x,C,dx,_,Db,bQ,m,n5,Da,?_⟩;refine re _ p _ (q::p) _ _ _ _ J h λst M H6 y r6 q6=>?_;have I:=y _ _ (bQ (o:=HO.ins C dx [("form",a),("deep",.int dp),("least",.int ls),("numbered",.ref q),("following",.int 0)]));have o7:=(J.grow y).pokeI (u:=.ins C dx (IU ⟨x,q,dx,fm,dp,ls⟩ a M ⟨[],0,st⟩)) g l I nd;refine⟨.ref x,j,x,C,dx,_,Db,I,m,n6,Da,?_⟩;refine k q st M _ o7.base b ?_ ?_ bQ (r6.same (by rw[dY g];exact L2.aV.refl _)) q6
  ·rw[bV b,bV b,bV b]at n;exact n
  ·rw[bV b];exact y _ _ (by rw[bV b,bV b];exact bQ)
section
variable{K:aF}{B H l:Hp}{m g f:List Addr}{k:List Sl}{n:L2.St}
def Ok.wide(o:Ok K B m H g k n)(s:aV H l)(x:∀a∈f,H a=none)(F:∀a∈f,BA (l a)):Ok K B (f++m) l (f++g) k n:=by
 have w:aV (mask H g) (mask l (f++g)):=λb u e=>by
  unfold mask at e |-
  by_cases hb:b∈g
  ·rw[a9 hb]at e;cases e
  ·rw[a8 hb]at e;rw[a8 λz=>(cC.mp z).elim (λz=>by rw[x b z]at e;cases e) hb];exact s b u e
 refine⟨o.base.trans s,λp y=>(cC.mp y).elim (λz=>iY _ z) λz=>bW _ (o.sub p z),λp y=>?_,o.len,λi d h=>?_,λi G h=>?_,o.dis,?_⟩
 ·rcases cC.mp y with z | z
  ·exact F p z
  ·obtain⟨u,q,r⟩:=o.live p z;exact⟨u,s p u q,r⟩
 ·obtain⟨v,q,r⟩:=o.val i d h;exact⟨v,q,r.same w⟩
 ·obtain⟨p,I,q,r,A,C,t,E⟩:=o.own i G h;exact⟨p,I,q,bW _ r,A,λz=>(cC.mp z).elim (λz=>by rw[x p z]at t;cases t) C,s _ _ t,E.same w⟩
 ·exact o.dc.to (λj L kvs h=>⟨h,Db⟩) (λp J a b _=>⟨bW _ a,(s p _ b).trans b.symm⟩) (λp J _ b c d=>⟨c,λz=>(cC.mp z).elim (λz=>by rw[x p z]at b;cases b) d⟩) w
end
end TL
namespace L2
def EU(f:Array Value->Array Value)(o:Obj):(m9 f o).dict=o.dict:=by
 unfold m9;split<;>rfl
structure xJ(h:Heap)(e T:Addr)(dx:Option Addr)(cls a0 fl:Value):Prop where
 ne:T≠e
 ex:∃o vs,h.get? e=some o/\o.cls=cls/\o.dict=dx/\o.data=.fields vs/\vs[0]?=some a0/\vs[1]?=some (.ref T)
 tr:∃o ts,h.get? T=some o/\o.data=.fields ts/\ts[3]?=some fl
structure fV(fr ch:List Addr)(h h':Heap):Prop where
 keep:∀b o,h.get? b=some o->b∉fr->b∉ch->h'.get? b=some o
 slot:∀b o,h.get? b=some o->b∈fr->b∉ch->∃sl,h'.get? b=some { o with slots:=sl }
def fV.of{h a:Heap}(k:∀b o,h.get? b=some o->b∉ch->a.get? b=some o):fV fr ch h a:=⟨λb o e _ c=>k b o e c,λb o e _ c=>⟨o.slots,k b o e c⟩⟩
def fV.any{h a:Heap}(x:fV fr ch h a){b:Addr}(e:h.get? b=some o)(c:b∉ch):∃d,a.get? b=some { o with slots:=d }:=by
 by_cases f:b∈fr
 ·exact x.slot b o e f c
 ·exact⟨o.slots,x.keep b o e f c⟩
def fV.trans(x:fV fr ch h1 h2)(y:fV fr ch h2 h3):fV fr ch h1 h3:=by
 refine⟨λb o e f c=>y.keep b o (x.keep b o e f c) f c,λb o e f c=>?_⟩;obtain⟨h,d⟩:=x.slot b o e f c;obtain⟨a,g⟩:=y.slot b _ d f c;exact⟨a,g⟩
def fV.more{h}(x:fV fr ch h h')(m:∀b∈ch,b∈ch'):fV fr ch' h h':=⟨λb o e f c=>x.keep b o e f λz=>c (m b z),λb o e f c=>x.slot b o e f λz=>c (m b z)⟩
def fV.frames{base h d:Heap}(x:fV fr ch h d)(g:h.FunFrames base l)(c:∀b∈pS l,b∉ch):d.FunFrames base l:=by
 induction l with
 |nil=>trivial
 |cons v r n=>
  obtain⟨f,⟨L,o,a,j,k,hd⟩,m⟩:=g
  have i:L∈pS (v::r):=by
   show L∈(v::r).filterMap (·.frame);rw[lA,a];exact aN ..
  obtain⟨p,e⟩:=x.any k (c L i);refine⟨f,⟨L,_,a,j,e,hd⟩,n m λb hb=>c b ?_⟩;show b∈(v::r).filterMap (·.frame);rw[lA,a];exact aJ _ hb
section
variable{P:cW}{w:f7}{A:d9}{E:Value->Shared->Prop}{s:Shared}{base:Heap}{v:Env}{outer:List Env}{L e:Addr}{Q:Unit->Shared->Prop}
def EQ{o:Obj}{vs:Array Value}{nx:Bool}(F:A.frames=some (v::outer))(J:s.heap.FunFrames base (v::outer))(G:v.frame=some L)(I:s.heap.get? e=some o)(hd:o.data=.fields vs)(K:1<vs.size)(p:e∉pS (v::outer))
  (k:∀j T,s.heap.objs.size<=T->T≠e->fV (pS (v::outer)) [e] s.heap j->(∃l,j.get? e=some l/\l.cls=o.cls/\l.dict=o.dict/\l.data=.fields (vs.setIfInBounds 1 (.ref T)))->(∃x y,j.get? T=some x/\x.data=.fields y/\y[3]?=some (r8 L))->Q () { s with heap:=j }) :
  wpAny (model P w) A (do let a <- frameOf v;let m <- entryPlaceOf L nx;let b <- ec tz a .none (r8 L) .none m;setField (.ref e) 1 b) Q E s:=by
 apply aE;refine wpAny_frameOf_fun F J G λd so=>?_;apply aE;refine wpAny_entryPlaceOf λm i=>?_;unfold ec newFields;apply aE;refine iD ?_ (i.sizeOk5 _ _ _ _ _);have r:d.get? e=some o:=(so.2.1 e p).trans I
 generalize h:({ cls:=.type "traceback",dict:=none,data:=.fields ([tz,.ref L,.none,r8 L,.none]++(if m.isEmpty then G4 6 g8 else m)).toArray }:Obj)=ob
 have t:(d.push ob).get? e=some o:=aD _ r;refine y4 t hd K ?_;have ne:d.objs.size≠e:=hU (aY r);have q:=q9 hd (·.setIfInBounds 1 (c9 d.objs.size));have B:=pC (m9 (·.setIfInBounds 1 (c9 d.objs.size))) t (z7 q)
 have H:((d.push ob).update e (m9 (·.setIfInBounds 1 (c9 d.objs.size)))).get? d.objs.size=some ob:=by
  rw[fT _ _ (i6 ne)];refine aU d ?_;rw[<- h];rfl
 refine k _ d.objs.size (by rw[so.1];exact aM _) ne ⟨λb u n f c=>?_,λb u n f c=>?_⟩ ⟨_,B,kx _ _,EU _ _,q⟩ ⟨ob,_,H,by rw[<- h],?_⟩
 ·have g:b≠e:=λz=>c (by rw[z];exact aN ..);rw[fT _ _ (i6 g)];exact aD _ ((so.2.1 b f).trans n)
 ·have g:b≠e:=λz=>c (by rw[z];exact aN ..);obtain⟨M,C⟩:=so.2.2 b u n;refine⟨M,?_⟩;rw[fT _ _ (i6 g)];exact aD _ C
 ·rcases i with rfl | ⟨_,_,_,_,_,_,_,rfl⟩<;>simp
def NF{o:Obj}(i:A.frames=some (v::outer))(l:s.heap.FunFrames base (v::outer))(d:v.frame=some L)(f:s.heap.get? e=some o)(hd:o.data=.fields vs)(c:vs[1]?=some .none)(h:vs[0]?=some a0)(b:e∉pS (v::outer))
  (k:∀a T,s.heap.objs.size<=T->fV (pS (v::outer)) [e] s.heap a->xJ a e T o.dict o.cls a0 (r8 L)->Q () { s with heap:=a }):wpAny (model P w) A (ek (.ref e) v) Q E s:=by
 unfold ek;simp only[d];apply aE;refine f6 f hd c ?_;rw[a8 Cv];have g:1<vs.size:=(mM.mp c).1;refine EQ i l d f hd g b λa T n1 p n m j=>k a T n1 n ⟨p,?_,j⟩;obtain⟨q,r,t,xd,u⟩:=m;exact⟨q,_,r,t,xd,u,by rw[BX Cv];exact h,by simp[g]⟩
def AW{T:Addr}(G:A.frames=some (v::outer))(I:s.heap.FunFrames base (v::outer))(r:v.frame=some L)(x:xJ s.heap e T dx cls a0 .none)(m:e∉pS (v::outer))(j:T∉pS (v::outer))
  (k:∀d a,s.heap.objs.size<=a->fV (pS (v::outer)) [e,T] s.heap d->xJ d e a dx cls a0 (r8 L)->Q () { s with heap:=d }):wpAny (model P w) A (ek (.ref e) v) Q E s:=by
 obtain⟨ne,⟨o,vs,y,H,l,hd,F,p⟩,⟨U,W,t,f,q⟩⟩:=x;unfold ek;simp only[r];apply aE;refine f6 y hd p ?_;rw[a9 (show(c9 T != g8)=true from Db)];apply aE;refine f6 t f q ?_;rw[a8 (show¬((g8==r8 L)=true) by simp[r8])];apply aE;refine y4 t f (mM.mp q).1 ?_;have h:∀b,b≠T->(s.heap.update T (m9 (·.setIfInBounds 3 g8))).get? b=s.heap.get? b:=λb hb=>fT _ _ (i6 hb);have g:fV (pS (v::outer)) [T] s.heap (s.heap.update T (m9 (·.setIfInBounds 3 g8))):=.of λb u C c=>(h b λz=>c (by rw[z];exact aN ..)).trans C;have B:1<vs.size:=(mM.mp p).1;refine EQ (s:={ s with heap:=s.heap.update T (m9 (·.setIfInBounds 3 g8)) }) G (g.frames I λb hb z=>j (by rw[<- aP.mp z];exact hb)) r ((h e (i6 ne)).trans y) hd B m λd a n1 M K J i=>?_;have n:s.heap.objs.size<=a:=bL (lU (C5 ..).symm) n1;refine k d a n ((g.more λb hb=>by simp at hb |-;exact .inr hb).trans (K.more λb hb=>by simp at hb |-;exact .inl hb)) ⟨M,?_,i⟩;obtain⟨N,O,R,xd,S⟩:=J;exact⟨N,_,O,R.trans H,xd.trans l,S,by rw[BX Cv];exact F,by simp[B]⟩
def oI{T:Addr}{fl}(x:xJ s.heap e T dx cls a0 fl)(k:∀c,(∀b o,s.heap.get? b=some o->b≠T->c.get? b=some o)->xJ c e T dx cls a0 .none->Q () { s with heap:=c }):wpAny (model P w) A (setFlight (.ref e) none) Q E s:=by
 obtain⟨ne,⟨o,vs,h,n,d,hd,l,f⟩,⟨q,p,g,a,m⟩⟩:=x;have i:3<p.size:=(mM.mp m).1;unfold setFlight;apply aE;refine f6 h hd f ?_;rw[a9 (show(c9 T != g8)=true from Db)];refine y4 g a i (k _ (λb u j hb=>(fT _ _ (i6 hb)).trans j) ⟨ne,⟨o,vs,(fT _ _ ne).trans h,n,d,hd,l,f⟩,_,_,pC _ g (z7 (q9 a _)),q9 a _,by simp[i]⟩)
def K2{o:Obj}(p:A.frames=some (v::outer))(t:s.heap.FunFrames base (v::outer))(q:v.frame=some L)(r:s.heap.get? e=some o)(hd:o.data=.fields vs)(g:vs[1]?=some .none)(m:vs[0]?=some a0)(h:e∉pS (v::outer))
  (k:∀d T,s.heap.objs.size<=T->fV (pS (v::outer)) [e] s.heap d->xJ d e T o.dict o.cls a0 .none->Q () { s with heap:=d }):wpAny (model P w) A (cr v (.ref e)) Q E s:=by
 unfold cr;apply aE;refine NF p t q r hd g m h λg T n1 j x=>?_;refine oI (s:={ s with heap:=g }) x λn i B=>k n T n1 ⟨λb u a f c=>?_,λb u a f c=>?_⟩ B
 ·exact i b u (j.keep b u a f c) λz=>c7 (bT (aY a) n1) (by rw[z];exact eO _)
 ·obtain⟨y,l⟩:=j.slot b u a f c;exact⟨y,i b _ l λz=>c7 (bT (aY a) n1) (by rw[z];exact eO _)⟩
def NQ{T:Addr}(p:A.frames=some (v::outer))(r:s.heap.FunFrames base (v::outer))(q:v.frame=some L)(x:xJ s.heap e T dx cls a0 .none)(i:e∉pS (v::outer))(h:T∉pS (v::outer))
  (k:∀g d,s.heap.objs.size<=d->fV (pS (v::outer)) [e,T] s.heap g->xJ g e d dx cls a0 .none->Q () { s with heap:=g }):wpAny (model P w) A (cr v (.ref e)) Q E s:=by
 unfold cr;apply aE;refine AW p r q x i h λn d n1 l x=>?_;refine oI (s:={ s with heap:=n }) x λo j y=>k o d n1 ⟨λb u a f c=>?_,λb u a f c=>?_⟩ y
 ·exact j b u (l.keep b u a f c) λz=>c7 (bT (aY a) n1) (by rw[z];exact eO _)
 ·obtain⟨t,m⟩:=l.slot b u a f c;exact⟨t,j b _ m λz=>c7 (bT (aY a) n1) (by rw[z];exact eO _)⟩
end
section
variable{P:cW}{w:f7}{H k:Hp}{h j i:Heap}{a:Addr}{o:HO}{c d g:List Addr}
theorem iR.get(x:iR P w H h a o):∃u,h.get? a=some u:=by
 cases o with
 |lst b=>obtain⟨_,_,_,_,e⟩:=x;exact⟨_,e⟩
 |tup b=>obtain⟨_,_,_,_,e,_⟩:=x;exact⟨_,e⟩
 |dK kvs=>obtain⟨_,_,_,_,o,_,_,e,_⟩:=x;exact⟨_,e⟩
 |dT kvs=>obtain⟨_,_,_,_,o,_,_,e,_⟩:=x;exact⟨_,e⟩
 |set S n=>obtain⟨o,_,_,_,e,_⟩:=x;exact⟨_,e⟩
 |ins C dx fs=>obtain⟨_,_,_,e,_⟩:=x;exact⟨_,e⟩
 |own y=>obtain⟨_,e⟩:=x;exact⟨_,e⟩
 |xd fs=>obtain⟨_,⟨_,_,_,e,_⟩,_⟩:=x;exact⟨_,e⟩
 |rng lo l=>obtain⟨_,_,_,e⟩:=x;exact⟨_,e⟩
 |frz ob u=>obtain⟨e,_⟩:=x;exact⟨_,e⟩
 |tbl m=>obtain⟨_,e,_⟩:=x;exact⟨_,e⟩
 |met f y=>exact⟨_,(show h.get? a=some _ from x)⟩
 |ext p=>obtain⟨_,⟨_,e⟩,_⟩:=x;exact⟨_,e⟩
def pV.out(x:pV P w H h)(e:h.get? a=none):H a=none:=by
 cases q:H a with
 |none=>rfl
 |some u=>obtain⟨_,z⟩:=(x a u q).get;rw[e]at z;cases z
def pV.butX(x:pV P w H h)(n:fV c g h i)(m:∀b∈c,H b=none)(l:∀b∈g,H b=none):pV P w H i:=λa o e=>by
 refine(x a o e).stay (λb u hb q=>?_) (λ_ q=>q) λ_ _ q=>q
 have f:H b≠none:=by
  rcases hb with rfl | hb
  ·rw[e];exactλz=>nomatch z
  ·rw[hb];exactλz=>nomatch z
 exact n.keep b u q (λz=>f (m b z)) λz=>f (l b z)
def Un.but(u:Un c [] H k j h)(kb:fV d g h i)(nw:∀b o,j.get? b=some o->b∉g/\(b∈d->b∈c)):Un c [] H k j i where
 keep:=λb o e n f x=>kb.keep b o (u.keep b o e n f x) (λz=>f ((nw b o e).2 z)) (nw b o e).1
 slot:=λb o e n f x=>by
  obtain⟨sl,e1⟩:=u.slot b o e n f x;obtain⟨yl,e2⟩:=kb.any e1 (nw b o e).1;exact⟨yl,e2⟩
 free:=u.free
 there:=λb o e x=>by
  obtain⟨o',e1⟩:=u.there b o e x;obtain⟨yl,e2⟩:=kb.any e1 (nw b o e).1;exact⟨_,e2⟩
 tups:=u.tups
 frzs:=u.frzs
 tbls:=u.tbls
end
def S7(P:cW)(w:f7):Y5:=λouter H s E e d=>∃f T dx c g b,e=.ref f/\d.os=s.os/\v9 d.gens/\Un (pS outer) [] H b s.heap d.heap/\pV P w b d.heap /\
 xJ d.heap f T dx c g .none/\b f=none/\b T=none/\s.heap.get? f=none/\s.heap.get? T=none/\(∀a,dx=some a->s.heap.get? a=none)/\E c dx b
section
variable{P:cW}{w:f7}{K:aF}{mg:Str->Option Value}{base:Heap}{N:List Str}{d:Str}{c:Scope}{f:Addr}{cd:Value}{A:d9}{outer:List Env}{s:Shared}{H:Hp}{E:XK}
noncomputable abbrev QQ(P:cW)(w:f7)(K:aF)(mg:Str->Option Value)(base:Heap)(N:List Str)(d:Str)(c:Scope)(f:Addr)(cd:Value)(A:d9)(outer:List Env)(s:Shared)(H:Hp)(E:XK):Cx:=rF (S7 P w) P w K mg base N d c f cd A outer s H E
def L1{g:Hp}{j s2:Shared}{h:Addr}(I:cU (QQ P w K mg base N d c f cd A outer s H E) pins σ g j)(m:s.heap.get? h=none)(r:E cls dx g)(v:g h=none)
  (n:s2.os=j.os) (u:s2.gens=j.gens) (p:fV (pS (i3 d c s.heap.objs.size f cd::outer)) ch j.heap s2.heap) (i:∀b∈ch,g b=none/\s.heap.get? b=none) {T:Addr} (x:xJ s2.heap h T dx cls a0 .none) (t:g T=none) (k:s.heap.get? T=none) (l:∀a,dx=some a->s.heap.get? a=none) :
  S7 P w outer H s E (.ref h) s2:=by
 refine⟨h,T,dx,cls,a0,g,Db,n.trans I.os,by rw[u];exact I.bare,Un.but I.base p λb o e=>⟨λz=>?_,λz=>?_⟩,I.hok.butX p (λb hb=>I.stkFree b hb) λb hb=>(i b hb).1,x,v,t,m,k,l,r⟩
 ·rw[(i b z).2]at e;cases e
 ·have y:b∈s.heap.objs.size::pS outer:=I.stkSub b z;rcases aK.mp y with q | q
  ·rw[q]at e;exact c7 (aY e) (eO _)
  ·exact q
def PB:vG (S7 P w) (QQ P w K mg base N d c f cd A outer s H E) E:=by
 intro h J L p e s2 I y;obtain⟨k,T,dx,t,M,r,rfl,os,bare,un,hok,x,n1,C,n3,n,n5,v⟩:=y;have i:cU (QQ P w K mg base N d c f cd A outer s H E) h J r s2:=I.call' (ch:=[]) os un hok bare λb z=>c7 z Cy
 have g:∀b,p.heap.get? b=none->b∉pS (i3 d c s.heap.objs.size f cd::outer):=λb hb z=>by
  obtain⟨_,o,m,_⟩:=I.stack.mem z;rw[hb]at m;cases m
 have old:∀b,p.heap.get? b=none->s.heap.get? b=none:=λb hb=>by
  cases q:s.heap.get? b with
  |none=>rfl
  |some o=>obtain⟨F,z⟩:=I.base.there b o q (λz=>c7 z (by simp[rF]));rw[hb]at z;cases z
 show wpAny (model P w) (A.deeper (i3 d c s.heap.objs.size f cd)) (cr (i3 d c s.heap.objs.size f cd) (.ref k)) _ _ s2;refine NQ (base:=base) (outer:=outer) I.ok.frames i.stack Db x (g k n3) (g T n) λu j sz B G=>?_;have l:s2.heap.get? j=none:=mN sz;refine L1 (s2:={ s2 with heap:=u }) i (old k n3) v n1 Db Db B (λb hb=>?_) G (hok.fresh sz) ?_ λa z=>old a (n5 a z)
 ·simp only[aK,bR,e9]at hb;rcases hb with rfl | rfl
  ·exact⟨n1,old _ n3⟩
  ·exact⟨C,old _ n⟩
 ·cases q:s.heap.get? j with
  |none=>rfl
  |some o=>obtain⟨F,z⟩:=i.base.there j o q (λz=>c7 z (by simp[rF]));rw[l]at z;cases z
end
def Gx(K:aF)(C:Addr):Prop:=∃nm q N bs b n sub e c h i j k l m J f g a d,
 K.lookup C=some (og nm q C N bs (.ref J::[.type "ValueError",.type "Exception",.type "BaseException",.type "object"]) b n sub e c h i j k l m "ValueError.__new__") /\
 vL K N=true/\fC K N "__init__"=some none/\K.lookup J=some ⟨f,g,.cls a,d⟩/\vL K a.ns=true/\fC K a.ns "__init__"=some none
def PL{K:aF}{h:Heap}{N:Addr}{m:Str->Option Value}(X:K.In h)(G:h.Ns N m)(e:fC K N n=some none):m n=none:=by
 obtain⟨o,f,d,c,hd,_,b⟩:=G;unfold fC at e;split at e
 ·rename_i q;have z:=X _ _ q;rw[c]at z;cases z;cases hd;split at e
  ·cases e
  ·rename_i a;rw[<- b];unfold nsFind findBy;rw[<- TK,a]
   rfl
 ·cases e
def PM{h a:Heap}{N:Addr}{m:Str->Option Value}(G:h.Ns N m)(k:∀b o,h.get? b=some o->a.get? b=some o):a.Ns N m:=let ⟨o,es,ep,ho,r⟩:=G;⟨o,es,ep,k _ _ ho,r⟩
def U0(C:Addr)(E:XK)(t:TA):TS:=λ_ b H=>t b H λvs a=>vs.length<=bG/\E (.ref C) none a
section
variable{P:cW}{w:f7}{K:aF}{mg:Str->Option Value}{base:Heap}{N:List Str}{d:Str}{c:Scope}{f:Addr}{cd:Value}{A:d9}{outer:List Env}{s:Shared}{H:Hp}{E:XK}
def KH{C:Addr}{k:Nat}{x:Str}(R:Gx K C)(hr:gQ k (A.deeper (i3 d c s.heap.objs.size f cd)))(hg:Gl (QQ P w K mg base N d c f cd A outer s H E) x)(i:mg x=some (.ref C))
  (ha:PA (QQ P w K mg base N d c f cd A outer s H E) (e::es) t) (hd:(x==("__debug__":Str))=false:=by decide)
  (O:bI (e::es) (i3 d c s.heap.objs.size f cd)=(false,eval e (i3 d c s.heap.objs.size f cd))::bI es (i3 d c s.heap.objs.size f cd):=by rfl)
  (B:(i9 cpos (bI (e::es) (i3 d c s.heap.objs.size f cd))).any (·.1)=false:=by rfl) :
  PS (QQ P w K mg base N d c f cd A outer s H E) (.Raise (some (.Call (.Name x np) (e::es) [] cpos)) none pos) (U0 C E t):=by
 intro l s1 W X D I h;obtain⟨nm,q,Y,bs,hdct,sn,sub,ab,col,dd,k0,k1,k2,k3,k5,J,c0,dJ,Z,Cq,lC,nC,iC,lJ,nJ,iJ⟩:=R;have L:=ZA.of_isNs (OG I.mod.kin nC);have M:=ZA.of_isNs (OG I.mod.kin nJ);have vC:=PL I.mod.kin L iC;have vJ:=PL I.mod.kin M iJ;refine wpAny_Raise_call_subT F.excBase_ValueError (C:=C) (nm:=nm) (q:=q) (N:=Y) (bs:=bs) (bm:=.ref J::[.type "ValueError",.type "Exception",.type "BaseException",.type "object"]) (hdct:=hdct) (sn:=sn) (sub:=sub) (ab:=ab) (col:=col) (dd:=dd) (k0:=k0) (k1:=k1) (k2:=k2) (k3:=k3) (k5:=k5) (by rfl) hr.hd B vC (tL I hg i ⟨Db,?_⟩ hd);rw[show(QQ P w K mg base N d c f cd A outer s H E).env=i3 d c s.heap.objs.size f cd from Db,O];refine gg ?_;have U:=ha cpos l s1 W X _ I h;rw[show(QQ P w K mg base N d c f cd A outer s H E).env=i3 d c s.heap.objs.size f cd from Db,O]at U;refine dN U (λus s2 hz=>?_) λ_ _ z=>z;obtain⟨vs,G,g,r,hl,hE⟩:=hz;refine⟨Db,by rw[<- r.length];exact hl,g.kIn _ _ lC,PM L g.bk,.own (g.kIn _ _ lJ) (PM M g.bk) vJ .base,λp n i=>?_⟩;have j:=g.hok.kept i.keeps;have u:cU (QQ P w K mg base N d c f cd A outer s H E) l W G { s2 with heap:=p }:=g.un (t':=s2.toks) (Un.kept i.keeps) j;obtain⟨t',y,_,_⟩:=i.there;have Q:G n=none:=g.hok.out i.new
 have m:n∉pS (i3 d c s.heap.objs.size f cd::outer):=λz=>by
  obtain⟨_,o,S,_⟩:=g.stack.mem z;rw[i.new]at S;cases S
 have old:∀b,s2.heap.get? b=none->s.heap.get? b=none:=λb hb=>by
  cases q:s.heap.get? b with
  |none=>rfl
  |some o=>obtain⟨o',z⟩:=g.base.there b o q (λz=>c7 z (by simp[rF]));rw[hb]at z;cases z
 show wpAny (model P w) (A.deeper (i3 d c s.heap.objs.size f cd)) (cr (i3 d c s.heap.objs.size f cd) (.ref n)) _ _ { s2 with heap:=p };refine K2 (base:=base) (outer:=outer) (s:={ s2 with heap:=p }) I.ok.frames u.stack Db y Db Db Db m λv T sz kb x'=>?_;refine L1 (s2:={ s2 with heap:=v }) u (old n i.new) hE Q Db Db kb (λb hb=>?_) x' (j.fresh sz) ?_ (λa z=>nomatch z)
 ·simp only[aK,bR,e9]at hb;subst hb;exact⟨Q,old _ i.new⟩
 ·cases q:s.heap.get? T with
  |none=>rfl
  |some o=>obtain⟨o',z⟩:=u.base.there T o q (λz=>c7 z (by simp[rF]));rw[show({ s2 with heap:=p }:Shared).heap.get? T=none from mN sz]at z;cases z
end
def RS(X:Cx)(st:Stmt)(rt:St->Hp->(Hp->XK)->Prop):Prop:=∀pins s σ H(W:Hp->XK),cU X pins σ H s->rt σ H W ->
 wpAny (model X.prog X.w) X.A (exec st X.env) (λ_ _=>False) (λe c=>∃a b,cU X pins σ a b/\S7 X.prog X.w X.stack a b (W a) e c) s
def RE(X:Cx)(e:Expr)(rt:St->Hp->(Hp->XK)->Prop):Prop:=∀pins s σ H(W:Hp->XK),cU X pins σ H s->rt σ H W ->
 wpAny (model X.prog X.w) X.A (eval e X.env) (λ_ _=>False) (λe c=>∃a b,cU X pins σ a b/\S7 X.prog X.w X.stack a b (W a) e c) s
def E5(X:Cx):Prop:=∀e s,¬X.xe e s
section
variable{X:Cx}{pos:Pos}{e:Expr}
def AO{rt:St->Hp->(Hp->XK)->Prop}(h:RE X e rt)(c:lT e (some (.Name y pos')) pos.line X.env=pure false:=by rfl):RS X (.Assign [.Name y pos'] e pos) rt:=by
 intro a s d H W I b;exact ua (jG (h a s d H W I b) λv f z=>z.elim) c
end
noncomputable abbrev Cx.marked(X:Cx)(a:Addr):Cx:={ X with A:=X.A.mark (some (.ref a)),calm:=false }
section
variable{X:Cx}{d:List (Addr×Obj)}{l:St}{H:Hp}{s:Shared}{g:Addr}
def cU.mark(I:cU X d l H s)(g:Addr):cU (X.marked g) d l H s:=
 ⟨⟨I.ok.mod,I.ok.kind,I.ok.glob,I.ok.blt,I.ok.above,I.ok.inj,I.ok.has,I.ok.cab,(λz=>nomatch z),I.ok.frames,I.ok.stk,I.ok.exf,I.ok.bs,I.ok.bsz,I.ok.noex,I.ok.exfs,I.ok.funs,I.ok.frf,I.ok.tab⟩,I.os,I.bare,I.base,I.loc,I.cell,I.free,I.freeC,I.pin,I.hok,I.len⟩
def cU.unmark(I:cU X d l H s)(J:cU (X.marked g) d u7 H' s'):cU X d u7 H' s':=⟨I.ok,J.os,J.bare,J.base,J.loc,J.cell,J.free,J.freeC,J.pin,J.hok,J.len⟩
def P5{E:Value->Shared->Prop}{i:Nat}{Q:Unit->Shared->Prop}(I:cU X d l H s)(O:X.N.Nodup)(C:X.N[i]?=some n)(f:X.env.scope.names.lookup n=some .local)
  (h:∀J,cU X d (l.set i none) H J->Q () J):wpAny M A (do bindName X.env n .none;unbindBehindTheSuite X.env n pos) Q E s:=by
 obtain⟨m,R,P⟩:=id I.loc;have t:(X.env.scope.kind==.class||(X.env.scope.kind==.module&&X.env.locals != X.env.globals))=false:=by rw[I.ok.kind];rfl
 have u:i<l.length:=by rw[I.len];exact(aI.mp C).1
 have cne:=I.cne;refine wpAny_nameGoes_keeps f R t λh' v x a=>?_;have low:∀b o,X.s₀.heap.get? b=some o->b≠X.env.locals:=λb o e=>cL (bT (aY e) I.ok.above);refine h _ ⟨I.ok,I.os,I.bare,⟨λb o e n hb f=>?_,λb o e n hb f=>?_,I.base.free,λb o e f=>?_,I.base.tups,I.base.frzs,I.base.tbls⟩,⟨_,x,λj y v' r w L=>?_⟩,λy c e=>?_,I.free,I.freeC,λp S=>?_,λb ob e=>?_,by simpa using I.len⟩
 ·exact(a.2 b (low b o e)).trans (I.base.keep b o e n hb f)
 ·obtain⟨sl,r⟩:=I.base.slot b o e n hb f;exact⟨sl,(a.2 b (low b o e)).trans r⟩
 ·obtain⟨U,r⟩:=I.base.there b o e f;exact⟨U,(a.2 b (low b o e)).trans r⟩
 ·have F:j≠i:=λz=>by
   rw[z,bF u]at w;cases w
  rw[bC (i6 F)]at w;obtain⟨u',r',q⟩:=P j y v' r w L;have T:y≠n:=λz=>F (DX O (z▸r) C);refine⟨u',r',?_⟩;rcases q with⟨k,e⟩ | ⟨k,c,e,o,z,B⟩
  ·exact .inl ⟨k,by show(if y=n then v else m y)=_;rw[a8 T];exact e⟩
  ·exact .inr ⟨k,c,e,o,(a.2 c (cne y c e)).trans z,B⟩
 ·obtain⟨K,o,z,B⟩:=I.cell y c e;exact⟨K,o,(a.2 c (cne y c e)).trans z,B⟩
 ·obtain⟨W,Y,G,Z,p5⟩:=I.pin p S;exact⟨(a.2 p.1 G).trans W,Y,G,Z,p5⟩
 ·refine(I.hok b ob e).stay (λc K hc q=>(a.2 c ?_).trans q) (λ_ q=>q) λ_ _ q=>q;rintro rfl;rcases hc with rfl | hc
  ·rw[I.free]at e;cases e
  ·rw[I.free]at hc;cases hc
def pV.track{H h}{a:Addr}(x:pV P w H h)(f:H a=none)(new:iR P w (eM H a o) h a o):pV P w (eM H a o) h:=λb u e=>by
 by_cases hb:b=a
 ·subst hb;rw[bQ]at e;cases e;exact new
 ·rw[bV hb]at e;exact(x b u e).stay (λc v _ q=>q) (λc q=>by rw[bV (eN q f)];exact q) (λc i q=>by rw[bV (eN q f)];exact q) λc ob v q=>by rw[bV (eN q f)];exact q
def Un.track{H}{h h':Heap}{a:Addr}(u:Un fr [] H H' h h')(hn:H' a=none)(hf:h.get? a=none):Un fr [] H (eM H' a o) h h' where
 keep:=u.keep
 slot:=u.slot
 free:=λb ob e n x=>by
  rw[bV λz=>by rw[z,hf]at e;cases e];exact u.free b ob e n x
 there:=u.there
 tups:=λb xs e=>by have z:=u.tups b xs e;rw[bV (eN z hn)];exact z
 frzs:=λb ob v e=>by have z:=u.frzs b ob v e;rw[bV (eN z hn)];exact z
 tbls:=λb q e=>by
  obtain⟨more,z⟩:=u.tbls b q e;exact⟨more,by rw[bV (eN z hn)];exact z⟩
def Ly(K:aF)(J:Addr)(i:Nat)(rt:St->Hp->(Hp->XK)->Prop)(j:Addr->TS):TS:=λD l H=>rt l H λe b dx f=>eJ K b (.ref J)=some true /\
 ∃C,b=.ref C/\∀g,e g=none->f g=none->(∀a,dx=some a->e a=none)->j g { nx:=λc h=>D.nx (c.set i none) h,rt:=λ_ _=>False } (l.set i (some (.ref g))) (eM f g (.ext (TL.oX g C dx)))
def aA5{J:Addr}{i:Nat}{n U:Str}{st}{rt:St->Hp->(Hp->XK)->Prop}{ts:Addr->TS}(hq:E5 X)(j:X.stack=X.env::X.outer)(vc:X.env.frame=some X.env.locals)(hN:X.N.Nodup)(hi:X.N[i]?=some n)(hx:X.env.scope.names.lookup n=some .local)(hg:Gl X U)(hm:X.mg U=some (.ref J))
  (hs:RS X st rt) (hb:∀g,A9 (X.marked g) (b0::suite) (ts g)) (hd:(U==("__debug__":Str))=false:=by decide) :
  PS X (.Try [st] (.ExceptHandler (some (.Name U jp)) (some n) (b0::suite) hp::hs') [] [] pos) (Ly X.K J i rt ts):=by
 intro d s l H D I h;refine eu (n9 (dN (hs d s l H _ I h) (λ_ _ z=>z.elim) λe t hz=>?_));obtain⟨H1,W,E,g,T,dx,cls,a0,y,rfl,os,bare,un,hok,x,n1,n2,n3,n4,n5,hW,C,rfl,m⟩:=hz;have I2:cU X d l y t:=E.call' (ch:=[]) os un hok bare λb z=>c7 z Cy;have G:X.A.frames=some (X.env::X.outer):=by rw[<- j];exact I.ok.frames
 have P:t.heap.FunFrames X.base (X.env::X.outer):=by rw[<- j];exact I2.stack
 have r:∀b,W.heap.get? b=none->b∉pS (X.env::X.outer):=λb hb z=>by
  rw[<- j]at z;obtain⟨_,o,ho,_⟩:=E.stack.mem z;rw[hb]at ho;cases ho
 have f:∀b∈pS (X.env::X.outer),y b=none:=λb hb=>by rw[<- j]at hb;exact I2.stkFree b hb
 refine AW (base:=X.base) G P vc x (r g n3) (r T n4) λh3 p sz kb x3=>?_;have wl:y p=none:=hok.fresh sz
 have wm:W.heap.get? p=none:=by
  cases q:W.heap.get? p with
  |none=>rfl
  |some o=>obtain⟨o',z⟩:=un.there p o q Cy;rw[mN sz]at z;cases z
 refine oI (s:={ t with heap:=h3 }) x3 λR k4 x4=>?_;have B:fV (pS (X.env::X.outer)) [g,T,p] t.heap R:=(kb.more λb hb=>aK.mpr ((aK.mp hb).imp id λz=>aK.mpr (.inl (aP.mp z)))).trans (.of λb u Z c=>k4 b u Z λz=>c (by rw[z];simp))
 have nw:∀b o,W.heap.get? b=some o->b∉[g,T,p]/\(b∈pS (X.env::X.outer)->b∈pS X.stack):=λb o e=>by
  refine⟨λz=>?_,λz=>by rw[j];exact z⟩;simp only[aK,bR,e9]at z;rcases z with rfl | rfl | rfl
  ·rw[n3]at e;cases e
  ·rw[n4]at e;cases e
  ·rw[wm]at e;cases e
 have F:∀b∈[g,T,p],y b=none:=λb z=>by
  simp only[aK,bR,e9]at z;rcases z with rfl | rfl | rfl
  ·exact n1
  ·exact n2
  ·exact wl
 have xo:=un.but B nw;have L:=hok.butX B f F;have I4:cU X d l y { t with heap:=R }:=E.call' (ch:=[]) os xo L bare λb z=>c7 z Cy;have J4:=I4.mark g;obtain⟨oe,ve,ge,ce,de,yw,_,_⟩:=x4.ex;have LT:rH (model X.prog X.w) R (typeOf (.ref g)) (.ref C):=ce▸(rH.ld ge).andThen .now;refine bw (ay (tL (X:=X.marked g) J4 hg hm (((CC J4.kIn LT hW).at ?_)) hd)) (λz=>nomatch z);rw[a9 rfl];refine iq (oI (s:={ t with heap:=R }) x4 λh5 k5 x5=>?_);have Q:fV (pS (X.env::X.outer)) [g,T,p] t.heap h5:=B.trans (.of λb u Z c=>k5 b u Z λz=>c (by rw[z];simp));have xp:=un.but Q nw;have M:=hok.butX Q f F;obtain⟨o5,v5,g5,c5,d5,Y,_,_⟩:=x5.ex;have wx:=m g (E.hok.out n3) n1 λa z=>E.hok.out (n5 a z);have O:pV X.prog X.w (eM y g (.ext (TL.oX g C dx))) h5:=M.track n1 ⟨⟨o5,v5,g5,c5,d5,Y⟩,⟨o5,g5⟩,λha hb ⟨o,v,y1,y2⟩ k=>⟨o,v,k o y1,y2⟩⟩;have I5:cU X d l (eM y g (.ext (TL.oX g C dx))) { t with heap:=h5 }:=E.call' (ch:=[]) os (xp.track n1 n3) O bare λb z=>c7 z Cy;refine yZ I5 hN hi (.inl hx) (v:=.ref g) Db (λs6 I6=>?_) (.inr hx);refine dN (hb g d s6 _ _ _ (I6.mark g) wx) (λfl s7 S=>?_) λe s7 z=>c7 z (hq e s7)
 cases fl with
 |next=>
  obtain⟨u7,H',J7,q⟩:=S;exact P5 (I6.unmark J7) hN hi hx λs8 I8=>⟨_,H',I8,q⟩
 |brk=>obtain⟨_,_,_,z⟩:=S;exact z.elim
 |cont=>obtain⟨_,_,_,z⟩:=S;exact z.elim
 |ret u=>obtain⟨_,_,_,_,_,z⟩:=S;exact z.elim
def aA6(c:E5 X)(hb:A9 X body ts):PS X (.Try body (a::hs) [] [] pos) ts:=by
 intro d s l H D I h;refine eu (dN (hb d s l H D I h) (λf b q=>?_) λe b z=>c7 z (c e b))
 cases f with
 |next=>exact v0 q
 |ret v=>exact q
 |brk=>exact q
 |cont=>exact q
end
end L2
namespace TL
open L2
section
variable{e:Expr}
def Ok.away{K}{u0:List Sl}{σ:L2.St}(o:Ok K B p0 H ps u0 σ)(i:Nat):Ok K B p0 H ps (u0.set i .un) (σ.set i none) where
 base:=o.base
 sub:=o.sub
 live:=o.live
 len:=by simpa using o.len
 val:=λj d h=>by
  by_cases e:i=j
  ·subst e;have hi:i<u0.length:=by have:=(aI.mp h).1;simpa using this
   rw[bF hi]at h;cases h
  ·rw[bC e]at h |-;exact o.val j d h
 own:=λj ts h=>by
  by_cases e:i=j
  ·subst e;have hi:i<u0.length:=by have:=(aI.mp h).1;simpa using this
   rw[bF hi]at h;cases h
  ·rw[bC e]at h |-;exact o.own j ts h
 dis:=λj k ts us p h1 h2 h3 h4=>by
  have back:∀{l:Nat}{vs:List D},(u0.set i .un)[l]?=some (.own vs)->i≠l/\u0[l]?=some (.own vs):=λ{l vs} h=>by
   by_cases e:i=l
   ·subst e;have hi:i<u0.length:=by have:=(aI.mp h).1;simpa using this
    rw[bF hi]at h;cases h
   ·rw[bC e]at h;exact⟨e,h⟩
  obtain⟨n1,b1⟩:=back h1;obtain⟨n2,b2⟩:=back h2;rw[bC n1]at h3;rw[bC n2]at h4;exact o.dis j k ts us p b1 b2 h3 h4
 dc:=o.dc.setS λ_ _ z=>nomatch z
end
end TL
namespace L2
def xF:e4 "ValueError"=some (.type "ValueError"):=by decide +kernel
section
variable{K:aF}{C D J:Addr}{cd:ClassData}
def K8:bX K (.ref C) (.ref C)=some true:=by unfold bX;rw[a9 Cy]
def pH(c:gD K D=some cd)(d:gA K (.ref D)=some (.type "type"))(a:bJ K C (.ref D)=some false)(b:bJ K D (.ref D)=some true):bX K (.ref C) (.ref D)=some false:=by
 have ne:¬(c9 C==c9 D)=true:=λz=>by
  have e:C=D:=Value.ref.inj (beq_iff_eq.mp z);subst e;rw[a]at b;cases b
 unfold bX;rw[a8 ne];unfold vO;dsimp only;rw[c,d];show(if(true&&(some (n7 "type")==some (n7 "type")))=true then _ else _)=_;rw[a9 Cy];exact a
def pG{b:Bool}(a:lP T=true)(c:bJ K C (.type T)=some b):bX K (.ref C) (.type T)=some b:=by
 unfold bX;rw[a8 (λz=>by cases beq_iff_eq.mp z)];unfold vO;dsimp only;rw[a9 a];exact c
def CW(a:gD K J=some cd)(c:gA K (.ref J)=some (.type "type"))(hb:bJ K J (.type "BaseException")=some true)(b:bJ K C (.ref J)=some true):eJ K (.ref C) (.ref J)=some true:=by
 unfold eJ;have e:ZH K (.ref J) (.type "BaseException")=some true:=hb;rw[e,a9 Cy];unfold vO;dsimp only;rw[a,c];show(if(true&&(some (n7 "type")==some (n7 "type")))=true then _ else _)=_;rw[a9 Cy];exact b
def CO{N:Addr}{a:Array dz}{n:Nat}(l:K.lookup N=some ⟨c,d,.dict a n,sl⟩)(h:(a.toList.all λe=>match e.key with | .str _ _=>true | _=>false)=true):vL K N=true:=by
 unfold vL;rw[l];rw[ZB]at h;exact h
def XO:lP "int"=true:=by decide +kernel
def XN:lP "str"=true:=by decide +kernel
def PY:lP "list"=true:=by decide +kernel
def K6:lP "tuple"=true:=by decide +kernel
def PZ:lP "bool"=true:=by decide +kernel
def xA:lP "ValueError"=true:=by decide +kernel
end
def lF{X:Cx}:E5 X.nox:=λ_ _ h=>h
end L2
namespace TL
open L2
section
variable{X:Cx}{e:Expr}{a:ET}{pos:Pos}
def Jm(K:aF)(c:Value)(f:V):List V->Hp->VK->Prop:=λg H Q=>∃(p C:Addr)(dx:Option Addr)(b:Bool),g=[.ref p,f]/\H p=some (.ext (oX p C dx))/\(∀d,dx=some d->∃fs,H d=some (.xd fs))/\E4 K C/\bX K (.ref C) c=some b/\Q (.bl b) H
def LS(g:∀u,eZ cv u->u=c):lZ X (.builtin "isinstance") (Jm X.K c cv):=by
 intro f s t H o n Q I r h;obtain⟨p,C,dx,b,rfl,j,hd,k,i,q⟩:=h;obtain⟨u,w,rfl,l,d⟩:=ON r;obtain rfl:=g _ d;cases l;exact D8 I j hd k i λm=>⟨.bl b,H,I.tok m,Db,q⟩
def Fe(K:aF)(c:Value)(a:ET):ET:=λf Q=>a f λd=>∃(C:Addr)(y:D)(b:Bool),d=.dict [(.int (C:Nat),y)]/\bX K (.ref C) c=some b/\Q (.bool b)
def YE(s:fK X e a)(u:∀{v},PE X e v->PE X (.Call g1 [e,g2] [] pos) (ZC (Jm X.K c cv) (tZ v (tZ (tC cv) BY)))):fK X (.Call g1 [e,g2] [] pos) (Fe X.K c a):=by
 obtain⟨v,w,F⟩:=s;refine⟨_,u w,λB t H A l G Q I o h k=>F B t H A l G _ _ o h λd x g j r E=>?_⟩;obtain⟨C,y,b,rfl,i,q⟩:=E
 generalize f:(pD [(.int (C:Nat),y)])=d at r
 cases r with
 |@exc p C' xk hp=>
  injection f with f;injection f with f;injection f with f m;injection f with f
  obtain rfl:C=C':=kJ.inj f;exact⟨p,C,none,b,Db,bO _ _ hp,(λ_ z=>nomatch z),xk.1,i,k _ _ g j (.bool _) q⟩
 |@excA p C' dx n xk hp hx=>
  injection f with f;injection f with f;injection f with f m;injection f with f
  obtain rfl:C=C':=kJ.inj f;exact⟨p,C,some dx,b,Db,bO _ _ hp,λ_ z=>by cases z;exact⟨_,bO _ _ hx⟩,xk.1,i,k _ _ g j (.bool _) q⟩
 |@excD p C' dx n cs2 xk hp hx _=>
  injection f with f;injection f with f;injection f with f m;injection f with f
  obtain rfl:C=C':=kJ.inj f;exact⟨p,C,some dx,b,Db,bO _ _ hp,λ_ z=>by cases z;exact⟨_,bO _ _ hx⟩,xk.1,i,k _ _ g j (.bool _) q⟩
 |_=>cases f
end
end TL
namespace L2
open TL
section
variable{X:Cx}
def Mm(K:aF):List V->Hp->VK->Prop:=λc H Q=>∃(p C:Addr)(dx:Option Addr)(tp:Addr)(a:List Addr)(b:Bool),c=[.ref p,.ref tp]/\H p=some (.ext (oX p C dx))/\(∀d,dx=some d->∃fs,H d=some (.xd fs))/\E4 K C/\H tp=some (.tup (a.map V.ref))/\jN K (.ref C) (a.map c9)=some b/\Q (.bl b) H
theorem F1:∀{a:List Addr}{us},eW (a.map V.ref) us->us=a.map c9
|[],_,.nil=>rfl
|c::a,_,.cons r t=>by
 have e:_=c9 c:=r;rw[bS,<- e,F1 t]
def GU:lZ X (.builtin "isinstance") (Mm X.K):=by
 intro j s σ H Z Y Q I r h;obtain⟨p,C,dx,tp,N,b,rfl,A,hd,F,B,x,q⟩:=h;obtain⟨u,w,rfl,L,c⟩:=ON r;cases L;cases c;obtain⟨_,G,E,o,y,m,n,a,_⟩:=I.hok tp _ B;obtain rfl:=F1 E;obtain⟨k,O,P,U⟩:=o;subst m a;refine PySem.W.kia_tup (K7 F) I.kIn ?_ y x (λz=>nomatch z) λM=>⟨.bl b,H,I.tok M,Db,q⟩;obtain⟨⟨o,vs,e,f,g,l⟩,_⟩:=I.hok p _ A;have i:vM o=true:=by unfold vM;rw[l]
 cases dx with
 |none=>exact⟨o,none,e,f,i,by rw[g];trivial⟩
 |some d=>
  obtain⟨fs,v⟩:=hd d Db;obtain⟨T,⟨J,S,R,t,_⟩,_⟩:=I.hok d _ v;exact⟨o,some J,e,f,i,by rw[g];exact t⟩
end
end L2
namespace TL
open L2
section
variable{X:Cx}{e:Expr}{f:List Expr}{a:ET}{pos:Pos}
def UZ:List Addr->TA
|[]=>BY
|c::cs=>tZ (tC (.ref c)) (UZ cs)
theorem O1:∀(b:List Addr)σ H(Q:List V->Hp->Prop),Q (b.map V.ref) H->UZ b σ H Q
|[],_,_,_,q=>q
|c::b,σ,H,Q,q=>O1 b σ H (λg d=>Q (V.ref c::g) d) q
def QE(K:aF)(c:List Addr)(a:ET):ET:=λg Q=>a g λd=>∃(C:Addr)(y:D)(b:Bool),d=.dict [(.int (C:Nat),y)]/\c.length<=1000/\jN K (.ref C) (c.map c9)=some b/\Q (.bool b)
def QA{u:Nat}(A:fK X e a)(G:∀{v},PE X e v->PE X (.Call g1 [e,.Tuple f u p2] [] pos) (ZC (Mm X.K) (tZ v (tZ (Kc (UZ cs)) BY)))):fK X (.Call g1 [e,.Tuple f u p2] [] pos) (QE X.K cs a):=by
 obtain⟨v,I,M⟩:=A;refine⟨_,G I,λB F H J r w Q N o h k=>M B F H J r w _ _ o h λd x i m t L=>?_⟩;obtain⟨C,y,b,rfl,E,j,q⟩:=L;refine O1 cs w i _ ⟨wF (by rw[aC];exact E),λtp l=>?_⟩
 generalize c:(pD [(.int (C:Nat),y)])=d at t
 have g:aV i (eM i tp (.tup (cs.map V.ref))):=dB l
 cases t with
 |@exc p C' xk hp=>
  injection c with c;injection c with c;injection c with c s;injection c with c
  obtain rfl:C=C':=kJ.inj c;exact⟨p,C,none,tp,cs,b,Db,g _ _ (bO _ _ hp),(λ_ z=>nomatch z),xk.1,bQ,j,k _ _ _ (m.trans g) (.bool _) q⟩
 |@excA p C' dx n xk hp hx=>
  injection c with c;injection c with c;injection c with c s;injection c with c
  obtain rfl:C=C':=kJ.inj c;exact⟨p,C,some dx,tp,cs,b,Db,g _ _ (bO _ _ hp),λ_ z=>by cases z;exact⟨_,g _ _ (bO _ _ hx)⟩,xk.1,bQ,j,k _ _ _ (m.trans g) (.bool _) q⟩
 |@excD p C' dx n cs2 xk hp hx _=>
  injection c with c;injection c with c;injection c with c s;injection c with c
  obtain rfl:C=C':=kJ.inj c;exact⟨p,C,some dx,tp,cs,b,Db,g _ _ (bO _ _ hp),λ_ z=>by cases z;exact⟨_,g _ _ (bO _ _ hx)⟩,xk.1,bQ,j,k _ _ _ (m.trans g) (.bool _) q⟩
 |_=>cases c
end
end TL
namespace L2
section
variable{X:Cx}{f:List (Addr×Obj)}{g:St}{H:Hp}{s:Shared}{d:Addr}
def UY(K:aF)(k J:Addr)(i:Nat)(rt:St->Hp->(Hp->XK)->Prop)(l:Addr->TS):TS:=λD g H=>rt g H λe b dx h=>eJ K b (.ref k)=some false/\eJ K b (.ref J)=some true /\
 ∃C,b=.ref C/\∀d,e d=none->h d=none->(∀a,dx=some a->e a=none)->l d { nx:=λc j=>D.nx (c.set i none) j,rt:=λ_ _=>False } (g.set i (some (.ref d))) (eM h d (.ext (TL.oX d C dx)))
def V5{J0 J:Addr}{n0 p:Str}{i:Nat}{n Y:Str}{st}{rt:St->Hp->(Hp->XK)->Prop}{ts:Addr->TS}(hq:E5 X)(l:X.stack=X.env::X.outer)(vc:X.env.frame=some X.env.locals)(hN:X.N.Nodup)(hi:X.N[i]?=some n)(hx:X.env.scope.names.lookup n=some .local)(zw:Gl X p)(oD:X.mg p=some (.ref J0))(hg:Gl X Y)(hm:X.mg Y=some (.ref J))
  (hs:RS X st rt) (hb:∀d,A9 (X.marked d) (b0::suite) (ts d)) (tz:(p==("__debug__":Str))=false:=by decide) (hd:(Y==("__debug__":Str))=false:=by decide) :
  PS X (.Try [st] (.ExceptHandler (some (.Name p jp0)) (some n0) body0 hp0::.ExceptHandler (some (.Name Y jp)) (some n) (b0::suite) hp::hs') [] [] pos) (UY X.K J0 J i rt ts):=by
 intro f s g H D I h;refine eu (n9 (dN (hs f s g H _ I h) (λ_ _ z=>z.elim) λe y hz=>?_));obtain⟨H1,Z,F,d,T,dx,cls,a0,B,rfl,os,bare,un,hok,x,n1,n2,n3,n4,n5,zg,hW,C,rfl,m⟩:=hz;have I2:cU X f g B y:=F.call' (ch:=[]) os un hok bare λb z=>c7 z Cy;have L:X.A.frames=some (X.env::X.outer):=by rw[<- l];exact I.ok.frames
 have Q:y.heap.FunFrames X.base (X.env::X.outer):=by rw[<- l];exact I2.stack
 have t:∀b,Z.heap.get? b=none->b∉pS (X.env::X.outer):=λb hb z=>by
  rw[<- l]at z;obtain⟨_,o,ho,_⟩:=F.stack.mem z;rw[hb]at ho;cases ho
 have j:∀b∈pS (X.env::X.outer),B b=none:=λb hb=>by rw[<- l]at hb;exact I2.stkFree b hb
 refine AW (base:=X.base) L Q vc x (t d n3) (t T n4) λh3 r sz kb x3=>?_;have wl:B r=none:=hok.fresh sz
 have wm:Z.heap.get? r=none:=by
  cases q:Z.heap.get? r with
  |none=>rfl
  |some o=>obtain⟨o',z⟩:=un.there r o q Cy;rw[mN sz]at z;cases z
 refine oI (s:={ y with heap:=h3 }) x3 λU k4 x4=>?_;have E:fV (pS (X.env::X.outer)) [d,T,r] y.heap U:=(kb.more λb hb=>aK.mpr ((aK.mp hb).imp id λz=>aK.mpr (.inl (aP.mp z)))).trans (.of λb u eb c=>k4 b u eb λz=>c (by rw[z];simp))
 have nw:∀b o,Z.heap.get? b=some o->b∉[d,T,r]/\(b∈pS (X.env::X.outer)->b∈pS X.stack):=λb o e=>by
  refine⟨λz=>?_,λz=>by rw[l];exact z⟩;simp only[aK,bR,e9]at z;rcases z with rfl | rfl | rfl
  ·rw[n3]at e;cases e
  ·rw[n4]at e;cases e
  ·rw[wm]at e;cases e
 have G:∀b∈[d,T,r],B b=none:=λb z=>by
  simp only[aK,bR,e9]at z;rcases z with rfl | rfl | rfl
  ·exact n1
  ·exact n2
  ·exact wl
 have xo:=un.but E nw;have M:=hok.butX E j G;have I4:cU X f g B { y with heap:=U }:=F.call' (ch:=[]) os xo M bare λb z=>c7 z Cy;have S:=I4.mark d;obtain⟨oe,ve,ge,ce,de,yw,_,_⟩:=x4.ex;have LT:rH (model X.prog X.w) U (typeOf (.ref d)) (.ref C):=ce▸(rH.ld ge).andThen .now;refine bw (ay (tL (X:=X.marked d) S zw oD (((CC S.kIn LT zg).at ?_)) tz)) (λz=>nomatch z);rw[a8 Cv];refine bw (ay (tL (X:=X.marked d) S hg hm (((CC S.kIn LT hW).at ?_)) hd)) (λz=>nomatch z);rw[a9 rfl];refine iq (oI (s:={ y with heap:=U }) x4 λh5 k5 x5=>?_);have R:fV (pS (X.env::X.outer)) [d,T,r] y.heap h5:=E.trans (.of λb u eb c=>k5 b u eb λz=>c (by rw[z];simp));have xp:=un.but R nw;have O:=hok.butX R j G;obtain⟨o5,v5,g5,c5,d5,yu,_,_⟩:=x5.ex;have wx:=m d (F.hok.out n3) n1 λa z=>F.hok.out (n5 a z);have P:pV X.prog X.w (eM B d (.ext (TL.oX d C dx))) h5:=O.track n1 ⟨⟨o5,v5,g5,c5,d5,yu⟩,⟨o5,g5⟩,λha hb ⟨o,v,y1,y2⟩ k=>⟨o,v,k o y1,y2⟩⟩;have I5:cU X f g (eM B d (.ext (TL.oX d C dx))) { y with heap:=h5 }:=F.call' (ch:=[]) os (xp.track n1 n3) P bare λb z=>c7 z Cy;refine yZ I5 hN hi (.inl hx) (v:=.ref d) Db (λs6 I6=>?_) (.inr hx);refine dN (hb d f s6 _ _ _ (I6.mark d) wx) (λfl s7 W=>?_) λe s7 z=>c7 z (hq e s7)
 cases fl with
 |next=>
  obtain⟨u7,H',J7,q⟩:=W;exact P5 (I6.unmark J7) hN hi hx λs8 I8=>⟨_,H',I8,q⟩
 |brk=>obtain⟨_,_,_,z⟩:=W;exact z.elim
 |cont=>obtain⟨_,_,_,z⟩:=W;exact z.elim
 |ret u=>obtain⟨_,_,_,_,_,z⟩:=W;exact z.elim
end
section
variable{X:Cx}{k:Nat}{f C:Addr}{i:iF}{g:List Str}{j:Sp}{m:Str}{b pos:Pos}{o e:Expr}{d:List Expr}{t:TA}{n:TE}
def wA(p:E5 X)(Z:PE X o n)(c:B9 X.K C)(R:B7 X.K C m f)(F:dI X.prog X.w X.K X.mg X.base (S7 X.prog X.w) k f i g j)(hr:gQ k X.A)(hb:qF X.K i g [])(Y:PA X (e::d) t)
  (N:bI (e::d) X.env=(false,eval e X.env)::bI d X.env:=by rfl) (M:(i9 pos (bI d X.env)).any (·.1)=false:=by rfl)
  (ht:eval (.Call (.Attribute o m b) (e::d) [] pos) X.env=(do
   let ov <- eval o X.env
   cu b.atName
   let (f,first) <- al [ov] (ef ov m pl)
   callWith pos f first (i9 pos (bI (e::d) X.env)) (oa pos (fh [] X.env))):=by rfl) :
  RE X (.Call (.Attribute o m b) (e::d) [] pos) (λG H W=>n G H λx J=>∃a dx fs,x=.ref a/\J a=some (.ins C dx fs)/\fs.lookup m=none/\t G J λvs y=>j (x::vs) y (λ_ _=>False) (W y)):=by
 intro v s G H W I h;refine uF (pl:=pl) (dN (Z v s G H _ I h) (λu s1 O=>?_) λe s z=>c7 z (p e s)) ht;obtain⟨x,J,Q,rx,a,dx,fs,ex,U,l,q⟩:=O;subst ex;obtain rfl:u=c9 a:=rx;refine yB Q U c R l ?_;refine qH (first:=[.ref a]) (h₀:=X.base) I.ok.mod.kin R.kp (dN (Y pos v s1 G J _ Q q) (λE P O=>?_) λe s z=>c7 z (p e s)) N M;obtain⟨vs,y,L,r,S⟩:=O;refine⟨L.kIn,?_⟩;have T:eW (.ref a::vs) (.ref a::E):=.cons Db r;have hl:(c9 a::E).length=g.length:=by rw[<- T.length];exact F.len _ _ _ _ S
 have B:=hb P (.ref a::E) L.kIn (by rw[dW];exact hl);rw[dW]at B;refine ik (ai (F.run X.A X.stack P y ⟨.ref a::E,[]⟩ (.ref a::E) (.ref a::vs) _ (W y) hr L.env0 B T S) λr s' p=>?_)
 cases r with
 |error e=>exact⟨y,P,L,p⟩
 |ok fl=>
  cases fl with
  |ret u=>obtain⟨_,_,_,_,_,_,_,z⟩:=p;exact z.elim
  |next=>exact g7 p
  |brk=>exact g7 p
  |cont=>exact g7 p
end
end L2
namespace TL
open L2
def Eo(K:aF)(d:D)(a:Value)(dx:Option Addr):Prop:=∃C:Addr,d=.dict [(.int (C:Nat),.none)]/\a=.ref C/\dx=none/\Dl K C
section
variable{F:pP}
def nL(K:aF)(i:JL F):Sp:=λvs H _ E=>∃(c:List Addr)(T:F.I)(n:F.S)(g:List D)(f:F.S->D->Prop),(∀p∈c,BA (H p))/\(∀a∈F.ad T,a∈c)/\F.At T K H c n/\Reps K (mask H c) g vs/\i (F.tau T) n g f /\
 ∀h d b dx e,fE (F.ad T) H e->F.At T K e c h->Eo K d b dx->f h d->E b dx e
def X6{mg:Str->Option Value}{K x st}{f:Addr}{N pn:List Str}{k:Nat}{M:JL F}(R:MB K x qual st f fd)(S:bZ N pn (aX st))(len:∀τ n b Q,M τ n b Q->b.length=pn.length)
  (j:∀(g:Value)(A:d9)outer(s:Shared)H E,gQ k (A.deeper (i3 qual (aX st) s.heap.objs.size f g))->∀c(T:F.I)(n:F.S)(b:List D)(z:F.S->D->Prop),M (F.tau T) n b z->(∀O d m dx C,fE (F.ad T) H C->F.At T K C c O->Eo K d m dx->z O d->E m dx C) ->
   ∃t,vH (QQ P w K mg base N qual (aX st) f g A outer s H E) (lK st) t/\t (F.tau T) { nx:=λ_ _=>False,rt:=λ_ _=>False,xB:=λB p0=>B=gH H (F.ad T)/\p0=c } n (iO N b)):dI P w K mg base (S7 P w) (k+1) f fd pn (nL K M):=by
 obtain⟨oc,od,kV,W,pm,an,g,ct,sj,rfl,lk,J⟩:=R.ex;refine X5 lk J S (λvs H Q E h=>?_) λA outer s H vs Q E hr h=>?_
 ·obtain⟨c,T,n,b,U,_,_,_,r,q,_⟩:=h;rw[<- r.length];exact len _ _ b U q
 ·obtain⟨c,T,n,b,z,live,Z,tp,r,q,X⟩:=h;obtain⟨t,⟨ts,p,rd⟩,h⟩:=j g A outer s H E hr c T n b z q X;have o:=oS (N:=N) live r
  have L:∀(i:Nat)(y:List D),(iO N b)[i]?≠some (.own y):=λi y e=>by
   obtain⟨q,_,_,_,G,_,v,_⟩:=o.own i y e;rw[G]at v;cases v
  have sW:aV (gH H (F.ad T)) H:=λa u e=>by
   unfold gH at e;split at e
   ·cases e
   ·exact e
  have o2:Ok K (gH H (F.ad T)) c H c (iO N b) (L2.mE N vs):=⟨sW,o.sub,o.live,o.len,o.val,λi y e=>c7 e (L i y),o.dis,λi hs kvs e=>by
   obtain⟨⟨q,es,_,_,G,_,v,_⟩,_⟩:=o.dc i hs kvs e;rw[G]at v;cases v⟩
  have o3:jY F K (gH H (F.ad T)) c H c (iO N b) (L2.mE N vs) T n:=⟨o2,Z,λa Y=>a9 Y,tp⟩;exact⟨ts,p,rd _ c H c _ _ T n _ _ o3 h ⟨λ_ _ _ _ _ _ _ l=>l.elim,λ_ _ _ _ _ _ _ l=>l.elim,λ_ _ _ _ _ _ _ l=>l.elim,λ_ _ _ _ _ _ _ l=>l.elim,Db,Db⟩⟩
def xT(s:aV (gH H0 as) H):fE as H0 H:=λa u ne e=>s a u (by unfold gH;rw[a8 ne];exact e)
def Yr(e:F.S->D->Prop)(f:Hp)(a:List Addr)(b:F.I)(C:Addr)(t:AT):SZ F:=λi d n h=>t h λg=>g.length<=1000/\i=F.tau b/\e n (.dict [(.int (C:Nat),.none)])/\∀B c,d.xB B c->B=gH f (F.ad b)/\c=a
section
variable{P:cW}{w:f7}{K:aF}{mg:Str->Option Value}{base:Heap}{N:List Str}{b:Str}{a:Scope}{f:Addr}{cd:Value}{A:d9}{outer:List Env}{s:Shared}{H:Hp}{E:XK}{i:F.S->D->Prop}{g:F.I}{c:List Addr}
def JW{C:Addr}{x}(y:∀m d k dx j,fE (F.ad g) H j->F.At g K j c m->Eo K d k dx->i m d->E k dx j)(S:Dl K C)(z:yM (QQ P w K mg base N b a f cd A outer s H E) (e::es) t)
  (L:∀{ta},PA (QQ P w K mg base N b a f cd A outer s H E) (e::es) ta->PS (QQ P w K mg base N b a f cd A outer s H E) (.Raise (some (.Call (.Name x np) (e::es) [] cpos)) none pos) (U0 C E ta)) :
  uA (QQ P w K mg base N b a f cd A outer s H E) (.Raise (some (.Call (.Name x np) (e::es) [] cpos)) none pos) (Yr i H c g C t):=by
 obtain⟨Z,J,Q⟩:=z;refine⟨_,L J,λB r j M l U T n W X o h f=>Q B r j M l U _ _ o.ok h λY vs u R O q=>?_⟩;obtain⟨G,I,hd,v⟩:=q;cases F.inj I;obtain⟨rfl,rfl⟩:=v B r f.xb;have p:=o.grow R;exact⟨wF (by rw[<- O.length];exact G),y n _ _ _ u (xT p.ok.base) (F.to p.tp (λ_ _=>rfl) (eV o.ok.sub)) ⟨C,Db,Db,Db,S⟩ hd⟩
end
section
variable{X:Cx}{e:Expr}{pos:Pos}{st:Stmt}
def Iy(X:Cx)(W:Hp->List Addr->Prop)(e:Expr)(t:D->F.S->List Sl->Prop):Prop:=∃a:TE,PE X e a/\∀B p0 H ps u0 σ T n (b:VK),jY F X.K B p0 H ps u0 σ T n->t (F.tau T) n u0->W B p0->a σ H b
def yY{W:Hp->List Addr->Prop}{t:D->F.S->List Sl->Prop}(h:Iy X W e t)(p:∀{v},PE X e v->PS X (.Expr e pos) (yX v)):uA X (.Expr e pos) (λj d n b=>t j n b/\∀B a,d.xB B a->W B a):=by
 obtain⟨v,g,r⟩:=h;exact⟨_,p g,λB a H i c b T n d k o h f=>r B a H i c b T n _ o h.1 (h.2 B a f.xb)⟩
def uA.or{t u:SZ F}(l:uA X st t)(m:uA X st u):uA X st (λk c n a=>t k c n a\/u k c n a):=by
 obtain⟨w,p,r⟩:=l;obtain⟨x,q,v⟩:=m;refine⟨λD a H=>w D a H\/x D a H,λb s a H D I h=>?_,λB i H j d a T n c g o h f=>?_⟩
 ·rcases h with h | h
  ·exact p b s a H D I h
  ·exact q b s a H D I h
 ·rcases h with h | h
  ·exact .inl (r B i H j d a T n c g o h f)
  ·exact .inr (v B i H j d a T n c g o h f)
def Ei(X:Cx)(st:Stmt)(t:EZ F):Prop:=∃rt:L2.St->Hp->(Hp->XK)->Prop,RS X st rt/\∀B p0 H ps u0 σ T n (g:F.S->D->Prop)(W:Hp->XK),jY F X.K B p0 H ps u0 σ T n->t (F.tau T) n u0 g ->
 (∀h d b dx c f,fE (F.ad T) H c->fE (F.ad T) c f->(∀a∈F.ad T,BA (c a))->F.At T X.K f ps h->Eo X.K d b dx->g h d->W c b dx f)->rt σ H W
def Xy{K}{a C:Addr}(c:Dl K C)(b:a∉ps):fR K (mask (eM H a (.ext (oX a C none))) ps) (.dict [(.int (C:Nat),.none)]) (.ref a):=.exc c (kL b bQ)
def jY.exc{B H H1 H2 p0 ps}{b:List Sl}{j:L2.St}{T n n'}{a C:Addr}{i:Nat}(o:jY F X.K B p0 H ps b j T n)(f:fE (F.ad T) H H1)(g:fE (F.ad T) H1 H2)(t:F.At T X.K H2 ps n')(k:Dl X.K C)(c:H2 a=none) :
  jY F X.K B p0 (eM H2 a (.ext (oX a C none))) ps (b.set i (.val (.dict [(.int (C:Nat),.none)]))) (j.set i (some (.ref a))) T n'/\aV (mask H ps) (mask (eM H2 a (.ext (oX a C none))) ps):=by
 have d:=o.growX (f.trans g) t;have h:=dB (o:=HO.ext (oX a C none)) c;exact⟨(d.grow h).set (Xy k (iQ d.ok.live c)),((f.trans g).mask o.mem').trans (bH h)⟩
theorem jY.away{K}{a:List Sl}{b:L2.St}(o:jY F K B p0 H ps a b T n)(i:Nat):jY F K B p0 H ps (a.set i .un) (b.set i none) T n:=⟨o.ok.away i,o.mem,o.nb,o.tp⟩
def Vz(K:aF)(J:Addr)(i:Nat)(t:EZ F)(h:SZ F):SZ F:=λf b n c=>t f n c λn1 d=>(∃C:Addr,d=.dict [(.int (C:Nat),.none)]/\eJ K (.ref C) (.ref J)=some true) /\
 h f { nx:=λg a=>b.nx g (a.set i .un),rt:=λ_ _=>False,xB:=b.xB } n1 (c.set i (.val d))
def UI{C a:Addr}(h:pD [(.int (C:Nat),.none)]=pD [(.int (a:Nat),.none)]):C=a:=by
 injection h with h
 injection h with h _
 injection h with h _
 injection h with h
 exact kJ.inj h
def Z0{J:Addr}{i:Nat}{r:u5}{c:List u5}{t:EZ F}{v:SZ F}(I:Ei X st t)(hb:∀a,vH (X.marked a) (p::suite) v)
  (pt:∀{rt:L2.St->Hp->(Hp->XK)->Prop}{w:Addr->TS},RS X st rt->(∀a,A9 (X.marked a) (p::suite) (w a))->PS X (.Try [st] (r::c) [] [] pos) (Ly X.K J i rt w)):uA X (.Try [st] (r::c) [] [] pos) (Vz X.K J i t v):=by
 obtain⟨rt,rs,N⟩:=I;refine⟨_,pt rs (λa=>(hb a).choose_spec.1),λB s H u l W T n m Z o h f=>N B s H u l W T n _ _ o h λn1 d z dx H1 H2 P Q l1 R U q=>?_⟩;obtain⟨⟨C,hd,G⟩,q⟩:=q;obtain⟨Y,E,rfl,rfl,S⟩:=U;subst E;obtain rfl:=UI hd;refine⟨G,_,Db,λa e1 A _=>?_⟩;obtain⟨M,sm⟩:=o.exc (i:=i) P Q R S A;refine(hb a).choose_spec.2 B s _ u _ _ T n1 { nx:=λj g=>m.nx j (g.set i .un),rt:=λ_ _=>False,xB:=m.xB } _ M q ⟨λy k x g j L O b=>?_,λ_ _ _ _ _ _ _ b=>b.elim,λ_ _ _ _ _ _ _ b=>b.elim,λ_ _ _ _ _ _ _ b=>b.elim,f.xb⟩;exact f.nx y k _ _ j (L.away i) (sm.trans O) b
def Ys(K:aF)(g J:Addr)(i:Nat)(t:EZ F)(j:SZ F):SZ F:=λf b n c=>t f n c λn1 d=>(∃C:Addr,d=.dict [(.int (C:Nat),.none)]/\eJ K (.ref C) (.ref g)=some false/\eJ K (.ref C) (.ref J)=some true) /\
 j f { nx:=λh a=>b.nx h (a.set i .un),rt:=λ_ _=>False,xB:=b.xB } n1 (c.set i (.val d))
def U3{J0 J:Addr}{c:u5}{i:Nat}{u nn:Str}{g:List u5}{t:EZ F}{k}{x:SZ F}(M:Ei X st t)(hb:∀a,vH (X.marked a) (k::suite) x)
  (pt:∀{rt:L2.St->Hp->(Hp->XK)->Prop}{y:Addr->TS},RS X st rt->(∀a,A9 (X.marked a) (k::suite) (y a))->PS X (.Try [st] (c::.ExceptHandler (some (.Name u jp)) (some nn) (k::suite) hp::g) [] [] pos) (UY X.K J0 J i rt y)):uA X (.Try [st] (c::.ExceptHandler (some (.Name u jp)) (some nn) (k::suite) hp::g) [] [] pos) (Ys X.K J0 J i t x):=by
 obtain⟨rt,rs,P⟩:=M;refine⟨_,pt rs (λa=>(hb a).choose_spec.1),λB v H w r Z T n s DV o h f=>P B v H w r Z T n _ _ o h λn1 d E dx H1 H2 R S l1 U Y q=>?_⟩;obtain⟨⟨C,hd,l,L⟩,q⟩:=q;obtain⟨C0,I,rfl,rfl,W⟩:=Y;subst I;obtain rfl:=UI hd;refine⟨l,L,_,Db,λa e1 G _=>?_⟩;obtain⟨O,sm⟩:=o.exc (i:=i) R S U W G;refine(hb a).choose_spec.2 B v _ w _ _ T n1 { nx:=λm j=>s.nx m (j.set i .un),rt:=λ_ _=>False,xB:=s.xB } _ O q ⟨λA p z j m N Q b=>?_,λ_ _ _ _ _ _ _ b=>b.elim,λ_ _ _ _ _ _ _ b=>b.elim,λ_ _ _ _ _ _ _ b=>b.elim,f.xb⟩;exact f.nx A p _ _ m (N.away i) (sm.trans Q) b
end
end
section
variable{X:Cx}{C:Addr}{e i:Expr}{c:List Expr}{f:ET}{pos b:Pos}{st:Stmt}
def zY{t:AZ (mB C)}{w:S8->D->Prop}{E:XK}{g:Bk}(U:∀s d a dx j,fE [g.p,g.q] H0 j->LX C g X.K j ps0 s->Eo X.K d a dx->w s d->E a dx j)(Z:m∉N6)(Y:fK X e f)(W:S5 X (i::c) t)
  (pc:∀{v ta},PE X e v->PA X (i::c) ta->PE X (.Call (.Attribute e m b) (i::c) [] pos) (DB C m (nL X.K sp) [] E v ta)) :
  Iy (F:=mB C) X (λB u=>B=gH H0 [g.p,g.q]/\u=ps0) (.Call (.Attribute e m b) (i::c) [] pos) (λr n k=>f k λd=>d=r/\r=lL g/\t r n k λn1 P=>sp r n1 (r::P) w):=by
 obtain⟨v,pe,re⟩:=Y;obtain⟨va,pa,ra⟩:=W;refine⟨_,pc pe pa,λB u H z l k T n N o h S=>re B u H z l k _ _ o.ok h λd x L G r1 A=>?_⟩;obtain⟨rfl,ht,A⟩:=A;obtain⟨rfl,y⟩:=kM (T':=T) o G r1 Db;obtain rfl:T=g:=iK ht;obtain⟨_,_,_,_,R,_⟩:=id y;refine⟨_,_,_,Db,R,wO Z,ra B u L z l k T n _ _ (o.grow G) A λn2 O xs M s2 J r2 q2=>?_⟩;obtain⟨rfl,rfl⟩:=S;show nL X.K sp (.ref T.p::(xs++[])) M N E;rw[dW];have I:=(o.grow G).growX s2 J;exact⟨z,T,n2,lL T::O,w,I.ok.live,o.mem',J,.cons (xV T) r2,q2,λs d a dx j s' t' x' Q=>U s d a dx j ((xT I.ok.base).trans s') ((mB C).to t' (λ_ _=>rfl) (eV o.ok.sub)) x' Q⟩
def rS(Q:m∉N6)(P:fK X e f)(O:S5 X (i::c) t)
  (Z:∀{v}{E:TA},PE X e v->PA X (i::c) E->RS X st (λg H W=>v g H λx y=>∃a dx fs,x=.ref a/\y a=some (.ins C dx fs)/\fs.lookup m=none/\E g y λvs l=>nL X.K sp (x::vs) l (λ_ _=>False) (W l))) :
  Ei (F:=mB C) X st (Ht C sp f t):=by
 obtain⟨v,pe,re⟩:=P;obtain⟨va,Y,ra⟩:=O;refine⟨_,Z pe Y,λB z H s j g T n G W o h k=>re B z H s j g _ _ o.ok h λd x l p r1 u=>?_⟩;obtain⟨rfl,u⟩:=u;obtain⟨rfl,q⟩:=kM (T':=T) o p r1 Db;obtain⟨_,_,_,_,N,_⟩:=id q;refine⟨_,_,_,Db,N,wO Q,ra B z l s j g T n _ _ (o.grow p) u λS L xs J A w r2 q2=>?_⟩;have U:=(o.grow p).growX A w;exact⟨s,T,S,lL T::L,G,U.ok.live,o.mem',w,.cons (xV T) r2,q2,λR d r dx I s' t' x' M=>k R d r dx J I ((fE.of p).trans A) s' ((mB C).liv w) t' x' M⟩
end
def aAs{x y:Addr}(h:J6 x=J6 y):x=y:=by
 unfold J6 at h;injection h with h
 injection h with h _
 injection h with _ h
 injection h with h
 injection h with h _
 injection h with h
 exact kJ.inj h
def xU{K}{x:Addr}(r:fR K H (J6 x) v):v=.ref x:=DN r
noncomputable def wU(F:pP):pP where
 I:=F.I×Addr
 S:=F.S×List D
 ad:=λT=>T.2::F.ad T.1
 tau:=λT=>.tuple [F.tau T.1,J6 T.2]
 At:=λT K H ps n=>T.2∉F.ad T.1/\F.At T.1 K H ps n.1/\∃xs,H T.2=some (.lst xs)/\Reps K (mask H ps) n.2 xs
 to:=λ{T K H H' ps u3 n} h e s=>by
  obtain⟨h1,h2,xs,h3,h4⟩:=h;exact⟨h1,F.to h2 (λa ha=>e a (aJ _ ha)) s,xs,by rw[e T.2 (aN ..)];exact h3,h4.same s⟩
 liv:=λ{T K H ps n} h a ha=>by
  obtain⟨h1,h2,xs,h3,h4⟩:=h;rcases aK.mp ha with rfl | ha
  ·exact⟨_,h3,Db⟩
  ·exact F.liv h2 a ha
 inj:=λ{T T'} h=>by
  injection h with h
  injection h with h1 h
  injection h with h2 _
  exact io (F.inj h1) (aAs h2)
section
variable{F:pP}{K:aF}{B H g:Hp}{d f:List Addr}{c:List Sl}{l:L2.St}{T:F.I×Addr}{n:F.S×List D}
def jY.fst(o:jY (wU F) K B d H f c l T n):jY F K (qC B [T.2] H) d H f c l T.1 n.1:=by
 obtain⟨ok,mem,nb,tp⟩:=o;have x:T.2∉F.ad T.1:=tp.1;have k:T.2∈d:=mem T.2 (aN ..);refine⟨⟨λa u e=>?_,ok.sub,ok.live,ok.len,ok.val,λi y h=>?_,ok.dis,?_⟩,λa m=>mem a (aJ _ m),λa m=>?_,tp.2.1⟩
 ·by_cases z:a∈[T.2]
  ·rw[wH z]at e;exact e
  ·rw[lN z]at e;exact ok.base a u e
 ·obtain⟨q,A,r,s,t,p,v,w⟩:=ok.own i y h;exact⟨q,A,r,s,by rw[lN λz=>p (by rw[aP.mp z];exact k)];exact t,p,v,w⟩
 ·exact ok.dc.to (λj E kvs h=>⟨h,Db⟩) (λq C a b _=>⟨a,Db⟩) (λq C _ _ a b=>⟨by rw[lN λz=>b (by rw[aP.mp z];exact k)];exact a,b⟩) (L2.aV.refl _)
 ·rw[lN λz=>x (by rw[<- aP.mp z];exact m)];exact nb a (aJ _ m)
def jY.snd(o:jY (wU F) K B d H f c l T n)(w:jY F K (qC B [T.2] H) d g u3 o9 u7 T.1 n')(s:aV (mask H f) (mask g u3)):jY (wU F) K B d g u3 o9 u7 T (n',n.2):=by
 obtain⟨ok,mem,nb,v,m,y,u,r⟩:=o;have e:aV B (qC B [T.2] H):=rY λa p=>by rw[aP.mp p];exact nb T.2 (aN ..)
 obtain⟨k,_,_,t⟩:=w
 exact⟨⟨e.trans k.base,k.sub,k.live,k.len,k.val,λi x h=>let ⟨q,ys,h1,h2,h3,h4,h5,h6⟩:=k.own i x h;⟨q,ys,h1,h2,aV.free' e h3,h4,h5,h6⟩,k.dis,k.dc.to (λj A kvs h=>⟨h,Db⟩) (λq z a b _=>⟨a,Db⟩) (λq z _ _ a b=>⟨aV.free' e a,b⟩) (L2.aV.refl _)⟩,mem,nb,
  v,t,y,k.base _ _ (by rw[wH (aP.mpr Db)];exact u),r.same s⟩
end
section
variable{F:pP}{X:Cx}{e:Expr}{st:Stmt}
def Py{K}{T:F.I×Addr}{n:F.S×List D}(a:(wU F).At T K H ps n)(c:∀a∈F.ad T.1,a∈ps)(s:fE (F.ad T.1) H H')(t:F.At T.1 K H' ps n'):(wU F).At T K H' ps (n',n.2):=by
 obtain⟨b,_,g,f,d⟩:=a;exact⟨b,t,g,s _ _ b f,d.same (s.mask c)⟩
def fE.more{bs}(s:fE as H H')(h:∀a∈as,a∈bs):fE bs H H':=λa o ne e=>s a o (λz=>ne (h a z)) e
def Po(t:TZ F):TZ (wU F):=λf n d Q=>∃a c,f=.tuple [a,c]/\t a n.1 d λn1 b=>Q (n1,n.2) b
def Vq(h:OA X e t):OA (F:=wU F) X e (Po t):=by
 obtain⟨v,p,r⟩:=h;refine⟨v,p,λB l H m f u T n Q x o h k=>?_⟩;obtain⟨w,y,c,h⟩:=h;injection c with c
 injection c with j _
 subst j;exact r _ l H m f u T.1 n.1 _ _ o.fst h λn1 d i g s q=>k (n1,n.2) d i (g.more λa b=>aJ _ b) (Py o.tp (λa b=>o.mem' a (aJ _ b)) g s) q
def Px(t:SZ F):SZ (wU F):=λg c n f=>∃b d,g=.tuple [b,d]/\t b { nx:=λn1 a=>c.nx (n1,n.2) a,rt:=λ_ _=>False,bk:=λn1 a=>c.bk (n1,n.2) a,ct:=λn1 a=>c.ct (n1,n.2) a } n.1 f
def Vl(h:uA X st t):uA (F:=wU F) X st (Px t):=by
 obtain⟨v,p,r⟩:=h;refine⟨v,p,λB u H w m x T n z q o h f=>?_⟩;obtain⟨y,A,l,h⟩:=h;injection l with l
 injection l with s _
 subst s;exact r _ u H w m x T.1 n.1 _ q o.fst h ⟨λi b a c j k d g=>f.nx i b a c (j,n.2) (o.snd k d) d g,λi b a c j k d g=>f.bk i b a c (j,n.2) (o.snd k d) d g,λi b a c j k d g=>f.ct i b a c (j,n.2) (o.snd k d) d g,λ_ _ _ _ _ _ _ g=>g.elim,e7⟩
noncomputable def Ej(b:List Addr)(r:Addr):List Addr:=b.filter λa=>decide (a≠r)
def oO{r a:Addr}:a∈Ej p0 r↔a∈p0/\a≠r:=by
 unfold Ej;rw[cH,d0]
end
def yT{r:Addr}:aV (mask H ps) (mask H (Ej ps r)):=eV λa b=>(oO.mp b).1
section
variable{F:pP}{K:aF}{B H:Hp}{f c:List Addr}{d:List Sl}{e:L2.St}{T:F.I×Addr}{n:F.S×List D}{j:Nat}
def jY.slotL(o:jY (wU F) K B f H c d e T n)(g:d[j]?=some (.val (J6 T.2))):e[j]?=some (some (.ref T.2)):=by
 obtain⟨v,a,b⟩:=o.ok.val j _ g;rw[xU b]at a;exact a
def jY.memL(o:jY (wU F) K B f H c d e T n):T.2∈c:=o.mem' T.2 (aN ..)
def NO(a:(wU F).At T K H c n)(l:T.2∈c)(h:Reps K (mask H c) us ys):(wU F).At T K (eM H T.2 (.lst ys)) c (n.1,us):=by
 obtain⟨k,g,o,m,_⟩:=a;have i:aV (mask H c) (mask (eM H T.2 (.lst ys)) c):=by rw[dY l];exact L2.aV.refl _
 exact⟨k,F.to g (λb hb=>bV λz=>k (by rw[<- z];exact hb)) i,ys,bQ,h.same i⟩
end
section
variable{F:pP}{X:Cx}{e m:Expr}{a:ET}{pos b c:Pos}{i:Nat}
def Fb(h:D)(g:List Sl)(i:Nat):Prop:=∃d f,h=.tuple [d,f]/\g[i]?=some (.val f)
def Fb.sg{T:F.I×Addr}(h:Fb ((wU F).tau T) σ i):σ[i]?=some (.val (J6 T.2)):=by
 obtain⟨f,g,d,h⟩:=h;injection d with d
 injection d with _ d
 injection d with d _
 subst d;exact h
def Ma(i:Nat)(a:ET):SZ (wU F):=λh g n f=>Fb h f i/\a f λd=>n.2.length<=100000/\g.nx (n.1,n.2++[d]) f
def Z7(M:PE X m (nZ i))(y:fK X e a)(A:bI [e] X.env=(false,eval e X.env)::bI [] X.env:=by rfl)
  (pb:∀{ta},PA X [e] ta->PS X (.Expr (.Call (.Attribute m "append" b) [e] [] c) pos) (yX (Q3 X.K "list" CK (nZ i) ta))):uA (F:=wU F) X (.Expr (.Call (.Attribute m "append" b) [e] [] c) pos) (Ma i a):=by
 obtain⟨v,p,r⟩:=y;refine⟨_,pb (cI p gM A),λB C H s g w T n I J o h f=>?_⟩;obtain⟨z,h⟩:=h;obtain⟨_,_,u,l,k⟩:=id o.tp;refine⟨.ref T.2,o.slotL z.sg,.inl ⟨Db,u,mL.of l⟩,r B C H s g w _ _ o.ok h λd x L j E t=>?_⟩;refine⟨T.2,u,x,Db,Db,j _ _ l,?_,?_⟩
 ·rw[<- k.length];have:bG=2^24:=rfl;have:=t.1;lia
 ·have q:=o.grow j;have G:=NO q.tp o.memL ((k.same (bH j)).append (.cons E .nil));exact f.nx _ s g w _ (q.there (aN ..) G) ((bH j).trans (by rw[dY o.memL];exact L2.aV.refl _)) t.2
end
section
variable{F:pP}{t:yL}{u:SZ F}{a:D}{f:qW F}{n:F.S}{j:List Sl}{i:Nat}{l:EZ F}
def G8(h:jA t (λ_=>u a f n) { nx:=λ_=>True,rt:=λ_=>False,bk:=f.bk n,ct:=f.ct n } j):sQ (zP t) u a f n j:=h
def OM(v:D)(h:∀q:F.S->D->Prop,q n v->l a n j q)(k:u a f n (j.set i (.val v))):sQ (UF i l) u a f n j:=h (λn1 d=>u a f n1 (j.set i (.val d))) k
def ZO(R:F.S->D->Prop)(h:∀q:F.S->D->Prop,(∀m v,R m v->q m v)->l a n j q)(k:∀m v,R m v->u a f m (j.set i (.val v))):sQ (UF i l) u a f n j:=h _ k
def MH{c:TZ F}{t e:SZ F}(b:Bool)(h:∀q:F.S->Bool->Prop,q n b->c a n j q)(g:b=true->t a { f with nx:=u a f } n j)(d:b=false->e a { f with nx:=u a f } n j):sQ (ZR c t e) u a f n j:=by
 refine h _ ?_
 cases b with
 |true=>rw[a9 rfl];exact g Db
 |false=>rw[a8 Cv];exact d Db
def Yy{c:TZ F}{t e:SZ F}(R:F.S->Bool->Prop)(h:∀q:F.S->Bool->Prop,(∀m b,R m b->q m b)->c a n j q)(g:∀m,R m true->t a { f with nx:=u a f } m j)(d:∀m,R m false->e a { f with nx:=u a f } m j):sQ (ZR c t e) u a f n j:=by
 refine h _ λm b hb=>?_
 cases b with
 |true=>rw[a9 rfl];exact g m hb
 |false=>rw[a8 Cv];exact d m hb
def G9{c:TZ F}{t e:SZ F}(b:Bool)(h:∀q:F.S->Bool->Prop,q n b->c a n j q)(g:b=true->t a f n j)(d:b=false->e a f n j):ZR c t e a f n j:=by
 refine h _ ?_
 cases b with
 |true=>rw[a9 rfl];exact g Db
 |false=>rw[a8 Cv];exact d Db
def Yu{ts:List D}{g:GT}(c:tU ti j ts)(P:Nat->F.S->List Sl->Prop)(e:P 0 n j)
  (h:∀(k:Nat)(m:F.S)(x:D)b,ts[k]?=some x->P k m b->g x b λd=>tb a { f with nx:=P (k+1),ct:=P (k+1),bk:=u a f } m d) (hd:∀m b,P ts.length m b->u a f m b):sQ (Hr ti g tb) u a f n j:=
 c _ ⟨P,e,h,hd⟩
end
end TL
namespace L2
def gQ.u1{k:Nat}{A:PySem.Around}(r:gQ k A):A.units+1<PySem.cLine:=by have:=r.units;lia
end L2
namespace TL
open L2
section
variable{F:pP}{X:Cx}{e:Expr}
def xO{f:EZ F}(h:xH X e f)(pt:∀{t:TE},PE X e t->PT X e (tB t)):OA X e (Hv f):=by
 obtain⟨v,p,r⟩:=h;refine⟨_,pt p,λB i H j a s T n Q u o h k=>r B i H j a s T n _ _ o h λn1 d x g m q l b=>?_⟩
 cases l with
 |bool c=>exact⟨c,Db,k n1 c g m q b⟩
 |_=>exact b.elim
end
section
variable{X:Cx}{e:Expr}{b:ET}{x:Str}{pos a:Pos}
def ss(i:Nat)(c:X.N.Nodup)(h:fK X e b)(f:X.N[i]?=some x:=by rfl)(j:TY X.env.scope x:=by first | exact j7 Db | exact j1 Db)(g:lT e (some (.Name x a)) pos.line X.env=pure false:=by rfl)
  (d:X.fn x=true\/X.env.scope.names.lookup x=some .local:=by first | exact .inl Db | exact .inr Db):C4 X (.Assign [.Name x a] e pos) (HK i b):=VB (i:=i) h λh=>xW c f j h g d
def pn(i:Nat)(c:X.N.Nodup)(f:X.N[i]?=some x:=by rfl)(g:TY X.env.scope x:=by first | exact j7 Db | exact j1 Db)(d:X.fn x=true\/X.env.scope.names.lookup x=some .local:=by first | exact .inl Db | exact .inr Db):PG X (.Name x pos) (lO i):=O7 c f g d
def nU{N P:List Str}{c:Scope}(d:c.kind=.function:=by rfl)(f:c.isCoroutine=false:=by rfl)(g:c.isGenerator=false:=by rfl)(h:N.Nodup:=by decide +kernel)(i:N.take P.length=P:=by rfl)(j:∀x∈P,c.names.lookup x=some .local\/c.names.lookup x=some .cell:=by decide +kernel)(k:∀y∈c.names,y.2≠.free:=by decide +kernel):bZ N P c:=⟨d,f,g,h,i,j,k⟩
end
end TL
namespace L2
noncomputable abbrev fO(x q:Str)(st:Stmt)(kV dc a:Value)(an:Option Addr)(cd ct:Value):iF:=nO x q (AD st) (lK st) (aX st) .none kV dc a an cd ct
def Oc{c:Type}{P:List c->Prop}(h:∀a,P [a]):∀b:List c,b.length=1->P b
|[a],_=>h a
def Oe{d:Type}{P:List d->Prop}(h:∀a b,P [a,b]):∀c:List d,c.length=2->P c
|[a,b],_=>h a b
def Of{e:Type}{P:List e->Prop}(h:∀a b c,P [a,b,c]):∀d:List e,d.length=3->P d
|[a,b,c],_=>h a b c
def Og{f:Type}{P:List f->Prop}(h:∀a b c d,P [a,b,c,d]):∀e:List f,e.length=4->P e
|[a,b,c,d],_=>h a b c d
abbrev sE(x q:Str)(st:Stmt)(b:List Str):Prop:=∀(kV dc c:Value)(an:Option Addr)(cd ct:Value)(a:List Value),a.length=b.length->bindArgs (fO x q st kV dc c an cd ct) ⟨a,[]⟩=pure (b.zip a)
structure Dg(K:aF)(x q:Str)(st:Stmt)(a:Addr)(f:iF)(ps:List Str):Prop where
 k:gB K (.ref a)=true
 F:MB K x q st a f
 d:qF K f ps []
structure Df(K:aF)(mg:Str->Option Value)(x:Str)(st:Stmt)(a:Addr)(f:iF)(ps:List Str):Prop extends Dg K x x st a f ps where
 m:mg x=some (.ref a)
section
variable{K:aF}{h:Heap}{mg:Str->Option Value}{x q:Str}{st:Stmt}{i:List Str}{f:Addr}{j:Value}{m an:Option Addr}{n:Array (Option Value)}{kV dc g cd ct:Value}
def dg(b:sE x q st i)(l:K.lookup f=some ⟨j,m,.func (fO x q st kV dc g an cd ct),n⟩)(c:qG K cd q=true)(k:gB K (.ref f)=true):Dg K x q st f (fO x q st kV dc g an cd ct) i:=⟨k,X2 l c k,(X2 l c k).binds b⟩
def df(X:K.In h)(G:h.Ns eB mg)(b:sE x x st i)(a:fC K eB x=some (some (.ref f)))(l:K.lookup f=some ⟨j,m,.func (fO x x st kV dc g an cd ct),n⟩)(c:qG K cd x=true)(k:gB K (.ref f)=true):Df K mg x st f (fO x x st kV dc g an cd ct) i:=⟨dg b l c k,kC X G a⟩
def TW(h:∀kV dc g an cd ct k,bindArgs (fO x q st kV dc g an cd ct) ⟨[k],[]⟩=pure ([p0].zip [k]):=by intros;rfl):sE x q st [p0]:=λa b c d e f=>Oc (h a b c d e f)
def AL(h:∀kV dc g an cd ct k l,bindArgs (fO x q st kV dc g an cd ct) ⟨[k,l],[]⟩=pure ([p0,p1].zip [k,l]):=by intros;rfl):sE x q st [p0,p1]:=λa b c d e f=>Oe (h a b c d e f)
def ZD(h:∀kV dc g an cd ct k l a2,bindArgs (fO x q st kV dc g an cd ct) ⟨[k,l,a2],[]⟩=pure ([p0,p1,p2].zip [k,l,a2]):=by intros;rfl):sE x q st [p0,p1,p2]:=λa b c d e f=>Of (h a b c d e f)
def Eh(h:∀kV dc g an cd ct k l a2 o,bindArgs (fO x q st kV dc g an cd ct) ⟨[k,l,a2,o],[]⟩=pure ([p0,p1,p2,p3].zip [k,l,a2,o]):=by intros;rfl):sE x q st [p0,p1,p2,p3]:=λa b c d e f=>Og (h a b c d e f)
def na{C:Addr}{f}(h:dL K (.ref C) f=some none):gG K C f:=h
end
end L2
namespace TL
open L2
section
variable{X:Cx}{e:Expr}{c:List Expr}{o:ET}{x:Str}{pos j p:Pos}
def cd{k n:Nat}{f:Addr}{pn st}(F:dI X.prog X.w X.K X.mg X.base iG k f fd pn (cZ X.K sp))(D:Df X.K X.mg x st f fd pn)(g:gQ n X.A)(i:yM X (e::c) t)(hk:k<=n:=by decide)
  (q:Gl X x:=by rfl) (a:(x==("__debug__":Str))=false:=by decide) (l:bI (e::c) X.env=(false,eval e X.env)::bI c X.env:=by rfl) (b:(i9 pos (bI c X.env)).any (·.1)=false:=by rfl):fK X (.Call (.Name x p) (e::c) [] pos) (pO sp t):=Zo F D.m D.k D.d (g.mono hk) i λh=>lY F (g.mono hk) q D.m D.k D.d .nil iV h a l b
def cF{k n:Nat}{f:Addr}{pn st}(F:dI X.prog X.w X.K X.mg X.base iG k f fd pn (iH X.K sp))(D:Df X.K X.mg x st f fd pn)(g:gQ n X.A)(i:yM X (e::c) t)(hk:k<=n:=by decide)
  (q:Gl X x:=by rfl) (a:(x==("__debug__":Str))=false:=by decide) (l:bI (e::c) X.env=(false,eval e X.env)::bI c X.env:=by rfl) (b:(i9 pos (bI c X.env)).any (·.1)=false:=by rfl):JM X (.Call (.Name x p) (e::c) [] pos) (Ll sp t):=Zw F D.m D.k D.d (g.mono hk) i λh=>lY F (g.mono hk) q D.m D.k D.d .nil iV h a l b
def cQ{k n:Nat}{f:Addr}{pn st}(F:dI X.prog X.w X.K X.mg X.base iG k f fd pn (wE X.K sp))(D:Df X.K X.mg x st f fd pn)(g:gQ n X.A)(i:yM X (e::c) t)(hk:k<=n:=by decide)
  (q:Gl X x:=by rfl) (a:(x==("__debug__":Str))=false:=by decide) (l:bI (e::c) X.env=(false,eval e X.env)::bI c X.env:=by rfl) (b:(i9 pos (bI c X.env)).any (·.1)=false:=by rfl):Hz X (.Call (.Name x p) (e::c) [] pos) (Mg sp t):=V9 F D.m D.k D.d (g.mono hk) i λh=>lY F (g.mono hk) q D.m D.k D.d .nil iV h a l b
def sf{iter}(h:L9 X tg iter ti)(i:MA X tg g)(hb:wV X body tb)(k:PassesOwn (model X.prog X.w) X.A X.env X.xe:=by exact x9)(f:X.calm=true:=by rfl)(l:∀x,j2 iter X.env x=pure x:=by intro _;rfl):C4 X (.For tg iter body [] pos) (VM ti g tb):=Ye h i hb λa b d=>M3 k f a b d l
def el{iter o}(i:L9 X tg iter ti)(d:∀b:BP,MA (blk X scope N' b) tg g/\FP (blk X scope N' b) ifs tt/\fK (blk X scope N' b) elt o)(h:nT scope X.env.scope X.N N' fr=true:=by kernel_rfl)(f:X.calm=true:=by rfl)(k:∀x,j2 iter X.env x=pure x:=by intro _;rfl):fK X (.ListComp elt [⟨tg,iter,ifs,0⟩] scope pos) (QC fr ti g tt o):=Qh i d λa b=>WF h f a b k
def fl{iter o}(i:L9 X tg iter ti)(d:∀b:BP,MA (blk X scope N' b) tg g/\FP (blk X scope N' b) ifs tt/\fK (blk X scope N' b) elt o)(h:nT scope X.env.scope X.N N' fr=true:=by kernel_rfl)(f:X.calm=true:=by rfl)(k:∀x,j2 iter X.env x=pure x:=by intro _;rfl):JM X (.ListComp elt [⟨tg,iter,ifs,0⟩] scope pos) (En fr ti g tt o):=Ql i d λa b=>WF h f a b k
def cY{r:List V->Hp->VK->Prop}{f:List D->(D->Prop)->Prop}(k:vK X r f)(d:yM X (e::c) t)(g:lZ X (.type T) r)(m:X.mg x=none)(q:e4 x=some (.type T))(l:Gl X x:=by rfl)(n:x≠"__name__":=by decide)(a:(x==("__debug__":Str))=false:=by decide)(i:bI (e::c) X.env=(false,eval e X.env)::bI c X.env:=by rfl)(b:(i9 pos (bI c X.env)).any (·.1)=false:=by rfl):fK X (.Call (.Name x p) (e::c) [] pos) (pO f t):=Li k d λh=>AR g l m q h n a i b
def cB{r:List V->Hp->VK->Prop}{f:List D->(D->Prop)->Prop}(k:vK X r f)(d:yM X (e::c) t)(g:lZ X (.builtin T) r)(m:X.mg x=none)(q:e4 x=some (.builtin T))(l:Gl X x:=by rfl)(n:x≠"__name__":=by decide)(a:(x==("__debug__":Str))=false:=by decide)(i:bI (e::c) X.env=(false,eval e X.env)::bI c X.env:=by rfl)(b:(i9 pos (bI c X.env)).any (·.1)=false:=by rfl):fK X (.Call (.Name x p) (e::c) [] pos) (pO f t):=Li k d λh=>gS g l m q h n a i b
def so(i:Nat)(a:X.N.Nodup)(h:yM X c t)(d:X.N[i]?=some x:=by rfl)(g:TY X.env.scope x:=by first | exact j7 Db | exact j1 Db)(f:lT (.List c p2) (some (.Name x j)) pos.line X.env=pure false:=by rfl)(b:X.fn x=true\/X.env.scope.names.lookup x=some .local:=by first | exact .inl Db | exact .inr Db):C4 X (.Assign [.Name x j] (.List c p2) pos) (Hj i t):=Yf (i:=i) h λh=>xW a d g h f b
def sF(i:Nat)(a:X.N.Nodup)(h:JM X e t)(d:X.N[i]?=some x:=by rfl)(g:TY X.env.scope x:=by first | exact j7 Db | exact j1 Db)(f:lT e (some (.Name x j)) pos.line X.env=pure false:=by rfl)(b:X.fn x=true\/X.env.scope.names.lookup x=some .local:=by first | exact .inl Db | exact .inr Db):C4 X (.Assign [.Name x j] e pos) (J9 i t):=aAk (i:=i) h λh=>xW a d g h f b
noncomputable def Mz(l:List Str):Bool:=decide l.Nodup
def pk(i:Nat)(a:Mz X.N=true:=by kernel_rfl)(d:X.N[i]?=some x:=by rfl)(f:TY X.env.scope x:=by first | exact j7 Db | exact j1 Db)(b:X.fn x=true\/X.env.scope.names.lookup x=some .local:=by first | exact .inl Db | exact .inr Db):PG X (.Name x pos) (lO i):=O7 (b8 a) d f b
def tv(h:fK X e o)(b:∀a,isTrue e X.env a=(do let v <- a;cu e.pos;al [v] (truthy v)):=by intro _;rfl):FO X e (BR o):=Zc h λh=>uT h b
end
end TL
namespace L2
section
variable{K:aF}{C J:Addr}{cd:ClassData}
def P9(a:gD K J=some cd)(c:gA K (.ref J)=some (.type "type"))(hb:bJ K J (.type "BaseException")=some true)(b:bJ K C (.ref J)=some false):eJ K (.ref C) (.ref J)=some false:=by
 unfold eJ;have e:ZH K (.ref J) (.type "BaseException")=some true:=hb;rw[e,a9 Cy];unfold vO;dsimp only;rw[a,c];show(if(true&&(some (n7 "type")==some (n7 "type")))=true then _ else _)=_;rw[a9 Cy];exact b
end
section
variable{prog:cW}{w:f7}{A:d9}{E:Value->Shared->Prop}{s:Shared}{d:Addr}{kvs:List (jB×Value)}
def FM{Q:List Value->Shared->Prop}(I:A.handled=none)(H:(d==k8)=false)(hd:s.heap.DictOf (fH prog w) d kvs)(J:kvs.length<=bG)
  (h:∀g n (f:Array Value),s.heap.objs.size<=g.objs.size->(∀b o,s.heap.get? b=some o->g.get? b=some o)->ItemsOf (λi v=>∃k x,kvs[i]?=some (k,x)/\(fH prog w).is k v=true) f kvs.length->Q f.toList { s with heap:=g,toks:=n }) :
  wpAny (model prog w) A (collect (.ref d)) Q E s:=by
 obtain⟨ep,B⟩:=hd.dictAt;obtain⟨o,C,t,hex,l,jK⟩:=id B;have y:d<s.heap.objs.size:=aY t;unfold collect;refine aE (wpAny_runValue (codeAny_builtin PySem.F.entry_proto_collect ?_));rw[gc PySem.F.plain_proto_collect _];show wpAny _ A.in1 (newList [] >>= λr=>nz (.builtin "list.__iadd__" ⟨[r,.ref d],[]⟩)) _ _ s;refine aE (iD ?_);refine aZ ⟨plainId_quiet G3 _,codeAny_builtin PySem.F.entry_list_iadd ?_⟩;rw[gc G3 _]
 generalize p:s.heap.push { cls:=.type "list",data:=.seq ([]:List Value).toArray }=H1
 have G:H1.get? s.heap.objs.size=some { cls:=.type "list",data:=.seq ([]:List Value).toArray }:=by rw[<- p];exact aU _ Db
 have u:∀b o,s.heap.get? b=some o->H1.get? b=some o:=λb o e=>by rw[<- p];exact aD _ e
 have j:Heap.DictAt (fH prog w) H1 d kvs ep:=⟨o,C,u _ _ t,hex,l,jK⟩;show wpAny _ A.in1 (Builtin.List.listExtendWith (.ref s.heap.objs.size) (.ref d) (.ref s.heap.objs.size)) _ _ _
 refine PySem.W.kdl_extend (R:=λr z=>match r with
  |.ok (.ret v)=>wpAny (model prog w) A (match v with
   |.ref a=>do
    match(<- load a).data with
    |.seq xs _=>pure xs.toList
    |_=>unsupported "internal:collect"
   |_=>unsupported "internal:collect") Q E z
  |.ok _=>False
  |.error e=>E e z) (s:={ s with heap:=H1 }) (PySem.W.kdl_dict (kvs:=kvs) (ep:=ep) H) I j s.heap.objs.size (hU y) (hU y) _ 0 G (λg n f c K q m=>?_) J
 dsimp only;refine aE (sx q ?_);refine aZ (h g n f ?_ (λb o e=>K b o (cL (aY e)) (u b o e)) m);exact hV (aY q)
theorem GL:∀{a:List Int}{kv:List (jB×Value)}{vs:List Value},kv.map (·.1)=a.map l8->vs.length=kv.length->(∀(j:Nat)(v:Value),vs[j]?=some v->∃k x,kv[j]?=some (k,x)/\(fH prog w).is k v=true)->IntsAre vs a
|[],[],[],_,_,_=>.nil
|[],_::_,_,h,_,_=>by simp at h
|_::_,[],_,h,_,_=>by simp at h
|_,_::_,[],_,h,_=>by simp at h
|_,[],_::_,_,h,_=>by simp at h
|i::a,(k,x)::kv,v::vs,h,hl,hv=>by
 rw[bS,bS]at h;injection h with b c
 obtain⟨l,m,e,f⟩:=hv 0 v Db;cases e;obtain rfl:k=.inl i:=b;obtain⟨t,rfl⟩:∃t,v=.int i t:=P1 f;exact .cons i t (GL c (by simpa using hl) λj g e=>hv (j+1) g (by simpa using e))
def HD{Q:Value->Shared->Prop}{is:List Int}(J:A.handled=none)(G:(d==k8)=false)(hd:s.heap.DictOf (fH prog w) d kvs)(i:kvs.map (·.1)=is.map l8)(M:is.length<=60)
  (h:∀c q (r:Addr) (out:Array Value) e,s.heap.objs.size<=r->(∀b o,s.heap.get? b=some o->c.get? b=some o)->c.get? r=some (g3 "list" out e)->(∃t,IntsAre out.toList t/\t.Pairwise (·<·)/\t.Perm is)->Q (.ref r) { s with heap:=c,toks:=q }) :
  wpAny (model prog w) A (call (.builtin "sorted") [.ref d]) Q E s:=by
 have K:kvs.length=is.length:=by have:=h9 kH i;rwa [aC,aC]at this
 have l:is.Nodup:=by
  obtain⟨_,_,_,_,_,_,_,_,nd⟩:=id hd;rw[i]at nd;exact(nX.mp nd).imp λh e=>h (by rw[e])
 have L:bG=2^24:=rfl;refine Calls.call_function_entry kind_sorted plain_sorted entry_sorted (args_sorted1 _) ?_;unfold u4.«sorted»;refine aE (m:=checkCount "sorted" 1 1 _) (aZ ?_);refine aE (FM (by simp[J]) G hd Cw λc q a p y f=>?_);have n:a.toList.length=kvs.length:=by rw[fB];exact f.1
 have H:IntsAre a.toList is:=GL i n λj v e=>f.2 j v (by rw[<- jR];exact e);refine aE (jn ?_ Cw);have g:(c.push (g3 "list" a.toList.toArray 0)).get? c.objs.size=some (g3 "list" a.toList.toArray 0):=aU _ Db;refine aE (m5 (lR slot_list_sort ⟨_,g,Db⟩ entry_list_sort (list_sort_tree g H Cw λout B C a2 F=>⟨_,Db,?_⟩) (args_list_sort _)));have k:B.Pairwise (·<·):=(List.pairwise_and_iff.mpr ⟨F,a2.nodup_iff.mpr l⟩).imp λh=>by have:=h.1;have:=h.2;lia
 obtain⟨e,I⟩:=sortedHeap_at (out:=out) g;refine aZ ⟨_,Db,h _ q c.objs.size out e p (λb u x=>?_) I ⟨B,C,k,a2⟩⟩;have z:=aY (y b u x);rw[sortedHeap_old (cL z) (bT z (by rw[dX];exact pW _))];exact aD _ (y b u x)
end
section
variable{X:Cx}
def tQ(j:X.calm=true):lZ X (.builtin "sorted") (λg H Q=>∃(p:Addr)(kvs:List (jB×V))(is:List Int),g=[.ref p]/\H p=some (.dK kvs)/\kvs.map (·.1)=is.map l8/\is.length<=60/\∀(r:Addr)(a:List Int),H r=none->a.Pairwise (·<·)->a.Perm is->Q (.ref r) (eM H r (.lst (a.map V.int)))):=by
 intro f s E H g a Q I r h;obtain⟨p,kvs,is,rfl,m,l,v,q⟩:=h;obtain⟨u,rfl,x⟩:=oQ r;cases x;obtain⟨z,hd,vs,rel,i⟩:=AC I.hok m;refine HD (I.ok.hd j) hd i (is:=is) (by rw[<- l,rel.keys]) v λB y r out e d w k A=>?_;obtain⟨a,n,c,b⟩:=A;refine⟨.ref r,_,I.laid (t':=y) (o:=.lst (a.map V.int)) w d ?_,Db,q _ a (I.hok.fresh d) c b⟩;have C:bG=2^24:=rfl;have t:=b.length_eq;exact⟨by rw[aC];lia,out.toList,e,PK n,by simpa[g3]using k⟩
end
end L2
namespace TL
open L2
noncomputable def Dx(a:List (Int×D)):List (D×D):=a.map λe=>(.int e.1,e.2)
noncomputable def Dh(a:List (Int×D)):D:=.dict ((.str "{}",.list [])::Dx a)
section
variable{K:aF}{H:Hp}{c:List Sl}{p:Addr}{b:List (Int×D)}{a:List (jB×V)}{i:Nat}
theorem XJ:∀{b}{a:List (jB×V)},(Dx b).map (·.1)=a.map (λe=>kD e.1)->Reps K H ((Dx b).map (·.2)) (a.map (·.2))->tT K H b a
|[],[],_,_=>.nil
|[],_::_,h,_=>by cases h
|_::_,[],h,_=>by cases h
| (i,d)::b,(k,v)::a,h,r=>by
 have g:bM i::(Dx b).map (·.1)=kD k::a.map (λe=>kD e.1):=h;injection g with f l
 have m:Reps K H (d::(Dx b).map (·.2)) (v::a.map (·.2)):=r
 cases m with
 |cons n o=>
  cases k with
  |inl j=>
   have e:i=j:=by injection f
   subst e;exact .cons n (XJ l o)
  |inr x=>cases f
theorem NT:∀{b}{a:List (jB×V)},tT K H b a->(Dx b).map (·.1)=a.map (λe=>kD e.1)/\Reps K H ((Dx b).map (·.2)) (a.map (·.2))
|_,_,.nil=>⟨Db,.nil⟩
|_,_,.cons r t=>by
 obtain⟨d,f⟩:=NT t;exact⟨h9 (bM _::·) d,.cons r f⟩
def O0{kvs:List (D×D)}(r:fR K H (.dict ((.str "{}",.list [])::kvs)) v):∃(p:Addr)(a:List (jB×V)),v=.ref p/\H p=some (.dK a)/\kvs.map (·.1)=a.map (λe=>kD e.1)/\Reps K H (kvs.map (·.2)) (a.map (·.2)):=by
 generalize g:(pD ((.str "{}",.list [])::kvs))=d at r
 cases r with
 |@dct p a kws h1 h2 h3=>
  injection g with g
  injection g with _ h
  subst h;exact⟨p,a,Db,h1,h2,h3⟩
 |addr z=>
  injection g with g
  injection g with f _
  injection f with f _
  injection f with f
  exact c7 f Cu
 |ins _ _=>
  injection g with g
  injection g with f _
  injection f with f _
  injection f with f
  exact c7 f Cu
 |_=>cases g
def DM(r:fR K H (Dh b) v):∃(p:Addr)(a:List (jB×V)),v=.ref p/\H p=some (.dK a)/\tT K H b a:=by
 obtain⟨p,a,g,d,e,f⟩:=O0 r;exact⟨p,a,g,d,XJ e f⟩
def Xh(h:H p=some (.dK a))(k:tT K H b a):fR K H (Dh b) (.ref p):=.dct h (NT k).1 (NT k).2
def vU{i j:Nat}(g:∀d,s≠.own d)(h:(c.set i s)[j]?=some (.own d)):i≠j/\c[j]?=some (.own d):=by
 by_cases e:i=j
 ·subst e;have f:i<c.length:=by simpa using(aI.mp h).1
  rw[bF f]at h;exact c7 (c8 h) (g d)
 ·rw[bC e]at h;exact⟨e,h⟩
end
section
variable{X:Cx}{a b e:Expr}{f:List Expr}{l c i:ET}{pos:Pos}
def Qe(c i:ET):ET:=λh Q=>c h λd=>i h λy=>∃(g:List (Int×D))(j:Int)(x:D),d=Dh g/\y=.int j/\oH g j=some x/\Q x
def IK(N:X.A.units+1<v7)(J:fK X a c)(K:fK X b i)(M:Y3 b:=by intro _ _;rfl):fK X (.Subscript a b pos) (Qe c i):=by
 obtain⟨v,O,W⟩:=J;obtain⟨vi,P,Y⟩:=K;refine⟨_,zJ N O P M,λB t H u n F Q Z o h k=>W B t H u n F _ _ o h λd x G C T R=>Y B t G u n F _ _ (o.grow C) R λy yv I E U S=>?_⟩;obtain⟨ks,j,z,rfl,rfl,g,q⟩:=S;cases U;obtain⟨p,f,rfl,L,kv⟩:=DM (T.same (bH E));rcases kv.val j with⟨m,s⟩ | ⟨d,w,m,s,r⟩
 ·rw[g]at m;cases m
 ·rw[g]at m;cases m;refine⟨p,w,Db,?_,k z w I (C.trans E) r q⟩;have:=yJ.k (k:=.inl j) (bO _ _ L);rw[s]at this;exact this
def Qf(i c:ET)(h:List Sl)(Q:Bool->Prop):Prop:=i h λy=>c h λd=>∃(g:List (Int×D))(j:Int),d=Dh g/\y=.int j/\Q (oH g j).isNone
def ZT(J:X.A.units+1<v7)(F:fK X b i)(E:fK X a c)(G:h8 .NotIn a=false:=by first | exact DW _ | rfl):FO X (.Compare b [.NotIn] [a] pos) (Qf i c):=by
 obtain⟨v,K,R⟩:=E;obtain⟨Y,L,S⟩:=F;refine⟨_,V2 (GC J L K) G,λB r H s g u Q U o h k=>S B r H s g u _ _ o h λy Z z t O M=>R B r z s g u _ _ (o.grow t) M λd x C T P N=>?_⟩;obtain⟨W,j,rfl,rfl,q⟩:=N;cases O;obtain⟨p,f,rfl,I,kv⟩:=DM P;refine⟨p,pZ f (.inl j),Db,yJ.k (k:=.inl j) (bO _ _ I),_,Db,k _ C (t.trans T) ?_⟩;rcases kv.val j with⟨m,n⟩ | ⟨d,w,m,n,_⟩
 ·rw[m]at q;rw[n];exact q
 ·rw[m]at q;rw[n];exact q
theorem tT.keys{K}:∀{d:List (Int×D)}{f:List (jB×V)},tT K H d f->f.map (·.1)=(d.map (·.1)).map l8
|_,_,.nil=>rfl
|_,_,.cons _ t=>by show _::_=_::_;rw[t.keys]
theorem OZ{K}:∀d:List Int,Reps K H (d.map bM) (d.map V.int)
|[]=>.nil
|u::d=>.cons (.int u) (OZ d)
def YJ(c:ET):ET:=λj Q=>c j λd=>∃g:List (Int×D),d=Dh g/\g.length<=60/\∀h:List Int,h.Pairwise (·<·)->h.Perm (g.map (·.1))->Q (.list (h.map bM))
def AA(y:fK X e c)(C:bI [e] X.env=(false,eval e X.env)::bI [] X.env:=by rfl)
  (pc:∀{l},PA X [e] l->PE X (.Call g [e] [] pos) (ZC (λM H Q=>∃(p:Addr)(kvs:List (jB×V))(m:List Int),M=[.ref p]/\H p=some (.dK kvs)/\kvs.map (·.1)=m.map l8/\m.length<=60/\∀(r:Addr)(j:List Int),H r=none->j.Pairwise (·<·)->j.Perm m->Q (.ref r) (eM H r (.lst (j.map V.int)))) l)):fK X (.Call g [e] [] pos) (YJ c):=by
 obtain⟨v,G,L⟩:=y;refine⟨_,pc (cI G gM C),λB F H I n N Q P o h k=>L B F H I n N _ _ o h λd x O t K J=>?_⟩;obtain⟨E,rfl,z,q⟩:=J;obtain⟨p,f,rfl,A,kv⟩:=DM K;refine⟨p,f,E.map (·.1),Db,bO _ _ A,kv.keys,by rw[aC];exact z,λr j s u w=>k _ _ _ (t.trans (dB s)) ?_ (q j u w)⟩;exact vY (o.grow t).live s (OZ j)
end
section
variable{F:pP}
abbrev EN(F:pP):=D->F.S->List Sl->(F.S->(D->D)->List D->Prop)->Prop
abbrev ZE(F:pP):=D->F.S->List D->(F.S->(D->D)->List D->Prop)->Prop
structure AI(F:pP)(T:F.I)(K:aF)(H H':Hp)(ps:List Addr)(n':F.S)(dd:D->D)(ts:List D)(l:Addr)(v:V):Prop where
 sm:fE (F.ad T) H H'
 at_:F.At T K H' (l::ps) n'
 new:H l=none
 lst:∃xs,H' l=some (.lst xs)/\Reps K (mask H' (l::ps)) ts xs
 rep:fR K (mask H' (l::ps)) (dd (J6 l)) v
def oA{l:Addr}(d:∀a∈as,a∈ps)(s:fE as H H')(c:H l=none):aV (mask H ps) (mask H' (l::ps)):=λb u e=>by
 unfold mask at e |-
 by_cases hb:b∈ps
 ·rw[a9 hb]at e;cases e
 ·rw[a8 hb]at e;rw[a8 λz=>(aK.mp z).elim (λz=>by rw[z,c]at e;cases e) hb];exact s b u (λz=>hb (d b z)) e
def TX(X:Cx)(e:Expr)(t:EN F):Prop:=∃f:TE,PE X e f/\∀B p0 H ps u0 σ T n (Q:F.S->(D->D)->List D->Prop)(b:VK),jY F X.K B p0 H ps u0 σ T n->t (F.tau T) n u0 Q ->
 (∀d c g l v a,AI F T X.K H a ps d c g l v->Q d c g->b v a)->f σ H b
def kT(K:aF)(i:ZE F):Sp:=λvs H Q _=>∃(b:List Addr)(T:F.I)(n:F.S)(f:List D)(d:F.S->(D->D)->List D->Prop),(∀p∈b,BA (H p))/\(∀a∈F.ad T,a∈b)/\F.At T K H b n/\Reps K (mask H b) f vs/\i (F.tau T) n f d /\
 ∀g e h l v c,AI F T K H c b g e h l v->d g e h->Q v c
section
variable{X:Cx}{a b e:Expr}{c:List Expr}{pos:Pos}
def AI.past{K}{H H1 f:Hp}{g:D->D}{l:Addr}(w:AI F T K H1 f ps n' g ts l v)(s:fE (F.ad T) H H1)(i:∀a∈F.ad T,H a≠none)(d:∀a∈F.ad T,H1 a≠none):AI F T K H f ps n' g ts l v:=by
 refine⟨s.trans w.sm,w.at_,?_,w.lst,w.rep⟩
 cases e:H l with
 |none=>rfl
 |some u=>
  have h:=s l u (λz=>d l z w.new) e;rw[w.new]at h;cases h
def jY.live'{K}{B H:Hp}(o:jY F K B p0 H ps u0 σ T n):∀a∈F.ad T,H a≠none:=λa d=>(F.liv o.tp a d).ne
def AV{M:EN F}(P:fK X a t1)(R:TX X b M)(U:bI [a,b] X.env=(false,eval a X.env)::bI [b] X.env:=by rfl)(t:bI [b] X.env=(false,eval b X.env)::bI [] X.env:=by rfl) :
  TX X (.Tuple [a,b] x1 pos) (λτ n i Q=>t1 i λd=>M τ n i λy I E=>Q y (λs=>.tuple [d,I s]) E):=by
 obtain⟨v1,W,r1⟩:=P;obtain⟨v2,Y,r2⟩:=R;refine⟨_,DS (cI W (cI Y gM t) U),λB K H C j i T n Q QV o h k=>r1 B K H C j i _ _ o.ok h λd x O L rd Z=>?_⟩;have A:=o.grow L;refine r2 B K O C j i T n _ _ A Z λy I E l v G w q2=>⟨aA Db,λp g=>?_⟩;have N:=w.past (.of L) o.live' A.live';obtain⟨xs,J,S⟩:=w.lst;have f:aV G (eM G p (.tup [x,v])):=dB g
 have r:p∉l::C:=λz=>by
  rcases aK.mp z with rfl | z
  ·rw[J]at g;cases g
  ·by_cases q:p∈F.ad T
   ·exact(F.liv w.at_ p q).ne g
   ·obtain⟨u,m,_⟩:=A.ok.live p z;rw[w.sm p u q m]at g;cases g
 refine k y _ E l _ _ ⟨N.sm.trans (.of f),?_,N.new,⟨xs,f _ _ J,S.same (bH f)⟩,?_⟩ q2
 ·refine F.to w.at_ (λa q=>?_) (bH f);obtain⟨u,m,_⟩:=F.liv w.at_ a q;rw[m];exact f a u m
 ·exact .tuple (pY.of (kL r bQ)) (.cons ((rd.same (oA o.mem' w.sm w.new)).same (bH f)) (.cons (w.rep.same (bH f)) .nil))
def aBp{f:ZE F}{x:Str}{t:AZ F}(E:S5 X (e::c) t)(L:∀{s:TA},PA X (e::c) s->PE X (.Call (.Name x p) (e::c) [] pos) (BF (kT X.K f) [] E0 s)):TX X (.Call (.Name x p) (e::c) [] pos) (λu n g Q=>t u n g λn1 d=>f u n1 d Q):=by
 obtain⟨v,J,P⟩:=E;refine⟨_,L J,λB I H m i g T n Q A o h k=>P B I H m i g T n _ _ o h λn1 d S z q r O N=>?_⟩;have j:=o.growX q r;show kT X.K f (S++[]) z A E0;rw[dW];exact⟨m,T,n1,d,Q,j.ok.live,o.mem',r,O,N,λG C R l v y w M=>k G C R l v y (w.past q o.live' j.live') M⟩
end
section
variable{X:Cx}{e:Expr}{U:List Expr}{pos:Pos}{st O R:Stmt}{jK:List Stmt}{i:Nat}{K:aF}{B H J:Hp}{C m:List Addr}{g:List Sl}{y:L2.St}{T:F.I}{n L:F.S}{M:D->D}{G:List D}{l:Addr}{v:V}
def Dp(X:Cx)(st:Stmt)(i:Nat)(t:EN F):Prop:=∃b:TS,PS X st b/\∀B C H m g y T n (Q:F.S->(D->D)->List D->Prop)(a:BB),jY F X.K B C H m g y T n->t (F.tau T) n g Q ->
 (∀L M G l v J,AI F T X.K H J m L M G l v->Q L M G->a.nx (y.set i (some v)) J)->b a y H
def zG{x:Str}{t:EN F}(h:TX X e t)(a:∀{v:TE},PE X e v->PS X (.Assign [.Name x pos'] e pos) (sX v (lO i))):Dp X (.Assign [.Name x pos'] e pos) i t:=by
 obtain⟨v,p,r⟩:=h;exact⟨_,a p,λB C H m g y T n Q b o h k=>r B C H m g y T n Q _ o h λL M G l v J w q=>k L M G l v J w q⟩
def V3{r s:EN F}(z:FO X c tc)(u:Dp X O i r)(x:Dp X R i s):Dp X (.If c [O] [R] pos) i (λt n y Q=>tc y λb=>if b=true then r t n y Q else s t n y Q):=by
 obtain⟨Z,I,S⟩:=z;obtain⟨W,A,N⟩:=u;obtain⟨Y,E,P⟩:=x;refine⟨_,V7 I (tF A) (tF E),λB C H m g y T n Q f o h k=>S B C H m g y _ _ o.ok h λd j O p=>?_⟩;have a:=o.grow O
 cases d with
 |true=>exact N B C j m g y T n Q f a p λL M G l v J w q=>k L M G l v J (w.past (.of O) o.live' a.live') q
 |false=>exact P B C j m g y T n Q f a p λL M G l v J w q=>k L M G l v J (w.past (.of O) o.live' a.live') q
def aA4{b:u5}{c:List u5}{t:EN F}(h:Dp X st i t)(p:∀{a:TS},A9 X [st] a->PS X (.Try [st] (b::c) [] [] pos) a):Dp X (.Try [st] (b::c) [] [] pos) i t:=by
 obtain⟨a,d,r⟩:=h;exact⟨_,p (tF d),r⟩
def jY.enter(o:jY F K B C H m g y T n)(w:AI F T K H J m L M G l v):jY (wU F) K B (l::C) J (l::m) g y (T,l) (L,G):=by
 have s:=oA o.mem' w.sm w.new;obtain⟨W,x,P⟩:=w.lst;have Q:l∉F.ad T:=o.ne w.new;refine⟨⟨λb u e=>w.sm b u (λz=>by rw[o.nb b z]at e;cases e) (o.ok.base b u e),λp hp=>?_,λq hq=>?_,o.ok.len,λj d h=>?_,λj S h=>?_,o.ok.dis,?_⟩,λa ha=>?_,λa ha=>?_,Q,w.at_,W,x,P⟩
 ·rcases aK.mp hp with rfl | hp
  ·exact aN ..
  ·exact aJ _ (o.ok.sub p hp)
 ·rcases aK.mp hq with rfl | hq
  ·exact⟨_,x,Db⟩
  ·by_cases ha:q∈F.ad T
   ·exact F.liv w.at_ q ha
   ·obtain⟨u,A,E⟩:=o.ok.live q hq;exact⟨u,w.sm q u ha A,E⟩
 ·obtain⟨v,f,k⟩:=o.ok.val j d h;exact⟨v,f,k.same s⟩
 ·obtain⟨q,Y,f,k,I,t,r,N⟩:=o.ok.own j S h;exact⟨q,Y,f,aJ _ k,I,λz=>(aK.mp z).elim (λz=>by rw[z,w.new]at r;cases r) t,w.sm _ _ (λz=>t (o.mem q z)) r,N.same s⟩
 ·exact o.ok.dc.to (λj hs kvs h=>⟨h,Db⟩) (λq Z a b c=>⟨aJ _ a,(w.sm q _ (λz=>c (o.mem q z)) b).trans b.symm⟩) (λq Z _ b c d=>⟨c,λz=>(aK.mp z).elim (λz=>by rw[z,w.new]at b;cases b) d⟩) s
 ·rcases aK.mp ha with rfl | ha
  ·exact aN ..
  ·exact aJ _ (o.mem a ha)
 ·rcases aK.mp ha with rfl | ha
  ·exact aV.free' o.ok.base w.new
  ·exact o.nb a ha
def jY.leave{n:F.S×List D}(o:jY (wU F) K B (l::C) H m g y (T,l) n)(k:∀a∈F.ad T,a∈C):jY F K B C H m g y T n.1:=
 ⟨⟨o.ok.base,λp r=>o.ok.sub p (aJ _ r),o.ok.live,o.ok.len,o.ok.val,λj s h=>let ⟨q,ys,h1,h2,h3,h4,h5⟩:=o.ok.own j s h;⟨q,ys,h1,h2,h3,λz=>h4 (aJ _ z),h5⟩,o.ok.dis,
  o.ok.dc.to (λj u kvs h=>⟨h,Db⟩) (λq t a b _=>⟨a,Db⟩) (λq t _ _ c d=>⟨c,λz=>d (aJ _ z)⟩) (L2.aV.refl _)⟩,k,λa f=>o.nb a (aJ _ f),o.tp.2.1⟩
noncomputable def Ii(b:qW F):qW (wU F):={ nx:=λn1 a=>b.nx n1.1 a,rt:=λn1 d=>b.rt n1.1 d,bk:=λn1 a=>b.bk n1.1 a,ct:=λn1 a=>b.ct n1.1 a }
def xI.up(f:xI F K B C H m T DC DV)(h:∀a∈F.ad T,a∈C)(s:aV (mask H m) (mask J (l::m))):xI (wU F) K B (l::C) J (l::m) (T,l) (Ii DC) DV:=
 ⟨λ_ _ _ _ _ o b q=>f.nx _ _ _ _ _ (o.leave h) (s.trans b) q,λ_ _ _ _ _ o b q=>f.bk _ _ _ _ _ (o.leave h) (s.trans b) q,λ_ _ _ _ _ o b q=>f.ct _ _ _ _ _ (o.leave h) (s.trans b) q,
  λL d v j b r p k=>f.rt L.1 d v j b (F.to r.2.1 (λ_ _=>rfl) (eV λa c=>aJ _ c)) (p.same (eV λa c=>aJ _ c)) k,e7⟩
def Ka{u:SZ (wU F)}(h:Dp X st i t)(j:vH X jK u):vH (F:=F) X (st::jK) (λc a n y=>t c n y λL M G=>∀b,u (.tuple [c,b]) (Ii a) (L,G) (y.set i (.val (M b)))):=by
 obtain⟨x,p,r⟩:=h;obtain⟨z,k,s⟩:=j;refine⟨_,kQ p k,λB C H m g y T n a d o h f=>r B C H m g y T n _ _ o h λL M G l v J w q=>?_⟩;exact s B (l::C) J (l::m) _ _ (T,l) (L,G) _ d ((o.enter w).set w.rep) (q (J6 l)) (f.up o.mem (oA o.mem' w.sm w.new))
def Es(X:Cx)(a:List Stmt)(t:EN F):Prop:=∃c:TS,A9 X a c/\∀B C H m g y T n (Q:F.S->(D->D)->List D->Prop)(b:BB),jY F X.K B C H m g y T n->t (F.tau T) n g Q ->
 (∀L M G l v J,aV B J->F.At T X.K J (l::C) L->B l=none->l∉F.ad T->(∃d,J l=some (.lst d)/\Reps X.K (mask J (l::C)) G d)->fR X.K (mask J (l::C)) (M (J6 l)) v->Q L M G->b.rt v J)->c b y H
def DQ{t:EN F}(h:TX X e t):Es X [.Return (some e) pos] t:=by
 obtain⟨v,p,r⟩:=h;refine⟨_,tF (AQ p),λB C H m g y T n Q j o h k=>r B C H m g y T n _ _ o h λL M G l v J w q=>?_⟩;have b:=o.enter w;have sub:∀a∈l::C,a∈l::m:=b.ok.sub;obtain⟨f,d,c⟩:=w.lst;exact k L M G l v J b.ok.base (F.to w.at_ (λ_ _=>rfl) (eV sub)) (aV.free' o.ok.base w.new) (o.ne w.new) ⟨f,d,c.same (eV sub)⟩ (w.rep.same (eV sub)) q
def lV{t:SZ F}{u:EN F}(q:uA X st t)(r:Es X jK u):Es X (st::jK) (λj n y Q=>t j { nx:=λn1 f=>u j n1 f Q,rt:=λ_ _=>False } n y):=by
 obtain⟨I,w,z⟩:=q;obtain⟨N,x,A⟩:=r;refine⟨_,kQ w x,λB C H m g y T n Q p o h k=>z B C H m g y T n _ _ o h ⟨λJ c b d L s E a=>A B C J c b d T L Q p s a k,λ_ _ _ _ _ _ _ a=>a.elim,λ_ _ _ _ _ _ _ a=>a.elim,λ_ _ _ _ _ _ _ a=>a.elim,e7⟩⟩
def Ph{u:SZ (wU F)}(h:Dp X st i t)(A:vH X jK u):Es (F:=F) X (st::jK) (λs n y Q=>t s n y λL M G=>∀c,u (.tuple [s,c]) { nx:=λ_ _=>False,rt:=λn1 d=>∃M,d=M c/\Q n1.1 M n1.2 } (L,G) (y.set i (.val (M c)))):=by
 obtain⟨W,p,r⟩:=h;obtain⟨Y,E,N⟩:=A;refine⟨_,kQ p E,λB C H m g y T n Q x o h k=>r B C H m g y T n _ _ o h λL M G l v J w q=>?_⟩;refine N B (l::C) J (l::m) _ _ (T,l) (L,G) _ x ((o.enter w).set w.rep) (q (J6 l)) ⟨λ_ _ _ _ _ _ _ a=>a.elim,λ_ _ _ _ _ _ _ a=>a.elim,λ_ _ _ _ _ _ _ a=>a.elim,λf d S z P j I a=>?_,e7⟩;obtain⟨b,rfl,a⟩:=a;exact k f.1 b f.2 l S z P j.2.1 (aV.free' o.ok.base w.new) (o.ne w.new) j.2.2 I a
def SE{mg:Str->Option Value}{K x st}{f:Addr}{N pn:List Str}{k:Nat}{Z:ZE F}(Fn:MB K x qual st f fd)(S:bZ N pn (aX st))(len:∀τ n b Q,Z τ n b Q->b.length=pn.length)
  (d:∀(c:Value)(A:d9)outer(s:Shared)H E,gQ k (A.deeper (i3 qual (aX st) s.heap.objs.size f c))->∀(Tp:F.I)(n:F.S)(b:List D)(Q:F.S->(D->D)->List D->Prop),Z (F.tau Tp) n b Q ->
   ∃t,Es (rF iG P w K mg base N qual (aX st) f c A outer s H E).nox (lK st) t/\t (F.tau Tp) n (iO N b) Q):dI P w K mg base iG (k+1) f fd pn (kT K Z):=by
 refine Fn.ok S (λvs H Q E h=>?_) λc A outer s H vs Q E hr h=>?_
 ·obtain⟨m,T,n,b,W,_,_,_,r,q,_⟩:=h;rw[<- r.length];exact len _ _ b W q
 ·obtain⟨m,T,n,b,W,live,hp,tp,r,q,k⟩:=h;obtain⟨t,⟨ts,p,rd⟩,h⟩:=d c A outer s H E hr T n b W q;have o:=oS (N:=N) live r
  have Y:∀(i:Nat)(G:List D),(iO N b)[i]?≠some (.own G):=λi G e=>by
   obtain⟨q,_,_,_,j,_,z,_⟩:=o.own i G e;rw[j]at z;cases z
  have sW:aV (gH H (F.ad T)) H:=λa u e=>by
   unfold gH at e;split at e
   ·cases e
   ·exact e
  have o2:Ok K (gH H (F.ad T)) m H m (iO N b) (L2.mE N vs):=⟨sW,o.sub,o.live,o.len,o.val,λi G e=>c7 e (Y i G),o.dis,λi hs kvs e=>by
   obtain⟨⟨q,U,_,_,j,_,z,_⟩,_⟩:=o.dc i hs kvs e;rw[j]at z;cases z⟩
  have o3:jY F K (gH H (F.ad T)) m H m (iO N b) (L2.mE N vs) T n:=⟨o2,hp,λa ha=>a9 ha,tp⟩;refine⟨ts,p,rd _ m H m _ _ T n _ _ o3 h λL M G l v J s' t' j nr hl r' q'=>k L M G l v J ⟨xT s',t',?_,hl,r'⟩ q'⟩;unfold gH at j
  rwa [a8 nr]at j
end
end
section
variable{X:Cx}{C:Addr}{e i:Expr}{b:List Expr}{c:ET}{pos a:Pos}
def HW{t:AZ (mB C)}(S:m∉N6)(R:fK X e c)(P:S5 X (i::b) t)
  (Z:∀{v ta},PE X e v->PA X (i::b) ta->PE X (.Call (.Attribute e m a) (i::b) [] pos) (DB C m (kT X.K sp) [] E0 v ta)):TX X (.Call (.Attribute e m a) (i::b) [] pos) (λq n f Q=>c f λd=>d=q/\t q n f λn1 N=>sp q n1 (q::N) Q):=by
 obtain⟨v,pe,re⟩:=R;obtain⟨va,Y,ra⟩:=P;refine⟨_,Z pe Y,λB z H s g f T n Q J o h k=>re B z H s g f _ _ o.ok h λd x G j r1 u=>?_⟩;obtain⟨rfl,u⟩:=u;obtain⟨rfl,r⟩:=kM (T':=T) o j r1 Db;obtain⟨_,_,_,_,O,_⟩:=id r;refine⟨_,_,_,Db,O,wO S,ra B z G s g f T n _ _ (o.grow j) u λW L xs I A E r2 q2=>?_⟩;show kT X.K sp (.ref T.p::(xs++[])) I J E0;rw[dW];have y:=(o.grow j).growX A E;exact⟨s,T,W,lL T::L,Q,y.ok.live,o.mem',E,.cons (xV T) r2,q2,λU M ts l v F w q'=>k U M ts l v F (w.past ((fE.of j).trans A) o.live' y.live') q'⟩
def uX{q:ZE (mB C)}(J:m∉N6)(I:fK X e c)
  (N:∀{v},PE X e v->PE X (.Call (.Attribute e m a) [] [] pos) (DB C m (kT X.K q) [] E0 v BY)):TX X (.Call (.Attribute e m a) [] [] pos) (λt n r Q=>c r λd=>d=t/\q t n [t] Q):=by
 obtain⟨v,O,S⟩:=I;refine⟨_,N O,λB M H y s r T n Q E o h k=>S B M H y s r _ _ o.ok h λd x A j R g=>?_⟩;obtain⟨rfl,g⟩:=g;obtain⟨rfl,f⟩:=kM (T':=T) o j R Db;obtain⟨_,_,_,_,G,_⟩:=id f;refine⟨_,_,_,Db,G,wO J,?_⟩;show kT X.K q (.ref T.p::([]++[])) A E E0;have u:=o.grow j;exact⟨y,T,n,[lL T],Q,u.ok.live,o.mem',f,.cons (xV T) .nil,g,λL F U l v z w P=>k L F U l v z (w.past (.of j) o.live' u.live') P⟩
end
end TL
namespace L2
def OY{k l:St->Hp->(Hp->XK)->Prop}(p:E5 X)(o:PT X c tc)(m:RS X i k)(n:RS X s2 l):RS X (.If c [i] [s2] pos) (λf H W=>tc f H λb g=>if b=true then k f g W else l f g W):=by
 intro a s f H W I h;refine wpAny_If (dN (o a s f H _ I h) (λd i r=>?_) λe s z=>c7 z (p e s));obtain⟨g,j,q⟩:=r
 cases d with
 |true=>exact n9 (dN (m a i f g W j q) (λ_ _ z=>z.elim) λ_ _ z=>z)
 |false=>exact n9 (dN (n a i f g W j q) (λ_ _ z=>z.elim) λ_ _ z=>z)
end L2
namespace TL
open L2
section
variable{X:Cx}{C:Addr}{e:Expr}{i:ET}{pos c b f:Pos}
def WT(hc:B9 X.K C)(hn:gG X.K C "numbered")(he:fK X e i)(hb:h7 e "numbered" X.env (eval e X.env)=eval e X.env:=by rfl)
  (pc:∀{v:TE},PE X (.Attribute e "numbered" b) v->PE X (.Call g [.Call (.Attribute (.Attribute e "numbered" b) "items" c) [] [] f] [] pos) (ZC (λS H Q=>∃(v p:Addr)(kvs:List (jB×V)),S=[.ref v]/\H v=some (F0 v p)/\H p=some (.dK kvs) /\
  ∀(as:List Addr)(l:Addr)s,aV H s->H l=none->as.length=kvs.length->(∀(j:Nat)(a:Addr)(e:jB×V),as[j]?=some a->kvs[j]?=some e->H a=none/\s a=some (.tup [kV e.1,e.2]))->s l=some (.lst (as.map V.ref))->Q (.ref l) s)
   (tZ (ZY X.K "dict" (λx S H Q=>S=[]/\∃(p:Addr)(kvs:List (jB×V)),x=.ref p/\H p=some (.dK kvs)/\∀v,H v=none->Q (.ref v) (eM H v (F0 v p))) v) BY))) :
  TX (F:=mB C) X (.Call g [.Call (.Attribute (.Attribute e "numbered" b) "items" c) [] [] f] [] pos) (λτ n U Q=>i U λd=>d=τ/\Q n id (n.kvs.map λe=>.tuple [.int e.1,e.2])):=by
 obtain⟨v,p,r⟩:=he;refine⟨_,pc (xZ (pos:=b) hc hn p hb),λB p0 H ps W U T n Q QV o h k=>r B p0 H ps W U _ _ o.ok h λd x G O r1 q1=>?_⟩;obtain⟨rfl,q⟩:=q1;obtain⟨rfl,t⟩:=kM (T':=T) o O r1 Db;obtain⟨eg,v1,v6,kv,h1,J,h3,h4,h5⟩:=id t;refine⟨_,C,_,_,_,Db,h1,hc,hn,Db,.inr (.inr (.inl ⟨Db,.inl ⟨kv,J⟩⟩)),Db,T.q,kv,Db,J,λR m=>?_⟩;refine⟨R,T.q,kv,Db,bQ,by rw[bV (eN J m)];exact J,λas l s sH hl y N hL=>?_⟩;have o1:=o.grow O;have P:aV G s:=(dB m).trans sH;have A:G l=none:=aV.free' (dB m) hl;have fr:∀a,eM G R (F0 R T.q) a=none->a∉ps:=λa M=>iQ o1.ok.live (aV.free' (dB m) M);have hI:=h5.length;have E:=oA (ps:=ps) (as:=(mB C).ad T) (l:=l) o.mem' (.of P) A
 have w:AI (mB C) T X.K G s ps n id (n.kvs.map λe=>.tuple [.int e.1,e.2]) l (.ref l):=by
  refine⟨.of P,(mB C).to t (λa M=>?_) E,A,⟨_,hL,BG (by rw[aC,aC];lia) λj d v Y Z=>?_⟩,.addr _⟩
  ·obtain⟨u,I,_⟩:=(mB C).liv t a M;rw[I];exact P a u I
  ·rw[aO]at Y Z;obtain⟨en,k1,rfl⟩:=dS.mp Y;obtain⟨a,a1,rfl⟩:=dS.mp Z;obtain⟨u,I,g2⟩:=h5.at k1;obtain⟨f1,L⟩:=N j a _ a1 I;have y:a∉l::ps:=λz=>(aK.mp z).elim (λz=>by rw[z,hL]at L;cases L) (fr a f1);exact .tuple (pY.of (kL y L)) (.cons (.int _) (.cons (g2.same E) .nil))
 exact k n id _ l _ s (w.past (.of O) o.live' o1.live') q
end
section
variable{F:pP}{X:Cx}{a e:Stmt}{pos:Pos}{c:Expr}
def HL{y z:EZ F}(G:FO X c tc)(C:Ei X a y)(E:Ei X e z)(p:∀{w:TT}{m q:L2.St->Hp->(Hp->XK)->Prop},PT X c w->RS X a m->RS X e q->RS X (.If c [a] [e] pos) (λf H W=>w f H λb l=>if b=true then m f l W else q f l W)) :
  Ei X (.If c [a] [e] pos) (λA n f j=>tc f λb=>if b=true then y A n f j else z A n f j):=by
 obtain⟨w,K,L⟩:=G;obtain⟨M,I,m⟩:=C;obtain⟨N,J,q⟩:=E;refine⟨_,p K I J,λB u H v i f T n j W o h k=>L B u H v i f _ _ o.ok h λd l a x=>?_⟩
 cases d with
 |true=>exact m B u l v i f T n j W (o.grow a) x λt d g dx r s sa sb=>k t d g dx r s ((fE.of a).trans sa) sb
 |false=>exact q B u l v i f T n j W (o.grow a) x λt d g dx r s sa sb=>k t d g dx r s ((fE.of a).trans sa) sb
end
section
variable{F:pP}{X:Cx}{e:Expr}{b:List Expr}{pos:Pos}
def WU{i:QM}{x:Str}{t:AZ F}(f:S5 X (e::b) t)(L:∀{A:TA},PA X (e::b) A->PE X (.Call (.Name x p) (e::b) [] pos) (BF (iH X.K i) [] E0 A)):TX X (.Call (.Name x p) (e::b) [] pos) (λW n m Q=>t W n m λn1 d=>i d λS=>Q n1 id S):=by
 obtain⟨v,J,O⟩:=f;refine⟨_,L J,λB I H y r m T n Q E o h k=>O B I H y r m T n _ _ o h λn1 d U H1 z P N M=>?_⟩;have c:=o.growX z P;show iH X.K i (U++[]) H1 E E0;rw[dW];refine⟨y,d,_,c.ok.live,N,M,λR l j C g w G rs q=>k n1 id R l _ C (AI.past (H1:=H1) ⟨.of g,?_,w,⟨j,G,rs⟩,.addr _⟩ z o.live' c.live') q⟩;refine F.to c.tp (λa f=>?_) (oA c.mem' (.of g) w);obtain⟨u,s,_⟩:=F.liv c.tp a f;rw[s];exact g a u s
def YA{t:EN F}(h:TX X e t):xH X e (λK n g Q=>t K n g λf j p=>j=id/\Q f (.list p)):=by
 obtain⟨v,I,r⟩:=h;refine⟨v,I,λB G H c i g T n Q L o h k=>r B G H c i g T n _ _ o h λf j p l v d w q=>?_⟩;obtain⟨rfl,q⟩:=q;obtain⟨J,E,A⟩:=w.lst
 have x:l∉c:=λz=>by
  obtain⟨u,m,_⟩:=o.ok.live l z;rw[w.new]at m;cases m
 have sub:aV (mask d (l::c)) (mask d c):=eV λa s=>aJ _ s;have y:mask d c l=some (.lst J):=by unfold mask;rw[a8 x];exact E
 have C:v=.ref l:=by
  have:=w.rep
  cases this with
  |addr=>rfl
 subst C;exact k f _ _ d w.sm (F.to w.at_ (λ_ _=>rfl) sub) (.list (mL.of y) (A.same sub)) q
end
structure Sub(F P:pP) where
 π:P.I->F.I
 st:P.S->F.S
 put:P.S->F.S->P.S
 rel:D->D->Prop
 rl:∀{T:P.I}{τ:D},rel (P.tau T) τ->τ=F.tau (π T)
 ad:∀{T:P.I}{a:Addr},a∈F.ad (π T)->a∈P.ad T
 at_:∀{T:P.I}{K:aF}{H:Hp}{ps:List Addr}{n:P.S},P.At T K H ps n->F.At (π T) K H ps (st n)
 back:∀{T:P.I}{K:aF}{H H':Hp}{ps u3:List Addr}{n:P.S}{n':F.S},P.At T K H ps n->(∀a∈P.ad T,a∉F.ad (π T)->H' a=H a)->aV (mask H ps) (mask H' u3)->F.At (π T) K H' u3 n'->P.At T K H' u3 (put n n')
noncomputable def De(F G:pP):pP where
 I:=F.I×G.I
 S:=F.S×G.S
 ad:=λT=>F.ad T.1++G.ad T.2
 tau:=λT=>.tuple [F.tau T.1,G.tau T.2]
 At:=λT K H ps n=>(∀a∈F.ad T.1,a∉G.ad T.2)/\F.At T.1 K H ps n.1/\G.At T.2 K H ps n.2
 to:=λh e s=>⟨h.1,F.to h.2.1 (λa ha=>e a (iY _ ha)) s,G.to h.2.2 (λa ha=>e a (bW _ ha)) s⟩
 liv:=λh a ha=>(cC.mp ha).elim (F.liv h.2.1 a) (G.liv h.2.2 a)
 inj:=λ{T T'} h=>by
  injection h with h
  injection h with h1 h
  injection h with h2 _
  exact io (F.inj h1) (G.inj h2)
section
variable{F G:pP}
def vT(h:iN [a,b]=.tuple [c,d]):a=c/\b=d:=by
 injection h with h
 injection h with e h
 injection h with f _
 exact⟨e,f⟩
noncomputable def qK:Sub F (De F G) where
 π:=ip
 st:=ip
 put:=λn m=>(m,n.2)
 rel:=λτ xr=>∃x,τ=.tuple [xr,x]
 rl:=λ⟨_,h⟩=>(vT h).1.symm
 ad:=λh=>iY _ h
 at_:=λh=>h.2.1
 back:=λh e s t=>⟨h.1,t,G.to h.2.2 (λa ha=>e a (bW _ ha) λz=>h.1 a z ha) s⟩
noncomputable def Q4:Sub G (De F G) where
 π:=Prod.snd
 st:=Prod.snd
 put:=λn m=>(n.1,m)
 rel:=λτ xr=>∃x,τ=.tuple [x,xr]
 rl:=λ⟨_,h⟩=>(vT h).2.symm
 ad:=λh=>bW _ h
 at_:=λh=>h.2.2
 back:=λh e s t=>⟨h.1,F.to h.2.1 (λa ha=>e a (iY _ ha) (h.1 a ha)) s,t⟩
end
section
variable{F P:pP}(S:Sub F P){K:aF}{B H p:Hp}{d g l:List Addr}{c f:List Sl}{m r:L2.St}{T:P.I}{n:P.S}{v:F.S}
noncomputable def Sub.rs(T:P.I):List Addr:=(P.ad T).filter λa=>decide (a∉F.ad (S.π T))
def Sub.mem_rs{a:Addr}:a∈S.rs T↔a∈P.ad T/\a∉F.ad (S.π T):=by
 unfold Sub.rs;rw[cH,d0]
def Ok.lay(ok:Ok K B d H g c m)(mem:∀a∈as,a∈d):Ok K (qC B as H) d H g c m:=
 ⟨λa u e=>by
  by_cases z:a∈as
  ·rw[wH z]at e;exact e
  ·rw[lN z]at e;exact ok.base a u e,ok.sub,ok.live,ok.len,ok.val,λi y h=>by
  obtain⟨q,A,o,s,t,k,w,x⟩:=ok.own i y h;exact⟨q,A,o,s,by rw[lN λz=>k (mem q z)];exact t,k,w,x⟩,ok.dis,
  ok.dc.to (λj E kvs h=>⟨h,Db⟩) (λq C a b _=>⟨a,Db⟩) (λq C _ _ a b=>⟨by rw[lN λz=>b (mem q z)];exact a,b⟩) (L2.aV.refl _)⟩
def jY.sub(o:jY P K B d H g c m T n):jY F K (qC B (S.rs T) H) d H g c m (S.π T) (S.st n):=
 ⟨o.ok.lay λa b=>o.mem a (S.mem_rs.mp b).1,λa b=>o.mem a (S.ad b),λa b=>by
  rw[lN λz=>(S.mem_rs.mp z).2 b];exact o.nb a (S.ad b),S.at_ o.tp⟩
def Sub.still(o:jY P K B d H g c m T n)(s:fE (F.ad (S.π T)) H p):∀a∈P.ad T,a∉F.ad (S.π T)->p a=H a:=λa e h=>by
 obtain⟨u,b,_⟩:=P.liv o.tp a e;rw[b];exact s a u h b
def jY.ups(o:jY P K B d H g c m T n)(z:jY F K (qC B (S.rs T) H) d p l f r (S.π T) v)(s:aV (mask H g) (mask p l)):jY P K B d p l f r T (S.put n v):=by
 have x:aV B (qC B (S.rs T) H):=rY λa w=>o.nb a (S.mem_rs.mp w).1;obtain⟨k,_,_,t⟩:=z;refine⟨⟨x.trans k.base,k.sub,k.live,k.len,k.val,λi A h=>let ⟨q,ys,e,h2,h3,h4,h5,h6⟩:=k.own i A h;⟨q,ys,e,h2,aV.free' x h3,h4,h5,h6⟩,k.dis,k.dc.to (λj E kvs h=>⟨h,Db⟩) (λq C a b _=>⟨a,Db⟩) (λq C _ _ a b=>⟨aV.free' x a,b⟩) (L2.aV.refl _)⟩,o.mem,o.nb,S.back o.tp (λa w y=>?_) s t⟩;obtain⟨u,e,_⟩:=P.liv o.tp a w;rw[e];exact k.base a u (by rw[wH (S.mem_rs.mpr ⟨w,y⟩)];exact e)
end
section
variable{F P:pP}{X:Cx}{e:Expr}{st:Stmt}
def Mr(S:Sub F P)(t:EZ F):EZ P:=λc n b Q=>∃a,S.rel c a/\t a (S.st n) b λn1 d=>Q (S.put n n1) d
def rZ(S:Sub F P)(h:xH X e t):xH (F:=P) X e (Mr S t):=by
 obtain⟨v,p,r⟩:=h;refine⟨v,p,λB l H m c y T n Q C o h k=>?_⟩;obtain⟨A,j,h⟩:=h;obtain rfl:=S.rl j;exact r _ l H m c y _ _ _ _ (o.sub S) h λn1 d x f b w s q=>k _ d x f (λa u i e=>b a u (λz=>i (S.ad z)) e) (S.back o.tp (S.still o b) (b.mask λa g=>o.mem' a (S.ad g)) w) s q
def Kd(S:Sub F P)(t:TZ F):TZ P:=λd n c Q=>∃a,S.rel d a/\t a (S.st n) c λn1 b=>Q (S.put n n1) b
def F4(S:Sub F P)(h:OA X e t):OA (F:=P) X e (Kd S t):=by
 obtain⟨v,p,r⟩:=h;refine⟨v,p,λB l H m d w T n Q y o h k=>?_⟩;obtain⟨x,j,h⟩:=h;obtain rfl:=S.rl j;exact r _ l H m d w _ _ _ _ (o.sub S) h λn1 b f c s q=>k _ b f (λa u i e=>c a u (λz=>i (S.ad z)) e) (S.back o.tp (S.still o c) (c.mask λa g=>o.mem' a (S.ad g)) s) q
def Pf(S:Sub F P)(t:SZ F):SZ P:=λf c n d=>∃b,S.rel f b/\t b { nx:=λn1 a=>c.nx (S.put n n1) a,rt:=λ_ _=>False,bk:=λn1 a=>c.bk (S.put n n1) a,ct:=λn1 a=>c.ct (S.put n n1) a } (S.st n) d
def F6(S:Sub F P)(h:uA X st t):uA (F:=P) X st (Pf S t):=by
 obtain⟨v,p,r⟩:=h;refine⟨v,p,λB s H u k w T n y m o h f=>?_⟩;obtain⟨x,q,h⟩:=h;obtain rfl:=S.rl q;exact r _ s H u k w _ _ _ m (o.sub S) h ⟨λi b a c l j d g=>f.nx i b a c _ (o.ups S j d) d g,λi b a c l j d g=>f.bk i b a c _ (o.ups S j d) d g,λi b a c l j d g=>f.ct i b a c _ (o.ups S j d) d g,λ_ _ _ _ _ _ _ g=>g.elim,e7⟩
def Na(S:Sub F P)(t:EN F):EN P:=λf n d Q=>∃a,S.rel f a/\t a (S.st n) d λn1 b c=>Q (S.put n n1) b c
def Ko(S:Sub F P)(h:TX X e t):TX (F:=P) X e (Na S t):=by
 obtain⟨v,p,r⟩:=h;refine⟨v,p,λB j H m b y T n Q C o h k=>?_⟩;obtain⟨A,i,h⟩:=h;obtain rfl:=S.rl i;exact r _ j H m b y _ _ _ _ (o.sub S) h λn1 d s l x c w q=>k _ d s l x c ⟨λa u g e=>w.sm a u (λz=>g (S.ad z)) e,S.back o.tp (S.still o w.sm) (oA (λa f=>o.mem' a (S.ad f)) w.sm w.new) w.at_,w.new,w.lst,w.rep⟩ q
end
end TL
namespace L2
section
variable{X:Cx}
def aBw:S6 X "dict.get" (λx c H Q=>∃(p:Addr)(kvs:List (jB×V))(k:jB),x=.ref p/\c=[kV k]/\H p=some (.dK kvs)/\Q ((pZ kvs k).getD .non) H):=by
 intro b s l H x c u j Q I g r h;obtain⟨p,kvs,k,rfl,rfl,e,q⟩:=h;obtain⟨i,rfl,f⟩:=oQ r;obtain rfl:u=c9 p:=g;obtain⟨z,hd,vs,rel,a⟩:=AC I.hok e;exact cm JO a.typeIs PySem.F.entry_dict_get (PySem.F.args_dict_get_2 _ _) (meets_dict_get (fH X.prog X.w) p (D6 f) hd) ⟨_,a.mapOf,_,_,I.tok _,(rel.val k).getD (d:=.non) (d':=.none) Db,q⟩
end
end L2
namespace TL
open L2
mutual
def ndc:D->Bool
|.tuple ts=>ndcA ts
|.list ts=>ndcA ts
|.dict _=>false
|_=>true
def ndcA:List D->Bool
|[]=>true
|t::ts=>ndc t&&ndcA ts
end
def Ke(H b:Hp):Prop:=∀a u,H a=some u->(∀l,u≠.dK l)->b a=some u
theorem fR.ndc{K}(e:Ke H H')(r:fR K H d v):TL.ndc d=true->fR K H' d v:=by
 refine fR.rec (motive_1:=λd v _=>TL.ndc d=true->fR K H' d v) (motive_2:=λc vs _=>ndcA c=true->Reps K H' c vs) (λ_=>.none) (λb _=>.bool b) (λi _=>.int i) (λx _=>.str x) (λq _ a h=>.list ?_ (a h)) (λq _ a h=>.tuple ?_ (a h)) ?_ ?_ ?_ ?_ ?_ ?_ ?_ ?_ (λ_=>.nil) (λ_ _ a b h=>.cons (a (dR _ _▸h:_/\_).1) (b (dR _ _▸h:_/\_).2)) r
 case refine_1=>
  rcases q with(q | ⟨o,q⟩) | q
  ·exact .inl (.inl (e _ _ q λl z=>by cases z))
  ·exact .inl (.inr ⟨o,e _ _ q λl z=>by cases z⟩)
  ·exact .inr q
 case refine_2=>
  rcases q with(q | ⟨o,q⟩) | q
  ·exact .inl (.inl (e _ _ q λl z=>by cases z))
  ·exact .inl (.inr ⟨o,e _ _ q λl z=>by cases z⟩)
  ·exact .inr q
 all_goals intros;rename_i h;cases h
structure L4 where
 p:Addr
 q:Addr
 dp:Int
 fw:Int
structure SpS where
 kvs:List (Int×D)
 giv:Int
 tr:D
noncomputable def pQ(T:L4):D:=.dict [(.str "@",.list [.int (T.p:Nat),.int (T.q:Nat),.int T.dp,.int T.fw])]
def zB(h:pQ S=pQ T):S=T:=by
 unfold pQ at h;injection h with h
 injection h with h _
 injection h with _ h
 injection h with h
 injection h with e h
 injection h with f h
 injection h with g h
 injection h with i _
 injection e with e
 injection f with f
 injection g with g
 injection i with i
 obtain⟨a,b,c,d⟩:=S;obtain⟨j,k,l,m⟩:=T;simp only[L4.mk.injEq];exact⟨kJ.inj e,kJ.inj f,g,i⟩
def M0{K}{T:L4}(r:fR K H (pQ T) v):v=.ref T.p:=DN r
noncomputable def Ew(T:L4)(g:Int)(v:V):List (jB×V):=[(.inr "rows",.ref T.q),(.inr "given",.int g),(.inr "deep",.int T.dp),(.inr "few",.int T.fw),(.inr "tree",v)]
def MU(T:L4)(K:aF)(H:Hp)(a:List Addr)(n:SpS):Prop:=T.p≠T.q/\∃(v:V)(kv:List (jB×V)),H T.p=some (.dK (Ew T n.giv v))/\H T.q=some (.dK kv)/\fR K (mask H a) n.tr v/\tT K (mask H a) n.kvs kv
noncomputable def HC:pP where
 I:=L4
 S:=SpS
 ad:=λT=>[T.p,T.q]
 tau:=pQ
 At:=MU
 to:=λ{T K H H' ps u3 n} h e s=>by
  obtain⟨eg,v,kv,h1,h2,h3,h4⟩:=h;exact⟨eg,v,kv,by rw[e T.p Cy];exact h1,by rw[e T.q Cy];exact h2,h3.same s,h4.same s⟩
 liv:=λ{T K H ps n} h a ha=>by
  obtain⟨eg,v,kv,h1,h2,_⟩:=h;rcases aK.mp ha with rfl | ha
  ·exact⟨_,h1,Db⟩
  ·rw[aP.mp ha];exact⟨_,h2,Db⟩
 inj:=zB
noncomputable def Ge(a:List (Int×D))(g dp fw:Int)(t:D):List (Str×D):=[("rows",Dh a),("given",.int g),("deep",.int dp),("few",.int fw),("tree",t)]
noncomputable def TR(a:List (Int×D))(g dp fw:Int)(t:D):D:=.dict ((.str "{}",.list [])::(Ge a g dp fw t).map λe=>(.str e.1,e.2))
section
variable{X:Cx}{a b e:Expr}{c l:ET}{pos f:Pos}
def Wz{k x}(h:kD k=aR x):k=.inr x:=by
 cases k with
 |inl i=>cases h
 |inr y=>injection h with h;rw[h]
theorem P0:∀{d:List (jB×V)}{xs:List Str},xs.map aR=d.map (λe=>kD e.1)->d=(xs.zip (d.map (·.2))).map λe=>(.inr e.1,e.2)
|[],[],_=>rfl
|[],_::_,h=>by cases h
|_::_,[],h=>by cases h
| (k,v)::d,x::xs,h=>by
 have g:aR x::xs.map aR=kD k::d.map (λe=>kD e.1):=h;injection g with i j
 rw[Wz i.symm];exact h9 (((.inr x:jB),v)::·) (P0 j)
def aA2{K}{H:Hp}{g dp fw:Int}(r:fR K H (TR ks g dp fw t) v):∃(p:Addr)(i j:V),v=.ref p/\H p=some (.dK [(.inr "rows",i),(.inr "given",.int g),(.inr "deep",.int dp),(.inr "few",.int fw),(.inr "tree",j)])/\fR K H (Dh ks) i/\fR K H t j:=by
 obtain⟨p,k,n,h,m,d⟩:=O0 r;have e:=P0 (xs:=["rows","given","deep","few","tree"]) m;rw[e]at h
 generalize k.map (·.2)=us at h d
 cases d with
 |cons o d=>cases d with
  |cons q d=>cases d with
   |cons s d=>cases d with
    |cons u d=>cases d with
     |cons w d=>
      cases q;cases s;cases u;cases d;exact⟨p,_,_,n,h,o,w⟩
def Lh(c:ET)(x:Str):ET:=λi Q=>c i λd=>∃(h:List (Int×D))(g dp fw:Int)(t y:D),d=TR h g dp fw t/\(Ge h g dp fw t).lookup x=some y/\Q y
def iX{x}(N:X.A.units+1<v7)(I:fK X a c)(J:PE X b (tC (.str x)))(M:Y3 b:=by intro _ _;rfl):fK X (.Subscript a b pos) (Lh c x):=by
 obtain⟨v,P,T⟩:=I;refine⟨_,zJ N P J M,λB O H F n σ Q G o h k=>T B O H F n σ _ _ o h λd xv j W S R=>?_⟩;obtain⟨ks,g,dp,fw,t,y,rfl,i,q⟩:=R;obtain⟨p,Y,Z,rfl,L,U,rt⟩:=aA2 S
 have get:∀{w:V},pZ [((ao "rows":jB),Y),(.inr "given",.int g),(.inr "deep",.int dp),(.inr "few",.int fw),(.inr "tree",Z)] (.inr x)=some w->fR X.K (mask j F) y w->∃a v,V.ref p=.ref a/\yJ j a (.str x) (some v)/\G v j:=λ{w} hw m=>⟨p,w,Db,by
  have:=yJ.k (k:=.inr x) (bO _ _ L);rw[hw]at this;exact this,k y w j W m q⟩
 by_cases r:x="rows"
 ·subst r;cases i;exact get Db U
 by_cases s:x="given"
 ·subst s;cases i;exact get Db (.int _)
 by_cases u:x="deep"
 ·subst u;cases i;exact get Db (.int _)
 by_cases C:x="few"
 ·subst C;cases i;exact get Db (.int _)
 by_cases E:x="tree"
 ·subst E;cases i;exact get Db rt
 refine c7 i ?_;unfold Ge;rw[cE,beq_eq_false_iff_ne.mpr r,cE,beq_eq_false_iff_ne.mpr s,cE,beq_eq_false_iff_ne.mpr u,cE,beq_eq_false_iff_ne.mpr C,cE,beq_eq_false_iff_ne.mpr E]
 exactλz=>nomatch z
def Xl(c i:ET):ET:=λh Q=>c h λd=>(∃g:List (Int×D),d=Dh g)/\i h λy=>∃(g:List (Int×D))(j:Int),d=Dh g/\y=.int j/\Q ((oH g j).getD .none)
def YC(P:fK X a c)(R:fK X b l)(T:bI [b] X.env=(false,eval b X.env)::bI [] X.env:=by rfl)
  (pc:∀{v t},PE X a v->PA X [b] t->PE X (.Call (.Attribute a "get" f) [b] [] pos) (Q3 X.K "dict" (λx xs H Q=>∃(p:Addr)(kvs:List (jB×V))(k:jB),x=.ref p/\xs=[kV k]/\H p=some (.dK kvs)/\Q ((pZ kvs k).getD .non) H) v t)):fK X (.Call (.Attribute a "get" f) [b] [] pos) (Xl c l):=by
 obtain⟨v,W,re⟩:=P;obtain⟨vi,Y,ri⟩:=R;refine⟨_,pc W (cI Y gM T),λB I H J i L Q QV o h k=>re B I H J i L _ _ o h λd x M E A z=>?_⟩;obtain⟨⟨U,hd⟩,z⟩:=z;have g:=A;rw[hd]at g;obtain⟨p,O,rfl,S,_⟩:=DM g;refine⟨.inr (.inr (.inl ⟨Db,.inl ⟨O,bO _ _ S⟩⟩)),ri B I M J i L _ _ (o.grow E) z λy yv G F r2 Z=>?_⟩;obtain⟨ks,j,s,rfl,q⟩:=Z;cases r2;rw[s]at A;obtain⟨p',m,N,u,kv⟩:=DM (A.same (bH F));cases N;refine⟨p,m,.inl j,Db,Db,bO _ _ u,?_⟩;rcases kv.val j with⟨n,r⟩ | ⟨d,w,n,r,C⟩
 ·rw[r];exact k _ _ G (E.trans F) (by rw[n];exact .none) q
 ·rw[r];exact k _ w G (E.trans F) (by rw[n];exact C) q
end
noncomputable def Dr(b c:List Addr):List Addr:=c.filter λa=>decide (a∉b)
def mW{a:Addr}:a∈Dr as p0↔a∈p0/\a∉as:=by
 unfold Dr;rw[cH,d0]
def yU:aV (mask H ps) (mask H (Dr as ps)):=eV λa b=>(mW.mp b).1
section
variable{K:aF}{B H:Hp}{m g:List Addr}{f:List Sl}{l:L2.St}{T:L4}{n:SpS}{j:Nat}
def jY.slotS(o:jY HC K B m H g f l T n)(c:f[j]?=some (.val (pQ T))):l[j]?=some (some (.ref T.p)):=by
 obtain⟨v,a,b⟩:=o.ok.val j _ c;rw[M0 b]at a;exact a
def jY.shrS(o:jY HC K B m H g f l T n)(y:f[j]?=some (.val (pQ T))):Ok K (qC B [T.p,T.q] H) (Dr [T.p,T.q] m) H (Dr [T.p,T.q] g) (f.set j (.val (TR n.kvs n.giv T.dp T.fw n.tr))) l:=by
 have w:=o.slotS y;obtain⟨ok,mem,nb,L,Y,kv,r,t,I,J⟩:=o;have u:j<f.length:=(aI.mp y).1;have ok:=ok.lay mem;refine⟨ok.base,λa e=>mW.mpr ⟨ok.sub a (mW.mp e).1,(mW.mp e).2⟩,λa e=>ok.live a (mW.mp e).1,by rw[FE];exact ok.len,λi d h=>?_,λi x h=>?_,λi k x S p C E F G=>?_,?_⟩
 ·by_cases z:j=i
  ·subst z;rw[bF u]at h;cases h;refine⟨_,w,.dct (kL (λz=>(mW.mp z).2 Cy) r) Db (.cons (Xh (kL (λz=>(mW.mp z).2 Cy) t) (J.same yU)) (.cons (.int _) (.cons (.int _) (.cons (.int _) (.cons (I.same yU) .nil)))))⟩
  ·rw[bC z]at h;obtain⟨v,r,t⟩:=ok.val i d h;exact⟨v,r,t.same yU⟩
 ·obtain⟨_,h⟩:=vU (by intro _ z;cases z) h;obtain⟨q,U,N,O,P,A,Q,R⟩:=ok.own i x h;exact⟨q,U,N,mW.mpr ⟨O,λz=>A (mem q z)⟩,P,λz=>A (mW.mp z).1,Q,R.same yU⟩
 ·exact ok.dis i k x S p (vU (by intro _ z;cases z) C).2 (vU (by intro _ z;cases z) E).2 F G
 ·exact ok.dc.to (λi X kvs h=>by
   obtain⟨z,M⟩:=CZ (s:=.val (TR n.kvs n.giv T.dp T.fw n.tr)) (λ_ _ z=>nomatch z) h;exact⟨M,Db⟩) (λq W a b c=>⟨mW.mpr ⟨a,λz=>c (mem q z)⟩,Db⟩) (λq W _ _ a b=>⟨a,λz=>b (mW.mp z).1⟩) yU
def F3{g}(d:H T.p=some (.dK k1))(h:H T.q=some (.dK k2)):Ke (mask H (Dr [T.p,T.q] g)) (mask H g):=λa u e c=>by
 unfold mask at e |-
 by_cases z:a∈Dr [T.p,T.q] g
 ·rw[a9 z]at e;cases e
 ·rw[a8 z]at e;by_cases b:a∈g
  ·have:a∈[T.p,T.q]:=Classical.byContradiction λy=>z (mW.mpr ⟨b,y⟩);rcases aK.mp this with rfl | this
   ·rw[d]at e;cases e;exact c7 Db (c _)
   ·rw[aP.mp this,h]at e;cases e;exact c7 Db (c _)
  ·rw[a8 b];exact e
end
section
variable{X:Cx}{e m b:Expr}{c l:ET}{pos s u z:Pos}{i:Nat}
def Md(i:Nat)(t:ET):EZ HC:=λf n a Q=>∃T:L4,f=pQ T/\a[i]?=some (.val f)/\t (a.set i (.val (TR n.kvs n.giv T.dp T.fw n.tr))) λd=>ndc d=true/\Q n d
def nM(i:Nat)(h:fK X e t):xH (F:=HC) X e (Md i t):=by
 obtain⟨v,p,r⟩:=h;refine⟨v,p,λB J H K G E T n Q j o h k=>?_⟩;obtain⟨I,A,y,h⟩:=h;cases zB A;refine r _ _ H _ _ E _ j (o.shrS y) h λd x g a C f=>?_;obtain⟨_,L,kv,q,w,_⟩:=o.tp;exact k n d x g (.of a) (o.tp.grow a) (C.ndc (F3 (a _ _ q) (a _ _ w)) f.1) f.2
def VD{K}{T:L4}(a:MU T K H ps n)(f:T.q∈ps)(h:tT K (mask H ps) kvs kv):MU T K (eM H T.q (.dK kv)) ps { n with kvs:=kvs }:=by
 obtain⟨d,v,k,g,o,j,p⟩:=a;exact⟨d,v,kv,by rw[bV d];exact g,bQ,by rw[dY f];exact j,by rw[dY f];exact h⟩
def VE{K}{T:L4}{g:Int}(a:MU T K H ps n)(f:T.p∈ps)(h:fR K (mask H ps) t v):MU T K (eM H T.p (.dK (Ew T g v))) ps { n with giv:=g,tr:=t }:=by
 obtain⟨d,r,kv,o,j,q,k⟩:=a;exact⟨d,v,kv,bQ,by rw[bV (i6 d)];exact j,by rw[dY f];exact h,by rw[dY f];exact k⟩
def Ev{T:L4}:T.p∈HC.ad T:=aN ..
def Eu{T:L4}:T.q∈HC.ad T:=aJ _ (aN ..)
def Pe(i:Nat)(c:ET):SZ HC:=λg f n a=>c a λd=>∃j:Int,d=.int j/\a[i]?=some (.val g)/\f.nx { n with giv:=j } a
def Yg(L:fK X e c)(P:∀{v},PE X e v->PS X (.Assign [.Subscript m b s] e pos) (KA (nZ i) (tC (.str "given")) v)):uA (F:=HC) X (.Assign [.Subscript m b s] e pos) (Pe i c):=by
 obtain⟨v,p,r⟩:=L;refine⟨_,P p,λB O H y a E T n U W o h f=>r B O H y a E _ _ o.ok h λd x G C R Q=>?_⟩;obtain⟨j,rfl,M,q⟩:=Q;cases R;have g:=o.grow C;obtain⟨N,S,kv,I,Y,J,Z⟩:=id g.tp;have A:=o.mem' _ Ev;refine⟨.ref T.p,g.slotS M,T.p,_,Db,I0.k (k:=.inr "given") I Da,?_⟩;have w:MU T X.K (eM G T.p (.dK (Ew T j S))) y { n with giv:=j }:=VE (t:=n.tr) g.tp A J;exact f.nx _ y a E _ (g.there Ev w) ((bH C).trans (by rw[dY A];exact L2.aV.refl _)) q
def Pv(i:Nat)(c:EZ HC):SZ HC:=λf g n a=>c f n a λn1 d=>a[i]?=some (.val f)/\g.nx { n1 with tr:=d } a
def Yh{c}(G:xH X e c)(M:∀{v},PE X e v->PS X (.Assign [.Subscript m b s] e pos) (KA (nZ i) (tC (.str "tree")) v)):uA (F:=HC) X (.Assign [.Subscript m b s] e pos) (Pv i c):=by
 obtain⟨v,p,r⟩:=G;refine⟨_,M p,λB L H t a A T n Q R o h f=>r B L H t a A T n _ _ o h λn1 d x C y P O N=>?_⟩;obtain⟨I,q⟩:=N;have g:=o.growX y P;obtain⟨J,Y,kv,E,S,U,W⟩:=id g.tp;have w:=o.mem' _ Ev;refine⟨.ref T.p,g.slotS I,T.p,_,Db,I0.k (k:=.inr "tree") E Da,?_⟩;have j:MU T X.K (eM C T.p (.dK (Ew T n1.giv x))) t { n1 with tr:=d }:=VE g.tp w O;exact f.nx _ t a A _ (g.there Ev j) ((y.mask o.mem').trans (by rw[dY w];exact L2.aV.refl _)) q
def Vw(i:Nat)(l c:ET):SZ HC:=λf d n a=>c a λx=>a[i]?=some (.val f)/\l a λy=>∃j:Int,y=.int j/\n.kvs.length<=100000/\d.nx { n with kvs:=BZ n.kvs j x } a
def Z2(S:fK X b l)(R:fK X e c)(Y:∀{v G},PE X e v->PE X b G->PS X (.Assign [.Subscript m b s] e pos) (KA (U1 (nZ i) (tC (.str "rows"))) G v)):uA (F:=HC) X (.Assign [.Subscript m b s] e pos) (Vw i l c):=by
 obtain⟨v,p,r⟩:=R;obtain⟨G,Z,ri⟩:=S;refine⟨_,Y p Z,λB M H C a I T n DC DV o h f=>r B M H C a I _ _ o.ok h λd x O N r1 E=>?_⟩;obtain⟨U,E⟩:=E;have t:=o.grow N;obtain⟨W,vt,kv,P,Q,h3,J⟩:=id t.tp;refine⟨.ref T.p,t.slotS U,T.p,.ref T.q,Db,yJ.k (k:=.inr "rows") P,ri B M O C a I _ _ t.ok E λy yv H2 g r2 q2=>?_⟩;obtain⟨j,rfl,hz,q⟩:=q2;cases r2;have L:=t.grow g;have K:=o.mem' _ Eu;have hL:bG=2^24:=rfl;have A:=J.same (bH g);refine⟨T.q,_,Db,I0.k (k:=.inl j) (v:=x) (g _ _ Q) (by rw[<- J.length];lia),?_⟩;have w:=VD L.tp K (A.put (i:=j) (r1.same (bH g)));exact f.nx _ C a I _ (L.there Eu w) ((bH (N.trans g)).trans (by rw[dY K];exact L2.aV.refl _)) q
def Vv(i:Nat)(l:ET):SZ HC:=λf d n a=>a[i]?=some (.val f)/\l a λy=>∃(j:Int)(x:D),y=.int j/\oH n.kvs j=some x/\d.nx { n with kvs:=AB n.kvs j } a
def Z3(O:fK X b l)(S:bI [b] X.env=(false,eval b X.env)::bI [] X.env:=by rfl)(pc:∀{ta},PA X [b] ta->PS X (.Expr (.Call (.Attribute m "pop" u) [b] [] z) pos) (yX (Q3 X.K "dict" (λx xs H Q=>∃(p:Addr)(kvs:List (jB×V))(k:jB)(v:V),x=.ref p/\xs=[kV k]/\H p=some (.dK kvs)/\pZ kvs k=some v/\Q v (eM H p (.dK (nV kvs k)))) (U1 (nZ i) (tC (.str "rows"))) ta))) :
  uA (F:=HC) X (.Expr (.Call (.Attribute m "pop" u) [b] [] z) pos) (Vv i l):=by
 obtain⟨vi,W,ri⟩:=O;refine⟨_,pc (cI W gM S),λB U H J r L T n DC DV o h f=>?_⟩;obtain⟨P,h⟩:=h;obtain⟨R,vt,kv,M,E,h3,N⟩:=id o.tp;refine⟨.ref T.p,o.slotS P,T.p,.ref T.q,Db,yJ.k (k:=.inr "rows") M,.inr (.inr (.inl ⟨Db,.inl ⟨kv,E⟩⟩)),ri B U H J r L _ _ o.ok h λy yv H2 t Z Y=>?_⟩;obtain⟨j,x,rfl,g,q⟩:=Y;cases Z;have I:=o.grow t;have G:=o.mem' _ Eu;have a:=N.same (bH t);rcases a.val j with⟨A,C⟩ | ⟨d,w,A,C,Co⟩
 ·rw[g]at A;cases A
 ·refine⟨T.q,kv,.inl j,w,Db,Db,t _ _ E,C,?_⟩;exact f.nx _ J r L _ (I.there Eu (VD I.tp G (a.drop j))) ((bH t).trans (by rw[dY G];exact L2.aV.refl _)) q
end
end TL
namespace L2
section
variable{X:Cx}{a b:Expr}{c:TE}{pos:Pos}
def vZ{rt:St->Hp->(Hp->XK)->Prop}(n:E5 X)(m:PE X a c)(hb:RE X b rt)(o:bI [a,b] X.env=(false,eval a X.env)::bI [b] X.env:=by rfl)(j:bI [b] X.env=(false,eval b X.env)::bI [] X.env:=by rfl):RE X (.Tuple [a,b] x1 pos) (λi H W=>c i H λ_ f=>rt i f W):=by
 intro d s i H W I h;refine rn ?_;rw[o];show wpAny _ _ (kq ((false,eval a X.env)::i9 pos (bI [b] X.env))) _ _ s;refine aw (dN (m d s i H _ I h) (λu g p=>?_) λe s z=>c7 z (n e s));obtain⟨x,f,l,t,q⟩:=p
 have k:wpAny (model X.prog X.w) X.A (kq (i9 pos (bI [b] X.env))) (λ_ _=>False) (λe r=>∃f g,cU X d i f g/\S7 X.prog X.w X.stack f g (W f) e r) g:=by
  rw[j];show wpAny _ _ (kq ((false,eval b X.env)::i9 pos (bI [] X.env))) _ _ g;exact aw (dN (hb d g i f W l q) (λ_ _ z=>z.elim) λ_ _ z=>z)
 exact jG k λy v z=>z.elim
end
end L2
namespace TL
open L2
section
variable{X:Cx}{C:Addr}{e:Expr}{g:List Expr}{x y:Str}{j p pos c:Pos}{jK:List Stmt}{k:pU}
def OP{i:Nat}{u:SZ (De F (mB C))}(ha:S5 X (e::g) t)(pc:∀{ta},PA X (e::g) ta->PS X (.Assign [.Name y j] (.Call (.Name x p) (e::g) [] pos) c) (sX (Lw C (HZ C X.K k) [] E0 ta) (lO i)))(hr:vH X jK u) :
  vH (F:=F) X (.Assign [.Name y j] (.Call (.Name x p) (e::g) [] pos) c::jK) (λτ DC n M=>t τ n M λn1 ds=>∃(fm:D)(dp ls:Int),ds=[fm,.int dp,.int ls]/\k ds λst=>∀T:Bk,T.fm=fm->T.dp=dp->T.ls=ls->u (.tuple [τ,lL T]) { nx:=λ_ _=>False,rt:=λn2=>DC.rt n2.1 } (n1,⟨[],0,st⟩) (M.set i (.val (lL T)))):=by
 obtain⟨va,pa,ra⟩:=ha;obtain⟨vr,pr,rr⟩:=hr;refine⟨_,kQ (pc pa) pr,λB Y H l J M U n DC DV o h f=>?_⟩;refine ra B Y H l J M U n _ _ o h λn1 ds vs A s1 Z I q1=>?_;obtain⟨fm,dp,ls,rfl,q1⟩:=q1;intro x dx L m eg
 cases I with
 |cons rf I=>
 cases I with
 |cons rd I=>
 cases I with
 |cons rl I=>
 cases I;cases rd;cases rl;rename_i v1;have Be:=o.growX s1 Z;have W:=Be.ok;have xf:eM A dx (.own x) x=none:=by rw[bV (i6 eg)];exact L
 have hm:mask (eM (eM A dx (.own x)) x (.ins C dx [])) (x::l)=mask (eM A dx (.own x)) l:=mS xf
 have E:∀p∈x::l,BA (eM (eM A dx (.own x)) x (.ins C dx []) p):=λp hp=>by
  by_cases z:p=x
  ·subst z;exact⟨_,bQ,Db⟩
  ·rw[bV z];obtain⟨w,h1,h2⟩:=W.live p ((aK.mp hp).resolve_left z);exact⟨w,dB m _ _ h1,h2⟩
 refine⟨x,dx,v1,dp,ls,x::l,fm,_,Db,aN ..,bQ,E,by rw[hm];exact rf.same (bH (dB m)),q1,λq st v6 s sH R hq Q S r6 q6=>⟨Db,?_⟩⟩
 have r:A q=none:=by
  rw[bV R]at hq;exact aV.free' (dB m) hq
 have s2:aV A s:=λa w e=>sH a w (by
  have N:a≠x:=λz=>by rw[z,L]at e;cases e
  unfold mask;rw[a8 λz=>N (aP.mp z),bV N];exact dB m _ _ e)
 have oW:Ok X.K B ([x,q]++Y) s ([x,q]++l) J M:=W.wide s2 (λa ha=>by
  rcases aK.mp ha with rfl | ha
  ·exact L
  ·rw[aP.mp ha];exact r) λa ha=>by
  rcases aK.mp ha with rfl | ha
  ·exact⟨_,S,Db⟩
  ·rw[aP.mp ha];exact⟨_,Q,Db⟩
 have O:aV (mask A l) (mask s ([x,q]++l)):=λb w e=>by
  unfold mask at e |-
  by_cases hb:b∈l
  ·rw[a9 hb]at e;cases e
  ·rw[a8 hb]at e
   rw[a8 λz=>by
    rcases cC.mp z with z | z
    ·rcases aK.mp z with rfl | z
     ·rw[L]at e;cases e
     ·rw[aP.mp z,r]at e;cases e
    ·exact hb z]
   exact s2 b w e
 have P:aV (mask s (q::x::l)) (mask s ([x,q]++l)):=eV λa ha=>by
  rcases cC.mp ha with z | z
  ·rcases aK.mp z with rfl | z
   ·exact aJ _ (aN ..)
   ·rw[aP.mp z];exact aN ..
  ·exact aJ _ (aJ _ z)
 have hB:∀a∈[x,q],B a=none:=λa ha=>by
  rcases aK.mp ha with rfl | ha
  ·exact aV.free' W.base L
  ·rw[aP.mp ha];exact aV.free' W.base r
 have dj:∀a∈F.ad U,a∉[x,q]:=λa ha z=>by
  have hl:=(F.liv Z a ha).ne;rcases aK.mp z with rfl | z
  ·exact hl L
  ·rw[aP.mp z]at hl;exact hl r
 have oz:jY (De F (mB C)) X.K B ([x,q]++Y) s ([x,q]++l) (J.set i (.val (lL ⟨x,q,dx,fm,dp,ls⟩))) (M.set i (some (.ref x))) (U,⟨x,q,dx,fm,dp,ls⟩) (n1,⟨[],0,st⟩):=
  ⟨oW.set (xV _),λa ha=>(cC.mp ha).elim (λz=>bW _ (o.mem a z)) (λz=>iY _ z),λa ha=>(cC.mp ha).elim (o.nb a) (hB a),dj,F.to Z (λa ha=>by
   obtain⟨u,e1,_⟩:=F.liv Z a ha;rw[e1];exact s2 a u e1) O,i6 R,v1,v6,[],S,Q,rf.same O,r6.same P,.nil⟩
 exact rr B ([x,q]++Y) s ([x,q]++l) _ _ (U,⟨x,q,dx,fm,dp,ls⟩) _ _ DV oz (q6 _ Db Db Db) ⟨λ_ _ _ _ _ _ _ G=>G.elim,λ_ _ _ _ _ _ _ G=>G.elim,λ_ _ _ _ _ _ _ G=>G.elim,λn' d v H2 s' t' r' G=>f.rt n'.1 d v H2 s' (F.to t'.2.1 (λ_ _=>rfl) (eV λa ha=>bW _ ha)) (r'.same (eV λa ha=>bW _ ha)) G,e7⟩
end
section
variable{X:Cx}{l m n:Expr}{j b:Stmt}{c e g:ET}{jK:List Stmt}
def Z5{i:Nat}{u:SZ HC}(h3:fK X l c)(h4:fK X m e)(h5:fK X n g)
  (pc:∀{v3 v4:TE},PE X l v3->PE X m v4->PS X j (sX (Lv [(tC (.str "rows"),MT),(tC (.str "given"),tC (.int 0)),(tC (.str "deep"),v3),(tC (.str "few"),v4)]) (lO i)))
  (pp:∀{v5:TE},PE X n v5->PS X b (KA (nZ i) (tC (.str "tree")) v5)) (hr:vH X jK u) :
  wV X (j::b::jK) (λDT t=>c t λd3=>∃dp:Int,d3=.int dp/\e t λd4=>∃fw:Int,d4=.int fw/\i<t.length/\∀T:L4,T.dp=dp->T.fw=fw->g (t.set i (.val (pQ T))) λJ=>u (pQ T) { nx:=λ_ _=>False,rt:=λ_=>DT.rt } ⟨[],0,J⟩ (t.set i (.val (pQ T)))):=by
 obtain⟨v3,p3,r3⟩:=h3;obtain⟨v4,p4,r4⟩:=h4;obtain⟨v5,p5,r5⟩:=h5;obtain⟨vr,pr,rr⟩:=hr;refine⟨_,kQ (pc p3 p4) (kQ (pp p5) pr),λB A H E s t DT DV o h f p N=>?_⟩;have j:aV H (eM H p (.dK [])):=dB N;have oW:Ok X.K B ([p]++A) (eM H p (.dK [])) ([p]++E) s t:=o.wide j (λa r=>by rw[aP.mp r];exact N) λa r=>by rw[aP.mp r];exact⟨_,bQ,Db⟩
 intro q F;have b:aV (eM H p (.dK [])) (eM (eM H p (.dK [])) q (.dK [])):=dB F;have oV:Ok X.K B ([q]++([p]++A)) (eM (eM H p (.dK [])) q (.dK [])) ([q]++([p]++E)) s t:=oW.wide b (λa r=>by rw[aP.mp r];exact F) λa r=>by rw[aP.mp r];exact⟨_,bQ,Db⟩
 have y:p≠q:=λz=>by rw[<- z,bQ]at F;cases F
 have x:B p=none:=aV.free' o.base N;have L:B q=none:=aV.free' oW.base F;refine r3 B _ _ _ s t _ _ oV h λd3 x3 H3 s3 c3 W=>?_;obtain⟨dp,rfl,W⟩:=W;cases c3;have o3:=oV.grow s3;refine r4 B _ _ _ s t _ _ o3 W λd4 x4 I Z c4 Y=>?_;obtain⟨fw,rfl,hi,Y⟩:=Y;cases c4;have o4:=o3.grow Z;have O:I p=some (.dK []):=Z _ _ (s3 _ _ (b _ _ bQ));have Q:I q=some (.dK []):=Z _ _ (s3 _ _ bQ);refine⟨O,[(.inr "rows",.ref q),(.inr "given",.int 0),(.inr "deep",.int dp),(.inr "few",.int fw)],Db,aA Db,?_⟩;have S:p∈[q]++([p]++A):=by simp
 have mq:q∈[q]++([p]++A):=by simp
 have U:p∈[q]++([p]++E):=by simp
 let T:L4:=⟨p,q,dp,fw⟩
 let M:List (jB×V):=AX [] [(.inr "rows",.ref q),(.inr "given",.int 0),(.inr "deep",.int dp),(.inr "few",.int fw)]
 have o5:Ok X.K B ([q]++([p]++A)) (eM I p (.dK M)) ([q]++([p]++E)) s t:=o4.growZ (as:=[p]) (λa r=>by rw[aP.mp r];exact S) (λa r=>by rw[aP.mp r];exact x) (vW (aP.mpr Db)) λa r=>by rw[aP.mp r];exact⟨_,bQ,Db⟩
 have o6:=o5.set (i:=i) (d:=pQ T) (v:=.ref p) (.addr _);refine r5 B _ _ _ _ _ _ _ o6 (Y T Db Db) λJ x5 G s6 c6 q6=>?_;have o7:=o6.grow s6;have P:G p=some (.dK M):=s6 _ _ bQ;have R:G q=some (.dK []):=s6 _ _ (by rw[bV (i6 y)];exact Q);refine⟨.ref p,bF (by rw[<- o.len];exact hi),p,_,Db,I0.k (k:=.inr "tree") P Da,?_⟩;have o8:Ok X.K B ([q]++([p]++A)) (eM G p (.dK (tE M (.inr "tree") x5))) ([q]++([p]++E)) (s.set i (.val (pQ T))) (t.set i (some (.ref p))):=o7.growZ (as:=[p]) (λa r=>by rw[aP.mp r];exact S) (λa r=>by rw[aP.mp r];exact x) (vW (aP.mpr Db)) λa r=>by rw[aP.mp r];exact⟨_,bQ,Db⟩
 have w:∀a∈[p,q],a=p\/a=q:=λa r=>by simpa using r
 have oz:jY HC X.K B ([q]++([p]++A)) (eM G p (.dK (tE M (.inr "tree") x5))) ([q]++([p]++E)) (s.set i (.val (pQ T))) (t.set i (some (.ref p))) T ⟨[],0,J⟩:=
  ⟨o8,λa r=>(w a r).elim (λz=>by rw[z];exact S) λz=>by rw[z];exact mq,λa r=>(w a r).elim (λz=>by rw[z];exact x) λz=>by rw[z];exact L,y,x5,[],bQ,by rw[bV (i6 y)];exact R,by rw[dY U];exact c6,.nil⟩
 exact rr B _ _ _ _ _ T _ _ DV oz q6 ⟨λ_ _ _ _ _ _ _ C=>C.elim,λ_ _ _ _ _ _ _ C=>C.elim,λ_ _ _ _ _ _ _ C=>C.elim,λn' d v H2 s' t' r' C=>f.rt d v H2 s' (r'.same (eV λa r=>bW _ (bW _ r))) C,e7⟩
end
section
variable{X:Cx}{j i:Nat}{x:Str}{m k pos:Pos}{c iter l:Expr}{e:List Expr}{a:Scope}{fr:List (Option Nat)}{N':List Str}{s:IT}{g:GT}{t:vF}{q:ET}
def U5(j:Nat)(J:L9 X l iter s)(I:∀b:BP,MA (blk X a N' b) l g/\FP (blk X a N' b) e t/\fK (blk X a N' b) c q)
  (N:∀{wi}{y:BP->TG}{w:BP->TT}{A:BP->TE},PI X l iter wi->(∀b:BP,PG (blk X a N' b) l (y b)/\QO (blk X a N' b) e (w b)/\PE (blk X a N' b) c (A b)) ->
   PS X (.Assign [.Name x m] (.ListComp c [⟨l,iter,e,0⟩] a pos) k) (sX (TQ fr wi y w A) (lO i))) :
  uA (F:=HC) X (.Assign [.Name x m] (.ListComp c [⟨l,iter,e,0⟩] a pos) k) (UF i (Md j (QC fr s g t q))):=by
 obtain⟨v,p,r⟩:=NS (M:=λv=>PS X (.Assign [.Name x m] (.ListComp c [⟨l,iter,e,0⟩] a pos) k) (sX v (lO i))) (fr:=fr) J I N;refine⟨_,p,λB Y H O R Q T n S U o h f=>?_⟩;obtain⟨W,L,K,h⟩:=h;cases zB L;refine r _ _ H _ _ Q _ _ (o.shrS K) h λd x C u P z=>?_;obtain⟨_,w,kv,E,G,_⟩:=o.tp;exact f.nx C O _ _ n ((o.grow u).set (P.ndc (F3 (u _ _ E) (u _ _ G)) z.1)) (bH u) z.2
end
section
variable{F:pP}{X:Cx}{a b:Expr}{jK:List Expr}{pos:Pos}{e f:EZ F}
def Vr(e f:EZ F):EZ F:=λg n d Q=>e g n d λn1 x=>∃c:Bool,x=.bool c/\if c=true then f g n1 d Q else Q n1 (.bool false)
def Xp(h:xH X a e):xH X (.BoolOp op [a] pos) e:=by
 obtain⟨v,p,r⟩:=h;exact⟨_,WE p,r⟩
def Xm(t:xH X a e)(hb:xH X (.BoolOp .And (b::jK) pos) f):xH X (.BoolOp .And (a::b::jK) pos) (Vr e f):=by
 obtain⟨L,w,E⟩:=t;obtain⟨M,y,G⟩:=hb;refine⟨_,WI w y,λB m H p g r T n Q K o h k=>E B m H p g r T n _ _ o h λn1 d x l j q C i=>?_⟩;obtain⟨c,rfl,i⟩:=i;cases C;refine⟨c,Db,?_⟩
 cases c with
 |true=>exact G B m l p g r T n1 Q _ (o.growX j q) i λu d v s I J A z=>k u d v s (j.trans I) J A z
 |false=>exact k _ _ _ l j q (.bool false) i
end
inductive Ctx:(D->D)->Prop
|hole:Ctx id
|tup {d:D} {dd:D->D}:Ctx dd->Ctx λs=>.tuple [d,dd s]
def Ctx.rep{K}{l:Addr}(d:aV H H')(e:H' l=some (.lst xs))(f:Reps K H' ts xs){a:D->D}(c:Ctx a):∀{v},fR K H (a (J6 l)) v->fR K H' (a (.list ts)) v:=by
 induction c with
 |hole=>intro v r;rw[show v=.ref l from xU r];exact .list (mL.of e) f
 |tup c g=>
  intro v r
  cases r with
  |tuple j rs=>
   cases rs with
   |cons h b=>
    cases b with
    |cons b i=>
     cases i;exact .tuple (aV.seqT d j) (.cons (h.same d) (.cons (g b) .nil))
section
variable{F:pP}{X:Cx}{e m:Expr}{u:ET}{pos g l:Pos}{i:Nat}
def jY.shrC{K}{f:List Sl}{T:F.I×Addr}{n:F.S×List D}{j:Nat}{w:D->D}(o:jY (wU F) K B p0 H ps f σ T n)(c:Ctx w)(J:f[j]?=some (.val (w (J6 T.2)))):Ok K (qC B (T.2::F.ad T.1) H) (Ej p0 T.2) H (Ej ps T.2) (f.set j (.val (w (.list n.2)))) σ:=by
 obtain⟨vt,E,rt⟩:=o.ok.val j _ J;obtain⟨ok,mem,nb,Z,L,xs,P,O⟩:=o;have C:j<f.length:=(aI.mp J).1;have ok:=ok.lay mem;refine⟨ok.base,λa y=>oO.mpr ⟨ok.sub a (oO.mp y).1,(oO.mp y).2⟩,λa y=>ok.live a (oO.mp y).1,by rw[FE];exact ok.len,λi d h=>?_,λi G h=>?_,λi k G R p r t A x=>?_,?_⟩
 ·by_cases z:j=i
  ·subst z;rw[bF C]at h;cases h;exact⟨_,E,c.rep yT (kL (λz=>(oO.mp z).2 Db) P) (O.same yT) rt⟩
  ·rw[bC z]at h;obtain⟨v,r,t⟩:=ok.val i d h;exact⟨v,r,t.same yT⟩
 ·obtain⟨_,h⟩:=vU (by intro _ z;cases z) h;obtain⟨q,U,r,t,A,x,M,N⟩:=ok.own i G h;exact⟨q,U,r,oO.mpr ⟨t,λz=>x (by rw[z];exact mem T.2 (aN ..))⟩,A,λz=>x (oO.mp z).1,M,N.same yT⟩
 ·exact ok.dis i k G R p (vU (by intro _ z;cases z) r).2 (vU (by intro _ z;cases z) t).2 A x
 ·exact ok.dc.to (λi Y kvs h=>by
   obtain⟨z,Q⟩:=CZ (s:=.val (w (.list n.2))) (λ_ _ z=>nomatch z) h;exact⟨Q,Db⟩) (λq W a b c=>⟨oO.mpr ⟨a,λz=>c (by rw[z];exact mem T.2 (aN ..))⟩,Db⟩) (λq W _ _ a b=>⟨a,λz=>b (oO.mp z).1⟩) yT
def Gs(f:D)(d:List Sl)(i:Nat)(b:D->D):Prop:=Ctx b/\∃a c,f=.tuple [a,c]/\d[i]?=some (.val (b c))
def Gs.sg{T:F.I×Addr}{a:D->D}(h:Gs ((wU F).tau T) σ i a):σ[i]?=some (.val (a (J6 T.2))):=by
 obtain⟨_,c,d,b,h⟩:=h;rw[<- (vT b).2]at h;exact h
def Pb(i:Nat)(t:vF):TZ (wU F):=λc n b Q=>∃a,Gs c b i a/\t (b.set i (.val (a (.list n.2)))) (Q n)
def L0(i:Nat)(h:FO X e t):OA (F:=wU F) X e (Pb i t):=by
 obtain⟨v,p,r⟩:=h;refine⟨v,p,λB x H y w s T n Q j o h k=>?_⟩;obtain⟨d,a,h⟩:=h;exact r _ _ H _ _ s _ j (o.shrC a.1 a.sg) h λb f c q=>k n b f (.of c) (o.tp.grow c) q
def UG(f u:ET):SZ (wU F):=λh d n a=>∃b c,h=.tuple [b,c]/\f a λy=>y=c/\u a λx=>n.2.length<=100000/\d.nx (n.1,n.2++[x]) a
def U7(N:fK X m t0)(M:fK X e u)(O:bI [e] X.env=(false,eval e X.env)::bI [] X.env:=by rfl)
  (pb:∀{v ta},PE X m v->PA X [e] ta->PS X (.Expr (.Call (.Attribute m "append" g) [e] [] l) pos) (yX (Q3 X.K "list" CK v ta))):uA (F:=wU F) X (.Expr (.Call (.Attribute m "append" g) [e] [] l) pos) (UG t0 u):=by
 obtain⟨v1,Q,k⟩:=N;obtain⟨v,p,r⟩:=M;refine⟨_,pb Q (cI p gM O),λB E H c b s T n W Y o h f=>?_⟩;obtain⟨U,dr,P,h⟩:=h;obtain rfl:=(vT P).2;obtain⟨_,_,J,z,t⟩:=id o.tp;refine k B E H c b s _ _ o.ok h λy w L q R j=>?_;obtain⟨rfl,j⟩:=j;rw[xU R];have A:=o.grow q;refine⟨.inl ⟨Db,J,mL.of (q _ _ z)⟩,r B E L c b s _ _ A.ok j λd x Z I k G=>?_⟩;have a:=q.trans I;refine⟨T.2,J,x,Db,Db,a _ _ z,?_,?_⟩
 ·rw[<- t.length];have:bG=2^24:=rfl;have:=G.1;lia
 ·have C:=A.grow I;have S:=NO C.tp o.memL ((t.same (bH a)).append (.cons k .nil));exact f.nx _ c b s _ (C.there (aN ..) S) ((bH a).trans (by rw[dY o.memL];exact L2.aV.refl _)) G.2
theorem Reps.rev{K}:∀{a:List D}{vs:List V},Reps K H a vs->Reps K H a.reverse vs.reverse
|_,_,.nil=>.nil
|_,_,.cons r t=>by
 rw[sJ,sJ];exact(Reps.rev t).append (.cons r .nil)
def Vx(i:Nat):SZ (wU F):=λc b n a=>Fb c a i/\b.nx (n.1,n.2.reverse) a
def Z4(j:PE X m (nZ i))(p:∀{v},PE X m v->PS X (.Expr (.Call (.Attribute m "reverse" g) [] [] l) pos) (yX (ZY X.K "list" KE v))):uA (F:=wU F) X (.Expr (.Call (.Attribute m "reverse" g) [] [] l) pos) (Vx i):=by
 refine⟨_,p j,λB w H q a r T n s t o h f=>?_⟩;obtain⟨d,h⟩:=h;obtain⟨_,_,c,b,k⟩:=id o.tp;refine⟨.ref T.2,o.slotL d.sg,.inl ⟨Db,c,mL.of b⟩,T.2,c,Db,Db,b,?_⟩;exact f.nx _ q a r _ (o.there (aN ..) (NO o.tp o.memL k.rev)) (by rw[dY o.memL];exact L2.aV.refl _) h
end
end TL
namespace K70
open L2 TL
noncomputable def top(i:Nat):Stmt:=PySem.Challenge.pw_leafjudge_k70_whole_books_grown_anew.main.body.getD i (.Pass ⟨0,0,0,0⟩)
structure Cz(K:aF)(mg:Str->Option Value)(k7 x0 w5 i8 g9 y9 j4 z4:Addr):Prop where
 x_JudgeError:mg "JudgeError"=some (.ref k7)
 x_TooMany:mg "TooMany"=some (.ref x0)
 x_NoPlace:mg "NoPlace"=some (.ref w5)
 x_NoRow:mg "NoRow"=some (.ref i8)
 x_NoSuch:mg "NoSuch"=some (.ref g9)
 x_NoLine:mg "NoLine"=some (.ref y9)
 x_NoText:mg "NoText"=some (.ref j4)
 x_NoRule:mg "NoRule"=some (.ref z4)
 X_NoRow:Dl K i8
 R_NoRow:Gx K i8
 j_NoRow:eJ K (.ref i8) (.ref k7)=some true
 e_NoRow:eJ K (.ref i8) (.ref i8)=some true
 v_NoRow:bX K (.ref i8) (.type "ValueError")=some true
 q_NoRow_TooMany:bX K (.ref i8) (.ref x0)=some false
 q_NoRow_NoRow:bX K (.ref i8) (.ref i8)=some true
 q_NoRow_NoSuch:bX K (.ref i8) (.ref g9)=some false
 q_NoRow_NoLine:bX K (.ref i8) (.ref y9)=some false
 q_NoRow_NoPlace:bX K (.ref i8) (.ref w5)=some false
 q_NoRow_NoRule:bX K (.ref i8) (.ref z4)=some false
 q_NoRow_NoText:bX K (.ref i8) (.ref j4)=some false
 u_NoRow_NoSuch:eJ K (.ref i8) (.ref g9)=some false
 X_NoSuch:Dl K g9
 R_NoSuch:Gx K g9
 j_NoSuch:eJ K (.ref g9) (.ref k7)=some true
 e_NoSuch:eJ K (.ref g9) (.ref g9)=some true
 v_NoSuch:bX K (.ref g9) (.type "ValueError")=some true
 q_NoSuch_TooMany:bX K (.ref g9) (.ref x0)=some false
 q_NoSuch_NoRow:bX K (.ref g9) (.ref i8)=some false
 q_NoSuch_NoSuch:bX K (.ref g9) (.ref g9)=some true
 q_NoSuch_NoLine:bX K (.ref g9) (.ref y9)=some false
 q_NoSuch_NoPlace:bX K (.ref g9) (.ref w5)=some false
 q_NoSuch_NoRule:bX K (.ref g9) (.ref z4)=some false
 q_NoSuch_NoText:bX K (.ref g9) (.ref j4)=some false
 u_NoSuch_NoRow:eJ K (.ref g9) (.ref i8)=some false
structure Txt(K:aF)(mg:Str->Option Value)(k7 x0 w5 i8 g9 y9 j4 z4:Addr)(uh td tf tj ui uj tm tu uk vp li lj ll lm lq lr lu lv lx lz ma md me mf mh mi mj ml mo mr mu mv mw mx gj my gk mz nc ng nh ni gl nk nl nq gm nt gn iv nu nv ny js gp fq:Addr)(vq uq ur ut vw vx uu uv vy vz oh oi oj ol om on oo oq ot ou ow ox oy ph pj pq pu py pz qa qb jy qc qd gu qe gw qf qg qh qi qj gx qk ql qm gy qo gz jd qp qq qr jz ic dh:iF)(l5:Addr)(t_SIDES:Addr)(z5:Tok):Prop extends Cz K mg k7 x0 w5 i8 g9 y9 j4 z4 where
 x_Book:mg "Book"=some (.ref l5)
 C_Book:B9 K l5
 K_Book:Mk K l5 uh
 n_Book_form:gG K l5 "form"
 n_Book_deep:gG K l5 "deep"
 n_Book_least:gG K l5 "least"
 n_Book_numbered:gG K l5 "numbered"
 n_Book_following:gG K l5 "following"
 n_Book_standing:gG K l5 "standing"
 M_1:B7 K l5 "put" td
 M_2:B7 K l5 "out" tf
 M_3:B7 K l5 "turn" tj
 M_4:B7 K l5 "rows" ui
 M_5:B7 K l5 "tree" uj
 M_6:B7 K l5 "refuse_no_row" tm
 M_7:B7 K l5 "refuse_no_number" tu
 M_8:B7 K l5 "grow_anew" uk
 D_0:Dg K "__init__" "Book.__init__" (lQ (top 45) 0) uh vq ["self","form","deep","least"]
 D_1:Dg K "put" "Book.put" (lQ (top 45) 1) td uq ["self","row"]
 D_2:Dg K "out" "Book.out" (lQ (top 45) 2) tf ur ["self","number"]
 D_3:Dg K "turn" "Book.turn" (lQ (top 45) 3) tj ut ["self","number","row"]
 D_4:Dg K "rows" "Book.rows" (lQ (top 45) 4) ui vw ["self"]
 D_5:Dg K "tree" "Book.tree" (lQ (top 45) 5) uj vx ["self"]
 D_6:Dg K "refuse_no_row" "Book.refuse_no_row" (lQ (top 45) 6) tm uu ["self","thing"]
 D_7:Dg K "refuse_no_number" "Book.refuse_no_number" (lQ (top 45) 7) tu uv ["self","number"]
 D_8:Dg K "grow_anew" "Book.grow_anew" (lQ (top 45) 8) uk vy ["self"]
 D_9:Df K mg "is_tuple_of" (top 10) vp vz ["thing","fewest","most"]
 D_10:Df K mg "is_case" (top 12) li oh ["form","thing"]
 D_11:Df K mg "is_row" (top 13) lj oi ["form","thing"]
 D_12:Df K mg "entries_of" (top 14) ll oj ["field"]
 D_13:Df K mg "counted" (top 16) lm ol ["form","rows"]
 D_14:Df K mg "first_answer" (top 17) lq om ["form","rows"]
 D_15:Df K mg "doubt_of" (top 18) lr on ["form","rows"]
 D_16:Df K mg "fraction" (top 19) lu oo ["top","bottom"]
 D_17:Df K mg "common_divisor" (top 20) lv oq ["one","other"]
 D_18:Df K mg "added" (top 21) lx ot ["one","other"]
 D_19:Df K mg "is_less" (top 22) lz ou ["one","other"]
 D_20:Df K mg "common_bottom" (top 23) ma ow ["fractions"]
 D_21:Df K mg "questions_of" (top 26) md ox ["form"]
 D_22:Df K mg "questions_on" (top 27) me oy ["field"]
 D_23:Df K mg "choices_of" (top 28) mf ph ["form"]
 D_24:Df K mg "side_of" (top 29) mh pj ["form","question","stray","case"]
 D_25:Df K mg "field_asked" (top 30) mi pq ["form","question"]
 D_26:Df K mg "entries_to_yes" (top 31) mj pu ["question","stray","field"]
 D_27:Df K mg "values_held" (top 32) ml py ["question","field"]
 D_28:Df K mg "parted" (top 33) mo pz ["form","question","stray","rows"]
 D_29:Df K mg "numbers_on" (top 34) mr qa ["side","sides"]
 D_30:Df K mg "is_proper" (top 35) mu qb ["sides","fewest"]
 D_31:Df K mg "ranked" (top 37) mv jy ["form","rows","least"]
 D_32:Df K mg "rows_at" (top 38) mw qc ["rows","numbers"]
 D_33:Df K mg "best" (top 39) mx qd ["form","rows","least"]
 D_34:Df K mg "grown" (top 40) gj gu ["form","rows","deep","least"]
 D_35:Df K mg "is_leaf" (top 42) my qe ["tree"]
 D_36:Df K mg "changed" (top 46) gk gw ["one","other"]
 D_37:Df K mg "_law_tape" (top 48) mz qf ["_law_script"]
 D_38:Df K mg "_law_draw" (top 49) nc qg ["_law_tape_here","_law_many"]
 D_39:Df K mg "_law_names" (top 50) ng qh ["_law_tape_here","_law_many"]
 D_40:Df K mg "_law_form" (top 51) nh qi ["_law_tape_here","_law_fields","_law_values"]
 D_41:Df K mg "_law_side" (top 52) ni qj ["_law_form_here","_law_knot","_law_case"]
 D_42:Df K mg "_law_same" (top 53) gl gx ["_law_found","_law_due"]
 D_43:Df K mg "_law_questions" (top 54) nk qk ["_law_form_here"]
 D_44:Df K mg "_law_counts" (top 55) nl ql ["_law_form_here","_law_rows"]
 D_45:Df K mg "_law_doubt" (top 56) nq qm ["_law_form_here","_law_rows"]
 D_46:Df K mg "_law_grown" (top 57) gm gy ["_law_form_here","_law_rows","_law_deep","_law_few"]
 D_47:Df K mg "_law_drawn_row" (top 58) nt qo ["_law_tape_here","_law_form_here"]
 D_48:Df K mg "_law_places" (top 59) gn gz ["_law_one","_law_other"]
 D_49:Df K mg "_law_told" (top 60) iv jd ["_law_book","_law_deed_here"]
 D_50:Df K mg "_law_bad_row" (top 61) nu qp ["_law_tape_here","_law_form_here","_law_row"]
 D_51:Df K mg "_law_bad" (top 62) nv qq ["_law_tape_here","_law_form_here","_law_state"]
 D_52:Df K mg "_law_deed" (top 63) ny qr ["_law_tape_here","_law_form_here","_law_state"]
 D_53:Df K mg "_law_done" (top 64) js jz ["_law_book","_law_form_here","_law_state","_law_deed_here"]
 D_54:Df K mg "_law_stands" (top 65) gp ic ["_law_book","_law_state"]
 D_law:Df K mg "law" (top 66) fq dh ["_law_script"]
 c_SIDES:mg "SIDES"=some (.ref t_SIDES)
 t_SIDES:Gv K t_SIDES ["yes","no"]
 c_MOST_ROWS:mg "MOST_ROWS"=some (.int 60 z5)
 L_31:L5 K jy.code
 b_ValueError:mg "ValueError"=none
 b_all:mg "all"=none
 b_bool:mg "bool"=none
 b_enumerate:mg "enumerate"=none
 b_int:mg "int"=none
 b_isinstance:mg "isinstance"=none
 b_len:mg "len"=none
 b_list:mg "list"=none
 b_max:mg "max"=none
 b_range:mg "range"=none
 b_sorted:mg "sorted"=none
 b_sum:mg "sum"=none
 b_tuple:mg "tuple"=none
 b_zip:mg "zip"=none
noncomputable def iW:Str:="abcdefghijklmnopqrstuvwxyz"
noncomputable def Gf(c:Nat):Bool:=Txt.contains iW ⟨#[c]⟩
noncomputable def tJ(z:Str):Bool:=decide (1<=z.length)&&decide (z.length<=8)&&z.cps.toList.all Gf
noncomputable def nm:D->Bool
|.str z=>tJ z
|_=>false
noncomputable def xC(d:D)(lo a:Int):Bool:=match d with | .tuple ts=>decide (lo<=ts.length)&&decide ((ts.length:Int)<=a) | _=>false
noncomputable def Mt:D->Str
|.str z=>z
|_=>""
noncomputable def My(d:D)(lo a:Int):Bool:=match d with | .tuple ts=>decide (lo<=ts.length)&&decide ((ts.length:Int)<=a)&&ts.all nm&&decide ((ts.map Mt).Nodup) | _=>false
noncomputable def fld:D->Bool
|.tuple [n,vs]=>nm n&&My vs 2 5
|_=>false
noncomputable def fst:D->D
|.tuple (n::_)=>n
|_=>.none
def Ov:pU:=λb Q=>∃(d:D)(lo a:Int),b=[d,.int lo,.int a]/\d.hasDict=false/\Q (.bool (xC d lo a))
def G1(n:Nat)(a:List Str):Prop:=a.length=n/\(∀y∈a,tJ y=true)/\a.Nodup
noncomputable def lI(f:Str×List Str):D:=.tuple [.str f.1,.tuple (f.2.map aR)]
noncomputable def fJ(fs:List (Str×List Str))(an:List Str):D:=.tuple [.tuple (fs.map lI),.tuple (an.map aR)]
structure gZ(fs:List (Str×List Str))(an:List Str):Prop where
 n1:1<=fs.length
 n5:fs.length<=5
 nd:G1 fs.length (fs.map (·.1))
 vs:∀f∈fs,2<=f.2.length/\f.2.length<=5/\G1 f.2.length f.2
 a2:2<=an.length
 a4:an.length<=4
 an:G1 an.length an
 n3:fs.length<=3
def Ux:QM:=λa Q=>∃ns:List Int,a=[.list (ns.map bM)]/\ns.length<=63/\∀c:Int,(c=0\/c=1)->Q [.list (ns.map bM),.int 0,.int 0,.int c]
def Uy:pU:=λa Q=>∃(ns:List Int)(m:Int),a=[iU ns,.int m]/\ns.length<=63/\0<m/\m<=10000/\∀r:Int,0<=r->r<m->Q (.int r)
def Uz:pU:=λb Q=>∃(ns:List Int)(m:Nat),b=[iU ns,.int m]/\ns.length<=63/\1<=m/\m<=5/\∀a,G1 m a->Q (.list (a.map aR))
def Wb:pU:=λa Q=>∃(ns:List Int)(f v:Nat),a=[iU ns,.int f,.int v]/\ns.length<=63/\1<=f/\f<=3/\2<=v/\v<=5/\∀fs an,gZ fs an->fs.length<=f->(∀x∈fs,x.2.length<=v)->Q (fJ fs an)
noncomputable def Kh:D->Bool
|.tuple [_,_]=>true
|_=>false
def Zd(d:D):(∃a b,d=.tuple [a,b])\/(xC d 2 2=false/\Kh d=false):=by
 cases d with
 |tuple c=>
  match c with
  |[]=>exact .inr ⟨Db,Db⟩
  |[_]=>exact .inr ⟨Db,Db⟩
  |[a,b]=>exact .inl ⟨a,b,Db⟩
  |_::_::_::r=>
   refine .inr ⟨?_,Db⟩;simp only[xC,dQ];have:¬(((r.length+1+1+1:Nat):Int)<=2):=by lia
   simp[this];lia
 |_=>exact .inr ⟨Db,Db⟩
def tR{c:Type}{xs:List c}{i:Int}(d:0<=i)(e:i<xs.length):∃a,a∈xs/\L2.atI xs i=some a/\xs[i.toNat]?=some a:=by
 have b:i.toNat<xs.length:=by lia
 refine⟨xs[i.toNat],jO b,?_,aG b⟩;have:=L2.gK (xs:=xs) (j:=i.toNat) (v:=xs[i.toNat]) (aG b)
 rwa [show((i.toNat:Nat):Int)=i by lia]at this
def kB(n:Nat):(eI n).length=n:=by unfold eI;simp
def tM{n k:Nat}{x}(h:(eI n)[k]?=some x):k<n/\x=.int k:=by
 unfold eI at h;rw[aO]at h;by_cases a:k<n
 ·rw[kZ a]at h;cases h;exact⟨a,Db⟩
 ·rw[eR (by simpa using a)]at h;cases h
def pI{b:Type}(a:List b)(j:Nat):kW a none (some (j:Int))=a.take j:=by
 unfold kW;rw[HT.sIx_none,HT.sIx_nat,G6,OI];by_cases h:j<=a.length
 ·rw[wS h]
 ·rw[FA Cw,eU,fS Cw]
def EW{b:Type}(a:List b)(i:Nat):kW a (some (i:Int)) none=a.drop i:=by
 unfold kW;rw[HT.sIx_none,HT.sIx_nat];by_cases h:i<=a.length
 ·rw[wS h,fS (by rw[dP];lia)]
 ·rw[FA Cw,MF (aM _),MF Cw];simp
def YM{f:Type}(b:List f)(i j:Nat):kW b (some (i:Int)) (some (j:Int))=(b.drop i).take (j-i):=by
 unfold kW;rw[HT.sIx_nat,HT.sIx_nat];apply kI;intro k;rw[nG,nG,nH,nH];by_cases d:i<=b.length
 ·rw[wS d];by_cases e:j<=b.length
  ·rw[wS e]
  ·rw[FA Cw];by_cases c:k<b.length-i
   ·rw[a9 c,a9 Cw]
   ·rw[a8 c];by_cases a:k<j-i
    ·rw[a9 a,eR Cw]
    ·rw[a8 a]
 ·rw[a8 Cw];by_cases a:k<j-i
  ·rw[a9 a,eR Cw]
  ·rw[a8 a]
def mX{c d:Type}(f:c->d)(b:List c)(lo a:Option Int):kW (b.map f) lo a=(kW b lo a).map f:=by
 unfold kW;rw[aC,aIr,aIs]
def WZ{z:Str}(a:1<=z.cps.toList.length)(b:z.cps.toList.length<=8)(d:∀c∈z.cps.toList,c∈iW.cps.toList):tJ z=true:=by
 have e:z.length=z.cps.toList.length:=by simp[bd]
 unfold tJ;rw[e,b7 a,b7 b];simp only[pL,gO];intro c f;unfold Gf;rw[XV];exact b7 (d c f)
def PP{z:Str}(h:tJ z=true):1<=z.length/\z.length<=8/\∀c∈z.cps.toList,c∈iW.cps.toList:=by
 unfold tJ at h;simp only[dR,d0,gO]at h;refine⟨h.1.1,h.1.2,λc a=>?_⟩;have:=h.2 c a;unfold Gf at this;rw[XV]at this;exact b8 this
theorem nodup_range{f:Type}{n:Nat}(F:Nat->f)(inj:∀i j,i<n->j<n->F i=F j->i=j):((fX n).map F).Nodup:=by
 rw[aPy,nX];have:(fX n).Nodup:=List.nodup_range;refine JQ.imp_of_mem (λ{a b} d hb c e=>?_) this;exact c (inj a b (by simpa using d) (by simpa using hb) e)
def NP:iW.cps.toList.Nodup:=by decide +kernel
def BK:iW.cps.toList.length=26:=by decide +kernel
def aBq{a:List Nat}(nd:a.Nodup){i j:Nat}{c:Nat}(d:a[i]?=some c)(e:a[j]?=some c):i=j:=by
 obtain⟨f,a2⟩:=aI.mp d;obtain⟨g,b⟩:=aI.mp e;exact(ZM nd).mp (a2.trans b.symm)
theorem J2:∀{ys},(∀y∈ys,∃c,c∈iW.cps.toList/\y=.str ⟨#[c]⟩)->∃a:List Nat,ys=a.map (λc=>aR ⟨#[c]⟩)/\∀c∈a,c∈iW.cps.toList
|[],_=>⟨[],Db,λc h=>by simp at h⟩
|y::ys,h=>by
 obtain⟨c,e,rfl⟩:=h y (aN ..);obtain⟨a,rfl,b⟩:=J2 (ys:=ys) λy f=>h y (aJ _ f);refine⟨c::a,Db,λd hd=>?_⟩;rcases aK.mp hd with rfl | hd
 ·exact e
 ·exact b d hd
def D7(a:List Nat):(Txt.join ⟨#[]⟩ (a.map λc=>⟨#[c]⟩)).cps.toList=a:=by
 rw[NV,bD]
 induction a with
 |nil=>rfl
 |cons c a b=>rw[bS,Y8,b];rfl
def Y1{a:List Str}{k:Nat}(h:k<a.length):L2.atI (a.map aR) (k:Int)=some (.str a[k]):=L2.gK (by rw[aO,aG h];rfl)
def HH{c:ET}{i:Nat}(ns:List Int)(b:σ[i]?=some (.val (iU ns)))(a:Int)(h:∀q:D->Prop,q (.int a)->c σ q)(d:0<=a)(k:u DT σ):jA (zD i 1 c) u DT σ:=h _ ⟨⟨ns,b⟩,⟨a,Db,d⟩,k⟩
def zC{c:ET}{i:Nat}(ns:List Int)(b:σ[i]?=some (.val (iU ns)))(a:Int)(h:∀q:D->Prop,q (.int a)->c σ q)(k:u DT σ):jA (zD i 2 c) u DT σ:=h _ ⟨⟨ns,b⟩,⟨a,Db⟩,k⟩
def HS{d:ET}{c:vI}{i:Nat}(ns:List Int)(b:σ[i]?=some (.val (iU ns)))(a:Int)(h:∀q:D->Prop,q (.int a)->d σ q)(k:c.nx σ):zD i 2 d c σ:=h _ ⟨⟨ns,b⟩,⟨a,Db⟩,k⟩
def xR{c:vF}{m:ET}{u:yL}{a:List Sl}{i:Nat}(C:Prop)(R:D->Prop)(h:∀q:Bool->Prop,(∀b,(b=true->C)->q b)->c a q)(n:C->∀q:D->Prop,(∀d,R d->q d)->m a q)(f:D)(g:a[i]?=some (.val f))(o:R f)(k:∀d,R d->u DT (a.set i (.val d))):jA (Dd c (HK i m) lM) u DT a:=by
 refine h _ λb hb=>?_
 cases b with
 |true=>
  rw[a9 rfl];exact n (hb Db) _ k
 |false=>
  rw[a8 Cv]
  have e:a.set i (.val f)=a:=by
   apply kI;intro j;by_cases l:i=j
   ·subst l;rw[bF (aI.mp g).1,g]
   ·rw[bC l]
  have:=k f o;rw[e]at this;exact this
def DY{n:Nat}(F:Nat->Str)(h:∀i,i<n->tJ (F i)=true)(inj:∀i j,i<n->j<n->F i=F j->i=j):G1 n ((fX n).map F):=
 ⟨Cy,λy b=>by
  obtain⟨i,a,rfl⟩:=aS.mp b;exact h i (by simpa using a),nodup_range F inj⟩
def GF{n:Nat}{a:List Str}(h:G1 n a)(t:Nat){m:Nat}(d:m<=n):G1 m ((a.drop t++a.take t).take m):=by
 have b:(a.drop t++a.take t).Perm a:=by
  have:(a.take t++a.drop t).Perm a:=by rw[List.take_append_drop]
  exact List.perm_append_comm.trans this
 refine⟨?_,λy c=>h.2.1 y (b.mem_iff.mp (dU c)),(b.nodup_iff.mpr h.2.2).sublist (BS _ _)⟩;rw[bN,b.length_eq,h.1];lia
def RU{n:Nat}{a:List Str}(h:G1 n a)(t:Nat):G1 n (a.drop t++a.take t):=by
 have e:=GF h t (aM n)
 rwa [fS]at e
 rw[bP,dP,bN,h.1];lia
def RV{n:Nat}{a:List Str}(h:G1 n a){m:Nat}(c:m<=n):G1 m (a.take m):=⟨by rw[bN,h.1];lia,λy b=>h.2.1 y (dU b),h.2.2.sublist (BS _ _)⟩
noncomputable def CQ:List Str:=["say","ask","is","upto","yes","no","all","in","and","put","out","tree"]
def Qs:G1 12 CQ:=⟨Db,Cu,Cu⟩
def LZ{ns:List Int}(h:0<ns.length)(i:Int):∃x:Int,L2.atI (ns.map bM) (i%((ns.map bM).length:Nat))=some (.int x):=by
 rw[aC];obtain⟨a,d,c,_⟩:=tR (xs:=ns.map bM) (i:=i%(ns.length:Nat)) (kK _ Cw) (by rw[aC];exact iS _ Cw);obtain⟨b,hb,rfl⟩:=aS.mp d;exact⟨b,c⟩
@[irreducible] def SR(i:Nat):Nat:=iW.cps.toList.getD i 0
def C3{i:Nat}(h:i<26):iW.cps.toList[i]?=some (SR i):=by
 have a:i<iW.cps.toList.length:=by rw[BK];exact h
 unfold SR;rw[dH,aG a];rfl
def Ze{i:Nat}(h:i<26):SR i∈iW.cps.toList:=bB (C3 h)
noncomputable def AM(z:Str)(t k c:Nat):Str:=Txt.slice z none (some (t:Int))++⟨#[c]⟩++Txt.slice z (some ((t:Int)+1)) (some (k:Int))
def sR(z:Str)(t k c:Nat):(AM z t k c).cps.toList=z.cps.toList.take t++(c::(z.cps.toList.drop (t+1)).take (k-(t+1))):=by
 unfold AM;rw[wP,wP,uR,uR];have a:(t:Int)+1=((t+1:Nat):Int):=by lia
 rw[a,YM,pI];simp
def WX{z:Str}(l:z.cps.toList.length=8)(a:∀c∈z.cps.toList,c∈iW.cps.toList){k m:Nat}(o:1<=k)(g:k+m<=9):G1 m ((fX m).map λj:Nat=>Txt.slice z none (some ((k:Int)+(j:Int)))):=by
 have e:∀j:Nat,(Txt.slice z none (some ((k:Int)+(j:Int)))).cps.toList=z.cps.toList.take (k+j):=λj=>by
  rw[uR];exact pI _ (k+j)
 refine DY _ (λi f=>?_) λi j f n h=>?_
 ·refine WZ ?_ ?_ λc d=>?_
  ·rw[e,bN];lia
  ·rw[e,bN];lia
  ·rw[e]at d;exact a c (dU d)
 ·have b:=e i;rw[h,e j]at b;have:=h9 kH b;rw[bN,bN]at this;lia
def RT{z:Str}(o:z.cps.toList.length=8)(a:∀c∈z.cps.toList,c∈iW.cps.toList){k t s m:Nat}(r:k<=8)(v:t<k)(u:m<=26):G1 m ((fX m).map λj:Nat=>AM z t k (SR ((s+j)%26))):=by
 refine DY _ (λi n=>?_) λi j n q h=>?_
 ·have e:=sR z t k (SR ((s+i)%26));refine WZ ?_ ?_ λc hc=>?_
  ·rw[e,bP,dQ];lia
  ·rw[e,bP,dQ,bN,bN,dP];lia
  ·rw[e]at hc;rcases cC.mp hc with hc | hc
   ·exact a c (dU hc)
   ·rcases aK.mp hc with rfl | hc
    ·exact Ze (BD _ Cv)
    ·exact a c (kF (dU hc))
 ·have b:=sR z t k (SR ((s+i)%26));have l:AM z t k (SR ((s+i)%26))=AM z t k (SR ((s+j)%26)):=h;rw[l,sR]at b;have f:=List.append_cancel_left b;have g:SR ((s+j)%26)=SR ((s+i)%26):=(List.cons.inj f).1;have p:=C3 (i:=(s+i)%26) (BD _ Cv);have d:=C3 (i:=(s+j)%26) (BD _ Cv);rw[g]at d;have:=aBq NP p d;lia
def MM(z:Str)(a:z.cps.toList.length=8)(t k c:Nat):(Txt.slice z none (some (t:Int))).length+1<=100000/\(Txt.slice z none (some (t:Int))++(⟨#[c]⟩:Str)).length+(Txt.slice z (some ((t:Int)+1)) (some (k:Int))).length<=100000:=by
 have b:=Txt.slice_le z none (some (t:Int));have a2:=Txt.slice_le z (some ((t:Int)+1)) (some (k:Int));have d:z.length=z.cps.toList.length:=by simp[bd]
 have a4:(Txt.slice z none (some (t:Int))++(⟨#[c]⟩:Str)).length=(Txt.slice z none (some (t:Int))).length+1:=by
  show((Txt.slice z none (some (t:Int))).cps++#[_]).size=_;rw[T9];rfl
 rw[a4];lia
noncomputable def L8(f:Str×List Str)(d:D):Bool:=match d with | .none=>true | .str z=>decide (z∈f.2) | _=>false
noncomputable def vA(an:List Str)(d:D):Bool:=match d with | .str z=>decide (z∈an) | _=>false
structure Cd(d:D):Prop where
 lay:d.canLay0=true
 dep:d.depth<=60
structure Th(n m:Nat)(d:D):Prop where
 bulk:d.bulk<=n
 fit:d.leavesShort 110=true
 shw:d.showable=true
 nodict:d.hasDict=false
 depth:d.depth<=m
 lay:d.canLay0=true
def Th.mono{n b m a:Nat}(h:Th n m d)(e:n<=b)(c:m<=a):Th b a d:=⟨bL h.bulk e,h.fit,h.shw,h.nodict,bL h.depth c,h.lay⟩
theorem xP{n m:Nat}:∀{ts:List D},(∀t∈ts,Th n m t)->wR ts<=ts.length*(n+1)/\L6 110 ts=true/\QT ts=true/\mC ts=false/\eQ ts<=m/\eK ts=true
|[],_=>⟨cD _,Db,Db,Db,cD _,Db⟩
|t::ts,h=>by
 have a:=h t (aN ..);obtain⟨i,b,c,d,e,f⟩:=xP (ts:=ts) λx g=>h x (aJ _ g);refine⟨?_,?_,?_,?_,?_,?_⟩
 ·show t.bulk+1+wR ts<=(ts.length+1)*(n+1);have:=a.bulk;rw[sP,aPw];lia
 ·show(t.leavesShort 110&&L6 110 ts)=true;rw[a.fit,b];rfl
 ·show(t.showable&&QT ts)=true;rw[a.shw,c];rfl
 ·show(t.hasDict||mC ts)=false;rw[a.nodict,d];rfl
 ·show max t.depth (eQ ts)<=m;exact Nat.max_le.mpr ⟨a.depth,e⟩
 ·show(t.canLay0&&eK ts)=true;rw[a.lay,f];rfl
def rC(n m k:Nat){N M:Nat}{a:List D}(h:∀t∈a,Th n m t)(f:a.length<=k)(l:k*(n+1)<=N)(j:m+1<=M):Th N M (.tuple a):=by
 obtain⟨g,b,c,d,i,e⟩:=xP h;have:a.length*(n+1)<=k*(n+1):=yK _ f;exact⟨by show wR a<=N;lia,b,c,d,by show eQ a+1<=M;lia,e⟩
def DA(n m k:Nat){N M:Nat}{a:List D}(h:∀t∈a,Th n m t)(f:a.length<=k)(l:k*(n+1)<=N)(j:m+1<=M):Th N M (.list a):=by
 obtain⟨g,b,c,d,i,e⟩:=xP h;have:a.length*(n+1)<=k*(n+1):=yK _ f;exact⟨by show wR a<=N;lia,b,c,d,by show eQ a+1<=M;lia,e⟩
def sU{n m:Nat}:Th n m .none:=⟨cD _,Db,Db,Db,cD _,Db⟩
def ZV{n m:Nat}(b:Bool):Th n m (.bool b):=⟨cD _,Db,Db,Db,cD _,Db⟩
def JX{z:Str}(b:∀c∈z.cps.toList,c<1000):aFd z=true:=by
 unfold aFd;rw[<- ZB,gO];intro c a;have:=b c a;exact b7 Cw
def UT{n m:Nat}{z:Str}(h:z.length<=n)(a:∀c∈z.cps.toList,c<1000):Th n m (.str z):=by
 refine⟨h,?_,Db,Db,cD _,JX a⟩;show(z.cps.toList.all λc=>decide (c<16^8))=true;rw[gO];intro c b;have:=a c b;exact b7 Cw
def UV{n m:Nat}{z:Str}(h:(decide (z.length<=n)&&z.cps.toList.all λc=>decide (c<1000))=true):Th n m (.str z):=by
 rw[dR]at h;exact UT (b8 h.1) λc a=>b8 (gO.mp h.2 c a)
def R3{c:Nat}(h:c∈iW.cps.toList):c<128:=by
 have:∀c∈iW.cps.toList,c<128:=by decide +kernel
 exact this c h
def KW{y:Str}(h:tJ y=true):y.length<=8/\∀c∈y.cps.toList,c<128:=⟨(PP h).2.1,λc a=>R3 ((PP h).2.2 c a)⟩
def iT(h:tJ y=true){n m:Nat}(b:8<=n):Th n m (.str y):=UT (bL (KW h).1 b) λc a=>by have:=(KW h).2 c a;lia
def CI{a:List Str}(h:∀y∈a,tJ y=true){n m:Nat}(b:8<=n):∀t∈a.map aR,Th n m t:=λt c=>by
 obtain⟨y,d,rfl⟩:=aS.mp c;exact iT (h y d) b
def pT{n m:Nat}:∀t∈([]:List D),Th n m t:=λt h=>by simp at h
def iB{n m:Nat}(h:Th n m a)(b:∀t∈ts,Th n m t):∀t∈a::ts,Th n m t:=λt ht=>by
 rcases aK.mp ht with rfl | ht
 ·exact h
 ·exact b t ht
def aC5{n m:Nat}{a bs:List D}(h:∀t∈a,Th n m t)(b:∀t∈bs,Th n m t):∀t∈a++bs,Th n m t:=λt c=>(cC.mp c).elim (h t) (b t)
def Th.cd{n m:Nat}(h:Th n m d)(a:m<=60):Cd d:=⟨h.lay,bL h.depth a⟩
theorem PV:∀{ts}{t:D},eK ts=true->t∈ts->t.canLay0=true
|a::r,t,h,hm=>by
 have b:(a.canLay0&&eK r)=true:=h;rw[dR]at b;rcases aK.mp hm with rfl | hm
 ·exact b.1
 ·exact PV b.2 hm
theorem GR:∀{ts}{t:D},t∈ts->t.depth<=eQ ts
|a::r,t,hm=>by
 show t.depth<=max a.depth (eQ r);rcases aK.mp hm with rfl | hm
 ·exact aFe _ _
 ·exact bL (GR hm) (aDe _ _)
def Cd.item(h:Cd (.tuple ts))(a:t∈ts):Cd t:=⟨PV h.lay a,by
 have b:eQ ts+1<=60:=h.dep;have:=GR a;lia⟩
section
variable{fs:List (Str×List Str)}{an:List Str}
def gZ.name(F:gZ fs an){f:Str×List Str}(h:f∈fs):tJ f.1=true:=F.nd.2.1 _ (aS.mpr ⟨f,h,Db⟩)
def gZ.vals(F:gZ fs an){f:Str×List Str}(h:f∈fs):∀y∈f.2,tJ y=true:=(F.vs f h).2.2.2.1
end
def EH{x}{Q:D->Prop}(a:FK x (.tuple ts))(b:Q (.bool (R8 x (.tuple ts)))):Iv x (.tuple ts) Q:=by
 cases x<;>exact⟨a,b⟩
def E3(d:D)(a:List Str):((a.map aR).any λz=>bK z d)=vA a d:=by
 induction a with
 |nil=>cases d<;>rfl
 |cons y a b=>
  rw[bS,pK,b]
  cases d with
  |str z=>
   show((y==z)||decide (z∈a))=decide (z∈y::a);rw[eL];simp only[vS,ff,d0,aK];exact⟨λh=>h.imp Eq.symm id,λh=>h.imp Eq.symm id⟩
  |_=>rfl
def NX(f:Str×List Str)(d:D):R8 d (.tuple (f.2.map aR++[.none]))=L8 f d:=by
 show((f.2.map aR++[CD]).any λz=>bK z d)=L8 f d;rw[aDi,E3];cases d<;>simp[vA,L8,bK]
def PF{a:List Str}(h:∀y∈a,tJ y=true)(hd:Cd d):FK d (.tuple (a.map aR)):=by
 obtain⟨_,_,_,_,c,b⟩:=xP (CI h (aM 8) (m:=0));exact⟨b,hd.lay,by have:=hd.dep;lia⟩
def DU{a:List Str}(h:∀y∈a,tJ y=true){d:D}(hd:Cd d):FK d (.tuple (a.map aR++[.none])):=by
 obtain⟨_,_,_,_,c,b⟩:=xP (aC5 (CI h (aM 8) (m:=0)) (iB sU pT));exact⟨b,hd.lay,by have:=hd.dep;lia⟩
theorem IE:∀{a:List Str}{z}{m:Nat},m<a.idxOf z->a[m]?≠some z
|[],z,m,h=>by simp at h
|y::a,z,m,h=>by
 rw[List.idxOf_cons]at h;by_cases e:y=z
 ·subst e;simp at h
 ·have b:(y==z)=false:=by simpa using e
  rw[b]at h;simp only[cond_false]at h
  cases m with
  |zero=>simpa using e
  |succ m=>
   rw[List.getElem?_cons_succ];exact IE Cw
noncomputable def jL(fs:List (Str×List Str))(d:D):Bool:=match d with | .tuple ts=>decide (ts.length=fs.length)&&(fs.zip ts).all (λp=>L8 p.1 p.2) | _=>false
section
variable{fs:List (Str×List Str)}{an:List Str}
def mI{cs:List D}(h:jL fs (.tuple cs)=true):cs.length=fs.length/\∀(k:Nat) f c,fs[k]?=some f->cs[k]?=some c->L8 f c=true:=by
 unfold jL at h;simp only[dR,d0,gO]at h;refine⟨h.1,λk f c a b=>?_⟩;exact h.2 (f,c) (bB ((fW (z:=(f,c))).mpr ⟨a,b⟩))
def EY(F:gZ fs an)(h:jL fs (.tuple cs)=true){n m:Nat}(f:8<=n):∀c∈cs,Th n m c:=λc d=>by
 obtain⟨e,g⟩:=mI h;obtain⟨k,b⟩:=cT d;have a:k<fs.length:=by rw[<- e];exact(aI.mp b).1
 have:=g k fs[k] c (aG a) b
 cases c with
 |none=>exact sU
 |str z=>exact iT (F.vals (jO a) z (b8 this)) f
 |_=>cases this
end
noncomputable def dE(r:List D×Str):D:=.tuple [.tuple r.1,.str r.2]
def oZ(fs:List (Str×List Str))(an:List Str)(r:List D×Str):Prop:=jL fs (.tuple r.1)=true/\r.2∈an
def gW(fs:List (Str×List Str))(an:List Str)(rs:List (List D×Str)):Prop:=∀r∈rs,oZ fs an r
def UU{fs}(F:gZ fs an)(h:oZ fs an r):Th 92 2 (dE r):=by
 have n5:=F.n5;exact rC 45 1 2 (iB (rC 8 0 5 (EY F h.1 (aM 8)) (by rw[(mI h.1).1];exact n5) Cv Cv) (iB (iT (F.an.2.1 _ h.2) Cv) pT)) Da Cv Cv
def Pa{fs}(F:gZ fs an){rs:List (List D×Str)}(h:gW fs an rs)(a:rs.length<=60):Th 6000 3 (.list (rs.map dE)):=
 DA 92 2 60 (λt c=>by
  obtain⟨r,b,rfl⟩:=aS.mp c;exact UU F (h r b)) (by rw[aC];exact a) Cv Cv
noncomputable def Ek(f:Str×List Str)(k v:D):Bool:=match k,v with
|.str kk,.str z=>decide (z∈f.2)&&(decide (kk="is")||(decide (kk="upto")&&decide (f.2.idxOf z+1<f.2.length)))
|_,_=>false
noncomputable def Gj(n:D)(f:Str×List Str):Bool:=match n with | .str z=>decide (f.1=z) | _=>false
noncomputable def TU(fs:List (Str×List Str))(d:D):Bool:=match d with
|.tuple [k,n,v]=>fs.any λf=>Gj n f&&Ek f k v
|_=>false
noncomputable def Dm(k:Str)(f:Str×List Str)(z:Str):D:=.tuple [.str k,.str f.1,.str z]
noncomputable def DP(f:Str×List Str):List Str:=if f.2.length=2 then f.2.take 1 else f.2
noncomputable def wT(f:Str×List Str):List Str:=(f.2.drop 1).take (f.2.length-3)
noncomputable def JJ(f:Str×List Str):List D:=(DP f).map (Dm "is" f)++(wT f).map (Dm "upto" f)
noncomputable def fY(fs:List (Str×List Str)):List D:=(fs.map JJ).flatten
def Ug:QM:=λa Q=>∃(fs:List (Str×List Str))(an:List Str),a=[fJ fs an]/\gZ fs an/\Q (fY fs)
def XW{a:List Str}{z}{j:Nat}(h:a[j]?=some z):a.idxOf z<=j:=by
 by_cases q:a.idxOf z<=j
 ·exact q
 ·exact c7 h (IE Cw)
def W6{f:Str×List Str}{z}(h:z∈wT f):z∈f.2/\f.2.idxOf z+1<f.2.length:=by
 unfold wT at h;have b:z∈f.2:=kF (dU h);refine⟨b,?_⟩;obtain⟨i,a⟩:=cT h;have c:=(aI.mp a).1;rw[bN,dP]at c;rw[nG,a9 Cw,nH]at a;have:=XW a;lia
def XS{fs k z}(a:f∈fs)(h:Ek f (.str k) (.str z)=true):TU fs (Dm k f z)=true:=by
 show(fs.any λg=>Gj (.str f.1) g&&Ek g (.str k) (.str z))=true;rw[uD];refine⟨f,a,?_⟩;show(decide (f.1=f.1)&&Ek f (.str k) (.str z))=true;rw[h,b7 rfl];rfl
def EX{fs}(h:d∈fY fs):∃f∈fs,(∃z∈f.2,d=Dm "is" f z)\/(∃z,z∈f.2/\f.2.idxOf z+1<f.2.length/\d=Dm "upto" f z):=by
 unfold fY at h;obtain⟨l,c,hd⟩:=List.mem_flatten.mp h;obtain⟨f,b,rfl⟩:=aS.mp c;refine⟨f,b,?_⟩;unfold JJ at hd;rcases cC.mp hd with q | q
 ·obtain⟨z,a,rfl⟩:=aS.mp q;refine .inl ⟨z,?_,Db⟩;unfold DP at a;split at a
  ·exact dU a
  ·exact a
 ·obtain⟨z,a,rfl⟩:=aS.mp q;exact .inr ⟨z,(W6 a).1,(W6 a).2,Db⟩
def N3{fs}(h:d∈fY fs):TU fs d=true:=by
 obtain⟨f,b,⟨z,a,rfl⟩ | ⟨z,a,c,rfl⟩⟩:=EX h
 ·refine XS b ?_;show(decide (z∈f.2)&&(decide (("is":Str)="is")||_))=true;rw[b7 a];rfl
 ·refine XS b ?_;show(decide (z∈f.2)&&(decide (("upto":Str)="is")||(decide (("upto":Str)="upto")&&decide (f.2.idxOf z+1<f.2.length))))=true;rw[b7 a,b7 c,b7 (rfl:("upto":Str)="upto")];simp
def Km:tJ "is"=true:=by decide +kernel
def PN:tJ "upto"=true:=by decide +kernel
def YP{fs}(F:gZ fs an){k}(b:tJ k=true){f:Str×List Str}(a:f∈fs){z}(c:z∈f.2):Th 27 1 (Dm k f z):=
 rC 8 0 3 (iB (iT b (aM _)) (iB (iT (F.name a) (aM _)) (iB (iT (F.vals a z c) (aM _)) pT))) Da Cv Cv
theorem nA{fs}(F:gZ fs an):∀a:List (Str×List Str),(∀g∈a,g∈fs)->(fY a).length<=7*a.length
|[],_=>aM _
|g::a,h=>by
 have d:=nA F a λx b=>h x (aJ _ b);obtain⟨_,e,_⟩:=F.vs g (h g (aN ..));show((JJ g::a.map JJ).flatten).length<=_;rw[Y8,bP]
 have c:(JJ g).length<=7:=by
  unfold JJ DP wT;rw[bP,aC,aC,bN,dP];split
  ·rw[bN];lia
  ·lia
 have:(fY a).length=((a.map JJ).flatten).length:=rfl;rw[dQ];lia
def rT{a:List Str}(e:∀y∈a,tJ y=true){z}(f:z∈a):RN (a.map aR) (.str z) (a.idxOf z):=by
 have c:a.idxOf z<a.length:=kN.mpr f;obtain⟨_,_,_,_,h,d6⟩:=xP (CI e (aM 8) (m:=0));refine⟨d6,(iT (e z f) (aM 8) (m:=0)).lay,Cw,⟨.str z,?_,?_⟩,λm t g b=>?_⟩
 ·rw[aO,aG c,nF c];rfl
 ·show(z==z)=true;simp
 ·rw[aO]at b
  cases d:a[m]? with
  |none=>rw[d]at b;cases b
  |some y=>
   rw[d]at b;cases b;show(y==z)=false
   have:y≠z:=λq=>by
    subst q;exact IE g d
   simpa using this
inductive Tr | say (a:Str) | ask (k n v s:Str) (y m:Tr)
noncomputable def jJ:Tr->D
|.say a=>.tuple [.str "say",.str a]
|.ask k n v s y m=>.tuple [.str "ask",.tuple [.str k,.str n,.str v],.str s,jJ y,jJ m]
noncomputable def Tr.dep:Tr->Nat
|.say _=>0
|.ask _ _ _ _ y m=>max y.dep m.dep+1
noncomputable def Tr.kn:Tr->Nat
|.say _=>0
|.ask _ _ _ _ y m=>y.kn+m.kn+1
noncomputable def Tr.nodes:Tr->Nat
|.say _=>1
|.ask _ _ _ _ y m=>y.nodes+m.nodes+1
def A8(fs:List (Str×List Str))(an:List Str):Tr->Prop
|.say a=>a∈an
|.ask k n v s y m=>TU fs (.tuple [.str k,.str n,.str v])=true/\(s="yes"\/s="no")/\A8 fs an y/\A8 fs an m
def zQ{fs}{k n v:Str}(h:TU fs (.tuple [.str k,.str n,.str v])=true):∃f∈fs,f.1=n/\v∈f.2/\(k="is"\/(k="upto"/\f.2.idxOf v+1<f.2.length)):=by
 obtain⟨f,c,b⟩:=uD.mp (h:(fs.any λf=>Gj (.str n) f&&Ek f (.str k) (.str v))=true);rw[dR]at b;have a:(decide (v∈f.2)&&(decide (k="is")||(decide (k="upto")&&decide (f.2.idxOf v+1<f.2.length))))=true:=b.2;simp only[dR,vS,d0]at a;exact⟨f,c,b8 b.1,a.1,a.2⟩
def WY:tJ "yes"=true:=by decide +kernel
def Kn:tJ "no"=true:=by decide +kernel
def HX:tJ "say"=true:=by decide +kernel
def tI:tJ "ask"=true:=by decide +kernel
def ZU{fs}(F:gZ fs an){k}(h:TU fs (.tuple [.str k,.str n,.str v])=true):Th 27 1 (.tuple [.str k,.str n,.str v]):=by
 obtain⟨f,a,rfl,c,b⟩:=zQ h;refine YP F ?_ a c;rcases b with rfl | ⟨rfl,_⟩
 ·exact Km
 ·exact PN
theorem Hw{fs}(F:gZ fs an):∀t:Tr,A8 fs an t->Th (68*t.kn+18) (t.dep+1) (jJ t)
|.say a,h=>rC 8 0 2 (iB (iT HX (aM _)) (iB (iT (F.an.2.1 a h) (aM _)) pT)) Da (by show 2*(8+1)<=68*0+18;decide) (aM _)
|.ask k n v s y m,h=>by
 obtain⟨p,r,u,o⟩:=h;have d:=Hw F y u;have c:=Hw F m o;have q:=ZU F p
 have w:tJ s=true:=by
  rcases r with rfl | rfl
  ·exact WY
  ·exact Kn
 have e:=iT w (n:=8) (m:=0) (aM _);have b:=iT tI (n:=8) (m:=0) (aM _);have j:PyData.bulk (jJ (.ask k n v s y m))=(aR "ask").bulk+1+((iN [.str k,.str n,.str v]).bulk+1+((aR s).bulk+1+((jJ y).bulk+1+((jJ m).bulk+1+0)))):=rfl;have l:PyData.depth (jJ (.ask k n v s y m))=max (aR "ask").depth (max (iN [.str k,.str n,.str v]).depth (max (aR s).depth (max (jJ y).depth (max (jJ m).depth 0))))+1:=rfl;refine⟨?_,?_,?_,?_,?_,?_⟩
 ·rw[j];have f:=d.bulk;have a2:=c.bulk;have g:=q.bulk;have a4:=e.bulk;have i:=b.bulk;show _<=68*(y.kn+m.kn+1)+18;lia
 ·show((aR "ask").leavesShort 110&&((iN [.str k,.str n,.str v]).leavesShort 110&&((aR s).leavesShort 110&&((jJ y).leavesShort 110&&((jJ m).leavesShort 110&&true)))))=true;rw[b.fit,q.fit,e.fit,d.fit,c.fit];rfl
 ·show((aR "ask").showable&&((iN [.str k,.str n,.str v]).showable&&((aR s).showable&&((jJ y).showable&&((jJ m).showable&&true)))))=true;rw[b.shw,q.shw,e.shw,d.shw,c.shw];rfl
 ·show((aR "ask").hasDict||((iN [.str k,.str n,.str v]).hasDict||((aR s).hasDict||((jJ y).hasDict||((jJ m).hasDict||false)))))=false;rw[b.nodict,q.nodict,e.nodict,d.nodict,c.nodict];rfl
 ·rw[l];have f:=d.depth;have a2:=c.depth;have g:=q.depth;have a4:=e.depth;have i:=b.depth;show _<=max y.dep m.dep+1+1;lia
 ·show((aR "ask").canLay0&&((iN [.str k,.str n,.str v]).canLay0&&((aR s).canLay0&&((jJ y).canLay0&&((jJ m).canLay0&&true)))))=true;rw[b.lay,q.lay,e.lay,d.lay,c.lay];rfl
theorem Tr.nodes_kn:∀t:Tr,t.nodes=2*t.kn+1
|.say _=>rfl
|.ask _ _ _ _ y m=>by
 show y.nodes+m.nodes+1=2*(y.kn+m.kn+1)+1;have:=nodes_kn y;have:=nodes_kn m;lia
theorem Tr.kn_dep:∀t:Tr,t.kn<2^t.dep
|.say _=>by show 0<2^0;decide
|.ask _ _ _ _ y m=>by
 have:=kn_dep y;have:=kn_dep m;show y.kn+m.kn+1<2^(max y.dep m.dep+1);have a:2^y.dep<=2^(max y.dep m.dep):=mO Cv (aFe ..);have b:2^m.dep<=2^(max y.dep m.dep):=mO Cv (aDe ..);rw[Nat.pow_succ];lia
def Tr.nodes_pos(t:Tr):1<=t.nodes:=by rw[t.nodes_kn];lia
def RB{c:vF}(P:Nat->List Sl->Prop)(e:Nat)(f:P e σ)
  (h:∀n a,P n a->∃b:Bool,(∀q:Bool->Prop,q b->c a q)/\(if b=true then tb { DT with nx:=λd=>∃m,m<n/\P m d,ct:=λd=>∃m,m<n/\P m d,bk:=u DT } a else u DT a)):jA (VL c tb) u DT σ:=
 ⟨P,⟨e,f⟩,λn a g=>let ⟨_,h1,h2⟩:=h n a g;h1 _ h2⟩
def Zg(a:List Str)(h:2<=a.length):kW a (some 1) (some (-2))=(a.drop 1).take (a.length-3):=by
 unfold kW
 have b:HT.sIx a.length 0 (some 1)=1:=by
  show(if(1:Int)<0 then((1:Int)+(a.length:Int)).toNat else min (1:Int).toNat a.length)=_;rw[a8 Cv];show min 1 a.length=1;lia
 have c:HT.sIx a.length a.length (some (-2))=a.length-2:=by
  show(if(-2:Int)<0 then((-2:Int)+(a.length:Int)).toNat else min (-2:Int).toNat a.length)=_;rw[a9 Cv];lia
 rw[b,c];congr 1
def Zh(a:List Str)(h:2<=a.length):kW a none (some 1)=a.take 1:=pI a 1
def Uh:QM:=λa Q=>∃f:Str×List Str,a=[lI f]/\2<=f.2.length/\f.2.length<=5/\Q (JJ f)
abbrev Rw:=List D×Str
noncomputable def yF(rs:List Rw)(a:Str):Nat:=rs.countP λr=>decide (r.2=a)
noncomputable def jD(an:List Str)(rs:List Rw):List Int:=an.map λa=>(yF rs a:Int)
noncomputable def B1(ss rs:List Rw):Nat:=(ss.map λr=>rs.countP λo=>decide (o.2≠r.2)).sum
noncomputable def XB(a b:Nat):D:=.tuple [.int ((a / a.gcd b:Nat):Int),.int ((b / a.gcd b:Nat):Int)]
def E6(an:List Str)(rs:List Rw)(a:Str):Prop:=∃k,an[k]?=some a/\(∀(j:Nat) b,an[j]?=some b->yF rs b<=yF rs a)/\∀(j:Nat) b,j<k->an[j]?=some b->yF rs b<yF rs a
def Ls:pU:=λc Q=>∃a b:Nat,c=[.int a,.int b]/\0<b/\a<2^190/\b<2^190/\Q (XB a b)
def T2:QM:=λa Q=>∃(fs:List (Str×List Str))(an:List Str)(rs:List Rw),a=[fJ fs an,.list (rs.map dE)]/\gZ fs an/\gW fs an rs/\rs.length<=60/\Q ((jD an rs).map bM)
def Ua:pU:=λb Q=>∃(fs:List (Str×List Str))(an:List Str)(rs:List Rw),b=[fJ fs an,.list (rs.map dE)]/\gZ fs an/\gW fs an rs/\rs.length<=60/\∀a,E6 an rs a->Q (.str a)
def Ub:pU:=λa Q=>∃(fs:List (Str×List Str))(an:List Str)(rs:List Rw),a=[fJ fs an,.list (rs.map dE)]/\gZ fs an/\gW fs an rs/\rs.length<=60/\Q (XB (B1 rs rs) (max 1 rs.length))
theorem M4:∀(ss rs:List Rw),B1 ss rs<=ss.length*rs.length
|[],rs=>by show 0<=_;lia
|s::ss,rs=>by
 have:=M4 ss rs;have a:rs.countP (λo=>decide (o.2≠s.2))<=rs.length:=OL;show rs.countP (λo=>decide (o.2≠s.2))+B1 ss rs<=(ss.length+1)*rs.length;rw[sP,aPw];lia
def YN(rs:List Rw)(a:Str):yF rs a<=rs.length:=OL
theorem EG{a:Type}[DecidableEq a]:∀(l:List a)(x:a),x∈l->∃k:Nat,l[k]?=some x/\∀j:Nat,j<k->l[j]?≠some x
|y::l,x,h=>by
 by_cases e:y=x
 ·exact⟨0,by rw[e];rfl,λj d=>by lia⟩
 ·obtain⟨k,b,c⟩:=EG l x ((aK.mp h).resolve_left λz=>e z.symm);refine⟨k+1,b,λj d=>?_⟩
  cases j with
  |zero=>exactλz=>e (c8 z)
  |succ j=>exact c j Cw
noncomputable def aQg(a:Str)(x:D):Bool:=match x with | .tuple [_,.str b]=>!decide (b=a) | _=>false
noncomputable def HF(f:Str×List Str)(k v st:Str)(c:D):Str:=match c with
|.none=>st
|.str z=>if k="is" then(if z=v then "yes" else "no")else if f.2.idxOf z<=f.2.idxOf v then "yes" else "no"
|_=>""
noncomputable def jW(fs:List (Str×List Str))(k n v st:Str)(a:List D):Str:=match fs[(fs.map (·.1)).idxOf n]?,a[(fs.map (·.1)).idxOf n]? with
|some f,some c=>HF f k v st c
|_,_=>""
def Uj:pU:=λb Q=>∃(fs:List (Str×List Str))(an:List Str)(k n v st:Str)(a:List D),b=[fJ fs an,.tuple [.str k,.str n,.str v],.str st,.tuple a]/\gZ fs an/\TU fs (.tuple [.str k,.str n,.str v])=true/\(st="yes"\/st="no")/\jL fs (.tuple a)=true/\Q (.str (jW fs k n v st a))
noncomputable def uV(fs:List (Str×List Str))(k n v st:Str)(rs:List (List D×Str))(w:Str)(x:D):Bool:=match x with
|.int i=>match L2.atI rs i with | some r=>decide (jW fs k n v st r.1=w) | none=>false
|_=>false
noncomputable def iZ(fs:List (Str×List Str))(k n v st:Str)(rs:List (List D×Str))(w:Str):List D:=(eI rs.length).filter (uV fs k n v st rs w)
def Uo:Ft:=λa Q=>∃(fs:List (Str×List Str))(an:List Str)(k n v st:Str)(rs:List (List D×Str)),a=[fJ fs an,.tuple [.str k,.str n,.str v],.str st,.list (rs.map dE)]/\gZ fs an/\TU fs (.tuple [.str k,.str n,.str v])=true/\(st="yes"\/st="no")/\gW fs an rs/\rs.length<=60/\Q (iZ fs k n v st rs "yes") (iZ fs k n v st rs "no")
def CS{fs:List (Str×List Str)}(F:gZ fs an){j:Nat}{f:Str×List Str}(h:fs[j]?=some f):(fs.map (·.1)).idxOf f.1=j:=by
 have d:f.1∈fs.map (·.1):=aS.mpr ⟨f,bB h,Db⟩;have a:(fs.map (·.1)).idxOf f.1<(fs.map (·.1)).length:=kN.mpr d;have b:(fs.map (·.1))[(fs.map (·.1)).idxOf f.1]?=some f.1:=by rw[aG a,nF a]
 have c:(fs.map (·.1))[j]?=some f.1:=by rw[aO,h];rfl
 exact(List.getElem?_inj a F.nd.2.2).mp (b.trans c.symm)
def DG{fs}(F:gZ fs an){k st}{j:Nat}{f:Str×List Str}(a:fs[j]?=some f)(b:cs[j]?=some c)(d:f.1=n):jW fs k n v st cs=HF f k v st c:=by
 subst d;unfold jW;rw[CS F a,a,b]
noncomputable def Ik(fs:List (Str×List Str))(k n v st:Str)(x:D):D:=match x with | .tuple [.tuple cs,_]=>.str (jW fs k n v st cs) | _=>.none
def KQ{c:ET}{b:vI}{a:List Sl}{i:Nat}{ts us:List D}(d:a[i]?=some (.own ts))(e:ts.length+us.length<=100000)(h:∀q:D->Prop,q (.list us)->c a q)(k:b.nx (a.set i (.own (ts++us)))):Lo i c b a:=⟨ts,d,h _ ⟨us,Db,e,k⟩⟩
def RM{fs k st rs}{j:Nat}{r:List D×Str}(h:rs[j]?=some r):uV fs k n v st rs w (.int (j:Int))=decide (jW fs k n v st r.1=w):=by
 show(match L2.atI rs (j:Int)with | some r=>decide (jW fs k n v st r.1=w) | none=>false)=_;rw[L2.gK h]
noncomputable def EC(k v:Str)(f:Str×List Str):List Str:=if k="is" then[v]else f.2.take (f.2.idxOf v+1)
def Um:pU:=λa Q=>∃(k n v:Str)(f:Str×List Str),a=[.tuple [.str k,.str n,.str v],lI f]/\(∀y∈f.2,tJ y=true)/\v∈f.2/\f.2.length<=5/\Q (.tuple ((EC k v f).map aR))
def SA{f:Str×List Str}{k v st z:Str}(g:z∈f.2):(if vA (EC k v f) (.str z)=true then("yes":Str)else "no")=HF f k v st (.str z):=by
 show(if decide (z∈EC k v f)=true then("yes":Str)else "no")=if k="is" then(if z=v then("yes":Str)else "no")else if f.2.idxOf z<=f.2.idxOf v then("yes":Str)else "no";unfold EC;by_cases b:k="is"
 ·rw[a9 b,a9 b];by_cases e:z=v
  ·rw[a9 e,a9 (b7 (aP.mpr e))]
  ·rw[a8 e,a8 (λq=>e (aP.mp (b8 q)))]
 ·rw[a8 b,a8 b];have c:f.2.idxOf z<f.2.length:=kN.mpr g;by_cases e:f.2.idxOf z<=f.2.idxOf v
  ·rw[a9 e,a9];refine b7 (bB (i:=f.2.idxOf z) ?_);rw[nG,a9 Cw,aG c,nF c]
  ·rw[a8 e,a8];intro q;obtain⟨i,a⟩:=cT (b8 q);have d:=(aI.mp a).1;rw[bN]at d;rw[nG,a9 Cw]at a;have:=XW a;lia
def LC{f:Str×List Str}{k}(a:v∈f.2)(h:y∈EC k v f):y∈f.2:=by
 unfold EC at h;split at h
 ·rw[aP.mp h];exact a
 ·exact dU h
noncomputable def wX(k v st:Str)(f:Str×List Str):List D:=(EC k v f).map aR++(if st="yes" then[CD]else[])
def Ul:pU:=λa Q=>∃(k n v st:Str)(f:Str×List Str),a=[.tuple [.str k,.str n,.str v],.str st,lI f]/\(∀y∈f.2,tJ y=true)/\v∈f.2/\f.2.length<=5/\Q (.tuple (wX k v st f))
def Uk:pU:=λa Q=>∃(fs:List (Str×List Str))(an:List Str)(k n v:Str)(f:Str×List Str)(j:Nat),a=[fJ fs an,.tuple [.str k,.str n,.str v]]/\gZ fs an/\fs[j]?=some f/\f.1=n/\Q (.int (j:Int))
def XY{k}{f:Str×List Str}(h:f.2.length<=5):(EC k v f).length<=5:=by
 unfold EC;split
 ·show 1<=5;decide
 ·rw[bN];lia
def XU{k v st:Str}(a:st="yes"\/st="no")(b:L8 f c=true):(if R8 c (.tuple (wX k v st f))=true then("yes":Str)else "no")=HF f k v st c:=by
 have e:R8 c (.tuple (wX k v st f))=(vA (EC k v f) c||((if st="yes" then[CD]else[]).any λz=>bK z c)):=by
  show((wX k v st f).any λz=>bK z c)=_;unfold wX;rw[aDi,E3]
 cases c with
 |none=>
  rw[e];rcases a with rfl | rfl<;>rfl
 |str z=>
  have g:z∈f.2:=b8 b
  have d:((if st="yes" then[CD]else[]).any λx=>bK x (.str z))=false:=by
   rcases a with rfl | rfl<;>rfl
  rw[e,d,aIv];exact SA g
 |_=>cases b
def WL{k st}{f:Str×List Str}(b:∀y∈f.2,tJ y=true)(c:v∈f.2)(hd:Cd d):FK d (.tuple (wX k v st f)):=by
 unfold wX;split
 ·exact DU (λy a=>b y (LC c a)) hd
 ·rw[dW];exact PF (λy a=>b y (LC c a)) hd
noncomputable def Ez(w:Str)(x:D):Bool:=match x with | .tuple [_,.str s]=>decide (s=w) | _=>false
noncomputable def Fi(ss:List Str)(w:Str)(x:D):Bool:=match x with | .int i=>(match L2.atI ss i with | some s=>decide (s=w) | none=>false) | _=>false
noncomputable def Gp(ss:List Str)(x:D):D:=match x with | .int i=>(match L2.atI ss i with | some s=>.str s | none=>.none) | _=>.none
noncomputable def Hf(x:D):D:=match x with | .tuple [a,_]=>a | _=>x
def GQ(ss:List Str):BM (ss.map aR)=(eI ss.length).map λx=>.tuple [x,Gp ss x]:=by
 apply kI;intro i
 cases h:ss[i]? with
 |none=>
  have b:=JF.mp h;rw[eR (by rw[sA,aC];exact b),eR (by rw[aC,kB];exact b)]
 |some s=>
  have b:=(aI.mp h).1;rw[A3 (a:=.str s) (by rw[aO,h];rfl),aO];unfold eI;rw[aO,kZ b];show _=some (iN [.int (i:Int),match L2.atI ss (i:Int)with | some s=>.str s | none=>.none]);rw[L2.gK h]
def LH(ss:List Str)(w:Str):((BM (ss.map aR)).filter (Ez w)).map Hf=(eI ss.length).filter (Fi ss w):=by
 rw[GQ,vR,bD];have a:(Hf∘λx=>iN [x,Gp ss x])=id:=by funext x;rfl
 have b:(Ez w∘λx=>iN [x,Gp ss x])=Fi ss w:=by
  funext x
  cases x with
  |int i=>
   show Ez w (.tuple [.int i,(match L2.atI ss i with | some s=>aR s | none=>.none)])=(match L2.atI ss i with | some s=>decide (s=w) | none=>false);cases L2.atI ss i<;>rfl
  |_=>rfl
 rw[a,b,xL]
def Up:QM:=λa Q=>∃(w:Str)(ss:List Str),a=[.str w,.list (ss.map aR)]/\ss.length<=60/\Q ((eI ss.length).filter (Fi ss w))
def OW{fs k st}{rs:List (List D×Str)}(w:Str):(eI (rs.map λr=>jW fs k n v st r.1).length).filter (Fi (rs.map λr=>jW fs k n v st r.1) w)=iZ fs k n v st rs w:=by
 unfold iZ;rw[aC];apply sL;intro x d;obtain⟨j,c⟩:=cT d;obtain⟨a,rfl⟩:=tM c;have b:rs[j]?=some rs[j]:=aG a;rw[RM b];show(match L2.atI (rs.map λr=>jW fs k n v st r.1) (j:Int)with | some s=>decide (s=w) | none=>false)=_;rw[L2.gK (v:=jW fs k n v st rs[j].1) (by rw[aO,b];rfl)]
noncomputable def Fd(rs:List Rw)(x:D):D:=match x with | .str a=>.int ((yF rs a:Nat):Int) | _=>.none
def MQ(rs:List Rw)(a:Str):((rs.map λr=>aR r.2).countP λt=>bK t (.str a))=yF rs a:=by
 rw[aDh];unfold yF;congr 1
def XG:∀{ys:List Str},(∀y∈ys,tJ y=true)->eK (ys.map aR)=true/\eQ (ys.map aR)<=0:=λh=>by
 obtain⟨_,_,_,_,a,b⟩:=xP (CI h (aM 8) (m:=0));exact⟨b,a⟩
theorem K4:∀ns:List Int,eK (ns.map bM)=true/\eQ (ns.map bM)=0
|[]=>⟨Db,Db⟩
|n::ns=>by
 have:=K4 ns;refine⟨?_,?_⟩
 ·show(true&&eK (ns.map bM))=true;rw[this.1];rfl
 ·show max 0 (eQ (ns.map bM))=0;rw[this.2];rfl
def GE{ns:List Int}{m:Int}{j:Nat}(h:ns[j]?=some m)(b:∀i:Nat,i<j->ns[i]?≠some m):RN (ns.map bM) (.int m) j:=by
 obtain⟨c,d⟩:=K4 ns;refine⟨c,Db,by rw[d];lia,⟨.int m,by rw[aO,h];rfl,?_⟩,λi t f a=>?_⟩
 ·show(m==m)=true;simp
 ·rw[aO]at a
  cases e:ns[i]? with
  |none=>rw[e]at a;cases a
  |some n=>
   rw[e]at a;cases a;show(n==m)=false;have:n≠m:=λz=>b i f (by rw[e,z]);simpa using this
def Uc:pU:=λc Q=>∃a b:Nat,c=[.int a,.int b]/\Q (.int ((a.gcd b:Nat):Int))
def Z8{an:List Str}(j:an.Nodup)(g:Str->Int)(h:b∈an):(an.map λa=>if b=a then g a else 0).sum=g b:=by
 induction an with
 |nil=>simp at h
 |cons a an k=>
  rw[bS,gE];obtain⟨f,d⟩:=kE.mp j;by_cases e:b=a
  ·subst e
   have z:(an.map λa=>if b=a then g a else 0).sum=0:=by
    have:∀l:List Str,b∉l->(l.map λa=>if b=a then g a else 0).sum=0:=λl=>by
     induction l with
     |nil=>intro _;rfl
     |cons c l i=>
      intro hb;rw[bS,gE,i λq=>hb (aJ _ q),a8 λ(q:b=c)=>hb (by rw[q];exact aN ..)];rfl
    exact this an f
   rw[z,a9 rfl];lia
  ·rw[a8 e,k d ((aK.mp h).resolve_left e)];lia
def Z9(an:List Str)(f g:Str->Int):(an.map λa=>f a+g a).sum=(an.map f).sum+(an.map g).sum:=by
 induction an with
 |nil=>rfl
 |cons a an b=>rw[bS,bS,bS,gE,gE,gE,b];lia
theorem DD{an:List Str}(d:an.Nodup)(g:Str->Int):∀ss:List Rw,(∀r∈ss,r.2∈an)->(an.map λa=>(yF ss a:Int)*g a).sum=(ss.map λr=>g r.2).sum
|[],_=>by
 have:∀l:List Str,(l.map λa=>((yF [] a:Nat):Int)*g a).sum=0:=λl=>by
  induction l with
  |nil=>rfl
  |cons c l b=>
   rw[bS,gE,b];show((0:Nat):Int)*g c+0=0;simp
 exact this an
|r::ss,h=>by
 have i:=DD d g ss λx f=>h x (aJ _ f)
 have e:(λa=>((yF (r::ss) a:Nat):Int)*g a)=λa=>(if r.2=a then g a else 0)+(yF ss a:Int)*g a:=by
  funext a;unfold yF;rw[List.countP_cons];by_cases q:r.2=a
  ·rw[a9 q,a9 (b7 q),mD,TH];show _+1*g a=_;rw[Int.one_mul,Int.add_comm]
  ·rw[a8 q,a8 (by simpa using q),Nat.add_zero,Int.zero_add]
 rw[e,Z9,Z8 d g (h r (aN ..)),i,bS,gE]
def RJ(rs:List Rw)(a:Str):((rs.countP λo=>decide (o.2≠a):Nat):Int)=(rs.length:Int)-(yF rs a:Int):=by
 unfold yF
 have:rs.length=(rs.countP λo=>decide (o.2=a))+(rs.countP λo=>decide (o.2≠a)):=by
  rw[BT (λo:Rw=>decide (o.2=a))];congr 2;funext o;by_cases q:o.2=a<;>simp[q]
 lia
theorem W5:∀l:List Nat,((l.sum:Nat):Int)=(l.map λ(n:Nat)=>(n:Int)).sum
|[]=>rfl
|n::l=>by rw[gE,bS,gE,mD,W5 l]
def O6{an:List Str}(d:an.Nodup){rs:List Rw}(h:∀r∈rs,r.2∈an):((jD an rs).map λc=>c*((rs.length:Int)-c)).sum=((B1 rs rs:Nat):Int):=by
 have b:=DD d (λa=>(rs.length:Int)-(yF rs a:Int)) rs h;unfold jD B1;rw[bD,W5,bD];refine b.trans ?_;congr 1;apply jI;intro r _;exact(RJ rs r.2).symm
noncomputable def Mh(n:Int)(x:D):D:=match x with | .int c=>.int (c*(n-c)) | _=>.none
noncomputable def Pn(x:D):D:=match x with | .tuple [_,b]=>b | _=>x
noncomputable def XR:Tr->Bool
|.say _=>true
|.ask _ _ _ _ _ _=>false
def Uv:pU:=λa Q=>∃t:Tr,a=[jJ t]/\Q (.bool (XR t))
noncomputable def MV(fs:List (Str×List Str)):Tr->List D->List Str
|.say _,_=>[]
|.ask k n v s y m,cs=>jW fs k n v s cs::(if jW fs k n v s cs="yes" then MV fs y cs else MV fs m cs)
section
variable{fs:List (Str×List Str)}{an:List Str}
def aAr(F:gZ fs an){k n v st:Str}(q:TU fs (.tuple [.str k,.str n,.str v])=true)(i:st="yes"\/st="no")(l:jL fs (.tuple cs)=true):jW fs k n v st cs="yes"\/jW fs k n v st cs="no":=by
 obtain⟨f,o,g,s,r⟩:=zQ q;obtain⟨j,h⟩:=cT o;obtain⟨m,e⟩:=mI l;have p:=(aI.mp h).1;have a:cs[j]?=some cs[j]:=aG Cw
 generalize cs[j]=c at a
 rw[DG F h a g];have hok:=e j f c h a
 cases c with
 |none=>exact i
 |str z=>
  show(if k="is" then(if z=v then("yes":Str)else "no")else if f.2.idxOf z<=f.2.idxOf v then("yes":Str)else "no")="yes"\/_;by_cases d:k="is"
  ·by_cases b:z=v
   ·exact .inl (by rw[a9 d,a9 b])
   ·exact .inr (by show(if k="is" then(if z=v then("yes":Str)else "no")else if f.2.idxOf z<=f.2.idxOf v then("yes":Str)else "no")="no";rw[a9 d,a8 b])
  ·by_cases b:f.2.idxOf z<=f.2.idxOf v
   ·exact .inl (by rw[a8 d,a9 b])
   ·exact .inr (by show(if k="is" then(if z=v then("yes":Str)else "no")else if f.2.idxOf z<=f.2.idxOf v then("yes":Str)else "no")="no";rw[a8 d,a8 b])
 |_=>cases hok
end
noncomputable def there(fs:List (Str×List Str))(t:Tr)(rs:List (List D×Str))(a:List Str)(x:D):Bool:=match x with
|.int i=>(match L2.atI rs i with | some r=>decide ((MV fs t r.1).take a.length=a) | none=>false)
|_=>false
def Vg:pU:=λa Q=>∃f:Str×List Str,a=[lI f]/\f.2.length<=5/\Q (.tuple (f.2.map aR++[.none]))
def DE:pU:=λa Q=>∃ns:List Int,a=[.list (ns.map bM)]/\ns.length<=63/\Q (.bool true)
noncomputable def Gg(fs:List (Str×List Str))(k n v st:Str)(r:List D×Str):Bool:=decide (jW fs k n v st r.1="yes")
def gW.filt{fs}{rs:List (List D×Str)}(h:gW fs an rs)(p:List D×Str->Bool):gW fs an (rs.filter p):=λr a=>h r (cH.mp a).1
noncomputable def DK(rs:List (List D×Str))(x:D):D:=match x with | .int i=>(match L2.atI rs i with | some r=>dE r | none=>.none) | _=>.none
def QL{rs:List (List D×Str)}{i:Nat}(h:i<rs.length):L2.atI (rs++[r]) (i:Int)=L2.atI rs (i:Int):=by
 rw[L2.gK (aG h),L2.gK (xs:=rs++[r]) (v:=rs[i]) (by rw[eG h];exact aG h)]
theorem Fk(fs:List (Str×List Str))(k n v st w:Str):∀(m:Nat)(rs:List (List D×Str)),rs.length=m->(iZ fs k n v st rs w).map (DK rs)=(rs.filter λr=>decide (jW fs k n v st r.1=w)).map dE
|0,rs,h=>by rw[uC.mp h];rfl
|m+1,rs,h=>by
 obtain⟨a,r,rfl⟩:∃a r,rs=a++[r]:=⟨rs.dropLast,rs.getLast (λe=>by rw[e]at h;cases h),(List.dropLast_concat_getLast _).symm⟩;have q:a.length=m:=by rw[bP]at h;simpa using h
 have i:=Fk fs k n v st w m a q;unfold iZ at i |-
 have l:eI (a++[r]).length=eI a.length++[.int (a.length:Int)]:=by
  unfold eI;rw[bP,pB,aDg,cX];rfl
 have b:L2.atI (a++[r]) (a.length:Int)=some r:=L2.gK (by rw[eD (aM _),Nat.sub_self];rfl)
 have o:(eI a.length).filter (uV fs k n v st (a++[r]) w)=(eI a.length).filter (uV fs k n v st a w):=sL λx f=>by
  obtain⟨j,d,rfl⟩:=aS.mp f;show(match L2.atI (a++[r]) (j:Int)with | some r=>decide (jW fs k n v st r.1=w) | none=>false)=match L2.atI a (j:Int)with | some r=>decide (jW fs k n v st r.1=w) | none=>false
  rw[QL (by simpa using d)]
 have p:((eI a.length).filter (uV fs k n v st a w)).map (DK (a++[r]))=((eI a.length).filter (uV fs k n v st a w)).map (DK a):=jI λx f=>by
  obtain⟨j,d,rfl⟩:=aS.mp (cH.mp f).1;show(match L2.atI (a++[r]) (j:Int)with | some r=>dE r | none=>.none)=match L2.atI a (j:Int)with | some r=>dE r | none=>.none
  rw[QL (by simpa using d)]
 have g:uV fs k n v st (a++[r]) w (.int (a.length:Int))=decide (jW fs k n v st r.1=w):=by
  show(match L2.atI (a++[r]) (a.length:Int)with | some r=>decide (jW fs k n v st r.1=w) | none=>false)=_;rw[b]
 have s:DK (a++[r]) (.int (a.length:Int))=dE r:=by
  show(match L2.atI (a++[r]) (a.length:Int)with | some r=>dE r | none=>.none)=_;rw[b]
 rw[l,jQ,cX,o,p,i,jQ,cX];congr 1;by_cases c:jW fs k n v st r.1=w
 ·rw[fA,a9 (by rw[g];exact b7 c),fA,a9 (b7 c)];show[DK (a++[r]) (.int (a.length:Int))]=[dE r];rw[s]
 ·rw[fA,a8 (by rw[g,b9 c];decide),fA,a8 (by rw[b9 c];decide)]
  rfl
def Us:pU:=λa Q=>∃(fs:List (Str×List Str))(k n v st w:Str)(rs:List (List D×Str)),a=[.list (rs.map dE),.list (iZ fs k n v st rs w)]/\rs.length<=60/\Q (.list ((rs.filter λr=>decide (jW fs k n v st r.1=w)).map dE))
def CP{fs}(F:gZ fs an){k n v st:Str}(c:TU fs (.tuple [.str k,.str n,.str v])=true)(b:st="yes"\/st="no"){rs:List (List D×Str)}(a:gW fs an rs):(rs.filter λr=>decide (jW fs k n v st r.1="no"))=rs.filter λr=>!Gg fs k n v st r:=sL λr d=>by
 unfold Gg;rcases aAr F c b (a r d).1 with e | e
 ·rw[e];decide +kernel
 ·rw[e];decide +kernel
def Wf:pU:=λa Q=>∃(fs:List (Str×List Str))(an:List Str)(rs:List (List D×Str)),a=[fJ fs an,.list (rs.map dE)]/\gZ fs an/\gW fs an rs/\rs.length<=60/\Q (.list ((jD an rs).map bM))
abbrev Fs:=List (Str×List Str)
abbrev Qn:=Str×Str×Str
abbrev Ch:=Qn×Str
noncomputable def qD(q:Qn):D:=.tuple [.str q.1,.str q.2.1,.str q.2.2]
noncomputable def tq(d:D):Qn:=match d with | .tuple [.str k,.str n,.str v]=>(k,n,v) | _=>("","","")
noncomputable def qs(fs:Fs):List Qn:=(fY fs).map tq
def CL(fs:Fs):(qs fs).map qD=fY fs:=by
 unfold qs;rw[bD]
 have:∀d∈fY fs,(qD∘tq) d=id d:=λd hd=>by
  obtain⟨f,b,⟨z,a,rfl⟩ | ⟨z,a,c,rfl⟩⟩:=EX hd<;>rfl
 rw[jI this,xL]
def HQ{fs}{q:Qn}(h:q∈qs fs):TU fs (.tuple [.str q.1,.str q.2.1,.str q.2.2])=true:=by
 have:qD q∈(qs fs).map qD:=aS.mpr ⟨q,h,Db⟩;rw[CL]at this;exact N3 this
noncomputable def uE(q:Qn):List Ch:=[(q,"yes"),(q,"no")]
noncomputable def IP(fs:Fs):List Ch:=(qs fs).flatMap uE
def N2{fs}{c:Ch}(h:c∈IP fs):c.1∈qs fs/\(c.2="yes"\/c.2="no"):=by
 obtain⟨q,b,a⟩:=List.mem_flatMap.mp h;simp only[uE,aK,bR,e9]at a;rcases a with rfl | rfl
 ·exact⟨b,.inl Db⟩
 ·exact⟨b,.inr Db⟩
def IN(fs:Fs):(IP fs).length=2*(fY fs).length:=by
 unfold IP qs
 generalize (fY fs)=l
 induction l with
 |nil=>rfl
 |cons x l a=>
  rw[bS,Y9,bP,a];show 2+_=2*(l.length+1);lia
noncomputable def Dv(fs:Fs)(c:Ch)(r:Rw):Bool:=Gg fs c.1.1 c.1.2.1 c.1.2.2 c.2 r
noncomputable abbrev yR(fs:Fs)(c:Ch)(R:List Rw):List Rw:=R.filter (Dv fs c)
noncomputable abbrev nR(fs:Fs)(c:Ch)(R:List Rw):List Rw:=R.filter λr=>!Dv fs c r
noncomputable def Dz(c:Ch):D:=.tuple [qD c.1,.str c.2]
def Ui:pU:=λa Q=>∃(fs:Fs)(an:List Str),a=[fJ fs an]/\gZ fs an/\Q (.list ((IP fs).map Dz))
def We:pU:=λa Q=>∃(fs:Fs)(an:List Str),a=[fJ fs an]/\gZ fs an/\Q (.list ((qs fs).map qD))
def UW{i:Int}(b:-999999999999<=i)(c:i<=999999999999){m:Nat}:Th 0 m (.int i):=by
 have a:i.natAbs<10^12:=by lia
 refine⟨aM _,?_,?_,Db,cD _,Db⟩
 ·have:=PyData.shown_int_le a;show decide ((PyData.shown (.int i)).length<=110)=true;exact b7 Cw
 ·show decide (i.natAbs.log2<1920)=true;refine b7 ?_;by_cases e:i.natAbs=0
  ·rw[e];decide
  ·refine(aPx e).mpr (bT a ?_);exact bL (show 10^12<=2^40 by decide) (mO Da Da)
def Za{n:Nat}(h:n<=999999999999){m:Nat}:Th 0 m (.int (n:Nat)):=UW Cw Cw
noncomputable def low(a b:Nat):Nat×Nat:=(a / a.gcd b,b / a.gcd b)
noncomputable def FL(x:Nat×Nat):D:=.tuple [.int (x.1:Nat),.int (x.2:Nat)]
noncomputable def wM(R:List Rw):Nat×Nat:=low (B1 R R) (max 1 R.length)
noncomputable def Fp(x y:Nat×Nat):Nat×Nat:=low (x.1*y.2+y.1*x.2) (x.2*y.2)
noncomputable def dC(fs:Fs)(R:List Rw)(c:Ch):Nat×Nat:=Fp (wM (yR fs c R)) (wM (nR fs c R))
noncomputable def okC(fs:Fs)(R:List Rw)(m:Int)(c:Ch):Bool:=decide (m<=((yR fs c R).length:Int))&&decide (m<=((nR fs c R).length:Int))
noncomputable def iA(fs:Fs)(R:List Rw)(m:Int):List Ch:=(IP fs).filter (okC fs R m)
noncomputable def N0(fs:Fs)(R:List Rw)(c:Ch):D:=.tuple [qD c.1,.str c.2,FL (dC fs R c)]
noncomputable def yI(l:List (Nat×Nat)):Nat:=l.foldl (λc x=>c.lcm x.2) 1
noncomputable def R4(B:Nat)(x:Nat×Nat):Int:=(x.1:Int)*((B:Int) / (x.2:Int))
noncomputable def TV(fs:Fs)(R:List Rw)(m:Int):List (Nat×Nat):=(iA fs R m).map (dC fs R)
noncomputable def D5(fs:Fs)(R:List Rw)(m:Int):List Int:=(TV fs R m).map (R4 (yI (TV fs R m)))
noncomputable def ER(fs:Fs)(R:List Rw)(m:Int):List D:=(iA fs R m).map (N0 fs R)
def Er(fs:Fs)(R:List Rw)(m:Int)(J:List Nat):Prop:=SS.JK (iA fs R m).length (λi=>(D5 fs R m).getD i 0) J
noncomputable def Hg(fs:Fs)(R:List Rw)(m:Int)(J:List Nat):List D:=J.map λi=>(ER fs R m).getD i .none
def CT{a b:Nat}(h:0<b):0<(low a b).2:=Nat.div_pos (aI7 h (CG a b)) (tX a h)
def W9(a b:Nat):(low a b).1<=a/\(low a b).2<=b:=⟨aFf _ _,aFf _ _⟩
structure Sml(x:Nat×Nat)(a b:Nat):Prop where
 top:x.1<=a
 pos:0<x.2
 bot:x.2<=b
def AE{R:List Rw}(h:R.length<=60):Sml (wM R) 3600 60:=by
 have a:=W9 (B1 R R) (max 1 R.length);have b:=M4 R R;have c:R.length*R.length<=60*60:=mP h h;exact⟨by show(low _ _).1<=_;lia,CT Cw,by show(low _ _).2<=_;lia⟩
def OQ{x y:Nat×Nat}(a:Sml x 3600 60)(b:Sml y 3600 60):x.1*y.2+y.1*x.2<=432000/\x.2*y.2<=3600/\0<x.2*y.2:=by
 have c:x.1*y.2<=3600*60:=mP a.top b.bot;have d:y.1*x.2<=3600*60:=mP b.top a.bot;have e:x.2*y.2<=60*60:=mP a.bot b.bot;exact⟨Cw,Cw,sM a.pos b.pos⟩
def U8{x}(e:Sml x 3600 60)(f:Sml y 3600 60):Sml (Fp x y) 432000 3600:=by
 obtain⟨b,c,d⟩:=OQ e f;have a:=W9 (x.1*y.2+y.1*x.2) (x.2*y.2);exact⟨bL a.1 b,CT d,bL a.2 c⟩
def A5{fs}{R:List Rw}(h:R.length<=60)(c:Ch):Sml (dC fs R c) 432000 3600:=
 U8 (AE (bL (bY _ _) h)) (AE (bL (bY _ _) h))
theorem LV:∀(l:List (Nat×Nat))(c:Nat),c ∣ l.foldl (λc x=>c.lcm x.2) c/\∀x∈l,x.2 ∣ l.foldl (λc x=>c.lcm x.2) c
|[],c=>⟨Nat.dvd_refl _,λx hx=>by cases hx⟩
|y::l,c=>by
 obtain⟨a,b⟩:=LV l (c.lcm y.2);refine⟨aI8 (Nat.dvd_lcm_left _ _) a,λx hx=>?_⟩;rcases aK.mp hx with rfl | hx
 ·exact aI8 (Nat.dvd_lcm_right _ _) a
 ·exact b x hx
theorem LU:∀(l:List (Nat×Nat))(c:Nat),0<c->(∀x∈l,0<x.2)->0<l.foldl (λc x=>c.lcm x.2) c
|[],c,h,_=>h
|y::l,c,h,g=>LU l _ (Nat.lcm_pos h (g y (aN ..))) λx a=>g x (aJ _ a)
def LA{B:Nat}{x:Nat×Nat}:R4 B x=((x.1*(B / x.2):Nat):Int):=by
 unfold R4;rw[fP,uI]
def aB1{B:Nat}{x y:Nat×Nat}(l:0<B)(m:x.2 ∣ B)(n:y.2 ∣ B)(f:0<x.2)(g:0<y.2):R4 B x<R4 B y↔x.1*y.2<y.1*x.2:=by
 rw[LA,LA,aPb];obtain⟨a,e⟩:=m;obtain⟨b,hb⟩:=n;have i:B / x.2=a:=by rw[e];exact MD a f
 have j:B / y.2=b:=by rw[hb];exact MD b g
 rw[i,j];have c:x.1*a*(x.2*y.2)=B*(x.1*y.2):=by rw[e];simp only[eX,fG,dO]
 have d:y.1*b*(x.2*y.2)=B*(y.1*x.2):=by rw[hb];simp only[eX,fG,dO]
 have k:0<x.2*y.2:=sM f g;constructor
 ·intro h;have:=gR h k;rw[c,d]at this;exact Nat.lt_of_mul_lt_mul_left this
 ·intro h;have:=Nat.mul_lt_mul_of_pos_left h l;rw[<- c,<- d]at this;exact jT this
def YS{fs}(F:gZ fs an)(R:List Rw)(m:Int):(iA fs R m).length<=100:=by
 have c:=nA F fs λg b=>b;have a:=bY (okC fs R m) (IP fs);rw[IN]at a;have n5:=F.n5;show((IP fs).filter _).length<=_;lia
def XQ(fs:Fs)(R:List Rw)(m:Int):(D5 fs R m).length=(iA fs R m).length:=by unfold D5 TV;rw[aC,aC]
def vE(fs:Fs)(R:List Rw)(m:Int):(ER fs R m).length=(iA fs R m).length:=by unfold ER;rw[aC]
def IB{fs}{m:Int}{i:Nat}(h:i<(iA fs R m).length):(D5 fs R m).getD i 0=R4 (yI (TV fs R m)) (dC fs R (iA fs R m)[i]):=by
 unfold D5;rw[dH,aO];unfold TV;rw[aO,aG h];rfl
def QB{fs}{m:Int}{i:Nat}(h:i<(iA fs R m).length):(ER fs R m).getD i .none=N0 fs R (iA fs R m)[i]:=by
 unfold ER;rw[dH,aO,aG h];rfl
def Xc{fs}{R:List Rw}{m:Int}(a:R.length<=60){i j:Nat}(b:i<(iA fs R m).length)(d:j<(iA fs R m).length) :
  (D5 fs R m).getD i 0<(D5 fs R m).getD j 0↔(dC fs R (iA fs R m)[i]).1*(dC fs R (iA fs R m)[j]).2<(dC fs R (iA fs R m)[j]).1*(dC fs R (iA fs R m)[i]).2:=by
 rw[IB b,IB d]
 have e:∀x∈TV fs R m,0<x.2:=λx f=>by
  obtain⟨c,_,rfl⟩:=aS.mp f;exact(A5 a c).pos
 have hd:=(LV (TV fs R m) 1).2;exact aB1 (LU _ _ Cv e) (hd _ (TC (jO b))) (hd _ (TC (jO d))) (A5 a _).pos (A5 a _).pos
theorem GG:∀(n:Nat)(J:List Nat),J.Nodup->(∀i∈J,i<n)->J.length<=n
|0,J,_,h=>by
 cases J with
 |nil=>exact aM _
 |cons j J=>exact c7 (h j (aN ..)) (FV _)
|n+1,J,nd,h=>by
 have e:=GG n (J.filter (· != n)) (nd.filter _) λi c=>by
  obtain⟨a,b⟩:=cH.mp c;have:=h i a;have d:i≠n:=by simpa using b
  lia
 have f:J.length=(J.filter (· != n)).length+J.count n:=by
  rw[List.count,<- FG,BT (p:=λx=>x != n)];congr 1;apply List.countP_congr;intro x _;simp
 have g:=List.nodup_iff_count.mp nd n;lia
def Q5{n:Nat}{k:Nat->Int}{J:List Nat}(h:SS.JK n k J):J.Nodup:=h.ord.imp λ{a b} q z=>by
 subst z;lia
def aAi{n:Nat}{k:Nat->Int}(h:SS.JK n k J){i:Nat}(a:i<n):i∈J:=by
 by_cases e:i∈J
 ·exact e
 ·have:=GG n (i::J) (kE.mpr ⟨e,Q5 h⟩) λx hx=>by
   rcases aK.mp hx with rfl | hx
   ·exact a
   ·exact h.lt x hx
  rw[dQ,h.len]at this;lia
def Uq:pU:=λb Q=>∃(a bs:List D)(m:Int),b=[.tuple [.list a,.list bs],.int m]/\Q (.bool (decide (m<=(a.length:Int))&&decide (m<=(bs.length:Int))))
def Ud:pU:=λa Q=>∃x y:Nat×Nat,a=[FL x,FL y]/\Sml x 3600 60/\Sml y 3600 60/\Q (FL (Fp x y))
def Uf:pU:=λa Q=>∃l:List (Nat×Nat),a=[.list (l.map FL)]/\(∀x∈l,0<x.2/\x.2<=1000000)/\Q (.int (yI l:Nat))
def Ur:QM:=λa Q=>∃(fs:Fs)(an:List Str)(rs:List Rw)(m:Int),a=[fJ fs an,.list (rs.map dE),.int m]/\gZ fs an/\gW fs an rs/\rs.length<=60/\∀J,Er fs rs m J->Q (Hg fs rs m J)
def RA:∀(l:List Sl)(a b c x y z:Sl),((((((l.set 0 a).set 1 b).set 2 c).set 0 x).set 1 y).set 2 z)=((l.set 0 x).set 1 y).set 2 z
|[],_,_,_,_,_,_=>rfl
|[_],_,_,_,_,_,_=>rfl
|[_,_],_,_,_,_,_,_=>rfl
|_::_::_::_,_,_,_,_,_,_=>rfl
def aBx{i:ET}{Q:D->Prop}{ts:List D}(g:tU ti σ ts)(f:D->D)(r:ts.length<=100000)(n:∀x∈ts,∃a b c,x=.tuple [a,b,c])(p:∀(a b c:D)(q:D->Prop),.tuple [a,b,c]∈ts->q (f (.tuple [a,b,c]))->i ((((jS fr σ).set 0 (.val a)).set 1 (.val b)).set 2 (.val c)) q)(o:Q (.list (ts.map f))):QC fr ti (Gm 0 1 2) BQ i σ Q:=by
 refine g _ ⟨r,λk d e=>(∀x y z,((d.set 0 (.val x)).set 1 (.val y)).set 2 (.val z)=(((jS fr σ).set 0 (.val x)).set 1 (.val y)).set 2 (.val z))/\e=(ts.take k).map f,⟨λ_ _ _=>rfl,Db⟩,λk x d e l h=>?_,λd e h=>?_⟩
 ·obtain⟨m,rfl⟩:=h;have j:x∈ts:=bB l;obtain⟨a,b,c,rfl⟩:=n x j;refine⟨a,b,c,Db,?_⟩;show i (((d.set 0 (.val a)).set 1 (.val b)).set 2 (.val c)) _;rw[m a b c];refine p a b c _ j ⟨λx y z=>RA _ _ _ _ _ _ _,?_⟩;rw[dG,l,cX];rfl
 ·obtain⟨_,rfl⟩:=h;rw[eU];exact o
noncomputable def lD(x y:Nat×Nat):Bool:=decide (x.1*y.2<y.1*x.2)
noncomputable def lW(fs:Fs)(R:List Rw)(b x:Ch):Ch:=if lD (dC fs R x) (dC fs R b)=true then x else b
noncomputable def Dk(fs:Fs)(R:List Rw):List Ch->Option Ch
|[]=>none
|c::l=>some (l.foldl (lW fs R) c)
noncomputable def mU(fs:Fs)(R:List Rw)(m:Int):Option Ch:=(Dk fs R (iA fs R m)).filter λc=>lD (dC fs R c) (wM R)
noncomputable def Jj(fs:Fs)(R:List Rw):Option Ch->D
|some c=>N0 fs R c
|none=>.none
def Ga(k:Nat->Int)(n p:Nat):Prop:=p<n/\(∀q,q<n->k p<=k q)/\∀q,q<p->k p<k q
def XT{k:Nat->Int}{n p q:Nat}(c:Ga k n p)(d:Ga k n q):p=q:=by
 rcases oK p q with z | z | z
 ·have a:=d.2.2 p z;have b:=c.2.1 q d.1;lia
 ·exact z
 ·have a:=c.2.2 q z;have b:=d.2.1 p c.1;lia
def U9{n:Nat}{k:Nat->Int}{i:Nat}(h:SS.JK n k (i::J)):Ga k n i:=by
 obtain⟨c,a2⟩:=List.pairwise_cons.mp h.ord
 have lo:∀q,q<n->q≠i->k i<k q\/(k i=k q/\i<q):=λq a b=>by
  rcases aK.mp (aAi h a)with z | z
  ·exact c7 z b
  ·exact c q z
 refine⟨h.lt i (aN ..),λq a=>?_,λq a=>?_⟩
 ·by_cases e:q=i
  ·rw[e];exact nQ _
  ·have:=lo q a e;lia
 ·have d:=h.lt i (aN ..);have:=lo q Cw Cw;lia
theorem YT{fs}{R:List Rw}(h:R.length<=60)(m:Int):∀(n:Nat)(b:n<(iA fs R m).length),∃p,∃g:p<(iA fs R m).length,Ga (λi=>(D5 fs R m).getD i 0) (n+1) p/\(((iA fs R m).drop 1).take n).foldl (lW fs R) ((iA fs R m)[0]' Cw)=(iA fs R m)[p]
|0,b=>⟨0,Cw,⟨Cw,λq d=>by rw[show q=0 by lia];exact nQ _,λq d=>by lia⟩,by rw[aFg];rfl⟩
|n+1,b=>by
 obtain⟨p,g,⟨s,f,l⟩,o⟩:=YT h m n (Nat.lt_of_succ_lt b)
 have k:((iA fs R m).drop 1).take (n+1)=((iA fs R m).drop 1).take n++[(iA fs R m)[n+1]]:=by
  rw[dG,nH,Nat.add_comm 1 n,aG b];rfl
 have j:=Xc (fs:=fs) (m:=m) h b g
 have a:(((iA fs R m).drop 1).take (n+1)).foldl (lW fs R) ((iA fs R m)[0]' Cw)=lW fs R (iA fs R m)[p] (iA fs R m)[n+1]:=by
  rw[k,BU,o];rfl
 unfold lW lD at a;by_cases c:(dC fs R (iA fs R m)[n+1]).1*(dC fs R (iA fs R m)[p]).2<(dC fs R (iA fs R m)[p]).1*(dC fs R (iA fs R m)[n+1]).2
 ·rw[a9 (b7 c)]at a;have r:=j.mpr c;refine⟨n+1,b,⟨Cw,λq d=>?_,λq d=>?_⟩,a⟩
  ·by_cases e:q=n+1
   ·rw[e];exact nQ _
   ·have:=f q Cw;dsimp only at this |-
    lia
  ·have:=f q Cw;dsimp only at this |-
   lia
 ·rw[a8 (by rw[b9 c];decide)]at a;have r:¬(D5 fs R m).getD (n+1) 0<(D5 fs R m).getD p 0:=λz=>c (j.mp z);refine⟨p,g,⟨Cw,λq d=>?_,l⟩,a⟩;by_cases e:q=n+1
  ·rw[e];dsimp only;lia
  ·exact f q Cw
def YU{fs}{R:List Rw}(n:R.length<=60){m:Int}{i:Nat}(h:Er fs R m (i::J)):Dk fs R (iA fs R m)=some ((iA fs R m)[i]'(h.lt i (aN ..))):=by
 have o:=h.lt i (aN ..);have c:0<(iA fs R m).length:=by lia
 obtain⟨p,q,f,d⟩:=YT n m ((iA fs R m).length-1) (Nat.sub_lt c Nat.one_pos);rw[Nat.sub_add_cancel c]at f;have e:=XT f (U9 h);subst e;have g:((iA fs R m).drop 1).take ((iA fs R m).length-1)=(iA fs R m).drop 1:=fS (by rw[dP];exact aM _);rw[g]at d
 obtain⟨a,l,b⟩:∃a l,iA fs R m=a::l:=by
  cases b:iA fs R m with
  |nil=>rw[b]at c;cases c
  |cons a l=>exact⟨a,l,Db⟩
 have j:(iA fs R m)[0]=a:=by simp[b]
 have k:(iA fs R m).drop 1=l:=by rw[b];rfl
 rw[j,k]at d;have hb:Dk fs R (iA fs R m)=some (l.foldl (lW fs R) a):=by rw[b];rfl
 rw[hb,d]
def aC1{fs}{m:Int}(h:Er fs R m []):Dk fs R (iA fs R m)=none:=by
 have:(iA fs R m).length=0:=by have:=h.len;simpa using this.symm
 rw[uC.mp this];rfl
def G0{fs}{m:Int}(h:mU fs R m=some c):c∈iA fs R m:=by
 unfold mU at h;have f:=Option.filter_eq_some_iff.mp h;have b:=f.1
 cases d:iA fs R m with
 |nil=>rw[d]at b;cases b
 |cons a l=>
  rw[d]at b;have e:l.foldl (lW fs R) a=c:=c8 b
  have:∀(l:List Ch)(a:Ch),l.foldl (lW fs R) a∈a::l:=by
   intro l
   induction l with
   |nil=>intro a;exact aN ..
   |cons x l g=>
    intro a;rw[jE];rcases aK.mp (g (lW fs R a x))with z | z
    ·rw[z];unfold lW;split
     ·exact aJ _ (aN ..)
     ·exact aN ..
    ·exact aJ _ (aJ _ z)
  rw[<- e];exact this l a
def Ue:pU:=λa Q=>∃x y:Nat×Nat,a=[FL x,FL y]/\x.1<=1000000/\y.1<=1000000/\Q (.bool (lD x y))
def Ut:pU:=λa Q=>∃(fs:Fs)(an:List Str)(rs:List Rw)(m:Int),a=[fJ fs an,.list (rs.map dE),.int m]/\gZ fs an/\gW fs an rs/\rs.length<=60/\Q (Jj fs rs (mU fs rs m))
def Gr(fs:Fs)(an:List Str)(m:Int):Nat->List Rw->Tr->Prop
|0,R,t=>∃a,E6 an R a/\t=.say a
|d+1,R,t=>match mU fs R m with
 |none=>∃a,E6 an R a/\t=.say a
 |some c=>∃y n,Gr fs an m d (yR fs c R) y/\Gr fs an m d (nR fs c R) n/\t=.ask c.1.1 c.1.2.1 c.1.2.2 c.2 y n
def LM{R S:List Rw}(h:R.Perm S)(z:Str):yF R z=yF S z:=h.countP_eq _
def V8{R S:List Rw}(h:R.Perm S):B1 R R=B1 S S:=by
 unfold B1;have e:(λr:Rw=>R.countP λo=>decide (o.2≠r.2))=λr:Rw=>S.countP λo=>decide (o.2≠r.2):=funext λr=>h.countP_eq _;rw[e];exact(h.map _).sum_nat
def EV{R S:List Rw}(h:R.Perm S):wM R=wM S:=by unfold wM;rw[V8 h,h.length_eq]
def SW{fs}{R S:List Rw}(h:R.Perm S)(m:Int):mU fs R m=mU fs S m:=by
 have a:dC fs R=dC fs S:=funext λc=>by unfold dC;rw[EV (h.filter _),EV (h.filter (λr=>!Dv fs c r))]
 have d:okC fs R m=okC fs S m:=funext λc=>by unfold okC;rw[(h.filter (Dv fs c)).length_eq,(h.filter (λr=>!Dv fs c r)).length_eq]
 have e:lW fs R=lW fs S:=funext λb=>funext λx=>by unfold lW;rw[a]
 have f:∀l,Dk fs R l=Dk fs S l:=λl=>by cases l<;>simp only[Dk,e]
 unfold mU iA;rw[d,f,a,EV h]
def EF{R S:List Rw}(h:R.Perm S)(e:E6 an R a)(f:E6 an S b):a=b:=by
 obtain⟨k,d,m1,g⟩:=e;obtain⟨j,c,l,i⟩:=f;have m:=LM h a;have n:=LM h b;rcases oK k j with q | rfl | q
 ·have x:=i k a q d;have y:=m1 j b c;lia
 ·rw[d]at c;cases c;rfl
 ·have x:=g j b q c;have y:=l k a d;lia
theorem IG{fs}{m:Int}:∀(d:Nat){R S:List Rw}{t u},R.Perm S->Gr fs an m d R t->Gr fs an m d S u->t=u
|0,R,S,t,u,h,⟨a,f,i⟩,⟨b,g,j⟩=>by rw[i,j,EF h f g]
|d+1,R,S,t,u,h,f,g=>by
 unfold Gr at f g;rw[SW h]at f
 cases e:mU fs S m with
 |none=>
  rw[e]at f g;obtain⟨a,f,i⟩:=f;obtain⟨b,g,j⟩:=g;rw[i,j,EF h f g]
 |some c=>
  rw[e]at f g;obtain⟨p,n1,k,l,rfl⟩:=f;obtain⟨q,o,a2,n,rfl⟩:=g;rw[IG d (h.filter _) k a2,IG d (h.filter _) l n]
theorem LE{fs}{m:Int}:∀(d:Nat){R}{t:Tr},Gr fs an m d R t->A8 fs an t/\t.dep<=d
|0,R,t,h=>by
 obtain⟨a,⟨k,e,_⟩,rfl⟩:=h;exact⟨bB e,aM _⟩
|d+1,R,t,h=>by
 unfold Gr at h
 cases e:mU fs R m with
 |none=>
  rw[e]at h;obtain⟨a,⟨k,e,_⟩,rfl⟩:=h;exact⟨bB e,cD _⟩
 |some c=>
  rw[e]at h;obtain⟨y,n,g,i,rfl⟩:=h;obtain⟨b,a2⟩:=LE d g;obtain⟨f,o⟩:=LE d i;obtain⟨j,l⟩:=N2 (cH.mp (G0 e)).1;exact⟨⟨HQ j,l,b,f⟩,by show max y.dep n.dep+1<=d+1;lia⟩
def uQ(a:Nat):pU:=λb Q=>∃(fs:Fs)(an:List Str)(rs:List Rw)(d:Nat)(m:Int),b=[fJ fs an,.list (rs.map dE),.int d,.int m]/\gZ fs an/\gW fs an rs/\rs.length<=60/\d<a/\∀t,Gr fs an m d rs t->Q (jJ t)
def Uu:pU:=uQ 7
def W4{Q:D->Prop}(h:uQ 0 ds Q):False:=by
 obtain⟨fs,an,rs,d,m,e,F,a,b,c,h⟩:=h;lia
noncomputable def qQ(fs:List (Str×List Str))(an:List Str)(d:D):Bool:=match d with | .tuple [c,a]=>jL fs c&&vA an a | _=>false
def Ve:pU:=λa Q=>∃(fs:List (Str×List Str))(an:List Str)(d:D),a=[fJ fs an,d]/\gZ fs an/\Cd d/\Q (.bool (jL fs d))
def Vf:pU:=λa Q=>∃(fs:List (Str×List Str))(an:List Str)(d:D),a=[fJ fs an,d]/\gZ fs an/\Cd d/\Q (.bool (qQ fs an d))
noncomputable def Gi:D->Bool
|.tuple [.tuple [_,.tuple vs],v]=>R8 v (.tuple (vs++[.none]))
|_=>false
def aBn(fs:List (Str×List Str))(a:List D):((qJ (fs.map lI) a).map Gi).all id=(fs.zip a).all λp=>L8 p.1 p.2:=by
 unfold qJ;rw[bD,aI9,List.zip_map_left,aI9];apply h9 (λg=>List.all (fs.zip a) g);funext p;exact NX p.1 p.2
noncomputable def oB(a:List Str):D:=.tuple (a.map aR)
noncomputable def Du(x:List Str):List Str:="yes"::x
noncomputable def Ee(x:List Str):List Str:="no"::x
noncomputable def B3:Tr->Tr->List (List Str)
|.say a,.say b=>if a=b then[]else[[]]
|.say _,.ask _ _ _ _ _ _=>[[]]
|.ask _ _ _ _ _ _,.say _=>[[]]
|.ask k n v s y m,.ask k' n' v' s' y' m'=>if k=k'/\n=n'/\v=v'/\s=s' then(B3 y y').map Du++(B3 m m').map Ee else[[]]
noncomputable def LD:Tr->Tr->Bool
|.ask k n v s _ _,.ask k' n' v' s' _ _=>decide (k=k'/\n=n'/\v=v'/\s=s')
|_,_=>false
def YQ(h:LD t u=false):(t=u->B3 t u=[])/\(t≠u->B3 t u=[[]]):=by
 cases t with
 |say a=>
  cases u with
  |say b=>
   refine⟨λe=>?_,λe=>?_⟩
   ·cases e;exact a9 Db
   ·exact a8 λz=>e (by rw[z])
  |ask k n v s y m=>exact⟨(λe=>nomatch e),λ_=>rfl⟩
 |ask k n v s y m=>
  cases u with
  |say b=>exact⟨(λe=>nomatch e),λ_=>rfl⟩
  |ask d g j i l f=>
   have c:=j9 h;refine⟨λe=>?_,λ_=>a8 c⟩;cases e;exact c7 ⟨Db,Db,Db,Db⟩ c
def QI{k}:B3 (.ask k n v s y m) (.ask k n v s y' m')=(B3 y y').map Du++(B3 m m').map Ee:=a9 ⟨Db,Db,Db,Db⟩
theorem qU:∀t u:Tr,(B3 t u).length<=t.nodes
|.say a,.say b=>by
 show(if a=b then[]else[[]]:List (List Str)).length<=1;split<;>simp
|.say _,.ask _ _ _ _ _ _=>aM 1
|.ask k n v s y m,.say _=>(Tr.ask k n v s y m).nodes_pos
|.ask k n v s y m,.ask k' n' v' s' y' m'=>by
 show(if k=k'/\n=n'/\v=v'/\s=s' then(B3 y y').map Du++(B3 m m').map Ee else[[]]).length<=y.nodes+m.nodes+1;have c:=qU y y';have d:=qU m m';split
 ·rw[bP,aC,aC];lia
 ·simp
theorem qV:∀(t u:Tr),∀p∈B3 t u,p.length<=t.dep
|.say a,.say b=>λp c=>by
 have hp':p∈(if a=b then[]else[[]]:List (List Str)):=c;split at hp'
 ·simp at hp'
 ·rw[aP.mp hp'];exact aM 0
|.say _,.ask _ _ _ _ _ _=>λp c=>by rw[aP.mp c];exact aM 0
|.ask k n v s y m,.say _=>λp c=>by rw[aP.mp c];exact cD _
|.ask k n v s y m,.ask k' n' v' s' y' m'=>λp c=>by
 have hp':p∈(if k=k'/\n=n'/\v=v'/\s=s' then(B3 y y').map Du++(B3 m m').map Ee else[[]]):=c;show p.length<=max y.dep m.dep+1;split at hp'
 ·rcases cC.mp hp' with hp' | hp'
  ·obtain⟨q,d,rfl⟩:=aS.mp hp';have:=qV y y' q d;show q.length+1<=_;lia
  ·obtain⟨q,d,rfl⟩:=aS.mp hp';have:=qV m m' q d;show q.length+1<=_;lia
 ·rw[aP.mp hp'];exact cD _
def RQ(t:Tr):t.nodes<=2*2^t.dep:=by
 rw[t.nodes_kn];have:=t.kn_dep;lia
def rW{t:Tr}(h:t.dep<=12):t.nodes<=8192:=by
 have a:=RQ t;have b:2^t.dep<=2^12:=mO Cv h;lia
def YG(k n v a b c:Str):bK (.tuple [.str k,.str n,.str v]) (.tuple [.str a,.str b,.str c])=decide (k=a/\n=b/\v=c):=by
 show((k==a)&&((n==b)&&((v==c)&&true)))=_;rw[eL];simp
theorem yD:∀t u:Tr,bK (jJ t) (jJ u)=true↔t=u
|.say a,.say b=>by
 show((("say":Str)=="say")&&((a==b)&&true))=true↔_;simp
|.say a,.ask k n v s y m=>by
 refine⟨λh=>?_,λh=>nomatch h⟩;have g:((("say":Str)=="ask")&&((bK (.str a) (.tuple [.str k,.str n,.str v]))&&false))=true:=h;rw[show(("say":Str)=="ask")=false by decide +kernel]at g;cases g
|.ask k n v s y m,.say a=>by
 refine⟨λh=>?_,λh=>nomatch h⟩;have g:((("ask":Str)=="say")&&((bK (.tuple [.str k,.str n,.str v]) (.str a))&&false))=true:=h;rw[show(("ask":Str)=="say")=false by decide +kernel]at g;cases g
|.ask k n v s y m,.ask k' n' v' s' y' m'=>by
 show((("ask":Str)=="ask")&&(bK (.tuple [.str k,.str n,.str v]) (.tuple [.str k',.str n',.str v'])&&((s==s')&&(bK (jJ y) (jJ y')&&(bK (jJ m) (jJ m')&&true)))))=true↔_;rw[YG];simp only[dR,d0,ff,yD y y',yD m m',and_true,Tr.ask.injEq];exact⟨λ⟨_,⟨a,b,c⟩,d,e,f⟩=>⟨a,b,c,d,e,f⟩,λ⟨a,b,c,d,e,f⟩=>⟨trivial,⟨a,b,c⟩,d,e,f⟩⟩
def YH{k n v s a b d c:Str}:bK (.tuple [.str "ask",.tuple [.str k,.str n,.str v],.str s]) (.tuple [.str "ask",.tuple [.str a,.str b,.str d],.str c])=decide (k=a/\n=b/\v=d/\s=c):=by
 show((("ask":Str)=="ask")&&(bK (.tuple [.str k,.str n,.str v]) (.tuple [.str a,.str b,.str d])&&((s==c)&&true)))=_;rw[YG,eL];simp[and_assoc]
section
variable{fs:List (Str×List Str)}{an:List Str}
def LQ(F:gZ fs an){t:Tr}(h:A8 fs an t)(hd:t.dep<=40):Cd (jJ t):=(Hw F t h).cd Cw
def wB{x}(a:Cd x)(b:Cd y):RO x y:=⟨a.lay,b.lay,by have:=a.dep;lia⟩
def YR{z}(h:tJ z=true):Cd (.str z):=(iT h (n:=8) (m:=0) (aM _)).cd Cv
def KU{s:Str}(h:s="yes"\/s="no"):tJ s=true:=by
 rcases h with rfl | rfl
 ·exact WY
 ·exact Kn
def QJ(F:gZ fs an){k n v s:Str}(h:A8 fs an (.ask k n v s y m)):Cd (.tuple [.str "ask",.tuple [.str k,.str n,.str v],.str s]):=
 (rC 27 1 3 (iB (iT tI Cv) (iB (ZU F h.1) (iB (iT (KU h.2.1) Cv) pT))) (aM _) (aM _) (aM _)).cd Cv
end
def Pl(p:List Str):Prop:=p.length<=50000/\∀w∈p,w="yes"\/w="no"
def Wo:∀(t u:Tr),t.dep<=40->∀p∈B3 t u,Pl p:=λt u g p c=>by
 refine⟨by have:=qV t u p c;lia,?_⟩;clear g
 induction t generalizing u p with
 |say a=>
  cases u with
  |say b=>
   have hp':p∈(if a=b then[]else[[]]:List (List Str)):=c;split at hp'
   ·simp at hp'
   ·rw[aP.mp hp'];exactλw hw=>by simp at hw
  |ask k n v s y m=>rw[aP.mp (show p∈[[]]from c)];exactλw hw=>by simp at hw
 |ask k n v s y m e f=>
  cases u with
  |say b=>rw[aP.mp (show p∈[[]]from c)];exactλw hw=>by simp at hw
  |ask h j o l r i=>
   have hp':p∈(if k=h/\n=j/\v=o/\s=l then(B3 y r).map Du++(B3 m i).map Ee else[[]]):=c;split at hp'
   ·rcases cC.mp hp' with hp' | hp'
    ·obtain⟨q,d,rfl⟩:=aS.mp hp';intro w hw;rcases aK.mp (show w∈("yes":Str)::q from hw)with rfl | hw
     ·exact .inl Db
     ·exact e _ _ d w hw
    ·obtain⟨q,d,rfl⟩:=aS.mp hp';intro w hw;rcases aK.mp (show w∈("no":Str)::q from hw)with rfl | hw
     ·exact .inr Db
     ·exact f _ _ d w hw
   ·rw[aP.mp hp'];exactλw hw=>by simp at hw
def uP(a:Nat):QM:=λb Q=>∃(fs:List (Str×List Str))(an:List Str)(t u:Tr),b=[jJ t,jJ u]/\gZ fs an/\A8 fs an t/\A8 fs an u/\t.dep<a/\t.dep<=12/\u.dep<=12/\Q ((B3 t u).map oB)
def Uw:QM:=uP 13
def W3{Q:List D->Prop}(h:uP 0 ds Q):False:=by
 obtain⟨_,_,_,_,_,_,_,_,h,_⟩:=h;lia
def aAu{c:vF}{g u:yL}(R:Bool->Prop)(P:List Sl->Prop)(h:∀q:Bool->Prop,(∀b,R b->q b)->c σ q)(i:R true->∀d:vI,(∀a,P a->d.nx a)->g d σ)(hb:R false->P σ)(f:∀a,P a->u DT a):jA (Dd c g lM) u DT σ:=h _ λb e=>by
 cases b with
 |true=>exact i e { DT with nx:=u DT } f
 |false=>exact f _ (hb e)
def VG{e:ET}{d:List Sl}{i j l:Nat}(h:∀q:D->Prop,q (.tuple [a,b,c])->e d q)(k:u DT (((d.set i (.val a)).set j (.val b)).set l (.val c))):jA (Lq e (Gm i j l)) u DT d:=h _ ⟨a,b,c,Db,k⟩
noncomputable def jx(fs:List (Str×List Str))(n:Str):Nat:=(fs.map (·.1)).idxOf n
section
variable{fs:List (Str×List Str)}{an:List Str}
def Wy(F:gZ fs an){k n v:Str}(h:TU fs (.tuple [.str k,.str n,.str v])=true):∃f,fs[jx fs n]?=some f/\f∈fs/\f.1=n/\v∈f.2/\(k="is"\/k="upto"):=by
 obtain⟨f,b,a,e,d⟩:=zQ h;obtain⟨j,c⟩:=cT b;have:jx fs n=j:=by rw[<- a];exact CS F c
 exact⟨f,by rw[this];exact c,b,a,e,d.imp id λz=>z.1⟩
end
noncomputable def kY(a:List (Nat×Rw)):List (Int×D):=a.map λe=>((e.1:Int),dE e.2)
noncomputable def KS(a:List (Nat×Rw)):List D:=a.map λe=>.tuple [.int (e.1:Nat),dE e.2]
def Oq(C:Addr):JL (mB C):=λb n a Q=>∃T:Bk,b=lL T/\a=[lL T]/\Q n n.st
def Ot(C:Addr):JL (mB C):=λb n a Q=>∃(T:Bk)(j:Int)(d:D),b=lL T/\a=[lL T,.int j]/\oH n.kvs j=some d/\Q n .none
def Os(C:Addr):JL (mB C):=λb n a Q=>∃(fs:List (Str×List Str))(an:List Str)(T:Bk)(d:D),b=lL T/\a=[lL T,d]/\gZ fs an/\T.fm=fJ fs an/\Cd d/\qQ fs an d=true/\Q n .none
noncomputable def nV(k:Nat)(a:List (Nat×Rw)):List (Nat×Rw):=a.filter λe=>decide (e.1≠k)
noncomputable def tY(k:Nat)(r:Rw)(a:List (Nat×Rw)):List (Nat×Rw):=a.map λe=>if e.1=k then(e.1,r)else e
noncomputable def yC(k:Nat)(a:List (Nat×Rw)):Option Rw:=(a.find? λe=>decide (e.1=k)).map (·.2)
def LB{fs}(h:oZ fs an r):qQ fs an (dE r)=true:=by
 show(jL fs (.tuple r.1)&&vA an (.str r.2))=true;rw[h.1,show vA an (.str r.2)=true from b7 h.2];rfl
theorem NU{k:Nat}:∀(ks:List (Nat×Rw)),((kY ks).any λe=>decide (e.1=(k:Int)))=ks.any λe=>decide (e.1=k)
|[]=>rfl
|e::ks=>by
 show(decide ((e.1:Int)=(k:Int))||(kY ks).any _)=(decide (e.1=k)||ks.any _);rw[NU ks];congr 1;rw[eL,d0,d0];lia
def KG{k:Nat}(h:∀e∈ks,e.1≠k):BZ (kY ks) (k:Nat) (dE r)=kY (ks++[(k,r)]):=by
 unfold BZ
 rw[NU,a8 (by
  rw[uD];rintro⟨e,he,z⟩;exact h e he (b8 z))]
 unfold kY;rw[cX];rfl
def qS{k:Nat}:yC k ks=some r->oH (kY ks) (k:Nat)=some (dE r):=by
 unfold yC oH kY;rw[G5];intro h;obtain⟨e,b,rfl⟩:=dS.mp h
 have a:((λe:Int×D=>decide (e.1=(k:Int)))∘λe:Nat×Rw=>((e.1:Int),dE e.2))=λe:Nat×Rw=>decide (e.1=k):=by
  funext e;show decide ((e.1:Int)=(k:Int))=decide (e.1=k);rw[eL,d0,d0];lia
 rw[a,b];rfl
def zU{k:Nat}(h:yC k ks=some r):(k,r)∈ks:=by
 obtain⟨e,a,rfl⟩:=dS.mp h;have b:=List.mem_of_find?_eq_some a;have c:e.1=k:=b8 (List.find?_some (p:=λe:Nat×Rw=>decide (e.1=k)) a);rw[<- c];exact b
def KF{k:Nat}(h:yC k ks=some r):BZ (kY ks) (k:Nat) (dE r2)=kY (tY k r2 ks):=by
 unfold BZ;rw[NU,a9 (uD.mpr ⟨_,zU h,b7 Db⟩)];unfold kY tY;rw[bD,bD];apply jI;intro e _;show(if(e.1:Int)=(k:Int)then((e.1:Int),dE r2)else((e.1:Int),dE e.2))=(λe:Nat×Rw=>((e.1:Int),dE e.2)) (if e.1=k then(e.1,r2)else e);by_cases z:e.1=k
 ·rw[a9 z,a9 Cw]
 ·rw[a8 z,a8 Cw]
def LI(k:Nat)(a:List (Nat×Rw)):AB (kY a) (k:Nat)=kY (nV k a):=by
 unfold AB kY nV;rw[vR];congr 1;apply sL;intro e _;show decide ((e.1:Int)≠(k:Int))=decide (e.1≠k);rw[eL,d0,d0];lia
def F9{fs}{a:List (Nat×Rw)}{k:Nat}(h:gW fs an (a.map (·.2)))(b:oZ fs an r):gW fs an ((a++[(k,r)]).map (·.2)):=λx hx=>by
 rw[cX]at hx;rcases cC.mp hx with hx | hx
 ·exact h x hx
 ·rw[show x=r from aP.mp hx];exact b
def GA{fs}{a:List (Nat×Rw)}{k:Nat}(h:gW fs an (a.map (·.2))):gW fs an ((nV k a).map (·.2)):=λx c=>by
 obtain⟨e,b,rfl⟩:=aS.mp c;exact h _ (aS.mpr ⟨e,(cH.mp b).1,Db⟩)
def VQ{fs}{b:List (Nat×Rw)}{k:Nat}(h:gW fs an (b.map (·.2)))(f:oZ fs an r):gW fs an ((tY k r b).map (·.2)):=λx g=>by
 obtain⟨e,d,rfl⟩:=aS.mp g;obtain⟨a,c,rfl⟩:=aS.mp d;by_cases z:a.1=k
 ·rw[a9 z];exact f
 ·rw[a8 z];exact h _ (aS.mpr ⟨a,c,Db⟩)
noncomputable def xM(C:Addr):D:=.dict [(.int (C:Nat),.none)]
def Ol:pU:=λa Q=>∃(fs:Fs)(an:List Str)(d:Nat)(m:Int),a=[fJ fs an,.int (d:Nat),.int m]/\gZ fs an/\d<=6/\∀t,Gr fs an m d [] t->Q (jJ t)
def nW:Nat->D->Prop
|0,_=>False
|n+1,d=>(∃i:Int,d=.int i)\/(∃z,tJ z=true/\d=.str z)\/d=.none\/∃a:List D,(d=.tuple a\/d=.list a)/\a.length<=50000/\∀x∈a,nW n x
def uO(a:Nat):pU:=λb Q=>∃d:D,b=[d,d]/\nW a d/\Q (.bool true)
def Wd:pU:=uO 7
def W2{Q:D->Prop}(h:uO 0 ds Q):False:=by
 obtain⟨_,_,h,_⟩:=h;exact h
def Wc:pU:=λb Q=>∃(fs:List (Str×List Str))(an:List Str)(k n v s:Str)(a:List D),b=[fJ fs an,.tuple [.str "ask",.tuple [.str k,.str n,.str v],.str s],.tuple a]/\gZ fs an/\TU fs (.tuple [.str k,.str n,.str v])=true/\(s="yes"\/s="no")/\jL fs (.tuple a)=true/\Q (.str (jW fs k n v s a))
def Wi:pU:=λa Q=>∃(ns:List Int)(fs:List (Str×List Str))(an:List Str),a=[iU ns,fJ fs an]/\ns.length<=63/\gZ fs an/\∀r:Rw,oZ fs an r->Q (dE r)
def Qa{fs:List (Str×List Str)}{a:List D}(b:a.length=fs.length)(d:∀(k:Nat) f c,fs[k]?=some f->a[k]?=some c->L8 f c=true):jL fs (.tuple a)=true:=by
 show(decide (a.length=fs.length)&&(fs.zip a).all λp=>L8 p.1 p.2)=true;rw[b7 b,pL,gO];intro p i;obtain⟨k,h⟩:=cT i;obtain⟨e,g⟩:=fW.mp h;exact d k p.1 p.2 e g
def Wg:pU:=λa Q=>∃(fs:Fs)(an:List Str)(rs:List Rw),a=[fJ fs an,.list (rs.map dE)]/\gZ fs an/\gW fs an rs/\rs.length<=60/\Q (.int ((B1 rs rs:Nat):Int))
def Yc{fs}(F:gZ fs an){rs:List Rw}(h:gW fs an rs):(rs.length:Int)*(rs.length:Int)-((jD an rs).map λc=>c*c).sum=((B1 rs rs:Nat):Int):=by
 have e:∀r∈rs,r.2∈an:=λr j=>(h r j).2;have a:=O6 F.an.2.2 e;have d:=DD F.an.2.2 (λ_=>(rs.length:Int)) rs e
 have f:∀l:List Rw,(l.map λ_=>(rs.length:Int)).sum=(l.length:Int)*(rs.length:Int):=λl=>by
  induction l with
  |nil=>simp
  |cons x l b=>rw[bS,gE,b,dQ,mD,TH];show _=_+1*_;lia
 have g:∀l:List Int,(l.map λc=>c*((rs.length:Int)-c)).sum=(l.map λc=>c*(rs.length:Int)).sum-(l.map λc=>c*c).sum:=λl=>by
  induction l with
  |nil=>rfl
  |cons x l b=>simp only[bS,gE];rw[b,Int.mul_sub];lia
 rw[f]at d;rw[g]at a
 have i:((jD an rs).map λc=>c*(rs.length:Int)).sum=(rs.length:Int)*(rs.length:Int):=by
  unfold jD;rw[bD];exact d
 rw[i]at a;exact a
noncomputable def Ij(x:D):D:=match x with | .int c=>.int (c*c) | _=>.none
def uN(a:Nat):pU:=λb Q=>∃(fs:Fs)(an:List Str)(rs:List Rw)(d:Nat)(m:Int),b=[fJ fs an,.list (rs.map dE),.int d,.int m]/\gZ fs an/\gW fs an rs/\rs.length<=60/\d<a/\1<=m/\∀t,Gr fs an m d rs t->Q (jJ t)
def Wh:pU:=uN 7
def W1{Q:D->Prop}(h:uN 0 ds Q):False:=by
 obtain⟨fs,an,rs,d,m,e,F,a,b,c,h⟩:=h;lia
noncomputable def L7(fs:Fs)(R:List Rw)(c:Ch):Nat:=B1 (yR fs c R) (yR fs c R)*(nR fs c R).length+B1 (nR fs c R) (nR fs c R)*(yR fs c R).length
noncomputable def JI(fs:Fs)(R:List Rw)(c:Ch):Nat:=(yR fs c R).length*(nR fs c R).length
noncomputable def Ey(fs:Fs)(R:List Rw):Option Ch->Nat
|none=>B1 R R
|some c=>L7 fs R c
noncomputable def Em(fs:Fs)(R:List Rw):Option Ch->Nat
|none=>R.length
|some c=>JI fs R c
noncomputable def JH(fs:Fs)(R:List Rw)(m:Int)(s:Option Ch)(c:Ch):Option Ch:=if okC fs R m c=true then(if L7 fs R c*Em fs R s<Ey fs R s*JI fs R c then some c else s)else s
def XA(a b:Nat):(low a b).1*b=a*(low a b).2:=by
 show a / a.gcd b*b=a*(b / a.gcd b);obtain⟨x,c⟩:=Nat.gcd_dvd_left a b;obtain⟨y,d⟩:=CG a b;by_cases h:a.gcd b=0
 ·rw[h,aO9,aO9,aO7,Nat.mul_zero]
 ·have e:0<a.gcd b:=Nat.pos_of_ne_zero h;have f:a / a.gcd b=x:=by rw[JD e c]
  have i:b / a.gcd b=y:=by rw[JD e d]
  rw[f,i]
  generalize a.gcd b=g at c d
  subst c d;simp only[fG,dO,eX]
def VT{x y:Nat×Nat}{a b c d:Nat}(g:x.1*b=a*x.2)(i:y.1*d=c*y.2)(n:0<x.2)(o:0<y.2)(l:0<b)(m:0<d):lD x y=decide (a*d<c*b):=by
 unfold lD;rw[v8]
 have e:x.1*y.2*(b*d)=a*d*(x.2*y.2):=by
  calc x.1*y.2*(b*d)=(x.1*b)*(y.2*d):=by simp only[fG,dO,eX]
   _=(a*x.2)*(y.2*d):=by rw[g]
   _=_:=by simp only[fG,dO,eX]
 have f:y.1*x.2*(b*d)=c*b*(x.2*y.2):=by
  calc y.1*x.2*(b*d)=(y.1*d)*(x.2*b):=by simp only[fG,dO,eX]
   _=(c*y.2)*(x.2*b):=by rw[i]
   _=_:=by simp only[fG,dO,eX]
 have j:0<b*d:=sM l m;have k:0<x.2*y.2:=sM n o;refine⟨λh=>?_,λh=>?_⟩
 ·have:=gR h j;rw[e,f]at this;exact jT this
 ·have:=gR h k;rw[<- e,<- f]at this;exact jT this
def AF{R:List Rw}(h:0<R.length):(wM R).1*R.length=B1 R R*(wM R).2/\0<(wM R).2:=by
 have e:max 1 R.length=R.length:=by lia
 unfold wM;rw[e];exact⟨XA _ _,CT h⟩
def yE{fs}(d:0<(yR fs c R).length)(b:0<(nR fs c R).length):(dC fs R c).1*JI fs R c=L7 fs R c*(dC fs R c).2/\0<(dC fs R c).2/\0<JI fs R c:=by
 obtain⟨a,h⟩:=AF d;obtain⟨n1,g⟩:=AF b;unfold dC Fp JI L7
 generalize wM (yR fs c R)=x at a h
 generalize wM (nR fs c R)=z at n1 g
 generalize (yR fs c R).length=y at a d
 generalize (nR fs c R).length=n at n1 b
 generalize B1 (yR fs c R) (yR fs c R)=p at a
 generalize B1 (nR fs c R) (nR fs c R)=q at n1
 have f:0<x.2*z.2:=sM h g;have e:=XA (x.1*z.2+z.1*x.2) (x.2*z.2);refine⟨?_,CT f,sM d b⟩
 generalize low (x.1*z.2+z.1*x.2) (x.2*z.2)=S at e
 apply Nat.eq_of_mul_eq_mul_right f
 calc S.1*(y*n)*(x.2*z.2)=(S.1*(x.2*z.2))*(y*n):=by simp only[fG,dO,eX]
  _=((x.1*z.2+z.1*x.2)*S.2)*(y*n):=by rw[e]
  _=(x.1*y)*(z.2*n*S.2)+(z.1*n)*(x.2*y*S.2):=by rw[sP,sP];simp only[fG,dO,eX]
  _=(p*x.2)*(z.2*n*S.2)+(q*z.2)*(x.2*y*S.2):=by rw[a,n1]
  _=(p*n+q*y)*S.2*(x.2*z.2):=by rw[sP,sP];simp only[fG,dO,eX]
def tH{fs}{m:Int}(e:1<=m)(h:okC fs R m c=true):0<(yR fs c R).length/\0<(nR fs c R).length:=by
 have a:=dR _ _▸h;have b:=b8 a.1;have d:=b8 a.2;lia
def XD{x y z:Nat×Nat}(g:0<x.2)(i:0<z.2)(f:0<y.2)(h:lD x z=true)(d:lD y z=false):lD x y=true:=by
 have c:=b8 h;have e:=j9 d;refine b7 ?_;have b:=gR c f;have a2:=yK x.2 (aDd e);apply jT (a:=z.2)
 calc x.1*y.2*z.2=x.1*z.2*y.2:=by simp only[fG,dO,eX]
  _<z.1*x.2*y.2:=b
  _=z.1*y.2*x.2:=by simp only[fG,dO,eX]
  _<=y.1*z.2*x.2:=a2
  _=y.1*x.2*z.2:=by simp only[fG,dO,eX]
def XC{x y z:Nat×Nat}(f:0<x.2)(g:0<z.2)(i:0<y.2)(h:lD x y=true)(d:lD y z=true):lD x z=true:=by
 have c:=b8 h;have e:=b8 d;refine b7 ?_;have b:=gR c g;have a2:=gR e f;apply jT (a:=y.2)
 calc x.1*z.2*y.2=x.1*y.2*z.2:=by simp only[fG,dO,eX]
  _<y.1*x.2*z.2:=b
  _=y.1*z.2*x.2:=by simp only[fG,dO,eX]
  _<z.1*y.2*x.2:=a2
  _=z.1*x.2*y.2:=by simp only[fG,dO,eX]
def KB{fs}{R:List Rw}{m:Int}(g:1<=m)(a:0<R.length)(h:okC fs R m c=true):JH fs R m none c=if lD (dC fs R c) (wM R)=true then some c else none:=by
 obtain⟨i,j⟩:=tH g h;obtain⟨b,a2,d⟩:=yE i j;obtain⟨e,f⟩:=AF a;unfold JH;rw[a9 h,VT b e a2 f d a];show(if L7 fs R c*R.length<B1 R R*JI fs R c then some c else none)=_;by_cases z:L7 fs R c*R.length<B1 R R*JI fs R c
 ·rw[a9 z,a9 (b7 z)]
 ·rw[a8 z,a8 λh=>z (b8 h)]
def VN{fs}{m:Int}(a:1<=m)(hb:okC fs R m b=true)(h:okC fs R m c=true):JH fs R m (some b) c=some (lW fs R b c):=by
 obtain⟨j,k⟩:=tH a h;obtain⟨l,n⟩:=tH a hb;obtain⟨d,a2,e⟩:=yE j k;obtain⟨f,g,i⟩:=yE l n;unfold JH lW;rw[a9 h,VT d f a2 g e i];show(if L7 fs R c*JI fs R b<L7 fs R b*JI fs R c then some c else some b)=_;by_cases z:L7 fs R c*JI fs R b<L7 fs R b*JI fs R c
 ·rw[a9 z,a9 (b7 z)]
 ·rw[a8 z,a8 λh=>z (b8 h)]
theorem A1{fs}{m:Int}(a:1<=m):∀(l:List Ch)(b:Ch),okC fs R m b=true->(∀c∈l,okC fs R m c=true)->l.foldl (JH fs R m) (some b)=some (l.foldl (lW fs R) b)
|[],b,_,_=>rfl
|c::l,b,hb,h=>by
 rw[jE,jE,VN a hb (h c (aN ..))];refine A1 a l _ ?_ λx d=>h x (aJ _ d);unfold lW;split
 ·exact h c (aN ..)
 ·exact hb
theorem wJ{fs}{R:List Rw}{m:Int}(a:1<=m)(d:0<R.length):∀(l:List Ch)(b:Ch),okC fs R m b=true->(∀c∈l,okC fs R m c=true)->lD (dC fs R b) (wM R)=true->lD (dC fs R (l.foldl (lW fs R) b)) (wM R)=true
|[],b,_,_,h=>h
|c::l,b,hb,h,h2=>by
 rw[jE];have f:=h c (aN ..);have g:∀x∈l,okC fs R m x=true:=λx i=>h x (aJ _ i);by_cases z:lD (dC fs R c) (dC fs R b)=true
 ·have e:lW fs R b c=c:=a9 z;rw[e];obtain⟨j,k⟩:=tH a f;obtain⟨n,o⟩:=tH a hb;exact wJ a d l c f g (XC (yE j k).2.1 (AF d).2 (yE n o).2.1 z h2)
 ·have e:lW fs R b c=b:=a8 z;rw[e];exact wJ a d l b hb g h2
theorem A2{fs}{R:List Rw}{m:Int}(a:1<=m)(d:0<R.length):∀(l:List Ch)(b:Ch),okC fs R m b=true->(∀c∈l,okC fs R m c=true)->lD (dC fs R b) (wM R)=false->l.foldl (JH fs R m) none=(some (l.foldl (lW fs R) b)).filter λc=>lD (dC fs R c) (wM R)
|[],b,_,_,h=>by rw[aFi,aFi,yN,h];rfl
|c::l,b,hb,h,h2=>by
 rw[jE,jE];have f:=h c (aN ..);have g:∀x∈l,okC fs R m x=true:=λx i=>h x (aJ _ i);rw[KB a d f];obtain⟨j,k⟩:=tH a f;obtain⟨n,o⟩:=tH a hb;by_cases z:lD (dC fs R c) (wM R)=true
 ·have e:lW fs R b c=c:=a9 (XD (yE j k).2.1 (AF d).2 (yE n o).2.1 z h2);rw[a9 z,e,A1 a l c f g,yN,wJ a d l c f g z];rfl
 ·rw[a8 z];have p:lD (dC fs R c) (wM R)=false:=by cases q:lD (dC fs R c) (wM R)with | true=>exact c7 q z | false=>rfl
  unfold lW;split
  ·exact A2 a d l c f g p
  ·exact A2 a d l b hb g h2
theorem GO(fs:Fs)(R:List Rw)(m:Int):∀(l:List Ch)(s:Option Ch),l.foldl (JH fs R m) s=(l.filter (okC fs R m)).foldl (JH fs R m) s
|[],s=>rfl
|c::l,s=>by
 rw[jE,GO fs R m l,fA];by_cases z:okC fs R m c=true
 ·rw[a9 z,jE]
 ·rw[a8 z];have:JH fs R m s c=s:=a8 z;rw[this]
def Zv{fs}{R:List Rw}{m:Int}(d:1<=m)(e:0<R.length):(IP fs).foldl (JH fs R m) none=mU fs R m:=by
 rw[GO];unfold mU iA;have a:∀c∈(IP fs).filter (okC fs R m),okC fs R m c=true:=λc b=>(cH.mp b).2
 generalize (IP fs).filter (okC fs R m)=l at a
 cases l with
 |nil=>rfl
 |cons c l=>
  rw[jE];have b:=a c (aN ..);have f:∀x∈l,okC fs R m x=true:=λx g=>a x (aJ _ g);rw[KB d e b];show _=(some (l.foldl (lW fs R) c)).filter _;by_cases z:lD (dC fs R c) (wM R)=true
  ·rw[a9 z,A1 d l c b f,yN,wJ d e l c b f z];rfl
  ·rw[a8 z];have h:lD (dC fs R c) (wM R)=false:=by cases q:lD (dC fs R c) (wM R)with | true=>exact c7 q z | false=>rfl
   exact A2 d e l c b f h
def LY(fs:Fs)(m:Int):mU fs [] m=none:=by
 unfold mU;rw[Option.filter_eq_none_iff];intro c _;have e:wM []=(0,1):=by decide
 rw[e];show¬decide (_<0*_)=true;rw[aO7]
 exactλz=>c7 (b8 z) (FV _)
noncomputable def Jz(fs:Fs)(R:List Rw):Option Ch->D
|none=>.none
|some c=>.tuple [.tuple [.str "ask",qD c.1,.str c.2],.list ((yR fs c R).map dE),.list ((nR fs c R).map dE)]
noncomputable def Gh(fs:Fs)(q:Qn)(st w:Str)(x:D):Bool:=match x with | .tuple [.tuple cs,_]=>decide (jW fs q.1 q.2.1 q.2.2 st cs=w) | _=>false
def P8(fs:Fs)(q:Qn)(st w:Str)(rs:List Rw):((rs.map dE).filter (Gh fs q st w)).map id=(rs.filter λr=>decide (jW fs q.1 q.2.1 q.2.2 st r.1=w)).map dE:=by
 rw[xL,vR];rfl
def VO{fs}{R:List Rw}(a:R.length<=60)(c:Ch):JI fs R c<=3600:=
 mP (bL (bY _ _) a) (bL (bY _ _) a)
def Ym{fs}{R:List Rw}(a:R.length<=60):∀S:Option Ch,Em fs R S<=3600
|none=>by show R.length<=3600;lia
|some c=>VO a c
def KR(a:List (Nat×Rw)):(KS a).length=a.length:=by unfold KS;rw[aC]
def N5{fs}(F:gZ fs an)(h:oZ fs an r):Cd (dE r):=(UU F h).cd Cv
def Yx{F:pP}{c:TZ F}{t u:SZ F}{τ DC n σ}(b:Bool)(P:F.S->List Sl->Prop)(h:∀q:F.S->Bool->Prop,q n b->c τ n σ q)
  (f:b=true->∀d:qW F,(∀m a,P m a->d.nx m a)->t τ d n σ) (e:b=false->P n σ) (k:∀m a,P m a->u τ DC m a):sQ (ZR c t FW) u τ DC n σ:=
 MH b h (λhb=>f hb _ k) λhb=>k _ _ (e hb)
def zn{F:pP}{τ}{a:qW F}{n σ}(h:a.nx n σ):FW τ a n σ:=h
def AG{fs}(h:jL fs (.tuple cs)=true):∀c∈cs,c=.none\/∃f∈fs,∃z∈f.2,c=.str z:=λc d=>by
 obtain⟨e,g⟩:=mI h;obtain⟨k,b⟩:=cT d;have a:k<fs.length:=by rw[<- e];exact(aI.mp b).1
 have:=g k fs[k] c (aG a) b
 cases c with
 |none=>exact .inl Db
 |str z=>exact .inr ⟨_,jO a,z,b8 this,Db⟩
 |_=>cases this
theorem OX:∀{n:Nat}{d},nW n d->nW (n+1) d
|0,_,h=>h.elim
|n+1,d,h=>by
 rcases h with h | h | h | ⟨f,a,b,c⟩
 ·exact .inl h
 ·exact .inr (.inl h)
 ·exact .inr (.inr (.inl h))
 ·exact .inr (.inr (.inr ⟨f,a,b,λx e=>OX (c x e)⟩))
def HJ{n m:Nat}(a:n<=m)(h:nW n d):nW m d:=by
 obtain⟨k,rfl⟩:=Nat.exists_eq_add_of_le a;clear a
 induction k with
 |zero=>exact h
 |succ k b=>exact OX b
def kP{n:Nat}{z}(h:tJ z=true):nW (n+1) (.str z):=.inr (.inl ⟨z,h,Db⟩)
def mF{n:Nat}{a:List D}(b:a.length<=50000)(h:∀x∈a,nW n x):nW (n+1) (.tuple a):=.inr (.inr (.inr ⟨a,.inl Db,b,h⟩))
def J8{n:Nat}{a:List D}(b:a.length<=50000)(h:∀x∈a,nW n x):nW (n+1) (.list a):=.inr (.inr (.inr ⟨a,.inr Db,b,h⟩))
theorem HI{fs}(F:gZ fs an):∀t:Tr,A8 fs an t->nW (t.dep+3) (jJ t)
|.say a,h=>mF Da λx hx=>by
 rcases aK.mp hx with rfl | hx
 ·exact kP HX
 ·rw[aP.mp hx];exact kP (F.an.2.1 a h)
|.ask k n v s y m,h=>by
 obtain⟨g,i,l,e⟩:=h;obtain⟨f,c,b,j,d⟩:=zQ g;have p:=HJ (show y.dep+3<=max y.dep m.dep+3 by lia) (HI F y l);have o:=HJ (show m.dep+3<=max y.dep m.dep+3 by lia) (HI F m e);show nW (max y.dep m.dep+1+3) _;rw[show max y.dep m.dep+1+3=max y.dep m.dep+3+1 by lia];refine mF Da λx hx=>?_;simp only[aK,bR,e9]at hx;rcases hx with rfl | rfl | rfl | rfl | rfl
 ·exact kP tI
 ·refine mF Da λx hx=>?_;simp only[aK,bR,e9]at hx;rcases hx with rfl | rfl | rfl
  ·refine kP ?_;rcases d with rfl | ⟨rfl,_⟩
   ·exact Km
   ·exact PN
  ·rw[<- b];exact kP (F.name c)
  ·exact kP (F.vals c _ j)
 ·exact kP (KU i)
 ·exact p
 ·exact o
def VJ{fs}(F:gZ fs an){b:List (Nat×Rw)}(h:gW fs an (b.map (·.2)))(k:b.length<=60):nW 7 (.list (KS b)):=by
 refine J8 (by rw[KR];lia) λx hx=>?_;obtain⟨e,g,rfl⟩:=aS.mp hx;have a:=h _ (aS.mpr ⟨e,g,Db⟩);refine mF Da λx hx=>?_;rcases aK.mp hx with rfl | hx
 ·exact .inl ⟨_,Db⟩
 rw[aP.mp hx];refine mF Da λx hx=>?_;rcases aK.mp hx with rfl | hx
 ·refine mF ?_ λc d=>?_
  ·have:=(mI a.1).1;have:=F.n5;lia
  ·rcases AG a.1 c d with rfl | ⟨f,i,z,j,rfl⟩
   ·exact .inr (.inr (.inl Db))
   ·exact kP (F.vals i z j)
 ·rw[aP.mp hx];exact kP (F.an.2.1 _ a.2)
def UR(k:Nat)(r:Rw)(a:List (Nat×Rw)):(tY k r a).length=a.length:=by unfold tY;rw[aC]
def ZP{F:pP}{i:Nat}{c:EZ F}{τ}{b:qW F}{n}{a:List Sl}(v:D)(h:∀q:F.S->D->Prop,q n v->c τ n a q)(k:b.nx n (a.set i (.val v))):UF i c τ b n a:=h (λn1 d=>b.nx n1 (a.set i (.val d))) k
noncomputable def xY(a t:Tr):List D:=(B3 a t).map oB
noncomputable def Jl(a b:D):D:=.tuple [.str "put",a,b]
noncomputable def Jk(a:D):D:=.tuple [.str "out",a,.none]
noncomputable def US(a b:D):D:=.tuple [.str "turn",a,b]
def E7(fs:Fs)(an:List Str)(c:List (Nat×Rw))(f:Nat)(b:D)(a:List (Nat×Rw))(d:Nat)(x:D):Prop:=
 (∃r:Rw,oZ fs an r/\b=Jl (.int (f:Nat)) (dE r)/\a=c++[(f,r)]/\d=f+1/\x=.int (f:Nat)) \/
 (∃(k:Nat)(r:Rw),yC k c=some r/\b=Jk (.int (k:Nat))/\a=nV k c/\d=f/\x=dE r) \/
 (∃(k:Nat)(r e:Rw),yC k c=some r/\oZ fs an e/\b=US (.int (k:Nat)) (dE e)/\a=tY k e c/\d=f/\x=dE r)
def Dw(a:List (Nat×Rw))(j:Int):Prop:=∀e∈a,(e.1:Int)≠j
def Fc(fs:Fs)(an:List Str)(c:List (Nat×Rw))(b:D)(z:Str):Prop:=
 (∃a,Cd a/\qQ fs an a=false/\b=Jl .none a/\z="row") \/
 (∃(k:Nat)(r:Rw)(a:D),yC k c=some r/\Cd a/\qQ fs an a=false/\b=US (.int (k:Nat)) a/\z="row") \/
 (∃j:Int,Dw c j/\b=Jk (.int j)/\z="such") \/
 (∃(j:Int)(a:D),Dw c j/\Cd a/\b=US (.int j) a/\z="such")
def ZF(c:List (Nat×Rw)):Prop:=c.Pairwise λa b=>a.1<b.1
structure S4(fs:Fs)(an:List Str)(ks:List (Nat×Rw))(f:Nat):Prop where
 F:gZ fs an
 ok:gW fs an (ks.map (·.2))
 ris:ZF ks
 lt:∀e∈ks,e.1<f
 few:ks.length<=f
 f50:f<=50
structure Bkk(fs:Fs)(an:List Str)(d:Nat)(m:Int)(T:Bk)(ks:List (Nat×Rw))(t0:Tr)(n:S8):Prop where
 F:gZ fs an
 fm:T.fm=fJ fs an
 dp:T.dp=(d:Nat)
 ls:T.ls=m
 d6:d<=6
 kv:n.kvs=kY ks
 ok:gW fs an (ks.map (·.2))
 st:n.st=jJ t0
 tr:A8 fs an t0
 dep:t0.dep<=6
def Op(C:Addr):ZE (mB C):=λc n b Q=>∃(T:Bk)(a:List (Nat×Rw)),c=lL T/\b=[lL T]/\n.kvs=kY a/\Q n id (KS a)
def Ou(C:Addr):ZE (mB C):=λe n c Q=>∃(fs:Fs)(an:List Str)(d:Nat)(m:Int)(T:Bk)(a:List (Nat×Rw))(b:Tr),e=lL T/\c=[lL T]/\Bkk fs an d m T a b n/\a.length<=60 /\
 ∀t,Gr fs an m d (a.map (·.2)) t->Q { n with st:=jJ t } id (xY b t)
noncomputable def Gk(d x:D):D:=.tuple [d,x]
def Om(C:Addr):ZE (mB C):=λf n c Q=>∃(fs:Fs)(an:List Str)(d:Nat)(m:Int)(T:Bk)(a:List (Nat×Rw))(k:Nat)(r:Rw)(b:Tr),f=lL T/\c=[lL T,dE r]/\Bkk fs an d m T a b n/\a.length<60/\n.fol=(k:Nat)/\k<=1000/\(∀e∈a,e.1≠k)/\oZ fs an r /\
 ∀t,Gr fs an m d ((a++[(k,r)]).map (·.2)) t->Q ⟨kY (a++[(k,r)]),((k+1:Nat):Int),jJ t⟩ (Gk (.int (k:Nat))) (xY b t)
def On(C:Addr):ZE (mB C):=λe n c Q=>∃(fs:Fs)(an:List Str)(d:Nat)(m:Int)(T:Bk)(a:List (Nat×Rw))(k:Nat)(r:Rw)(b:Tr),e=lL T/\c=[lL T,.int (k:Nat)]/\Bkk fs an d m T a b n/\a.length<=60/\yC k a=some r /\
 ∀t,Gr fs an m d ((nV k a).map (·.2)) t->Q ⟨kY (nV k a),n.fol,jJ t⟩ (Gk (dE r)) (xY b t)
def Oo(C:Addr):ZE (mB C):=λf n e Q=>∃(fs:Fs)(an:List Str)(d:Nat)(m:Int)(T:Bk)(a:List (Nat×Rw))(k:Nat)(r b:Rw)(c:Tr),f=lL T/\e=[lL T,.int (k:Nat),dE b]/\Bkk fs an d m T a c n/\a.length<=60/\yC k a=some r/\oZ fs an b /\
 ∀t,Gr fs an m d ((tY k b a).map (·.2)) t->Q ⟨kY (tY k b a),n.fol,jJ t⟩ (Gk (dE r)) (xY c t)
def qN(C b f:Addr):JL (mB C):=λe n c a=>∃(fs:Fs)(an:List Str)(T:Bk)(d:D),e=lL T/\c=[lL T,d]/\gZ fs an/\T.fm=fJ fs an/\Cd d/\qQ fs an d=false/\a n (xM b)
def oR(C e b:Addr):JL (mB C):=λd n c a=>∃(T:Bk)(j:Int),d=lL T/\c=[lL T,.int j]/\oH n.kvs j=none/\a n (xM b)
def aAn(C a b:Addr):JL (mB C):=qN C a b
def aAo(C a b:Addr):JL (mB C):=oR C a b
def VF(C b c:Addr):JL (mB C):=λg n f a=>∃(fs:Fs)(an:List Str)(T:Bk)(j:Int)(d:D),g=lL T/\f=[lL T,.int j,d]/\gZ fs an/\T.fm=fJ fs an/\Cd d/\((oH n.kvs j=none/\a n (xM c))\/(∃e,oH n.kvs j=some e/\qQ fs an d=false/\a n (xM b)))
def uM(a:Nat):pU:=λb Q=>∃(fs:Fs)(an:List Str)(t u:Tr),b=[jJ t,jJ u]/\gZ fs an/\A8 fs an t/\A8 fs an u/\t.dep<a/\t.dep<=6/\u.dep<=6/\Q (.list (xY t u))
def Wj:pU:=uM 7
def W0{Q:D->Prop}(h:uM 0 ds Q):False:=by
 obtain⟨fs,an,t,u,e,F,a,b,c,h⟩:=h;lia
def Vh:pU:=λa Q=>∃(ns:List Int)(fs:Fs)(an:List Str)(r:Rw),a=[iU ns,fJ fs an,dE r]/\ns.length<=63/\gZ fs an/\oZ fs an r/\∀d,Cd d->qQ fs an d=false->ndc d=true->Q d
def Vi:pU:=λc Q=>∃(ns:List Int)(fs:Fs)(an:List Str)(a:List (Nat×Rw))(f:Nat)(dp fw:Int)(t:D),c=[iU ns,fJ fs an,TR (kY a) (f:Nat) dp fw t]/\ns.length<=63/\S4 fs an a f/\∀b z,Fc fs an a b z->ndc b=true->Q (.tuple [b,.str z])
def Vj:pU:=λd Q=>∃(ns:List Int)(fs:Fs)(an:List Str)(a:List (Nat×Rw))(f:Nat)(dp fw:Int)(t:D),d=[iU ns,fJ fs an,TR (kY a) (f:Nat) dp fw t]/\ns.length<=63/\S4 fs an a f/\∀b c e x,E7 fs an a f b c e x->ndc b=true->Q b
noncomputable def Ds(x s:D):D:=.tuple [.str "told",.tuple [x,s]]
def Wk(C:Addr):ZE (mB C):=λi n h Q=>∃(fs:Fs)(an:List Str)(d:Nat)(m:Int)(T:Bk)(c:List (Nat×Rw))(g:Tr)(f:Nat)(b:D)(a:List (Nat×Rw))(e:Nat)(x:D),i=lL T/\h=[lL T,b]/\Bkk fs an d m T c g n/\S4 fs an c f/\n.fol=(f:Nat)/\E7 fs an c f b a e x /\
 ∀t,Gr fs an m d (a.map (·.2)) t->Q ⟨kY a,(e:Nat),jJ t⟩ (Ds x) (xY g t)
def FI(C:Addr):JL (mB C):=λd n c Q=>∃(fs:Fs)(an:List Str)(T:Bk)(a:List (Nat×Rw))(b:D)(z:Str),d=lL T/\c=[lL T,b]/\gZ fs an/\T.fm=fJ fs an/\n.kvs=kY a/\Fc fs an a b z/\Q n (.tuple [.str z,.none])
noncomputable abbrev MW(C:Addr):pP:=De HC (mB C)
structure E8(fs:Fs)(an:List Str)(d:Nat)(m:Int)(S:L4)(T:Bk)(ks:List (Nat×Rw))(t:Tr)(f:Nat)(n:SpS×S8):Prop where
 bk:Bkk fs an d m T ks t n.2
 rw:S4 fs an ks f
 sd:S.dp=(d:Nat)
 sf:S.fw=m
 m1:1<=m
 kv:n.1.kvs=kY ks
 giv:n.1.giv=(f:Nat)
 str:n.1.tr=jJ t
 fol:n.2.fol=(f:Nat)
def Vk(C:Addr):JL (MW C):=λi n h Q=>∃(fs:Fs)(an:List Str)(d:Nat)(m:Int)(S:L4)(T:Bk)(e:List (Nat×Rw))(g:Tr)(f:Nat)(b:D)(a:List (Nat×Rw))(c:Nat)(x:D),i=.tuple [pQ S,lL T]/\h=[lL T,fJ fs an,pQ S,b]/\E8 fs an d m S T e g f n/\d<=4/\g.dep<=4/\E7 fs an e f b a c x/\c<=50 /\
 ∀t,Gr fs an m d (a.map (·.2)) t->Q (⟨kY a,(c:Nat),jJ t⟩,⟨kY a,(c:Nat),jJ t⟩) (.bool true)
def Lu(C:Addr):JL (MW C):=λc n a Q=>∃(fs:Fs)(an:List Str)(d:Nat)(m:Int)(S:L4)(T:Bk)(b:List (Nat×Rw))(t:Tr)(f:Nat),c=.tuple [pQ S,lL T]/\a=[lL T,pQ S]/\E8 fs an d m S T b t f n/\t.dep<=4/\Q n (.bool true)
def VS{f:Nat}(h:ZF ks)(lt:∀e∈ks,e.1<f)(r:Rw):ZF (ks++[(f,r)]):=by
 unfold ZF;rw[List.pairwise_append];exact⟨h,List.pairwise_singleton _ _,λa c b hb=>by rw[aP.mp hb];exact lt a c⟩
def C9(k:Nat)(r:Rw)(e:Nat×Rw):(if e.1=k then(e.1,r)else e).1=e.1:=by split<;>rfl
def GP(h:E6 an [] a):an[0]?=some a:=by
 obtain⟨k,b,_,d⟩:=h
 cases k with
 |zero=>exact b
 |succ k=>
  have c:0<an.length:=by have:=(aI.mp b).1;lia
  have:=d 0 _ (Nat.succ_pos _) (aG c);exact c7 this (FV _)
def XZ{fs}{m:Int}:∀{d:Nat}{t},Gr fs an m d [] t->∃a,an[0]?=some a/\t=.say a
|0,t,⟨a,h,e⟩=>⟨a,GP h,e⟩
|d+1,t,h=>by
 unfold Gr at h;rw[LY]at h;obtain⟨a,h,e⟩:=h;exact⟨a,GP h,e⟩
def UA{F:pP}{c:TZ F}{t u τ DC n σ}(h:∀q:F.S->Bool->Prop,q n false->c τ n σ q)(k:u τ DC n σ):sQ (ZR c t FW) u τ DC n σ:=MH false h (λz=>by cases z) λ_=>k
def xS{c:vF}(h:∀q:Bool->Prop,(∀b,b=false->q b)->c σ q)(k:u DT σ):jA (Dd c t lM) u DT σ:=jZ _ h (λz=>by cases z) λ_=>k
def DJ{c:vF}(h:∀q:Bool->Prop,(∀b,b=true->q b)->c σ q)(k:t { DT with nx:=u DT } σ):jA (Dd c t e) u DT σ:=jZ _ h (λ_=>k) λz=>by cases z
def Yl{c:vF}(h:∀q:Bool->Prop,(∀b,b=true->q b)->c σ q)(k:t DT σ):Dd c t e DT σ:=AU _ h (λ_=>k) λz=>by cases z
noncomputable def Gn(a:List (Nat×Rw))(G:Nat×Rw->D)(x:D):D:=match x with | .int i=>((a.find? λe=>decide (e.1=i.toNat)).map G).getD .none | _=>.none
theorem IJ:∀{b:List (Nat×Rw)},(b.map (·.1)).Nodup->∀{e:Nat×Rw},e∈b->(b.find? λa=>decide (a.1=e.1))=some e
|a::b,h,e,he=>by
 obtain⟨c,d⟩:=kE.mp h;rw[jF];by_cases z:a.1=e.1
 ·rw[b7 z];rcases aK.mp he with rfl | he
  ·rfl
  ·exact c7 (aS.mpr ⟨e,he,z.symm⟩) c
 ·rw[b9 z];rcases aK.mp he with rfl | he
  ·exact c7 Db z
  ·exact IJ d he
def HM{a:List (Nat×Rw)}(h:ZF a):(a.map (·.1)).Nodup:=by
 unfold aPy;rw[nX];exact h.imp λh=>by lia
def P6(c:ZF ks)(G:Nat×Rw->D){e:Nat×Rw}(b:e∈ks):Gn ks G (.int (e.1:Nat))=G e:=by
 show((ks.find? λa=>decide (a.1=((e.1:Nat):Int).toNat)).map G).getD .none=_;rw[oM,IJ (HM c) b];rfl
def IH{a:List (Nat×Rw)}(h:(a.map (·.1)).Nodup){e:Nat×Rw}(b:e∈a):yC e.1 a=some e.2:=by
 unfold yC;rw[IJ h b];rfl
def VR{c:List (Nat×Rw)}{d:List Int}(f:d.Pairwise (·<·))(g:d.Perm ((kY c).map (·.1)))(j:ZF c):d=c.map λe=>(e.1:Int):=by
 refine ZN.eq_of_pairwise (le:=(·<=·)) (λa b _ _ i hb=>Int.le_antisymm i hb) (f.imp λh=>by lia) ?_ (g.trans ?_)
 ·rw[nX];exact j.imp λh=>by lia
 ·unfold kY;rw[bD];exact ZN.refl _
def Kk{i:Nat}{Q:D->Prop}{m:ET}{a:List (Nat×Rw)}{f dp fw:Int}(b:σ[i]?=some (.val (TR (kY a) f dp fw t)))(g:ZF a)(r:a.length<=60)(G:Nat×Rw->D)(d:∀e∈a,∀q:D->Prop,q (G e)->m [.val (.int (e.1:Nat)),.val (TR (kY a) f dp fw t)] q)(h:Q (.list (a.map G))):QC [none,some i] (Jf (YJ (Lh (A4 i) "rows"))) (gN 0) BQ m σ Q:=by
 have o:(kY a).length=a.length:=by unfold kY;rw[aC]
 have c:(jS [none,some i] σ)=[.un,.val (TR (kY a) f dp fw t)]:=by
  unfold jS;simp[GV,b]
 refine iI (ts:=(a.map λe=>(e.1:Int)).map bM) (λR h=>⟨_,b,_,_,_,_,_,_,Db,Db,kY a,Db,Cw,λs c n=>⟨_,Db,by rw[VR c n g];exact h⟩⟩) (Gn a G) (by rw[aC,aC];lia) (λx q p l=>?_) ?_
 ·obtain⟨_,j,rfl⟩:=aS.mp p;obtain⟨e,k,rfl⟩:=aS.mp j;rw[P6 g G k]at l;rw[c];exact d e k q l
 ·have e:((a.map λe=>(e.1:Int)).map bM).map (Gn a G)=a.map G:=by
   rw[bD,bD];apply jI;intro e d;exact P6 g G d
  rw[e];exact h
theorem pR:∀{ts},(∀t∈ts,ndc t=true)->ndcA ts=true
|[],_=>rfl
|a::r,h=>by
 show(ndc a&&ndcA r)=true;rw[h a (aN ..),pR λt b=>h t (aJ _ b)];rfl
def KY{fs}(h:jL fs (.tuple cs)=true):ndcA cs=true:=pR λc a=>by
 rcases AG h c a with rfl | ⟨_,_,_,_,rfl⟩
 ·rfl
 ·rfl
def wC{fs}(h:oZ fs an r):ndc (dE r)=true:=by
 show(ndcA r.1&&(true&&true))=true;rw[KY h.1];rfl
theorem D0:∀t:Tr,ndc (jJ t)=true
|.say a=>rfl
|.ask k n v s y m=>by
 show(true&&(true&&(true&&(ndc (jJ y)&&(ndc (jJ m)&&true)))))=true;rw[D0 y,D0 m];rfl
def Qq{fs}{rs:List Rw}(h:gW fs an rs):ndc (.list (rs.map dE))=true:=pR λx b=>by
 obtain⟨r,a,rfl⟩:=aS.mp b;exact wC (h r a)
def aBt{fs}{a:List (Nat×Rw)}(h:gW fs an (a.map (·.2))):ndc (.list (KS a))=true:=pR λx c=>by
 obtain⟨e,b,rfl⟩:=aS.mp c;show(true&&(ndc (dE e.2)&&true))=true;rw[wC (h _ (aS.mpr ⟨e,b,Db⟩))];rfl
def aBs(t u:Tr):ndc (.list (xY t u))=true:=pR λx a=>by
 obtain⟨p,c,rfl⟩:=aS.mp a
 exact pR λy b=>by
  obtain⟨z,_,rfl⟩:=aS.mp b
  rfl
def Yw{F:pP}{c:TZ F}{t e u:SZ F}{τ DC n σ}(b:Bool)(P:F.S->List Sl->Prop)(h:∀q:F.S->Bool->Prop,q n b->c τ n σ q)(g:b=true->∀d:qW F,(∀m a,P m a->d.nx m a)->t τ d n σ)(f:b=false->∀d:qW F,(∀m a,P m a->d.nx m a)->e τ d n σ)(k:∀m a,P m a->u τ DC m a):sQ (ZR c t e) u τ DC n σ:=
 MH b h (λhb=>g hb _ k) λhb=>f hb _ k
def Dc{j:Int}(h:Dw ks j):oH (kY ks) j=none:=by
 unfold oH kY;rw[G5,ZJ,JP,T7];intro e a z;exact h e a (b8 z)
def E7.get{fs}{c i:List (Nat×Rw)}{f m:Nat}{x}(h:E7 fs an c f b i m x)(lt:∀e∈c,e.1<f)(ok:gW fs an (c.map (·.2))):∃(w:Str)(j:Nat)(a n:D),b=.tuple [.str w,.int (j:Nat),a]/\(oH (kY c) (j:Nat)).getD .none=n/\ndc n=true /\
  ((w="out"/\(∃y,oH (kY c) (j:Nat)=some y)/\AB (kY c) (j:Nat)=kY i)\/(w≠"out"/\BZ (kY c) (j:Nat) a=kY i)) /\
  ((w="put"/\x=.int (j:Nat)/\m=j+1)\/(w≠"put"/\x=n/\m=f)):=by
 have l:∀{k:Nat}{r:Rw},yC k c=some r->ndc (dE r)=true:=λd=>wC (ok _ (aS.mpr ⟨_,zU d,Db⟩));rcases h with⟨r,p,rfl,rfl,rfl,rfl⟩ | ⟨k,r,d,rfl,rfl,rfl,rfl⟩ | ⟨k,r,q,d,p,rfl,rfl,rfl,rfl⟩
 ·refine⟨"put",f,dE r,.none,Db,?_,Db,.inr ⟨Cu,KG λe o z=>?_⟩,.inl ⟨Db,Db,Db⟩⟩
  ·rw[Dc λe o z=>by have:=lt e o;lia];rfl
  ·have:=lt e o;lia
 ·have g:=qS d;exact⟨"out",k,.none,dE r,Db,by rw[g];rfl,l d,.inl ⟨Db,⟨_,g⟩,LI k c⟩,.inr ⟨Cu,Db,Db⟩⟩
 ·have g:=qS d;exact⟨"turn",k,dE q,dE r,Db,by rw[g];rfl,l d,.inr ⟨Cu,KF d⟩,.inr ⟨Cu,Db,Db⟩⟩
def S4.deed{fs}{f c:Nat}{x}(w:S4 fs an ks f)(h:E7 fs an ks f b ks' c x)(a:c<=50):S4 fs an ks' c/\c<=f+1:=by
 have few:=w.few;rcases h with⟨r,d,rfl,rfl,rfl,rfl⟩ | ⟨k,r,j,rfl,rfl,rfl,rfl⟩ | ⟨k,r,l,j,d,rfl,rfl,rfl,rfl⟩
 ·refine⟨⟨w.F,F9 w.ok d,VS w.ris w.lt r,λe he=>?_,by rw[bP];show _+1<=_;lia,a⟩,aM _⟩;rcases cC.mp he with he | he
  ·have:=w.lt e he;lia
  ·rw[aP.mp he];exact mV _
 ·exact⟨⟨w.F,GA w.ok,w.ris.filter _,λe he=>w.lt e (cH.mp he).1,bL (bY _ _) few,a⟩,pW _⟩
 ·refine⟨⟨w.F,VQ w.ok d,?_,λe he=>?_,by rw[UR];exact few,a⟩,pW _⟩
  ·unfold ZF tY;rw[nX];exact w.ris.imp λh=>by rw[C9,C9];exact h
  ·obtain⟨g,i,rfl⟩:=aS.mp he;rw[C9];exact w.lt g i
def VI{fs}(F:gZ fs an)(a:oZ fs an r){n:Nat}:nW (n+3) (dE r):=by
 refine mF Da λx hx=>?_;rcases aK.mp hx with rfl | hx
 ·refine mF ?_ λc b=>?_
  ·have:=(mI a.1).1;have:=F.n5;lia
  ·rcases AG a.1 c b with rfl | ⟨f,d,z,e,rfl⟩
   ·exact .inr (.inr (.inl Db))
   ·exact kP (F.vals d z e)
 ·rw[aP.mp hx];exact kP (F.an.2.1 _ a.2)
theorem E7.x{fs}{f c:Nat}{x}(h:E7 fs an ks f b ks' c x):(∃i:Int,x=.int i)\/∃k r,yC k ks=some r/\x=dE r:=by
 rcases h with⟨r,d,rfl,rfl,rfl,rfl⟩ | ⟨k,r,a,rfl,rfl,rfl,rfl⟩ | ⟨k,r,e,a,d,rfl,rfl,rfl,rfl⟩
 ·exact .inl ⟨_,Db⟩
 ·exact .inr ⟨k,r,a,Db⟩
 ·exact .inr ⟨k,r,a,Db⟩
def RD{fs}(F:gZ fs an){d a:List (Nat×Rw)}{f e:Nat}{x}(h:E7 fs an d f b a e x)(ok:gW fs an (d.map (·.2))){t u:Tr}(l:t.dep<=12):nW 7 (Ds x (.list (xY t u))):=by
 refine mF Da λy hy=>?_;rcases aK.mp hy with rfl | hy
 ·exact kP Cu
 rw[aP.mp hy];refine mF Da λy hy=>?_;rcases aK.mp hy with rfl | hy
 ·rcases h.x with⟨i,rfl⟩ | ⟨k,r,g,rfl⟩
  ·exact .inl ⟨i,Db⟩
  ·exact VI F (ok _ (aS.mpr ⟨_,zU g,Db⟩))
 rw[aP.mp hy];refine J8 ?_ λp j=>?_
 ·have n:=bL (qU t u) (rW l);unfold xY;rw[aC];lia
 obtain⟨p,c,rfl⟩:=aS.mp j;have o:=qV t u p c;refine mF (by rw[aC];lia) λy hy=>?_;obtain⟨z,m,rfl⟩:=aS.mp hy;exact kP (KU ((Wo t u Cw p c).2 z m))
def OO{i:Nat}{A B:Prop}(a:σ[i]?=some (.val (.tuple (.str w::r))))(e:w=w')(h:A):BR (Di EM (Di Go (A4 i) (eC (.int 0))) (eC (.str w'))) σ λb=>if b=true then A else B:=by
 refine⟨_,a,_,L2.gK (j:=0) Db,?_⟩;show if decide (w=w')=true then A else B;rw[a9 (b7 e)];exact h
def JV{i:Nat}{A B:Prop}(a:σ[i]?=some (.val (.tuple (.str w::r))))(e:w≠w')(h:B):BR (Di EM (Di Go (A4 i) (eC (.int 0))) (eC (.str w'))) σ λb=>if b=true then A else B:=by
 refine⟨_,a,_,L2.gK (j:=0) Db,?_⟩;show if decide (w=w')=true then A else B;rw[a8 λz=>e (b8 z)];exact h
structure Od(d:D):Prop where
 th:Th 45 1 d
 nd:ndc d=true
 no:∀ys:List Str,(∀y∈ys,tJ y=true)->vA ys d=false
 nn:∀f,L8 f d=vA f.2 d
noncomputable def Hd:List D:=[.str "zzzzzzzzz",.int 5,.bool true,.str "",.tuple [],.list [],.str "-"]
def Xj:∀d∈Hd,Od d:=by
 have st:∀z:Str,(decide (z.length<=45)&&z.cps.toList.all λc=>decide (c<1000))=true->tJ z=false->Od (.str z):=λz e b=>⟨UV e,Db,λh g=>b9 λm=>(by rw[g z m]at b;cases b),λf=>rfl⟩;intro d hd;unfold Hd at hd;simp only[aK,bR,e9]at hd;rcases hd with rfl | rfl | rfl | rfl | rfl | rfl | rfl
 ·exact st _ Cu Cu
 ·exact⟨(UW Cv Cv (m:=1)).mono Cv (aM _),Db,λ_ _=>rfl,λ_=>rfl⟩
 ·exact⟨ZV true,Db,λ_ _=>rfl,λ_=>rfl⟩
 ·exact st _ Cu Cu
 ·exact⟨rC 0 0 0 (λt a=>by cases a) (aM _) Cv Cv,Db,λ_ _=>rfl,λ_=>rfl⟩
 ·exact⟨DA 0 0 0 (λt a=>by cases a) (aM _) Cv Cv,Db,λ_ _=>rfl,λ_=>rfl⟩
 ·exact st _ Cu Cu
noncomputable def Y0(b:List D)(a:Str)(c:D)(k:Nat):List D:=[.tuple [.tuple b,.none],.tuple [.tuple b,c],.tuple [.tuple (b.take k++[c]++b.drop (k+1)),.str a],.tuple [.tuple (b.drop 1),.str a],
 .tuple [.tuple (b++[.none]),.str a],.list [.tuple b,.str a],.tuple [.list b,.str a],.tuple [.tuple b],.none,.str "row",.tuple [.str a,.tuple b]]
def aC3{fs}(F:gZ fs an){b:List D}(j:jL fs (.tuple b)=true)(v:a∈an)(o:Od od){k:Nat}(G:k<b.length):∀x∈Y0 b a od k,Cd x/\qQ fs an x=false/\ndc x=true:=by
 have n1:=F.n1;have n5:=F.n5;obtain⟨w,A⟩:=mI j;have f:=EY F j (n:=45) (m:=1) Cv;have g:=KY j
 have d:∀c∈b,ndc c=true:=λc C=>by
  rcases AG j c C with rfl | ⟨_,_,_,_,rfl⟩
  ·rfl
  ·rfl
 have T:∀{L:List D},(∀t∈L,Th 45 1 t)->L.length<=6->Th 300 2 (.tuple L):=λh B=>rC 45 1 6 h B Cv Cv;have e:Th 300 2 (.str a):=iT (F.an.2.1 a v) Cv;have i:Th 300 2 (.tuple b):=T f Cw;have R:∀{x y:D},Th 300 2 x->Th 300 2 y->Cd (.tuple [x,y]):=λl p=>(rC 300 2 2 (N:=1000) (M:=5) (iB l (iB p pT)) (aM _) Cv Cv).cd Cv
 have N:∀{L:List D}{y:D},ndcA L=true->ndc y=true->ndc (.tuple [.tuple L,y])=true:=λ{L y} l p=>by
  show(ndcA L&&(ndc y&&true))=true;rw[l,p];rfl
 have u:∀{L:List D},L.length≠fs.length->qQ fs an (.tuple [.tuple L,.str a])=false:=λ{L} h=>by
  show((decide (L.length=fs.length)&&_)&&_)=false;rw[b9 h];rfl
 intro x q;unfold Y0 at q;simp only[aK,bR,e9]at q;rcases q with rfl | rfl | rfl | rfl | rfl | rfl | rfl | rfl | rfl | rfl | rfl
 ·exact⟨R i sU,G7 _,N g Db⟩
 ·refine⟨R i (o.th.mono Cv Cv),?_,N g o.nd⟩;show(_&&vA an od)=false;rw[o.no an F.an.2.1,G7]
 ·have s:∀t∈b.take k++[od]++b.drop (k+1),Th 45 1 t/\ndc t=true:=λt ht=>by
   rcases cC.mp ht with ht | ht
   ·rcases cC.mp ht with ht | ht
    ·exact⟨f t (dU ht),d t (dU ht)⟩
    ·rw[aP.mp ht];exact⟨o.th,o.nd⟩
   ·exact⟨f t (kF ht),d t (kF ht)⟩
  have H:(b.take k++[od]++b.drop (k+1)).length=fs.length:=by
   rw[bP,bP,bN,dP];show min k b.length+1+_=_;lia
  refine⟨R (T (λt ht=>(s t ht).1) Cw) e,?_,N (pR λt ht=>(s t ht).2) Db⟩;show(jL fs _&&_)=false;rw[show jL fs (.tuple (b.take k++[od]++b.drop (k+1)))=false from BW.mpr λz=>?_]
  ·rfl
  ·obtain⟨_,E⟩:=mI z;have r:fs[k]?=some (fs[k]' Cw):=aG Cw
   have:=E k _ od r (by
    rw[BV,eD (by rw[bN];lia),bN,show k-min k b.length=0 by lia];rfl)
   rw[o.nn,o.no _ (F.vs _ (bB r)).2.2.2.1]at this;cases this
 ·exact⟨R (T (λt ht=>f t (kF ht)) (by rw[dP];lia)) e,u (by rw[dP];lia),N (pR λt ht=>d t (kF ht)) Db⟩
 ·refine⟨R (T (λt ht=>(cC.mp ht).elim (f t) λz=>by rw[aP.mp z];exact sU) (by rw[bP];show _+1<=6;lia)) e,u (by rw[bP];show _+1≠_;lia),N (pR λt ht=>(cC.mp ht).elim (d t) λz=>by rw[aP.mp z];rfl) Db⟩
 ·exact⟨(DA 300 2 2 (N:=1000) (M:=5) (iB i (iB e pT)) (aM _) Cv Cv).cd Cv,Db,N g Db⟩
 ·exact⟨R (DA 45 1 6 f Cw Cv Cv) e,Db,N g Db⟩
 ·refine⟨(rC 300 2 1 (N:=1000) (M:=5) (iB i pT) (aM _) Cv Cv).cd Cv,Db,?_⟩;show(ndcA b&&true)=true;rw[g];rfl
 ·exact⟨(sU (n:=0) (m:=0)).cd Cv,Db,Db⟩
 ·exact⟨(UV (n:=45) (m:=1) Cu).cd Cv,Db,Db⟩
 ·refine⟨R e i,Db,?_⟩;show(true&&(ndcA b&&true))=true;rw[g];rfl
noncomputable def MR(a:List (Nat×Rw)):List D:=a.map λe=>.int (e.1:Nat)
def Lz{a:List Int}(b:a.Pairwise (·<·))(c:a.Perm ((kY ks).map (·.1)))(d:ZF ks):a.map bM=MR ks:=by
 rw[VR b c d,bD];rfl
def S4.len{fs}{a:List (Nat×Rw)}{f:Nat}(w:S4 fs an a f):a.length<=50/\(kY a).length<=60/\(MR a).length=a.length:=by
 have:=w.few;have:=w.f50;refine⟨Cw,?_,aC ..⟩;unfold kY;rw[aC];lia
def S4.eq{fs}{f:Nat}(w:S4 fs an ks f):RO (.list (MR ks)) (.list [])/\bK (.list (MR ks)) (.list [])=decide (ks=[]):=by
 have h:Th 1000 1 (.list (MR ks)):=DA 0 0 50 (λx b=>by
  obtain⟨e,a,rfl⟩:=aS.mp b;have:=w.lt e a;have:=w.f50;exact Za Cw) (by rw[w.len.2.2];exact w.len.1) Cv Cv
 refine⟨⟨h.lay,Db,bL (E9 _ _) Da⟩,?_⟩
 cases ks with
 |nil=>rfl
 |cons e r=>rfl
def S4.pick{fs}{f:Nat}(w:S4 fs an ks f){i:Int}(b:0<=i)(c:i<(MR ks).length):∃(k:Nat)(r:Rw),L2.atI (MR ks) i=some (.int (k:Nat))/\yC k ks=some r/\oZ fs an r:=by
 obtain⟨x,d,g,_⟩:=tR b c;obtain⟨e,a,rfl⟩:=aS.mp d;exact⟨e.1,e.2,g,IH (HM w.ris) a,w.ok _ (aS.mpr ⟨e,a,Db⟩)⟩
noncomputable def zS(a:List (Nat×Rw))(x:D):Bool:=match x with | .int i=>(oH (kY a) i).isNone | _=>false
def Zz{j:Int}(h:(oH (kY ks) j).isNone=true):Dw ks j:=λe b z=>by
 have a:oH (kY ks) j=none:=by
  cases g:oH (kY ks) j with
  |none=>rfl
  |some y=>rw[g]at h;cases h
 unfold oH kY at a;rw[G5,ZJ,JP,T7]at a;exact a e b (b7 z)
def Yv{F:pP}{c:TZ F}{t u:SZ F}{τ DC n σ}(P:F.S->List Sl->Prop)(h:∀q:F.S->Bool->Prop,(∀b,q n b)->c τ n σ q)(i:∀d:qW F,(∀m a,P m a->d.nx m a)->t τ d n σ)(g:P n σ)(k:∀m a,P m a->u τ DC m a):sQ (ZR c t FW) u τ DC n σ:=
 Yy (λm _=>m=n) (λq f=>h q λb=>f _ _ Db) (λm e=>by subst e;exact i _ k) (λm e=>by subst e;exact k _ _ g)
def Yt{F:pP}{c:TZ F}{t e:SZ F}{τ DC n σ}(R:F.S->Prop)(h:∀q:F.S->Bool->Prop,(∀m,R m->q m false)->c τ n σ q)(d:∀m,R m->e τ DC m σ):ZR c t e τ DC n σ:=h (λn1 b=>if b=true then t τ DC n1 σ else e τ DC n1 σ) λm a=>by
 rw[a8 Cv];exact d m a
def E8.eq{fs}{d:Nat}{m:Int}{f:Nat}{n:SpS×S8}(b:E8 fs an d m S T ks t f n):n.1=⟨kY ks,(f:Nat),jJ t⟩:=by
 obtain⟨⟨a,a2,c⟩,e⟩:=n;obtain rfl:a=_:=b.kv;obtain rfl:a2=_:=b.giv;obtain rfl:c=_:=b.str
 rfl
theorem E8.deed{fs}{d:Nat}{m:Int}{g a:List (Nat×Rw)}{k t:Tr}{f c:Nat}{x}(h:E8 fs an d m S T g k f n)(hd:E7 fs an g f b a c x)(e:c<=50)(j:Gr fs an m d (a.map (·.2)) t)(l:d<=4):E8 fs an d m S T a t c (⟨kY a,(c:Nat),jJ t⟩,⟨kY a,(c:Nat),jJ t⟩)/\t.dep<=4:=by
 obtain⟨w,_⟩:=h.rw.deed hd e;obtain⟨i,o⟩:=LE d j;exact⟨⟨⟨h.bk.F,h.bk.fm,h.bk.dp,h.bk.ls,h.bk.d6,Db,w.ok,Db,i,Cw⟩,w,h.sd,h.sf,h.m1,Db,Db,Db,Db⟩,Cw⟩
theorem Fc.z{fs z}(h:Fc fs an ks b z):tJ z=true:=by
 rcases h with⟨_,_,_,_,rfl⟩ | ⟨_,_,_,_,_,_,_,rfl⟩ | ⟨_,_,_,rfl⟩ | ⟨_,_,_,_,_,rfl⟩<;>decide +kernel
noncomputable def ED(fs:Fs)(an:List Str)(rs:List Rw)(d m:Int)(a:Str)(S:Option Ch)(i b c e f g h:Sl):List Sl:=[.val (fJ fs an),.val (.list (rs.map dE)),.val (.int d),.val (.int m),.val (.list ((jD an rs).map bM)),.val (jJ (.say a)),.val (Jz fs rs S),.val (.int ((Ey fs rs S:Nat):Int)),.val (.int ((Em fs rs S:Nat):Int)),i,b,c,e,f,g,h]
def Dy{K}{C:Addr}{d:List Addr}{w:Str}{f:vI}(k:bX K (.ref C) (.type "ValueError")=some true)(i:d.length<=100)(j:jN K (.ref C) (d.map c9)=some false)(h:f.nx [a,b,.val (.tuple [.str w,.none]),.val (xM C)]) :
  Dd (Ip (BR (Fe K (.type "ValueError") (A4 3))) (Iq (BR (QE K d (A4 3))))) (HK 2 (Iu (xG (eC (.str w)) (xG (eC .none) IW)))) lM f [a,b,c,.val (xM C)]:=by
 refine AU (λb=>b=true) (λq e=>⟨_,Db,C,.none,true,Db,k,?_⟩) (λ_=>?_) λg=>by cases g
 ·show(if true=true then _ else _);rw[a9 rfl];exact⟨_,Db,C,.none,false,Db,bL i Da,j,e _ Db⟩
 ·exact CN (.tuple [.str w,.none]) (λq e=>⟨aA Db,e⟩) h
set_option maxHeartbeats 4000000
open PySem L2 TL
def Sa:bZ ["field"] ["field"] (aX (top 14)):=nU
def Ry:bZ ["form","thing","fields"] ["form","thing"] (aX (top 12)):=nU
def Rz:bZ ["form","thing"] ["form","thing"] (aX (top 13)):=nU
def Sy:bZ ["tree"] ["tree"] (aX (top 42)):=nU
def Sz:bZ ["one","other","on_yes","on_no"] ["one","other"] (aX (top 46)):=nU
def Pm:bZ ["thing","fewest","most"] ["thing","fewest","most"] (aX (top 10)):=nU
def Sq:bZ ["question","field"] ["question","field"] (aX (top 32)):=nU
def Sn:bZ ["form","question"] ["form","question"] (aX (top 30)):=nU
def So:bZ ["question","stray","field"] ["question","stray","field"] (aX (top 31)):=nU
def Sm:bZ ["form","question","stray","case","number"] ["form","question","stray","case"] (aX (top 29)):=nU
def Ss:bZ ["side","sides"] ["side","sides"] (aX (top 34)):=nU
def Sr:bZ ["form","question","stray","rows","sides"] ["form","question","stray","rows"] (aX (top 33)):=nU
def Sb:bZ ["form","rows","told"] ["form","rows"] (aX (top 16)):=nU
def Tq:bZ ["form","rows","counts"] ["form","rows"] (aX (top 17)):=nU
def Tu:bZ ["one","other","rest"] ["one","other"] (aX (top 20)):=nU
def Tt:bZ ["top","bottom","shared"] ["top","bottom"] (aX (top 19)):=nU
def Ts:bZ ["form","rows","many"] ["form","rows"] (aX (top 18)):=nU
def Sv:bZ ["rows","numbers"] ["rows","numbers"] (aX (top 38)):=nU
def T0:bZ ["field","name","values","told_by_is","told_by_upto"] ["field"] (aX (top 27)):=nU
def Tz:bZ ["form","questions","field"] ["form"] (aX (top 26)):=nU
def T1:bZ ["form","choices","question"] ["form"] (aX (top 28)):=nU
def Su:bZ ["sides","fewest"] ["sides","fewest"] (aX (top 35)):=nU
def Tv:bZ ["one","other"] ["one","other"] (aX (top 21)):=nU
def Tx:bZ ["fractions","common","found"] ["fractions"] (aX (top 23)):=nU
def Lr:bZ ["form","rows","least","told","question","stray","sides","doubts","bottom"] ["form","rows","least"] (aX (top 37)):=nU
def Tw:bZ ["one","other"] ["one","other"] (aX (top 22)):=nU
def Sw:bZ ["form","rows","least","told"] ["form","rows","least"] (aX (top 39)):=nU
def Sx:bZ ["form","rows","deep","least","found","sides","parts"] ["form","rows","deep","least"] (aX (top 40)):=nU
def Jw:bZ ["self"] ["self"] (aX (lQ (top 45) 4)):=nU
def Pk:bZ ["self"] ["self"] (aX (lQ (top 45) 5)):=nU
def Hl:bZ ["self","number"] ["self","number"] (aX (lQ (top 45) 7)):=nU
def Hk:bZ ["self","thing"] ["self","thing"] (aX (lQ (top 45) 6)):=nU
def Jx:bZ ["self","stood"] ["self"] (aX (lQ (top 45) 8)):=nU
def Fl:bZ ["self","row","number"] ["self","row"] (aX (lQ (top 45) 1)):=nU
def Fm:bZ ["self","number","row"] ["self","number"] (aX (lQ (top 45) 2)):=nU
def Fo:bZ ["self","number","row","stood"] ["self","number","row"] (aX (lQ (top 45) 3)):=nU
def Jt:bZ ["self","form","deep","least"] ["self","form","deep","least"] (aX (lQ (top 45) 0)):=nU
def S0:bZ ["_law_script","_law_way"] ["_law_script"] (aX (top 48)):=nU
def Ta:bZ ["_law_tape_here","_law_many","_law_script","_law_spot","_law_cell","_law_left","_law_mixed"] ["_law_tape_here","_law_many"] (aX (top 49)):=nU
def Tc:bZ ["_law_tape_here","_law_many","_law_letters","_law_way","_law_some","_law_turn","_law_base","_law_size","_law_names_here","_law_at","_law_start"] ["_law_tape_here","_law_many"] (aX (top 50)):=nU
def Td:bZ ["_law_tape_here","_law_fields","_law_values","_law_many","_law_names_here","_law_some","_law_k","_law_size","_law_words"] ["_law_tape_here","_law_fields","_law_values"] (aX (top 51)):=nU
def Te:bZ ["_law_form_here","_law_knot","_law_case","_law_kind","_law_name","_law_value","_law_at","_law_values"] ["_law_form_here","_law_knot","_law_case"] (aX (top 52)):=nU
def Tg:bZ ["_law_form_here","_law_some","_law_name","_law_values"] ["_law_form_here"] (aX (top 54)):=nU
def Ti:bZ ["_law_form_here","_law_rows"] ["_law_form_here","_law_rows"] (aX (top 55)):=nU
def Tj:bZ ["_law_form_here","_law_rows","_law_counts_here"] ["_law_form_here","_law_rows"] (aX (top 56)):=nU
def Tl:bZ ["_law_tape_here","_law_form_here","_law_case","_law_name","_law_values","_law_value"] ["_law_tape_here","_law_form_here"] (aX (top 58)):=nU
def Tf:bZ ["_law_found","_law_due"] ["_law_found","_law_due"] (aX (top 53)):=nU
def Tk:bZ ["_law_form_here","_law_rows","_law_deep","_law_few","_law_counts_here","_law_leaf","_law_chosen","_law_least_top","_law_least_bottom","_law_question","_law_stray","_law_knot","_law_yes","_law_no","_law_top","_law_bottom"] ["_law_form_here","_law_rows","_law_deep","_law_few"] (aX (top 57)):=nU
def Tn:bZ ["_law_one","_law_other","_law_found"] ["_law_one","_law_other"] (aX (top 59)):=nU
def To:bZ ["_law_tape_here","_law_form_here","_law_row","_law_case","_law_answer","_law_at","_law_odd","_law_some"] ["_law_tape_here","_law_form_here","_law_row"] (aX (top 61)):=nU
def Va:bZ ["_law_tape_here","_law_form_here","_law_state","_law_given","_law_gone","_law_number","_law_bad_here","_law_there","_law_way"] ["_law_tape_here","_law_form_here","_law_state"] (aX (top 62)):=nU
def Vb:bZ ["_law_tape_here","_law_form_here","_law_state","_law_there","_law_way","_law_row","_law_number"] ["_law_tape_here","_law_form_here","_law_state"] (aX (top 63)):=nU
def VH:bZ ["_law_book","_law_deed_here","_law_told_here","e"] ["_law_book","_law_deed_here"] (aX (top 60)):=nU
def Vd:bZ ["_law_book","_law_state","_law_due","_law_k","_law_found"] ["_law_book","_law_state"] (aX (top 65)):=nU
def Vc:bZ ["_law_book","_law_form_here","_law_state","_law_deed_here","_law_elder","_law_former","_law_first","_law_rows","_law_told_here","_law_due"] ["_law_book","_law_form_here","_law_state","_law_deed_here"] (aX (top 64)):=nU
def XP:bZ ["_law_script","_law_tape_here","_law_form_here","_law_state","_law_book","_law_beside","_law_k","_law_bad_here","_law_word","_law_deed_here"] ["_law_script"] (aX (top 66)):=nU
section
variable{P:cW}{w:f7}{K:aF}{mg:Str->Option Value}{base:Heap}{k7 U O L I Y j4 Z:Addr}{uh td tf tj ui uj tm tu uk vp li lj ll lm lq lr lu lv lx lz ma md me mf mh mi mj ml mo mr mu mv mw mx gj my gk mz nc ng nh ni gl nk nl nq gm nt gn iv nu nv ny js gp fq:Addr}{vq uq ur ut vw vx uu uv vy vz oh oi oj ol om on oo oq ot ou ow ox oy ph pj pq pu py pz qa qb jy qc qd gu qe gw qf qg qh qi qj gx qk ql qm gy qo gz jd qp qq qr jz ic dh:iF}{A:Addr}{t_SIDES:Addr}{z5:Tok}(T:Txt K mg k7 U O L I Y j4 Z uh td tf tj ui uj tm tu uk vp li lj ll lm lq lr lu lv lx lz ma md me mf mh mi mj ml mo mr mu mv mw mx gj my gk mz nc ng nh ni gl nk nl nq gm nt gn iv nu nv ny js gp fq vq uq ur ut vw vx uu uv vy vz oh oi oj ol om on oo oq ot ou ow ox oy ph pj pq pu py pz qa qb jy qc qd gu qe gw qf qg qh qi qj gx qk ql qm gy qo gz jd qp qq qr jz ic dh A t_SIDES z5)
include T
def Qw:dI P w K mg base iG 1 ll oj ["field"] (cZ K Vg):=by
 refine uJ T.D_12.F Sa λc nd a Q h=>?_;obtain⟨f,rfl,b,h⟩:=h;refine⟨_,(cA (dM (cV cJ gU (bU bE cN (aH 0) aQ) (dD (aB kU aL))))),?_⟩;show MX _ _ [.val (lI f)];refine⟨_,Db,_,Db,aA Db,?_,h⟩;rw[aC];simp only[dQ,FF];lia
def Jh:dI P w K mg base iG 1 vp vz ["thing","fewest","most"] (cZ K Ov):=by
 refine uJ T.D_9.F Pm λg nd f Q h=>?_;obtain⟨d,lo,b,rfl,c,h⟩:=h;refine⟨_,(cA (dM (EL (tO (wG _) (aH 0) (λh=>gS nN Db T.b_isinstance eY (cI h (cI (nI Db T.b_tuple oY Db) gM)))) (EI (YF Mf Mf uW uW (aH 1) (cB jM (aB (aH 0) aL) cG T.b_len fZ) (aH 2)))))),?_⟩;show MX _ _ [.val d,.val (.int lo),.val (.int b)];refine⟨_,Db,?_⟩
 cases d with
 |tuple a=>
  show(if true=true then _ else Q (.bool false));rw[a9 rfl];refine⟨_,Db,_,Db,?_⟩;show(if decide (lo<=(a.length:Int))=true then _ else Q (.bool false));have e:xC (.tuple a) lo b=(decide (lo<=(a.length:Int))&&decide ((a.length:Int)<=b)):=rfl;rw[e]at h
  cases hb:decide (lo<=(a.length:Int))with
  |true=>
   rw[hb]at h;rw[a9 rfl];exact⟨_,Db,h⟩
  |false=>
   rw[hb]at h;rw[a8 Cv];exact h
 |dict kvs=>cases c
 |_=>exact h
def Qv:dI P w K mg base iG 2 li oh ["form","thing"] (cZ K Ve):=by
 refine uJ T.D_10.F Ry λm nd C Q h=>?_;obtain⟨fs,an,d,rfl,F,hd,h⟩:=h;refine⟨_,(aW (ss 2 nd (bU bE cN (aH 0) aQ))
 (aW (jC (HA (tv (cd (Jh T) T.D_9 m (aB (aH 1) (aB (cB jM (aB (aH 2) aL) cG T.b_len fZ) (aB (cB jM (aB (aH 2) aL) cG T.b_len fZ) aL))))))
 (cA (dM vD))
 fU)
 (cA (dM (cB Ld (aB (el (fr:=[none,none]) (N':=["field","value"]) (Wv (aB (aH 2) (aB (aH 1) aL)) (λh=>Xw Db T.b_zip h)) (λb=>⟨(qR (rD Db (fQ (pk 0) (fQ (pk 1) oN)))),gY,(rE (ND m) WS (aH 1) (cd (Qw T) T.D_12 m (aB (aH 0) aL)))⟩)) aL) (AH Db) T.b_all YX))))),?_⟩
 show jA _ _ _ [.val (fJ fs an),.val d,.un];have o:(fs.map lI).length=fs.length:=aC ..
 have c:xC d ((fs.map lI).length:Int) ((fs.map lI).length:Int)=false->jL fs d=false:=λe=>by
  cases d with
  |tuple ts=>
   have:¬ts.length=fs.length:=λz=>by
    simp only[xC,o,z,nQ,aj,Bool.and_true]at e;cases e
   simp only[jL,b9 this,aFj]
  |_=>rfl
 refine cM (.tuple (fs.map lI)) (λq i=>⟨_,Db,_,Db,i⟩) ?_;refine jZ (λb=>b=!xC d ((fs.map lI).length:Int) ((fs.map lI).length:Int)) (λq i=>⟨_,Db,_,Db,_,Db,d,_,_,Db,oF hd.1,i _ Db⟩) (λj=>?_) λt=>?_
 ·have:=c (by simpa using j.symm);rw[this]at h;exact h
 ·try unfold lM
  dsimp only;have j:xC d ((fs.map lI).length:Int) ((fs.map lI).length:Int)=true:=by simpa using t.symm
  cases d with
  |tuple ts=>
   have g:ts.length=fs.length:=by
    simp only[xC,o,dR,d0]at j;lia
   show pO (f1 Jb) _ _ Q;dsimp only[pO,xG,IW];have n5:=F.n5;refine IA (ts:=qJ (fs.map lI) ts) (λR h=>⟨_,Db,_,Db,_,_,Db,h⟩) (λx=>.bool (Gi x)) (by rw[mQ];lia) (λx v=>?_) (λa b q u i=>?_) ?_
   ·obtain⟨k,l⟩:=cT v;obtain⟨a,b,_,_,rfl⟩:=yO l;exact⟨a,b,Db⟩
   ·obtain⟨k,l⟩:=cT u;obtain⟨y,B,r,s,e⟩:=yO l;cases e;obtain⟨f,n,rfl⟩:=aS.mp (bB r);exact⟨_,Db,_,Db,f,Db,(F.vs f n).2.1,EH (DU (F.vals n) (hd.item (bB s))) i⟩
   ·refine⟨(qJ (fs.map lI) ts).map Gi,by rw[bD];rfl,?_⟩;rw[aBn]
    have e:jL fs (.tuple ts)=(fs.zip ts).all λp=>L8 p.1 p.2:=by
     simp only[jL,b7 g,pL]
    rw[e]at h;exact h
  |_=>exact c7 j (by simp[xC])
def PJ:dI P w K mg base iG 3 lj oi ["form","thing"] (cZ K Vf):=by
 refine uJ T.D_11.F Rz λg nd j Q h=>?_;obtain⟨fs,an,d,rfl,F,hd,h⟩:=h;refine⟨_,(aW (jC (HA (tv (cd (Jh T) T.D_9 g (aB (aH 1) (aB aQ (aB aQ aL))))))
 (cA (dM vD))
 fU)
 (cA (dM (EL (cd (Qv T) T.D_10 g (aB (aH 0) (aB (bU bE cN (aH 1) aQ) aL))) (EI (rE (ND g) WS (bU bE cN (aH 1) aQ) (bU bE cN (aH 0) aQ))))))),?_⟩
 show jA _ _ _ [.val (fJ fs an),.val d];rcases Zd d with⟨c,a,rfl⟩ | ⟨e,b⟩
 ·refine xS (λq f=>⟨_,Db,_,_,_,Db,oF hd.1,f _ Db⟩) ?_;refine⟨_,Db,_,Db,_,Db,fs,an,c,Db,F,hd.item Cy,?_⟩;show(if jL fs c=true then _ else _);have e:qQ fs an (.tuple [c,a])=(jL fs c&&vA an a):=rfl;rw[e]at h
  cases i:jL fs c with
  |true=>
   rw[a9 rfl];rw[i]at h;refine⟨_,Db,_,Db,_,Db,_,Db,EH (PF F.an.2.1 (hd.item Cy)) ?_⟩;show Q (.bool ((an.map aR).any λz=>bK z a));rw[E3];exact h
  |false=>
   rw[a8 Cv];rw[i]at h;exact h
 ·refine DJ (λq f=>⟨_,Db,d,_,_,Db,oF hd.1,f _ (by rw[e];rfl)⟩) ?_
  have:qQ fs an d=false:=by
   unfold Kh at b;unfold qQ;split at b
   ·cases b
   ·rfl
  rw[this]at h;exact h
def Lb:dI P w K mg base iG 1 my qe ["tree"] (cZ K Uv):=by
 refine uJ T.D_35.F Sy λc nd b Q h=>?_;obtain⟨t,rfl,h⟩:=h;refine⟨_,(cA (dM (rE lB oU (bU bE cN (aH 0) aQ) cK))),?_⟩
 cases t with
 |say a=>exact⟨_,Db,_,Db,h⟩
 |ask k n v s y m=>exact⟨_,Db,_,Db,h⟩
def aAf(J:Nat)
  (d:dI P w K mg base iG (2+J) gk gw ["one","other"] (iH K (uP J))):dI P w K mg base iG (2+J+1) gk gw ["one","other"] (iH K (uP (J+1))):=by
 refine Eg T.D_36.F Sz λo nd ds Q h=>?_;obtain⟨fs,an,t,u,rfl,F,j,l,Al,Ak,Ao,h⟩:=h;refine⟨_,(aW (jC (pM (yV (tv (cd (hk:=by lia) (Lb T) T.D_35 o (aB (aH 0) aL))) (yV (tv (cd (hk:=by lia) (Lb T) T.D_35 o (aB (aH 1) aL))) (uK (dF (AS o) iP (gI kO rV (aH 0) jX (gT aQ)) (gI kO rV (aH 1) jX (gT aQ)))))))
 (cA (sZ (Qk (dF (kR o) iP (aH 0) (aH 1)) (NY aL) (NY (aB (dD aL) aL)))))
 fU)
 (aW (mR (i:=2) (fr:=[none]) (N':=["place"]) (fN (EK (cF (hk:=by lia) d T.D_36 o (aB (bU bE cN (aH 0) aQ) (aB (bU bE cN (aH 1) aQ) aL))))) (λb=>⟨(eA (pk 0)),gY,(cV cJ gU (dD (aB cK aL)) (aH 0))⟩) (λX S=>jU (show nT _ (aX (top 46)) ["one","other","on_yes","on_no"] ["place"] [none]=true from by decide +kernel) nd Db (by first | exact j7 Db | exact j1 Db) Db X S Db))
 (aW (mR (i:=3) (fr:=[none]) (N':=["place"]) (fN (EK (cF (hk:=by lia) d T.D_36 o (aB (bU bE cN (aH 0) aQ) (aB (bU bE cN (aH 1) aQ) aL))))) (λb=>⟨(eA (pk 0)),gY,(cV cJ gU (dD (aB cK aL)) (aH 0))⟩) (λX S=>jU (show nT _ (aX (top 46)) ["one","other","on_yes","on_no"] ["place"] [none]=true from by decide +kernel) nd Db (by first | exact j7 Db | exact j1 Db) Db X S Db))
 (cA (sZ (X4 (aH 2) (aH 3))))))),?_⟩
 show jA _ _ _ [.val (jJ t),.val (jJ u),.un,.un];refine jZ (λb=>b=!LD t u) (λq c=>?_) (λhT=>?_) λN=>?_
 ·refine⟨_,Db,t,Db,?_⟩;show(if XR t=true then q true else _)
  cases t with
  |say a=>exact(a9 Db).mpr (c _ Db)
  |ask k n v s y m=>
   refine(a8 (λz=>by cases z)).mpr ?_;refine⟨_,Db,u,Db,?_⟩;show(if XR u=true then q true else _)
   cases u with
   |say b=>exact(a9 Db).mpr (c _ Db)
   |ask C E H G g f=>
    refine(a8 (λz=>by cases z)).mpr ?_;refine⟨_,Db,_,Db,wB (QJ F j) (QJ F l),?_⟩;show q (!bK (.tuple [.str "ask",.tuple [.str k,.str n,.str v],.str s]) (.tuple [.str "ask",.tuple [.str C,.str E,.str H],.str G]));rw[YH];exact c _ Db
 ·have W:LD t u=false:=by
   cases B:LD t u with
   |false=>rfl
   |true=>rw[B]at hT;cases hT
  obtain⟨c1,c2⟩:=YQ W;refine⟨_,Db,_,Db,wB (LQ F j Cw) (LQ F l Cw),?_⟩;show(if bK (jJ t) (jJ u)=true then _ else _);by_cases e:t=u
  ·rw[a9 ((yD t u).mpr e)];rw[c1 e]at h;exact⟨Da,h⟩
  ·rw[a8 (λz=>e ((yD t u).mp z))];rw[c2 e]at h;exact⟨Da,Da,h⟩
 ·unfold lM;dsimp only
  cases t with
  |say a=>cases N
  |ask k n v s y m=>
   cases u with
   |say b=>cases N
   |ask C E H G g f=>
    have r:false=!decide (k=C/\n=E/\v=H/\s=G):=N
    have W:k=C/\n=E/\v=H/\s=G:=by
     by_cases e:k=C/\n=E/\v=H/\s=G
     ·exact e
     ·rw[b9 e]at r;cases r
    obtain⟨rfl,rfl,rfl,rfl⟩:=W;obtain⟨_,_,hy,hm⟩:=j;obtain⟨_,_,kd,lS⟩:=l;have e1:(Tr.ask k n v s y m).dep=max y.dep m.dep+1:=rfl;have yx:(Tr.ask k n v s g f).dep=max g.dep f.dep+1:=rfl;rw[QI,cX]at h;have l1:=qU y g;have l2:=qU m f;have n1:=rW (t:=y) Cw;have n2:=rW (t:=m) Cw;have one:∀(w:Str)(p:List Str)(q:D->Prop),p.length<=12->q (oB (w::p))->He (.tuple [.str w]) (oB p) q:=λw p q M c=>⟨by rw[aC];show 1+_<=_;lia,c⟩;refine cM (.list (((B3 y g).map Du).map oB)) (λq c=>?_) ?_
    ·refine iI (ts:=(B3 y g).map oB) (λR h=>⟨_,Db,_,Db,_,Db,_,Db,fs,an,y,g,Db,F,hy,kd,Cw,Cw,Cw,_,Db,h⟩) (λx=>match x with | .tuple ts=>.tuple (.str "yes"::ts) | _=>x) (by rw[aC];lia) (λx q B c=>?_) ?_
     ·obtain⟨p,M,rfl⟩:=aS.mp B;have:=qV y g p M;exact⟨Da,_,Db,one "yes" p q Cw c⟩
     ·rw[bD];rw[bD]at c;exact c
    refine cM (.list (((B3 m f).map Ee).map oB)) (λq c=>?_) ?_
    ·refine iI (ts:=(B3 m f).map oB) (λR h=>⟨_,Db,_,Db,_,Db,_,Db,fs,an,m,f,Db,F,hm,lS,Cw,Cw,Cw,_,Db,h⟩) (λx=>match x with | .tuple ts=>.tuple (.str "no"::ts) | _=>x) (by rw[aC];lia) (λx q B c=>?_) ?_
     ·obtain⟨p,M,rfl⟩:=aS.mp B;have:=qV m f p M;exact⟨Da,_,Db,one "no" p q Cw c⟩
     ·rw[bD];rw[bD]at c;exact c
    exact⟨_,Db,_,Db,_,_,Db,Db,by simp only[aC];lia,h⟩
def Rl:dI P w K mg base iG 15 gk gw ["one","other"] (iH K Uw):=by
 have h:∀a:Nat,dI P w K mg base iG (2+a) gk gw ["one","other"] (iH K (uP a)):=λa=>by
  induction a with
  |zero=>exact Zu SD λc Q h=>W3 h
  |succ a b=>exact aAf T a b
 exact h 13
def Rh:dI P w K mg base iG 1 ml py ["question","field"] (cZ K Um):=by
 refine uJ T.D_27.F Sq λj nd m Q h=>?_;obtain⟨k,n,v,f,rfl,g,l,o,h⟩:=h;refine⟨_,(aW (jC (dF lB oU (bU bE cN (aH 0) aQ) cK)
 (cA (dM (dD (aB (bU bE cN (aH 0) aQ) aL))))
 fU)
 (cA (dM (gI kO rV (bU bE cN (aH 1) aQ) jX (gT (cV cJ gU (EJ (bU bE cN (aH 1) aQ) (aB (bU bE cN (aH 0) aQ) aL) (λh d=>nB rL rK rJ (D1 j) h d)) aQ)))))),?_⟩
 show jA _ _ _ [.val (.tuple [.str k,.str n,.str v]),.val (lI f)];unfold EC at h;refine jZ (λb=>b=decide (k="is")) (λq i=>⟨_,Db,_,Db,i _ Db⟩) (λc=>?_) λa=>?_
 ·rw[a9 (b8 c.symm)]at h;exact⟨_,Db,_,Db,aA Db,h⟩
 ·try unfold lM
  dsimp only;rw[a8 (j9 a.symm)]at h;refine⟨_,Db,_,Db,_,Db,_,Db,_,Db,_,Db,_,Db,_,_,Db,rT g l,?_⟩;show Q (.tuple (kW (f.2.map aR) none (some ((f.2.idxOf v:Int)+1))));have e:((f.2.idxOf v:Nat):Int)+1=((f.2.idxOf v+1:Nat):Int):=rfl;rw[e,mX,pI];exact h
def Rf:dI P w K mg base iG 1 mi pq ["form","question"] (cZ K Uk):=by
 refine uJ T.D_25.F Sn λp nd s Q h=>?_;obtain⟨fs,an,k,n,v,i,j,rfl,F,c,a,h⟩:=h;refine⟨_,(cA (dM (wK (el (fr:=[none]) (N':=["field"]) (fN (bU bE cN (aH 0) aQ)) (λb=>⟨(eA (pk 0)),gY,(bU bE cN (aH 0) aQ)⟩)) (aB (bU bE cN (aH 1) aQ) aL) (λh l=>nB cO nE nD (wD p) h l)))),?_⟩;have n5:=F.n5;have m:=(aI.mp c).1;have g:(fs.map (·.1)).idxOf n=j:=by rw[<- a];exact CS F c
 have d:n∈fs.map (·.1):=aS.mpr ⟨i,bB c,a⟩;show CY _ _ _ Q;dsimp only[CY];refine iI (ts:=fs.map lI) (λR h=>⟨_,Db,_,Db,_,Db,h⟩) fst (by rw[aC];lia) (λx q r o=>?_) ?_
 ·obtain⟨f,t,rfl⟩:=aS.mp r;exact⟨_,Db,_,Db,o⟩
 ·have e:(fs.map lI).map fst=(fs.map (·.1)).map aR:=by rw[bD,bD];rfl
  rw[e];have:=rT F.nd.2.1 d;rw[g]at this;exact⟨_,Db,_,Db,_,Db,_,j,Db,this,Cw,h⟩
def Rg:dI P w K mg base iG 2 mj pu ["question","stray","field"] (cZ K Ul):=by
 refine uJ T.D_26.F So λd nd i Q h=>?_;obtain⟨k,n,v,st,f,rfl,c,g,a,h⟩:=h;refine⟨_,(cA (dM (cV cJ gU (cd (Rh T) T.D_27 d (aB (aH 0) (aB (aH 2) aL))) (LG (dF lB oU (aH 1) cK) (dD (aB kU aL)) (dD aL))))),?_⟩;have b:=XY (k:=k) (v:=v) a;refine⟨_,Db,_,Db,k,n,v,f,Db,c,g,a,_,Db,?_⟩;unfold wX at h;show(if decide (st="yes")=true then _ else _);by_cases e:st="yes"
 ·rw[a9 (b7 e)];rw[a9 e]at h;exact⟨aA Db,by rw[aC];show _+1<=_;lia,h⟩
 ·rw[a8 (by simpa using e)];rw[a8 e]at h;exact⟨aA Db,by rw[aC];show _+0<=_;lia,h⟩
def Re:dI P w K mg base iG 3 mh pj ["form","question","stray","case"] (cZ K Uj):=by
 refine uJ T.D_24.F Sm λt nd G Q h=>?_;obtain⟨fs,an,k,n,v,st,e,rfl,F,s,u,x,h⟩:=h;refine⟨_,(aW (ss 4 nd (cd (Rf T) T.D_25 t (aB (aH 0) (aB (aH 1) aL))))
 (cA (dM (LG (dF (ND t) WS (bU bE cN (aH 3) (aH 4)) (cd (Rg T) T.D_26 t (aB (aH 1) (aB (aH 2) (aB (bU bE cN (bU bE cN (aH 0) aQ) (aH 4)) aL))))) cK cK)))),?_⟩
 show jA _ _ _ [.val (fJ fs an),.val (.tuple [.str k,.str n,.str v]),.val (.str st),.val (.tuple e),.un];obtain⟨B,p⟩:=mI x;obtain⟨d,a,f,i,E⟩:=zQ s;obtain⟨j,g⟩:=cT a;have C:=(aI.mp g).1;have b:e[j]?=some e[j]:=aG Cw
 generalize y:e[j]=c at b
 have l:L2.atI e (j:Int)=some c:=L2.gK b;have r:L2.atI (fs.map lI) (j:Int)=some (lI d):=L2.gK (by rw[aO,g];rfl);have hok:=p j d c g b;rw[DG F g b f]at h
 have o:Cd c:=by
  cases c with
  |none=>exact(sU (n:=8) (m:=0)).cd Cv
  |str z=>exact(iT (F.vals a z (b8 hok)) (n:=8) (m:=0) (aM _)).cd Cv
  |_=>cases hok
 refine cM (.int (j:Int)) (λq s=>⟨_,Db,_,Db,fs,an,k,n,v,d,j,Db,F,g,f,s⟩) ?_;refine⟨_,Db,_,Db,_,l,_,Db,_,Db,_,Db,_,Db,_,Db,_,r,k,n,v,st,d,Db,F.vals a,i,(F.vs d a).2.1,EH (WL (F.vals a) i o) ?_⟩;rw[<- XU u hok]at h;show(if R8 c (.tuple (wX k v st d))=true then _ else _)
 cases hb:R8 c (.tuple (wX k v st d))with
 |true=>rw[a9 rfl];rw[hb,a9 rfl]at h;exact h
 |false=>rw[a8 Cv];rw[hb,a8 Cv]at h;exact h
def Kz:dI P w K mg base iG 1 mr qa ["side","sides"] (iH K Up):=by
 refine Eg T.D_29.F Ss λl nd j Q h=>?_;obtain⟨w,ss,rfl,k,h⟩:=h;refine⟨_,(cA (sZ (fl (fr:=[none,none,some 0]) (N':=["number","found","side"]) (aB5 (aB (aH 1) aL) (λh=>aBe Db T.b_enumerate h)) (λb=>⟨(qR (rD Db (fQ (pk 0) (fQ (pk 1) oN)))),(EB (dF lB oU (aH 1) (aH 2))),(aH 0)⟩)))),?_⟩;rw[<- LH]at h;refine X9 (XE (ts:=BM (ss.map aR)) (λR h=>⟨_,Db,_,Db,h⟩) (Ez w) Hf (by rw[sA,aC];lia) (λx g=>?_) (λa b q f e=>?_) (λa b q f e=>?_) h)
 ·rw[GQ]at g;obtain⟨y,_,rfl⟩:=aS.mp g;exact⟨_,_,Db⟩
 ·obtain⟨i,d⟩:=cT f;have c:=(aI.mp d).1;rw[sA,aC]at c;rw[A3 (a:=.str ss[i]) (by rw[aO,aG c];rfl)]at d;cases d;exact⟨_,Db,_,Db,e⟩
 ·exact⟨_,Db,e⟩
def Ky:dI P w K mg base iG 4 mo pz ["form","question","stray","rows"] (wE K Uo):=by
 refine Nb T.D_28.F Sr λc nd o Q h=>?_;obtain⟨fs,an,k,n,v,st,rs,rfl,F,l,f,hok,d,h⟩:=h;refine⟨_,(aW (mR (i:=4) (fr:=[none,some 0,some 1,some 2]) (N':=["row","form","question","stray"]) (fN (aH 3)) (λb=>⟨(eA (pk 0)),gY,(cd (Re T) T.D_24 c (aB (aH 1) (aB (aH 2) (aB (aH 3) (aB (bU bE cN (aH 0) aQ) aL)))))⟩) (λj g=>jU (show nT _ (aX (top 33)) ["form","question","stray","rows","sides"] ["row","form","question","stray"] [none,some 0,some 1,some 2]=true from by decide +kernel) nd Db (by first | exact j7 Db | exact j1 Db) Db j g Db))
 (cA (JZ (cF (Kz T) T.D_29 c (aB cK (aB (aH 4) aL))) (cF (Kz T) T.D_29 c (aB cK (aB (aH 4) aL)))))),?_⟩
 show jA _ _ _ [.val (fJ fs an),.val (.tuple [.str k,.str n,.str v]),.val (.str st),.val (.list (rs.map dE)),.un];have e:(rs.map dE).map (Ik fs k n v st)=(rs.map λr=>jW fs k n v st r.1).map aR:=by rw[bD,bD];rfl
 refine cM (.list ((rs.map λr=>jW fs k n v st r.1).map aR)) (λq a=>?_) ?_
 ·refine iI (ts:=rs.map dE) (λR h=>⟨_,Db,_,Db,h⟩) (Ik fs k n v st) (by rw[aC];lia) (λx q m a=>?_) ?_
  ·obtain⟨r,c,rfl⟩:=aS.mp m;exact⟨_,Db,_,Db,_,Db,_,Db,_,Db,fs,an,k,n,v,st,r.1,Db,F,l,f,(hok r c).1,a⟩
  ·rw[e];exact a
 rw[<- OW,<- OW]at h;exact⟨_,Db,"yes",_,Db,by rw[aC];exact d,_,Db,"no",_,Db,by rw[aC];exact d,h⟩
def Ku:dI P w K mg base iG 1 lm ol ["form","rows"] (iH K T2):=by
 refine Eg T.D_13.F Sb λd nd o Q h=>?_;obtain⟨fs,an,rs,rfl,F,hok,k,h⟩:=h;refine⟨_,(aW (ss 2 nd (el (fr:=[none]) (N':=["row"]) (fN (aH 1)) (λb=>⟨(eA (pk 0)),gY,(bU bE cN (aH 0) aQ)⟩)))
 (cA (sZ (fl (fr:=[none,some 2]) (N':=["answer","told"]) (fN (bU bE cN (aH 0) aQ)) (λb=>⟨(eA (pk 0)),gY,(SG (aH 1) (aB (aH 0) aL) (λh f=>nB cO PySem.F.slot_list_count PySem.F.type_list_count (RW d) h f))⟩))))),?_⟩
 show jA _ _ _ [.val (fJ fs an),.val (.list (rs.map dE)),.un];have a4:=F.a4;refine cM (.list (rs.map λr=>aR r.2)) (λq c=>?_) ?_
 ·refine iI (ts:=rs.map dE) (λR h=>⟨_,Db,_,Db,h⟩) Pn (by rw[aC];lia) (λx q g c=>?_) ?_
  ·obtain⟨r,d,rfl⟩:=aS.mp g;exact⟨_,Db,_,Db,c⟩
  ·rw[bD];exact c
 have j:=XG (ys:=rs.map λr=>r.2) λy l=>by
  obtain⟨r,d,rfl⟩:=aS.mp l;exact F.an.2.1 _ (hok r d).2
 rw[bD]at j;refine X9 (iI (ts:=an.map aR) (λR h=>⟨_,Db,_,Db,_,Db,h⟩) (Fd rs) (by rw[aC];lia) (λx q g c=>?_) ?_)
 ·obtain⟨a,f,rfl⟩:=aS.mp g;have i:=iT (F.an.2.1 a f) (n:=8) (m:=0) (aM _);refine⟨_,Db,_,Db,_,Db,_,Db,⟨j.1,i.lay,by have:=i.depth;lia⟩,?_⟩;rw[MQ];exact c
 ·show Q _
  have e:(an.map aR).map (Fd rs)=(jD an rs).map bM:=by
   unfold jD;rw[bD,bD];rfl
  rw[e];exact h
def Qx:dI P w K mg base iG 2 lq om ["form","rows"] (cZ K Ua):=by
 refine uJ T.D_14.F Tq λn nd v Q h=>?_;obtain⟨fs,an,rs,rfl,F,hok,l,h⟩:=h;refine⟨_,(aW (ss 2 nd (EK (cF (Ku T) T.D_13 n (aB (aH 0) (aB (aH 1) aL)))))
 (cA (dM (bU bE cN (bU bE cN (aH 0) aQ) (wK (aH 2) (aB (cB Le (aB (aH 2) aL) (xE Db) T.b_max YW) aL) (λh o=>nB cO nE nD (wD n) h o)))))),?_⟩
 show jA _ _ _ [.val (fJ fs an),.val (.list (rs.map dE)),.un];have a2:=F.a2;refine cM (.list ((jD an rs).map bM)) (λq u=>⟨_,Db,_,Db,fs,an,rs,Db,F,hok,l,u⟩) ?_
 have k:jD an rs≠[]:=λz=>by
  have:=h9 kH z;unfold jD at this;rw[aC]at this;simp at this;rw[this]at a2;simp at a2
 refine⟨_,Db,_,Db,_,Db,_,Db,_,Db,_,Db,k,λm t a=>?_⟩;obtain⟨j,g,f⟩:=EG (jD an rs) m t;have s:=(aI.mp g).1;have p:(jD an rs).length=an.length:=by unfold jD;rw[aC]
 have a4:=F.a4;have c:an[j]?=some an[j]:=aG Cw;have e:(jD an rs)[j]?=some ((yF rs an[j]:Nat):Int):=by unfold jD;rw[aO,c];rfl
 rw[g]at e;have x:m=((yF rs an[j]:Nat):Int):=c8 e;refine⟨_,j,Db,GE g f,Cw,_,L2.gK (by rw[aO,c];rfl),h _ ⟨j,c,λi b hb=>?_,λi b r hb=>?_⟩⟩
 ·have:=a ((yF rs b:Nat):Int) (bB (i:=i) (by unfold jD;rw[aO,hb];rfl));lia
 ·have d:(jD an rs)[i]?=some ((yF rs b:Nat):Int):=by unfold jD;rw[aO,hb];rfl
  have y:=a _ (bB d);have B:((yF rs b:Nat):Int)≠m:=λz=>f i r (by rw[d,z]);lia
def Kx:dI P w K mg base iG 1 lv oq ["one","other"] (cZ K Uc):=by
 refine uJ T.D_17.F Tu λn nd m Q h=>?_;obtain⟨a,b,rfl,h⟩:=h;refine⟨_,(aW (VA (dF GD uW (aH 1) aQ)
 (aW (ss 2 nd (cV pF HV (aH 0) (aH 1)))
 (aW (ss 0 nd (aH 1))
 (cA (ss 1 nd (aH 2))))) (λj hb=>V4 x9 j hb))
 (cA (dM (aH 0)))),?_⟩
 show jA _ _ _ [.val (.int a),.val (.int b),.un];refine RB (λy k=>∃(x:Nat)(g:Sl),k=[.val (.int x),.val (.int y),g]/\x.gcd y=a.gcd b) b ⟨a,_,Db,Db⟩ λy l i=>?_;obtain⟨x,g,rfl,d⟩:=i;refine⟨decide (0<y),λq c=>⟨_,Db,?_⟩,?_⟩
 ·show q (decide ((y:Int)>0));have:decide ((y:Int)>0)=decide (0<y):=by rw[v8];lia
  rw[this];exact c
 by_cases e:0<y
 ·rw[a9 (b7 e)];refine cM (.int ((x%y:Nat):Int)) (λq c=>⟨_,Db,_,Db,(show(0:Int)<(y:Int) by lia),?_⟩) ?_
  ·rw[<- Int.natCast_emod];exact c
  refine cM (.int y) (λq c=>⟨_,Db,c⟩) ?_;refine CN (.int ((x%y:Nat):Int)) (λq c=>⟨_,Db,c⟩) ⟨x%y,BD _ e,y,_,Db,?_⟩;rw[<- d,aO8 x y,Nat.gcd_rec y x,aO8]
 ·rw[a8 (by simpa using e)];have f:y=0:=by lia
  subst f;rw[Nat.gcd_zero_right]at d;subst d;exact⟨_,Db,h⟩
def Kw:dI P w K mg base iG 2 lu oo ["top","bottom"] (cZ K Ls):=by
 refine uJ T.D_16.F Tt λj nd k Q h=>?_;obtain⟨a,b,rfl,hb,f,c,h⟩:=h;refine⟨_,(aW (ss 2 nd (cd (Kx T) T.D_17 j (aB (aH 0) (aB (aH 1) aL))))
 (cA (dM (dD (aB (cV KP HV (aH 0) (aH 2)) (aB (cV KP HV (aH 1) (aH 2)) aL)))))),?_⟩
 show jA _ _ _ [.val (.int a),.val (.int b),.un];refine cM (.int ((a.gcd b:Nat):Int)) (λq i=>⟨_,Db,_,Db,a,b,Db,i⟩) ?_;have g:0<a.gcd b:=tX _ hb;have d:a.gcd b<=b:=Nat.gcd_le_right _ hb
 have hd:(0:Int)<((a.gcd b:Nat):Int)/\((a.gcd b:Nat):Int)<2^200:=⟨Cw,by
  have:(a.gcd b)<2^190:=rN d c;have e:(2^190:Nat)<=2^200:=mO Cv Cv
  exact_mod_cast bT this e⟩
 refine⟨_,Db,_,Db,hd,_,Db,_,Db,hd,aA Db,?_⟩;show Q (.tuple [.int ((a:Int) / ((a.gcd b:Nat):Int)),.int ((b:Int) / ((a.gcd b:Nat):Int))]);rw[<- uI,<- uI];exact h
def Kv:dI P w K mg base iG 3 lr on ["form","rows"] (cZ K Ub):=by
 refine uJ T.D_15.F Ts λk nd B Q h=>?_;obtain⟨fs,an,rs,rfl,F,hok,d,h⟩:=h;refine⟨_,(aW (ss 2 nd (cB jM (aB (aH 1) aL) cG T.b_len fZ))
 (aW (jC (dF lB oU (aH 2) aQ)
 (cA (dM (dD (aB aQ (aB aQ aL)))))
 fU)
 (cA (dM (cd (Kw T) T.D_16 k (aB (cB Lf (aB (el (fr:=[none,some 2]) (N':=["count","many"]) (fN (EK (cF (Ku T) T.D_13 k (aB (aH 0) (aB (aH 1) aL))))) (λb=>⟨(eA (pk 0)),gY,(cV fM nK (aH 0) (cV tG HU (aH 1) (aH 0)))⟩)) aL) (xD Db) T.b_sum YV) (aB (aH 2) aL))))))),?_⟩
 show jA _ _ _ [.val (fJ fs an),.val (.list (rs.map dE)),.un];have a4:=F.a4;refine cM (.int (rs.length:Int)) (λq j=>⟨_,Db,?_⟩) ?_
 ·show q (.int ((rs.map dE).length:Int));rw[aC];exact j
 refine jZ (λb=>b=decide ((rs.length:Int)=0)) (λq j=>⟨_,Db,j _ Db⟩) (λs=>?_) λp=>?_
 ·have m:rs.length=0:=by have:=b8 s.symm;lia
  have:rs=[]:=uC.mp m;subst this
  have l:XB (B1 [] []) (max 1 ([]:List Rw).length)=.tuple [.int 0,.int 1]:=by
   show XB 0 1=_;unfold XB;rw[Nat.gcd_zero_left];rfl
  rw[l]at h;exact⟨aA Db,h⟩
 ·try unfold lM
  dsimp only;have m:¬rs.length=0:=λz=>by have:=j9 p.symm;lia
  have o:max 1 rs.length=rs.length:=by lia
  rw[o]at h;have v:=M4 rs rs;have u:rs.length*rs.length<=60*60:=mP d d;have g:(jD an rs).length=an.length:=by unfold jD;rw[aC]
  have i:∀c∈jD an rs,0<=c/\c<=(rs.length:Int):=λc f=>by
   unfold jD at f;obtain⟨a,_,rfl⟩:=aS.mp f;have:=YN rs a;lia
  show pO Ls _ _ Q;dsimp only[pO,xG,IW];refine iI (ts:=(jD an rs).map bM) (λR h=>⟨_,Db,_,Db,fs,an,rs,Db,F,hok,d,_,Db,h⟩) (Mh rs.length) (by rw[aC,g];lia) (λx q y j=>?_) ?_
  ·obtain⟨c,f,rfl⟩:=aS.mp y;have:=i c f;exact⟨_,Db,_,Db,_,Db,.inl ⟨Cw,Cw⟩,j⟩
  ·have e:((jD an rs).map bM).map (Mh rs.length)=((jD an rs).map λc=>c*((rs.length:Int)-c)).map bM:=by
    rw[bD,bD];rfl
   rw[e];refine⟨_,Db,λn t=>?_,by rw[aC,g];lia,?_⟩
   ·obtain⟨c,f,rfl⟩:=aS.mp t;have:=i c f;have C:0<=c*((rs.length:Int)-c):=aIt Cw Cw;have E:c*((rs.length:Int)-c)<=60*60:=aIu Cw Cw Cw Cv;lia
   ·rw[O6 F.an.2.2 λr k=>(hok r k).2];exact⟨_,Db,_,_,Db,Cw,rN (show B1 rs rs<=3600 by lia) Cv,rN (show rs.length<=60 from d) Cv,h⟩
def La:dI P w K mg base iG 1 mw qc ["rows","numbers"] (cZ K Us):=by
 refine uJ T.D_32.F Sv λe nd i Q h=>?_;obtain⟨fs,k,n,v,st,w,rs,rfl,l,h⟩:=h;refine⟨_,(cA (dM (el (fr:=[none,some 0]) (N':=["number","rows"]) (fN (aH 1)) (λb=>⟨(eA (pk 0)),gY,(bU bE cN (aH 1) (aH 0))⟩)))),?_⟩;show MX _ _ [.val (.list (rs.map dE)),.val (.list (iZ fs k n v st rs w))]
 have m:(iZ fs k n v st rs w).length<=60:=by
  unfold iZ;have:=bY (uV fs k n v st rs w) (eI rs.length);rw[kB]at this;lia
 refine iI (ts:=iZ fs k n v st rs w) (λR h=>⟨_,Db,_,Db,h⟩) (DK rs) Cw (λx q g d=>?_) ?_
 ·obtain⟨j,f,rfl⟩:=aS.mp (cH.mp g).1;have a:j<rs.length:=by simpa using f
  have c:L2.atI (rs.map dE) (j:Int)=some (dE rs[j]):=L2.gK (by rw[aO,aG a];rfl)
  have e:DK rs (.int (j:Int))=dE rs[j]:=by
   show(match L2.atI rs (j:Int)with | some r=>dE r | none=>.none)=_;rw[L2.gK (aG a)]
  rw[e]at d;exact⟨_,Db,_,Db,_,c,d⟩
 ·rw[Fk fs k n v st w rs.length rs rfl];exact h
def Rb:dI P w K mg base iG 1 me oy ["field"] (iH K Uh):=by
 refine Eg T.D_22.F T0 λj nd g Q h=>?_;obtain⟨f,rfl,c,i,h⟩:=h;refine⟨_,(aW (ss 1 nd (bU bE cN (aH 0) aQ))
 (aW (ss 2 nd (bU bE cN (aH 0) aQ))
 (aW (ss 3 nd (LG (dF lB oU (cB jM (aB (aH 2) aL) cG T.b_len fZ) aQ) (gI kO rV (aH 2) jX (gT aQ)) (aH 2)))
 (aW (ss 4 nd (gI kO rV (aH 2) (gT aQ) (gT (YD aQ))))
 (cA (sZ (X4 (el (fr:=[none,some 1]) (N':=["value","name"]) (fN (aH 3)) (λb=>⟨(eA (pk 0)),gY,(dD (aB cK (aB (aH 1) (aB (aH 0) aL))))⟩)) (el (fr:=[none,some 1]) (N':=["value","name"]) (fN (aH 4)) (λb=>⟨(eA (pk 0)),gY,(dD (aB cK (aB (aH 1) (aB (aH 0) aL))))⟩))))))))),?_⟩
 show jA _ _ _ [.val (lI f),.un,.un,.un,.un];refine cM (.str f.1) (λq a=>⟨_,Db,_,Db,a⟩) ?_;refine cM (.tuple (f.2.map aR)) (λq a=>⟨_,Db,_,Db,a⟩) ?_;refine cM (.tuple ((DP f).map aR)) (λq a=>⟨_,Db,?_⟩) ?_
 ·show(if decide (((f.2.map aR).length:Int)=2)=true then _ else _);unfold DP at a;rw[aC];by_cases e:f.2.length=2
  ·rw[a9 (b7 Cw)];rw[a9 e]at a;refine⟨_,Db,?_⟩;show q (.tuple (kW (f.2.map aR) none (some 1)));rw[mX,Zh _ c];exact a
  ·rw[a8 (by simpa using(by lia:¬(f.2.length:Int)=2))];rw[a8 e]at a;exact⟨_,Db,a⟩
 refine cM (.tuple ((wT f).map aR)) (λq a=>⟨_,Db,?_⟩) ?_
 ·show q (.tuple (kW (f.2.map aR) (some 1) (some (-2))));rw[mX,Zg _ c];exact a
 have l:(DP f).length<=5:=by
  unfold DP;split
  ·rw[bN];lia
  ·lia
 have k:(wT f).length<=5:=by
  unfold wT;rw[bN,dP];lia
 dsimp only[Lp,Lk];refine iI (ts:=(DP f).map aR) (λR h=>⟨_,Db,_,Db,h⟩) (λx=>.tuple [.str "is",.str f.1,x]) (by rw[aC];lia) (λx q d a=>⟨_,Db,_,Db,aA Db,a⟩) ?_;refine iI (ts:=(wT f).map aR) (λR h=>⟨_,Db,_,Db,h⟩) (λx=>.tuple [.str "upto",.str f.1,x]) (by rw[aC];lia) (λx q d a=>⟨_,Db,_,Db,aA Db,a⟩) ?_;refine⟨_,_,Db,Db,by simp only[aC];lia,?_⟩;rw[bD,bD];exact h
def Ra:dI P w K mg base iG 2 md ox ["form"] (iH K Ug):=by
 refine Eg T.D_21.F Tz λs nd z Q h=>?_;obtain⟨fs,an,rfl,F,h⟩:=h;refine⟨_,(aW (so 1 nd aL)
 (aW (sf (fN (bU bE cN (aH 0) aQ)) (eA (pn 2 nd))
 (cA (OU (i:=1) (pv 1) (EK (cF (Rb T) T.D_22 s (aB (aH 2) aL))) (pb:=λh=>hX (nB cO FS FR PR (pv 1) h)))))
 (cA (Q6 (pv 1))))),?_⟩
 show jA _ _ _ [.val (fJ fs an),.un,.un];have n5:=F.n5;refine vV [] Cv (λq c=>c) ?_
 refine qO (ts:=fs.map lI) (λR h=>⟨_,Db,_,Db,_,Db,h⟩)
  (λk y=>∃d:Sl,y=[.val (fJ fs an),.own (fY (fs.take k)),d]) ⟨_,Db⟩ (λk x j l b=>?_) λj b=>?_
 ·obtain⟨d,rfl⟩:=b;rw[aO]at l;obtain⟨f,a,rfl⟩:=dS.mp l;have n:f∈fs:=bB a;obtain⟨u,v,t⟩:=F.vs f n;have m:=nA F (fs.take k) λg o=>dU o;have p:(fs.take k).length<=5:=by rw[bN];lia
  have r:(JJ f).length<=10:=by
   unfold JJ DP wT;rw[bP,aC,aC,bN,dP];split
   ·rw[bN];lia
   ·lia
  refine KQ (ts:=fY (fs.take k)) (us:=JJ f) Db Cw (λq c=>⟨_,Db,f,Db,u,v,c⟩) ⟨.val (lI f),?_⟩
  have e:fY (fs.take (k+1))=fY (fs.take k)++JJ f:=by
   unfold fY;rw[dG,a,cX,TD];show _++[JJ f].flatten=_;rw[ME]
  rw[e];rfl
 ·obtain⟨d,rfl⟩:=b;rw[aC,eU];exact⟨_,Db,h⟩
def Rc:dI P w K mg base iG 3 mf ph ["form"] (cZ K Ui):=by
 refine uJ T.D_23.F T1 λe nd z Q h=>?_;obtain⟨fs,an,rfl,F,h⟩:=h;refine⟨_,(aW (so 1 nd aL)
 (aW (sf (fN (EK (cF (Ra T) T.D_21 e (aB (aH 0) aL)))) (eA (pn 2 nd))
 (cA (OU (i:=1) (pv 1) (el (fr:=[none,some 2]) (N':=["stray","question"]) (fN (Zq Db T.c_SIDES T.t_SIDES)) (λb=>⟨(eA (pk 0)),gY,(dD (aB (aH 1) (aB (aH 0) aL)))⟩)) (pb:=λh=>hX (nB cO FS FR PR (pv 1) h)))))
 (rP 1 (cA (dM (aH 1)))))),?_⟩
 show jA _ _ _ [.val (fJ fs an),.un,.un];have n5:=F.n5;have o:=nA F fs λg p=>p;have u:(qs fs).length=(fY fs).length:=by rw[<- CL,aC]
 refine vV [] Cv (λq t=>t) ?_
 refine qO (ts:=(qs fs).map qD) (λR h=>⟨_,Db,fs,an,Db,F,_,Db,by rw[<- CL];exact h⟩)
  (λk y=>∃m:Sl,y=[.val (fJ fs an),.own ((((qs fs).take k).flatMap uE).map Dz),m]) ⟨_,Db⟩ (λk x n j c=>?_) λn c=>?_
 ·obtain⟨m,rfl⟩:=c;rw[aO]at j;obtain⟨q,d,rfl⟩:=dS.mp j
  have a:((((qs fs).take k).flatMap uE).map Dz).length=2*((qs fs).take k).length:=by
   rw[aC]
   generalize (qs fs).take k=l
   induction l with
   |nil=>rfl
   |cons x l v=>rw[Y9,bP,v,dQ];show 2+_=_;lia
  have s:((qs fs).take k).length<=50:=by rw[bN];lia
  refine KQ (us:=[Dz (q,"yes"),Dz (q,"no")]) Db (by rw[a];show _+2<=_;lia) (λr e=>?_) ⟨.val (qD q),?_⟩
  ·refine iI (ts:=[.str "yes",.str "no"]) (λR h=>⟨_,Db,h⟩) (λx=>.tuple [qD q,x]) Cv (λx B j f=>⟨_,Db,_,Db,Da,f⟩) e
  ·rw[dG,d];show _=[_,Sl.own (((((qs fs).take k)++[q]).flatMap uE).map Dz),_];rw[TF,cX];rfl
 ·obtain⟨m,rfl⟩:=c;rw[aC,eU];exact⟨_,Db,_,Db,h⟩
def Ri:dI P w K mg base iG 1 mu qb ["sides","fewest"] (cZ K Uq):=by
 refine uJ T.D_30.F Su λc nd b Q h=>?_;obtain⟨a,bs,m,rfl,h⟩:=h;refine⟨_,(cA (dM (EL (rE KO uW (cB jM (aB (bU bE cN (aH 0) aQ) aL) cG T.b_len fZ) (aH 1)) (EI (rE KO uW (cB jM (aB (bU bE cN (aH 0) aQ) aL) cG T.b_len fZ) (aH 1)))))),?_⟩;show MX _ _ [.val (.tuple [.list a,.list bs]),.val (.int m)];refine⟨_,Db,_,Db,_,Db,?_⟩;show(if decide (m<=(a.length:Int))=true then _ else _)
 cases e:decide (m<=(a.length:Int))with
 |false=>
  rw[a8 Cv];rw[e]at h;exact h
 |true=>
  rw[a9 rfl];rw[e]at h;exact⟨_,Db,_,Db,_,Db,h⟩
def Qy:dI P w K mg base iG 3 lx ot ["one","other"] (cZ K Ud):=by
 refine uJ T.D_18.F Tv λd nd f Q h=>?_;obtain⟨x,y,rfl,a,b,h⟩:=h;refine⟨_,(cA (dM (cd (Kw T) T.D_16 d (aB (cV cJ gU (cV fM nK (bU bE cN (aH 0) aQ) (bU bE cN (aH 1) aQ)) (cV fM nK (bU bE cN (aH 1) aQ) (bU bE cN (aH 0) aQ))) (aB (cV fM nK (bU bE cN (aH 0) aQ) (bU bE cN (aH 1) aQ)) aL))))),?_⟩;show MX _ _ [.val (FL x),.val (FL y)];have j:=a.top;have k:=a.bot;have l:=b.top;have m:=b.bot;obtain⟨g,i,c⟩:=OQ a b;have big:(1000000000000:Nat)<2^190:=by decide +kernel
 have e:[bM ((x.1:Int)*(y.2:Int)+(y.1:Int)*(x.2:Int)),.int ((x.2:Int)*(y.2:Int))]=[.int ((x.1*y.2+y.1*x.2:Nat):Int),.int ((x.2*y.2:Nat):Int)]:=by
  rw[mD,fP,fP,fP]
 refine⟨_,Db,_,Db,_,Db,_,Db,.inl ⟨Cw,Cw⟩,_,Db,_,Db,_,Db,_,Db,.inl ⟨Cw,Cw⟩,_,Db,_,Db,_,Db,_,Db,.inl ⟨Cw,Cw⟩,_,_,e,c,Cw,Cw,h⟩
def QD:dI P w K mg base iG 2 ma ow ["fractions"] (cZ K Uf):=by
 refine uJ T.D_20.F Tx λo nd r Q h=>?_;obtain⟨l,rfl,n,h⟩:=h;refine⟨_,(aW (ss 1 nd aQ)
 (aW (sf (fN (aH 0)) (eA (pn 2 nd))
 (cA (ss 1 nd (cV zK HV (cV fM nK (aH 1) (bU bE cN (aH 2) aQ)) (cd (Kx T) T.D_17 o (aB (aH 1) (aB (bU bE cN (aH 2) aQ) aL)))))))
 (cA (dM (aH 1))))),?_⟩
 show jA _ _ _ [.val (.list (l.map FL)),.un,.un];refine cM (.int 1) (λq a=>a) ?_
 refine qO (ts:=l.map FL) (λR h=>⟨_,Db,_,Db,h⟩)
  (λk p=>∃c:Sl,p=[.val (.list (l.map FL)),.val (.int ((yI (l.take k):Nat):Int)),c]) ⟨_,Db⟩ (λk x d e b=>?_) λd b=>?_
 ·obtain⟨c,rfl⟩:=b;rw[aO]at e;obtain⟨y,f,rfl⟩:=dS.mp e;obtain⟨g,t⟩:=n y (bB f);have s:(yI (l.take k)).gcd y.2<=y.2:=aI7 g (CG _ _);have m:0<(yI (l.take k)).gcd y.2:=tX _ g
  have j:yI (l.take (k+1))=(yI (l.take k)).lcm y.2:=by
   unfold yI;rw[dG,f,BU];rfl
  refine CN (.int ((yI (l.take (k+1)):Nat):Int)) (λq a=>⟨_,Db,_,Db,_,Db,.inr ⟨Cw,Cw⟩,_,Db,_,Db,_,Db,_,_,Db,⟨Cw,Cw⟩,?_⟩) ⟨_,Db⟩;rw[j]at a
  have i:((yI (l.take k):Nat):Int)*(y.2:Int) / (((yI (l.take k)).gcd y.2:Nat):Int)=(((yI (l.take k)).lcm y.2:Nat):Int):=by
   rw[<- fP,<- uI];rfl
  rw[i];exact a
 ·obtain⟨c,rfl⟩:=b;rw[aC,eU];exact⟨_,Db,h⟩
def Rj:dI P w K mg base iG 6 mv jy ["form","rows","least"] (iH K Ur):=by
 refine Nc T.L_31 T.D_31.F Lr (λds Q h=>by obtain⟨fs,an,rs,m,rfl,F,j,n,h⟩:=h;rfl) λee lc Ar outer s H E p ds Q h=>?_;obtain⟨fs,an,rs,m,rfl,F,j,n,h⟩:=h;have nd:=Lr.nd;refine⟨_,(aW (so 3 nd aL)
 (aW (sf (fN (cd (Rc T) T.D_23 p (aB (aH 0) aL))) (qR (rD Db (fQ (pn 4 nd) (fQ (pn 5 nd) oN))))
 (aW (ss 6 nd (Lj (cQ (Ky T) T.D_28 p (aB (aH 0) (aB (aH 4) (aB (aH 5) (aB (aH 1) aL)))))))
 (cA (jC (tv (cd (Ri T) T.D_30 p (aB (aH 6) (aB (aH 2) aL))))
 (aW (mR (i:=7) (fr:=[none,some 0,some 1]) (N':=["numbers","form","rows"]) (fN (aH 6)) (λb=>⟨(eA (pk 0)),gY,(cd (Kv T) T.D_15 p (aB (aH 1) (aB (cd (La T) T.D_32 p (aB (aH 2) (aB (aH 0) aL))) aL)))⟩) (λt hY=>jU (show nT _ (aX (top 37)) ["form","rows","least","told","question","stray","sides","doubts","bottom"] ["numbers","form","rows"] [none,some 0,some 1]=true from by decide +kernel) nd Db (by first | exact j7 Db | exact j1 Db) Db t hY Db))
 (cA (HB (i:=3) (pv 3) (dD (aB (aH 4) (aB (aH 5) (aB (cd (Qy T) T.D_18 p (aB (bU bE cN (aH 7) aQ) (aB (bU bE cN (aH 7) aQ) aL))) aL)))) (pb:=λh=>hX (nB cO iM iL oG (pv 3) h)))))
 fU))))
 (rP 3 (aW (ss 8 nd (cd (QD T) T.D_20 p (aB (el (fr:=[none,none,none]) (N':=["question","stray","doubt"]) (fN (aH 3)) (λb=>⟨(GM (rD Db (fQ (pk 0) (fQ (pk 1) (fQ (pk 2) oN))))),gY,(aH 2)⟩)) aL)))
 (cA (sZ (X3 (k:=0) (ib:=8) (p.mono Cw) lc Db Db Db Db T.b_sorted sC (aB (aH 3) aL)))))))),?_⟩
 show jA _ _ _ [.val (fJ fs an),.val (.list (rs.map dE)),.val (.int m),.un,.un,.un,.un,.un,.un]
 have zl:(iA fs rs m).length<=60:=by
  have h1:=nA F fs λg hg=>hg;have n3:=F.n3;have h2:=bY (okC fs rs m) (IP fs);rw[IN]at h2;show((IP fs).filter (okC fs rs m)).length<=60;lia
 have zk:(IP fs).length<=100:=by
  have h1:=nA F fs λg hg=>hg;have n5:=F.n5;rw[IN];lia
 refine vV [] Cv (λq v=>v) ?_
 refine qO (ts:=(IP fs).map Dz) (λR h=>⟨_,Db,fs,an,Db,F,_,Db,h⟩)
  (λk σ=>∃W X s6 N:Sl,σ=[.val (fJ fs an),.val (.list (rs.map dE)),.val (.int m),.own ((((IP fs).take k).filter (okC fs rs m)).map (N0 fs rs)),W,X,s6,N,.un]) ⟨_,_,_,_,Db⟩ (λk x u7 o hP=>?_) λu7 hP=>?_
 ·obtain⟨W,X,s6,N,rfl⟩:=hP;rw[aO]at o;obtain⟨c,r,rfl⟩:=dS.mp o;have hc:=bB r;obtain⟨v,hs⟩:=N2 hc;have l:=HQ v
  have M:(iZ fs c.1.1 c.1.2.1 c.1.2.2 c.2 rs "yes").length=(yR fs c rs).length:=by
   have:=h9 kH (Fk fs c.1.1 c.1.2.1 c.1.2.2 c.2 "yes" rs.length rs Db);rw[aC,aC]at this;exact this
  have G:(iZ fs c.1.1 c.1.2.1 c.1.2.2 c.2 rs "no").length=(nR fs c rs).length:=by
   have:=h9 kH (Fk fs c.1.1 c.1.2.1 c.1.2.2 c.2 "no" rs.length rs Db);rw[aC,aC,CP F l hs j]at this;exact this
  have et:((IP fs).take (k+1)).filter (okC fs rs m)=((IP fs).take k).filter (okC fs rs m)++(if okC fs rs m c=true then[c]else[]):=by
   rw[dG,r,jQ];congr 1;show List.filter _ [c]=_;rw[fA];rfl
  have Bz:((((IP fs).take k).filter (okC fs rs m)).map (N0 fs rs)).length<=100:=by
   rw[aC];exact bL (bY _ _) (by rw[bN];lia)
  refine⟨qD c.1,.str c.2,Db,?_⟩;dsimp only;refine cM (.tuple [.list (iZ fs c.1.1 c.1.2.1 c.1.2.2 c.2 rs "yes"),.list (iZ fs c.1.1 c.1.2.1 c.1.2.2 c.2 rs "no")]) (λq f=>⟨_,Db,_,Db,_,Db,_,Db,fs,an,c.1.1,c.1.2.1,c.1.2.2,c.2,rs,Db,F,l,hs,j,n,f⟩) ?_;refine AU (λb=>b=okC fs rs m c) (λq f=>⟨_,Db,_,Db,_,_,m,Db,?_⟩) (λhT=>?_) λhF=>?_
  ·refine f _ ?_;rw[M,G];rfl
  ·refine cM (.list [FL (wM (yR fs c rs)),FL (wM (nR fs c rs))]) (λq f=>?_) ?_
   ·refine NR (ts:=[.list (iZ fs c.1.1 c.1.2.1 c.1.2.2 c.2 rs "yes"),.list (iZ fs c.1.1 c.1.2.1 c.1.2.2 c.2 rs "no")]) (λR h=>⟨_,Db,_,Db,h⟩) (λi _ y=>(i=0->y=FL (wM (yR fs c rs)))/\(i=1->y=FL (wM (nR fs c rs)))) Da (λi x q o B=>?_) λys Ap S=>?_
    ·have t:i<2:=(aI.mp o).1;rcases(show i=0\/i=1 by lia)with rfl | rfl
     ·cases o;exact⟨_,Db,_,Db,_,Db,fs,c.1.1,c.1.2.1,c.1.2.2,c.2,"yes",rs,Db,n,fs,an,_,Db,F,j.filt _,bL (bY _ _) n,B _ ⟨λ_=>rfl,λz=>by cases z⟩⟩
     ·cases o;refine⟨_,Db,_,Db,_,Db,fs,c.1.1,c.1.2.1,c.1.2.2,c.2,"no",rs,Db,n,?_⟩;rw[CP F l hs j];exact⟨fs,an,_,Db,F,j.filt _,bL (bY _ _) n,B _ ⟨(λz=>by cases z),λ_=>rfl⟩⟩
    ·match ys,Ap,S with
     |[a,b],_,S=>
      have h0:=(S 0 _ a Db Db).1 Db;have h1:=(S 1 _ b Db Db).2 Db;rw[h0,h1];exact f
   ·have C:(yR fs c rs).length<=60:=bL (bY _ _) n;have u:(nR fs c rs).length<=60:=bL (bY _ _) n;refine zL (N0 fs rs c) Db Cw (λq f=>⟨_,Db,_,Db,_,Db,_,Db,_,Db,_,Db,_,_,Db,AE C,AE u,Da,f⟩) ⟨.val (qD c.1),.val (.str c.2),.val (.tuple [.list (iZ fs c.1.1 c.1.2.1 c.1.2.2 c.2 rs "yes"),.list (iZ fs c.1.1 c.1.2.1 c.1.2.2 c.2 rs "no")]),.val (.list [FL (wM (yR fs c rs)),FL (wM (nR fs c rs))]),?_⟩;rw[et,a9 hT.symm,cX];rfl
  ·try unfold lM
   dsimp only;refine⟨.val (qD c.1),.val (.str c.2),.val (.tuple [.list (iZ fs c.1.1 c.1.2.1 c.1.2.2 c.2 rs "yes"),.list (iZ fs c.1.1 c.1.2.1 c.1.2.2 c.2 rs "no")]),N,?_⟩;rw[et,a8 (by rw[<- hF];decide),dW];rfl
 ·obtain⟨W,X,s6,N,rfl⟩:=hP;rw[aC,eU];refine⟨_,Db,?_⟩;show jA _ _ _ [.val (fJ fs an),.val (.list (rs.map dE)),.val (.int m),.val (.list (ER fs rs m)),W,X,s6,N,.un]
  have zo:∀x∈TV fs rs m,0<x.2/\x.2<=1000000:=λx o=>by
   obtain⟨c,_,rfl⟩:=aS.mp o;have:=A5 (fs:=fs) n c;exact⟨this.pos,bL this.bot Cv⟩
  refine cM (.int (yI (TV fs rs m):Nat)) (λq v=>?_) ?_
  ·dsimp only[pO,xG,IW];refine aBx (ts:=ER fs rs m) (λR h=>⟨_,Db,_,Db,h⟩) (λx=>match x with | .tuple [_,_,d]=>d | _=>.none) (by rw[vE];lia) (λx o=>?_) (λa b c q' hm l=>⟨_,Db,l⟩) ?_
   ·obtain⟨c,_,rfl⟩:=aS.mp o;exact⟨_,_,_,Db⟩
   ·have e:(ER fs rs m).map (λx=>match x with | .tuple [_,_,d]=>d | _=>.none)=(TV fs rs m).map FL:=by
     unfold ER TV;rw[bD,bD];rfl
    rw[e];exact⟨_,Db,zo,v⟩
  ·refine⟨_,Db,ER fs rs m,(yI (TV fs rs m):Nat),D5 fs rs m,Db,by rw[vE];lia,Db,by rw[vE,XQ],λi e k he hk=>?_,λJ hJ=>?_⟩
   ·have t:i<(iA fs rs m).length:=by rw[<- vE];exact(aI.mp he).1
    have e1:=QB (fs:=fs) (R:=rs) (m:=m) t;rw[dH,he]at e1;have e2:=IB (fs:=fs) (R:=rs) (m:=m) t;rw[dH,hk]at e2;have sm:=A5 (fs:=fs) n (iA fs rs m)[i];have s1:=sm.top;have s2:=sm.pos;have s3:=sm.bot;exact⟨_,_,_,_,e1,⟨Cw,Cw⟩,.inl ⟨Cw,Cw⟩,e2⟩
   ·rw[vE]at hJ;exact h J hJ
def Qz:dI P w K mg base iG 1 lz ou ["one","other"] (cZ K Ue):=by
 refine uJ T.D_19.F Tw λb nd a Q h=>?_;obtain⟨x,y,rfl,c,d,h⟩:=h;refine⟨_,(cA (dM (rE PD uW (cV fM nK (bU bE cN (aH 0) aQ) (bU bE cN (aH 1) aQ)) (cV fM nK (bU bE cN (aH 1) aQ) (bU bE cN (aH 0) aQ))))),?_⟩;show MX _ _ [.val (FL x),.val (FL y)];refine⟨_,Db,_,Db,_,Db,_,Db,.inl ⟨Cw,Cw⟩,_,Db,_,Db,_,Db,_,Db,.inl ⟨Cw,Cw⟩,?_⟩;show Q (.bool (decide ((x.1:Int)*(y.2:Int)<(y.1:Int)*(x.2:Int))))
 have e:decide ((x.1:Int)*(y.2:Int)<(y.1:Int)*(x.2:Int))=decide (x.1*y.2<y.1*x.2):=by
  rw[v8,<- fP,<- fP];lia
 rw[e];exact h
def Rk:dI P w K mg base iG 7 mx qd ["form","rows","least"] (cZ K Ut):=by
 refine uJ T.D_33.F Sw λr nd y Q h=>?_;obtain⟨fs,an,rs,m,rfl,F,g,d,h⟩:=h;refine⟨_,(aW (ss 3 nd (EK (cF (Rj T) T.D_31 r (aB (aH 0) (aB (aH 1) (aB (aH 2) aL))))))
 (aW (jC (pM (qZ (Q1 (aH 3) (λh=>V0 h (λ_=>rfl))) (qL (tv (cd (Qz T) T.D_19 r (aB (bU bE cN (bU bE cN (aH 3) aQ) aQ) (aB (cd (Kv T) T.D_15 r (aB (aH 0) (aB (aH 1) aL))) aL)))))))
 (cA (dM (bU bE cN (aH 3) aQ)))
 fU)
 (cA (dM kU)))),?_⟩
 show jA _ _ _ [.val (fJ fs an),.val (.list (rs.map dE)),.val (.int m),.un];have x:=YS F rs m;have n:∀c:Ch,(dC fs rs c).1<=1000000:=λc=>bL (A5 (fs:=fs) d c).top Cv;have l:(wM rs).1<=1000000:=bL (AE d).top Cv
 have k:∀{i:Nat}{J:List Nat},Er fs rs m (i::J)->∃c,Dk fs rs (iA fs rs m)=some c/\L2.atI (Hg fs rs m (i::J)) 0=some (N0 fs rs c):=λ{i J} a=>by
  refine⟨_,YU d a,?_⟩;refine L2.gK (j:=0) ?_;show some ((ER fs rs m).getD i .none)=_;rw[QB (a.lt i (aN ..))]
 have s:∀c,Dk fs rs (iA fs rs m)=some c->mU fs rs m=if lD (dC fs rs c) (wM rs)=true then some c else none:=λc p=>by
  unfold mU;rw[p];rfl
 refine dZ (λv=>∃J,Er fs rs m J/\v=.list (Hg fs rs m J)) (λq f=>⟨_,Db,_,Db,_,Db,fs,an,rs,m,Db,F,g,d,λJ a=>f _ ⟨J,a,Db⟩⟩) ?_;rintro _ ⟨J,a,rfl⟩
 cases J with
 |nil=>
  have e:mU fs rs m=none:=by unfold mU;rw[aC1 a];rfl
  rw[e]at h;refine jZ (λb=>b=false) (λq f=>?_) (λo=>by cases o) λ_=>?_
  ·refine⟨_,Db,[],Db,?_⟩;show(if(false:Bool)=true then _ else q false);rw[a8 Cv];exact f _ Db
  ·try unfold lM
   dsimp only;exact h
 |cons i J=>
  obtain⟨c,p,t⟩:=k a;rw[s c p]at h;refine jZ (λb=>b=lD (dC fs rs c) (wM rs)) (λq f=>?_) (λo=>?_) λu=>?_
  ·refine⟨_,Db,_,Db,?_⟩;show(if(true:Bool)=true then _ else q false);rw[a9 rfl];exact⟨_,Db,_,t,_,Db,_,Db,_,Db,fs,an,rs,Db,F,g,d,_,_,Db,n c,l,f _ Db⟩
  ·rw[a9 o.symm]at h;exact⟨_,Db,_,t,h⟩
  ·rw[a8 (by rw[<- u];decide)]at h
   try unfold lM
   dsimp only;exact h
def aAg(s:Nat)
  (l:dI P w K mg base iG (8+s) gj gu ["form","rows","deep","least"] (cZ K (uQ s))):dI P w K mg base iG (8+s+1) gj gu ["form","rows","deep","least"] (cZ K (uQ (s+1))):=by
 refine uJ T.D_34.F Sx λr nd ds Q h=>?_;obtain⟨fs,an,rs,d,m,rfl,F,f,j,hd,h⟩:=h;refine⟨_,(aW (ss 4 nd (LG (dF GD uW (aH 2) aQ) (cd (hk:=by lia) (Rk T) T.D_33 r (aB (aH 0) (aB (aH 1) (aB (aH 3) aL)))) kU))
 (aW (jC (dF NB WR (aH 4) kU)
 (cA (dM (dD (aB cK (aB (cd (hk:=by lia) (Qx T) T.D_14 r (aB (aH 0) (aB (aH 1) aL))) aL)))))
 fU)
 (aW (ss 5 nd (Lj (cQ (hk:=by lia) (Ky T) T.D_28 r (aB (aH 0) (aB (bU bE cN (aH 4) aQ) (aB (bU bE cN (aH 4) aQ) (aB (aH 1) aL)))))))
 (aW (mR (i:=6) (fr:=[none,some 0,some 3,some 1,some 2]) (N':=["numbers","form","least","rows","deep"]) (fN (aH 5)) (λb=>⟨(eA (pk 0)),gY,(cd (hk:=by lia) l T.D_34 r (aB (aH 1) (aB (cd (hk:=by lia) (La T) T.D_32 r (aB (aH 3) (aB (aH 0) aL))) (aB (cV tG HU (aH 4) aQ) (aB (aH 2) aL)))))⟩) (λS X=>jU (show nT _ (aX (top 40)) ["form","rows","deep","least","found","sides","parts"] ["numbers","form","least","rows","deep"] [none,some 0,some 3,some 1,some 2]=true from by decide +kernel) nd Db (by first | exact j7 Db | exact j1 Db) Db S X Db))
 (cA (dM (dD (aB cK (aB (bU bE cN (aH 4) aQ) (aB (bU bE cN (aH 4) aQ) (aB (bU bE cN (aH 6) aQ) (aB (bU bE cN (aH 6) aQ) aL)))))))))))),?_⟩
 show jA _ _ _ [.val (fJ fs an),.val (.list (rs.map dE)),.val (.int d),.val (.int m),.un,.un,.un]
 cases d with
 |zero=>
  refine cM .none (λq g=>⟨_,Db,g⟩) ?_;refine DJ (λq g=>⟨_,Db,g _ Db⟩) ?_;exact⟨_,Db,_,Db,fs,an,rs,Db,F,f,j,λa G=>⟨Da,h (.say a) ⟨a,G,Db⟩⟩⟩
 |succ e=>
  refine cM (Jj fs rs (mU fs rs m)) (λq g=>⟨_,Db,?_⟩) ?_
  ·show(if decide ((0:Int)<((e+1:Nat):Int))=true then _ else q .none);rw[a9 (b7 Cw)];exact⟨_,Db,_,Db,_,Db,fs,an,rs,m,Db,F,f,j,g⟩
  cases B:mU fs rs m with
  |none=>
   refine DJ (λq g=>⟨_,Db,g _ Db⟩) ?_;refine⟨_,Db,_,Db,fs,an,rs,Db,F,f,j,λa G=>⟨Da,h (.say a) ?_⟩⟩;unfold Gr;rw[B];exact⟨a,G,Db⟩
  |some c=>
   have hc:=(cH.mp (G0 B)).1;obtain⟨g,W⟩:=N2 hc;have o:=HQ g;refine xS (λq g=>⟨_,Db,g _ Db⟩) ?_;refine cM (.tuple [.list (iZ fs c.1.1 c.1.2.1 c.1.2.2 c.2 rs "yes"),.list (iZ fs c.1.1 c.1.2.1 c.1.2.2 c.2 rs "no")]) (λq k=>⟨_,Db,_,Db,_,Db,_,Db,_,Db,_,Db,fs,an,c.1.1,c.1.2.1,c.1.2.2,c.2,rs,Db,F,o,W,f,j,k⟩) ?_;refine dZ (λv=>∃y n,Gr fs an m e (yR fs c rs) y/\Gr fs an m e (nR fs c rs) n/\v=.list [jJ y,jJ n]) (λq k=>?_) ?_
   ·have N:((e+1:Nat):Int)-1=((e:Nat):Int):=by lia
    refine NR (ts:=[.list (iZ fs c.1.1 c.1.2.1 c.1.2.2 c.2 rs "yes"),.list (iZ fs c.1.1 c.1.2.1 c.1.2.2 c.2 rs "no")]) (λR h=>⟨_,Db,_,Db,h⟩) (λi _ y=>(i=0->∃t,Gr fs an m e (yR fs c rs) t/\y=jJ t)/\(i=1->∃t,Gr fs an m e (nR fs c rs) t/\y=jJ t)) Da (λi x q J p=>?_) λys M u=>?_
    ·have S:i<2:=(aI.mp J).1;rcases(show i=0\/i=1 by lia)with rfl | rfl
     ·cases J;exact⟨_,Db,_,Db,_,Db,fs,c.1.1,c.1.2.1,c.1.2.2,c.2,"yes",rs,Db,j,_,Db,_,Db,fs,an,_,e,m,by rw[<- N]<;>rfl,F,f.filt _,bL (bY _ _) j,Cw,λt H=>p _ ⟨λ_=>⟨t,H,Db⟩,λz=>by cases z⟩⟩
     ·cases J;refine⟨_,Db,_,Db,_,Db,fs,c.1.1,c.1.2.1,c.1.2.2,c.2,"no",rs,Db,j,?_⟩;rw[CP F o W f];exact⟨_,Db,_,Db,fs,an,_,e,m,by rw[<- N]<;>rfl,F,f.filt _,bL (bY _ _) j,Cw,λt H=>p _ ⟨(λz=>by cases z),λ_=>⟨t,H,Db⟩⟩⟩
    ·match ys,M,u with
     |[a,b],_,u=>
      obtain⟨y,C,rfl⟩:=(u 0 _ a Db Db).1 Db;obtain⟨n,E,rfl⟩:=(u 1 _ b Db Db).2 Db;exact k _ ⟨y,n,C,E,Db⟩
   ·rintro _ ⟨y,n,C,E,rfl⟩;refine⟨_,Db,_,Db,_,Db,_,Db,_,Db,_,Db,_,Db,_,Db,Da,h (.ask c.1.1 c.1.2.1 c.1.2.2 c.2 y n) ?_⟩;unfold Gr;rw[B];exact⟨y,n,C,E,Db⟩
def WQ:dI P w K mg base iG 15 gj gu ["form","rows","deep","least"] (cZ K Uu):=by
 have h:∀a:Nat,dI P w K mg base iG (8+a) gj gu ["form","rows","deep","least"] (cZ K (uQ a)):=λa=>by
  induction a with
  |zero=>exact II zV λc Q h=>W4 h
  |succ a b=>exact aAg T a b
 exact h 7
def Ju:dI P w K mg base iG 1 ui vw ["self"] (kT K (Op A)):=by
 refine SE (F:=mB A) T.D_4.F Jw (λk n f Q h=>by obtain⟨a,g,c,rfl,b,h⟩:=h;rfl) λe i outer s H E j d n f Q h=>?_;obtain⟨a,g,c,rfl,b,h⟩:=h;have nd:=Jw.nd;refine⟨_,(DQ (WT T.C_Book T.n_Book_numbered (aH 0) (pc:=λh=>AR (A7 Db) Db T.b_list wN (cI (M9 kX G2 PySem.F.type_dict_items RX h) gM)))),?_⟩;obtain rfl:d=a:=iK c;refine⟨_,Db,Db,?_⟩;rw[b];unfold kY;rw[bD];exact h
def Jv:dI P w K mg base iG 1 uj vx ["self"] (mK K (Oq A)):=by
 refine Ef (F:=mB A) T.D_5.F Pk λe nd a n d Q h=>?_;obtain⟨b,c,rfl,h⟩:=h;refine⟨_,(gF (qA (tN T.C_Book T.n_Book_standing (aH 0)))),?_⟩;obtain rfl:a=b:=iK c;exact⟨_,Db,Db,a,_,Db,Db,h⟩
def Fg:dI P w K mg base iG 2 tu uv ["self","number"] (mK K (Ot A)):=by
 refine Ef (F:=mB A) T.D_7.F Hl λe nd b n g Q h=>?_;obtain⟨a,j,d,f,rfl,c,h⟩:=h;refine⟨_,(gF (rO (UO e.u1 T.C_Book T.n_Book_numbered (aH 1) (aH 0))
 (gF (sY rQ))
 pE)),?_⟩
 obtain rfl:b=a:=iK f;refine⟨_,Db,j,Db,_,Db,Db,?_⟩;rw[c];exact h
def Ff:dI P w K mg base iG 4 tm uu ["self","thing"] (mK K (Os A)):=by
 refine Ef (F:=mB A) T.D_6.F Hk λb nd a n g Q h=>?_;obtain⟨fs,an,c,d,f,rfl,F,e,hd,hw,h⟩:=h;refine⟨_,(gF (rO (sT (xO (zW (PJ T) T.D_11.m T.D_11.k T.D_11.d (b.mono Cv) (eS (tN T.C_Book T.n_Book_form (aH 0)) (eS (mT (aH 1)) oJ)) (λh=>lY (PJ T) (b.mono Cv) Db T.D_11.m T.D_11.k T.D_11.d .nil iV h)) (λh=>uT h)))
 (gF (sY rQ))
 pE)),?_⟩
 obtain rfl:a=c:=iK f;refine⟨_,Db,Db,a,_,Db,Db,_,Db,fs,an,d,by rw[e],F,hd,?_⟩;rw[hw];exact h
def Hn:dI P w K mg base iG 16 uk vy ["self"] (kT K (Ou A)):=by
 refine SE (F:=mB A) T.D_8.F Jx (λz n q Q h=>by obtain⟨fs,an,d,m,f,e,o,l,rfl,b,j,h⟩:=h;rfl) λp v outer s H E c a n q Q h=>?_;obtain⟨fs,an,d,m,f,e,o,l,rfl,b,j,h⟩:=h;have nd:=Jx.nd;refine⟨_,(lV (uL (i:=1) (tN T.C_Book T.n_Book_standing (aH 0)) (λh=>lG h (pn 1 nd)))
 (lV (Z1 T.C_Book T.n_Book_standing (aH 0) (zW (WQ T) T.D_34.m T.D_34.k T.D_34.d (c.mono Cv) (eS (tN T.C_Book T.n_Book_form (aH 0)) (eS (Zs T.C_Book T.n_Book_numbered (aH 0) (pc:=λh=>AR (B4 Db) Db T.b_list wN (cI (M9 kX FU PySem.F.type_dict_values NH h) gM))) (eS (tN T.C_Book T.n_Book_deep (aH 0)) (eS (tN T.C_Book T.n_Book_least (aH 0)) oJ)))) (λh=>lY (WQ T) (c.mono Cv) Db T.D_34.m T.D_34.k T.D_34.d .nil iV h)))
 (DQ (WU (eS (mT (aH 1)) (eS (tN T.C_Book T.n_Book_standing (aH 0)) oJ)) (λh=>lY (Rl T) (c.mono Cv) Db T.D_36.m T.D_36.k T.D_36.d .nil iV h))))),?_⟩
 obtain rfl:a=f:=iK l;have u:n.kvs.map (·.2)=(e.map (·.2)).map dE:=by rw[b.kv];unfold kY;rw[bD,bD];rfl
 have d6:=b.d6;have x:=b.dep;refine⟨_,Db,Db,a,_,Db,Db,?_⟩;refine⟨_,Db,Db,a,_,Db,Db,_,Db,Db,_,Db,Db,a,_,Db,Db,_,Db,Db,a,_,Db,Db,?_⟩;refine⟨fs,an,e.map (·.2),d,m,by rw[b.fm,u,b.dp,b.ls],b.F,b.ok,by rw[aC];exact j,Cw,λt g=>?_⟩;obtain⟨r,y⟩:=LE d g;refine⟨_,Db,Db,?_⟩;dsimp only;refine⟨_,Db,_,Db,Db,a,_,Db,Db,fs,an,o,t,by rw[b.st],b.F,b.tr,r,Cw,Cw,Cw,h t g⟩
def Oh:dI P w K mg base iG 17 td uq ["self","row"] (kT K (Om A)):=by
 refine SE (F:=mB A) T.D_1.F Fl (λW n G Q h=>by obtain⟨fs,an,d,m,v,l,k,r,B,y,rfl,b,R,g,p,c,a,h⟩:=h;rfl) λC S outer s H E u o n G Q h=>?_;obtain⟨fs,an,d,m,v,l,k,r,B,y,rfl,b,R,g,p,c,a,h⟩:=h;have nd:=Fl.nd;refine⟨_,(lV (qM (qT Cu (aH 0) (rG (aB (aH 1) aL)) (λh J=>lH h T.C_Book T.M_6 (Ff T) (u.mono Cv) T.D_6.d .nil iV J)) (λh=>hX h))
 (lV (rO (UP KO uW (Xo T.C_Book T.n_Book_numbered (aH 0) (pc:=λh=>gS SN Db T.b_len fZ (cI h gM))) (mT (Zp Db T.c_MOST_ROWS)))
 (gF (sY rQ))
 pE)
 (lV (uL (i:=2) (tN T.C_Book T.n_Book_following (aH 0)) (λh=>lG h (pn 2 nd)))
 (lV (Z6 T.C_Book T.n_Book_following (aH 0) aQ)
 (lV (U4 u.u1 T.C_Book T.n_Book_numbered (aH 0) (aH 2) (aH 1))
 (DQ (AV (aH 2) (uX Cu (aH 0) (λh=>qB h T.C_Book T.M_8 (Hn T) (u.mono Cv) T.D_8.d .nil iV))))))))),?_⟩
 obtain rfl:o=v:=iK y;have x:=b.kv;refine⟨_,Db,Db,_,Db,fs,an,o,dE r,Db,Db,b.F,b.fm,N5 b.F a,LB a,?_⟩;have N:n.kvs.length=l.length:=by rw[x];unfold kY;rw[aC]
 dsimp only;refine G9 false (λq j=>⟨_,Db,Db,?_⟩) (λz=>by cases z) λ_=>?_
 ·have e:decide ((60:Int)<=(n.kvs.length:Nat))=false:=b9 Cw;rw[<- e]at j;exact j
 unfold FW;dsimp only;refine ZP (.int (k:Nat)) (λq j=>⟨_,Db,Db,o,_,Db,Db,by rw[g];exact j⟩) ?_;refine⟨_,Db,Db,1,Db,?_⟩;refine⟨_,Db,_,Db,Db,_,Db,(k:Nat),Db,by show n.kvs.length<=_;lia,?_⟩;have f:BZ n.kvs (k:Nat) (dE r)=kY (l++[(k,r)]):=by rw[x];exact KG c
 refine⟨_,Db,_,Db,Db,fs,an,d,m,o,l++[(k,r)],B,Db,Db,⟨b.F,b.fm,b.dp,b.ls,b.d6,f,F9 b.ok a,b.st,b.tr,b.dep⟩,by rw[bP];show _+1<=60;lia,λt M=>?_⟩;have e:(⟨kY (l++[(k,r)]),((k+1:Nat):Int),jJ t⟩:S8)=⟨BZ n.kvs (k:Nat) (dE r),n.fol+1,jJ t⟩:=by rw[f,g];rfl
 have j:=h t M;rw[e]at j;exact j
def Oi:dI P w K mg base iG 17 tf ur ["self","number"] (kT K (On A)):=by
 refine SE (F:=mB A) T.D_2.F Fm (λC n y Q h=>by obtain⟨fs,an,d,m,l,f,k,r,v,u,rfl,b,o,c,h⟩:=h;rfl) λx B outer s H E q g n y Q h=>?_;obtain⟨fs,an,d,m,l,f,k,r,v,u,rfl,b,o,c,h⟩:=h;have nd:=Fm.nd;refine⟨_,(lV (qM (qT Cu (aH 0) (rG (aB (aH 1) aL)) (λh j=>lH h T.C_Book T.M_7 (Fg T) (q.mono Cv) T.D_7.d .nil iV j)) (λh=>hX h))
 (lV (uL (i:=2) (Xq T.C_Book T.n_Book_numbered (aH 0) (aH 1) (pc:=λh j=>nB kX uG JN PQ h (cI j gM))) (λh=>lG h (pn 2 nd)))
 (DQ (AV (aH 2) (uX Cu (aH 0) (λh=>qB h T.C_Book T.M_8 (Hn T) (q.mono Cv) T.D_8.d .nil iV)))))),?_⟩
 obtain rfl:g=l:=iK u;have e:oH n.kvs (k:Nat)=some (dE r):=by rw[b.kv];exact qS c
 refine⟨_,Db,Db,_,Db,g,(k:Nat),dE r,Db,Db,e,?_⟩;dsimp only;refine⟨_,Db,Db,_,Db,(k:Nat),dE r,Db,e,?_⟩;have a:AB n.kvs (k:Nat)=kY (nV k f):=by rw[b.kv];exact LI k f
 refine⟨_,Db,_,Db,Db,fs,an,d,m,g,nV k f,v,Db,Db,⟨b.F,b.fm,b.dp,b.ls,b.d6,a,GA b.ok,b.st,b.tr,b.dep⟩,bL (bY _ _) o,λt z=>?_⟩;have p:=h t z;rw[<- a]at p;exact p
def Pg:dI P w K mg base iG 17 tj ut ["self","number","row"] (kT K (Oo A)):=by
 refine SE (F:=mB A) T.D_3.F Fo (λN n C Q h=>by obtain⟨fs,an,d,m,u,o,k,r,j,z,y,rfl,b,v,c,a,h⟩:=h;rfl) λB M outer s H E g l n C Q h=>?_;obtain⟨fs,an,d,m,u,o,k,r,j,z,y,rfl,b,v,c,a,h⟩:=h;have nd:=Fo.nd;refine⟨_,(lV (qM (qT Cu (aH 0) (rG (aB (aH 1) aL)) (λh p=>lH h T.C_Book T.M_7 (Fg T) (g.mono Cv) T.D_7.d .nil iV p)) (λh=>hX h))
 (lV (qM (qT Cu (aH 0) (rG (aB (aH 2) aL)) (λh p=>lH h T.C_Book T.M_6 (Ff T) (g.mono Cv) T.D_6.d .nil iV p)) (λh=>hX h))
 (lV (uL (i:=3) (Xn g.u1 T.C_Book T.n_Book_numbered (aH 0) (aH 1)) (λh=>lG h (pn 3 nd)))
 (lV (U4 g.u1 T.C_Book T.n_Book_numbered (aH 0) (aH 1) (aH 2))
 (DQ (AV (aH 3) (uX Cu (aH 0) (λh=>qB h T.C_Book T.M_8 (Hn T) (g.mono Cv) T.D_8.d .nil iV)))))))),?_⟩
 obtain rfl:l=u:=iK y;have q:=b.kv;have f:oH n.kvs (k:Nat)=some (dE r):=by rw[q];exact qS c
 refine⟨_,Db,Db,_,Db,l,(k:Nat),dE r,Db,Db,f,?_⟩;dsimp only;refine⟨_,Db,Db,_,Db,fs,an,l,dE j,Db,Db,b.F,b.fm,N5 b.F a,LB a,?_⟩;dsimp only;refine⟨_,Db,Db,_,Db,(k:Nat),dE r,Db,f,?_⟩;have J:n.kvs.length=o.length:=by rw[q];unfold kY;rw[aC]
 refine⟨_,Db,_,Db,Db,_,Db,(k:Nat),Db,Cw,?_⟩;have e:BZ n.kvs (k:Nat) (dE j)=kY (tY k j o):=by rw[q];exact KF c
 refine⟨_,Db,_,Db,Db,fs,an,d,m,l,tY k j o,z,Db,Db,⟨b.F,b.fm,b.dp,b.ls,b.d6,e,VQ b.ok a,b.st,b.tr,b.dep⟩,by unfold tY;rw[aC];exact v,λt G=>?_⟩;have x:=h t G;rw[<- e]at x;exact x
def Ja:dI P w K mg base iG 16 uh vq ["self","form","deep","least"] (HZ A K Ol):=by
 refine Nd (C:=A) T.D_0.F Jt Db T.C_Book T.n_Book_form T.n_Book_deep T.n_Book_least T.n_Book_numbered T.n_Book_following T.n_Book_standing λf i outer s H E e j fm dp ls Q h=>?_;obtain⟨fs,an,d,m,a,F,hd,h⟩:=h;have nd:=Jt.nd;refine⟨_,_,(cd (WQ T) T.D_34 e (aB (aH 1) (aB (mH aL) (aB (aH 2) (aB (aH 3) aL))))),(λh=>(kQ (xX (pv 0) (pv 1) Db) (kQ (xX (pv 0) (pv 2) Db) (kQ (xX (pv 0) (pv 3) Db) (kQ (xX (pv 0) KL Db) (kQ (xX (pv 0) mZ Db) (tF (xX (pv 0) h Db)))))))),?_⟩;injection a with g a
 injection a with b a
 injection a with c _
 injection b with b
 injection c with c
 subst g b c;exact⟨_,Db,Da,_,Db,_,Db,fs,an,[],d,_,Db,F,(λr e=>by cases e),(cD _),Cw,h⟩
def Sc:dI P w K mg base iG 1 mz qf ["_law_script"] (iH K Ux):=by
 refine Eg T.D_37.F S0 λm nd l Q h=>?_;obtain⟨ns,rfl,i,h⟩:=h;refine⟨_,(aW (ss 1 nd aQ)
 (aW (jC (dF GD uW (cB jM (aB (aH 0) aL) cG T.b_len fZ) aQ)
 (cA (ss 1 nd (cV pF HV (bU bE cN (aH 0) aQ) aQ)))
 fU)
 (cA (sZ (NY (aB (gI kO rV (aH 0) jX (gT aQ)) (aB aQ (aB aQ (aB (aH 1) aL))))))))),?_⟩
 show jA _ _ _ [.val (.list (ns.map bM)),.un];refine cM (.int 0) (λq b=>b) ?_;refine xR (0<ns.length) (λd=>∃c:Int,d=.int c/\(c=0\/c=1)) (λq b=>⟨_,Db,b _ λhb=>?_⟩) (λk q b=>?_) (.int 0) Db ⟨0,Db,.inl Db⟩ ?_
 ·have f:((ns.map bM).length:Int)>0:=b8 hb;rw[aC]at f;lia
 ·have e:L2.atI (ns.map bM) 0=some (.int ns[0]):=L2.gK (j:=0) (by rw[aO,aG k];rfl);refine⟨_,Db,_,e,(show(0:Int)<2 by decide),b _ ⟨_,Db,?_⟩⟩;lia
 rintro _ ⟨c,rfl,g⟩
 have a:kW (ns.map bM) none (some 63)=ns.map bM:=by
  have:=pI (ns.map bM) 63;rw[fS (by rw[aC];exact i)]at this;exact this
 refine⟨_,Db,_,Db,Da,?_⟩;rw[a];exact h c g
def jP:dI P w K mg base iG 1 nc qg ["_law_tape_here","_law_many"] (cZ K Uy):=by
 refine uJ T.D_38.F Ta λM nd G Q h=>?_;obtain⟨ns,m,rfl,J,f,s,h⟩:=h;refine⟨_,(aW (ss 2 nd (zZ (i:=0) 0 (wY bE (pv 0) mZ (by intro _ _;rfl))))
 (aW (ss 3 nd (zZ (i:=0) 1 (wY bE (pv 0) mZ (by intro _ _;rfl))))
 (aW (xQ (i:=0) 1 (cV cJ gU (aH 3) aQ) (M7 (pv 0) mZ DI) (λg j=>lG g j))
 (aW (ss 4 nd aQ)
 (aW (jC (dF GD uW (cB jM (aB (aH 2) aL) cG T.b_len fZ) aQ)
 (cA (ss 4 nd (bU bE cN (aH 2) (cV pF HV (LG (dF lB oU (zZ (i:=0) 3 (wY bE (pv 0) mZ (by intro _ _;rfl))) aQ) (cV zK HV (aH 3) aQ) (aH 3)) (cB jM (aB (aH 2) aL) cG T.b_len fZ)))))
 fU)
 (aW (jC (dF lB oU (zZ (i:=0) 3 (wY bE (pv 0) mZ (by intro _ _;rfl))) aQ)
 (aW (jC (dF lB oU (cV pF HV (aH 3) aQ) aQ)
 (cA (xQ (i:=0) 2 (cV zK HV (aH 4) aQ) (M7 (pv 0) mZ DI) (λg j=>lG g j)))
 fU)
 (aW (ss 5 nd (zZ (i:=0) 2 (wY bE (pv 0) mZ (by intro _ _;rfl))))
 (aW (xQ (i:=0) 2 (cV zK HV (aH 5) (aH 1)) (M7 (pv 0) mZ DI) (λg j=>lG g j))
 (cA (dM (cV pF HV (aH 5) (aH 1)))))))
 fU)
 (aW (ss 6 nd (cV pF HV (cV fM nK (cV cJ gU (cV pF HV (aH 4) aQ) aQ) (cV cJ gU (cV cJ gU (cV fM nK (cV pF HV (aH 3) aQ) aQ) aQ) (aH 3))) aQ))
 (aW (ss 6 nd (cV pF HV (cV cJ gU (cV cJ gU (cV fM nK (aH 6) (aH 6)) (cV fM nK aQ (aH 6))) (aH 3)) aQ))
 (cA (dM (cV pF HV (cV pF HV (cV fM nK (aH 6) aQ) aQ) (aH 1)))))))))))),?_⟩
 show jA _ _ _ [.val (iU ns),.val (.int m),.un,.un,.un,.un,.un];have n:(0:Int)<60:=by decide
 refine cM (.list (ns.map bM)) (λq e=>⟨ns,Db,e⟩) ?_;refine dZ (λd=>∃a:Int,d=.int a/\0<=a) (λq e=>⟨ns,Db,λa o=>e _ ⟨a,Db,o⟩⟩) ?_;rintro _ ⟨a,rfl,o⟩;refine HH ns Db (a+1) (λq e=>⟨_,Db,e⟩) Cw ?_;refine cM (.int 0) (λq e=>e) ?_;refine xR (0<ns.length) (λd=>∃c:Int,d=.int c) (λq e=>⟨_,Db,e _ λhb=>?_⟩) (λp q e=>?_) (.int 0) Db ⟨0,Db⟩ ?_
 ·have k:((ns.map bM).length:Int)>0:=b8 hb;rw[aC]at k;lia
 ·have r:(0:Int)<((ns.map bM).length:Nat):=by rw[aC];lia
  refine⟨_,Db,ns,Db,λc H=>?_⟩;show(if decide (c=1)=true then _ else _);split
  ·obtain⟨x,l⟩:=LZ p (a / 60);exact⟨_,Db,⟨Cv,Cv⟩,_,Db,r,_,l,e _ ⟨x,Db⟩⟩
  ·obtain⟨x,l⟩:=LZ p a;exact⟨_,Db,_,Db,r,_,l,e _ ⟨x,Db⟩⟩
 rintro _ ⟨c,rfl⟩;refine jZ (λ_=>True) (λq e=>⟨ns,Db,λw hw=>e _ trivial⟩) (λ_=>?_) λ_=>?_
 ·refine jZ (λ_=>True) (λq e=>⟨_,Db,n,e _ trivial⟩) (λ_=>?_) λ_=>?_
  ·refine HS ns Db (c / 2) (λq e=>⟨_,Db,⟨Cv,Cv⟩,e⟩) ?_;dsimp only;refine dZ (λd=>∃b:Int,d=.int b) (λq e=>⟨ns,Db,λb=>e _ ⟨b,Db⟩⟩) ?_;rintro _ ⟨b,rfl⟩;refine zC ns Db (b / m) (λq e=>⟨_,Db,_,Db,⟨f,Cw⟩,e⟩) ?_;exact⟨_,Db,_,Db,f,h _ (kK _ Cw) (iS _ f)⟩
  ·unfold lM;dsimp only;refine dZ (λd=>∃b:Int,d=.int b) (λq e=>⟨ns,Db,λb=>e _ ⟨b,Db⟩⟩) ?_;rintro _ ⟨b,rfl⟩;refine zC ns Db (b / m) (λq e=>⟨_,Db,_,Db,⟨f,Cw⟩,e⟩) ?_;exact⟨_,Db,_,Db,f,h _ (kK _ Cw) (iS _ f)⟩
 ·unfold lM;dsimp only;have t:(0:Int)<1000003:=by decide
  have u:(0:Int)<997:=by decide
  have v:(0:Int)<1000033:=by decide
  have z:(0:Int)<999983:=by decide
  have B:(0:Int)<65537:=by decide
  have E:(0:Int)<=c%1000003/\c%1000003<1000003:=⟨kK _ Cv,iS _ Cv⟩;have C:(0:Int)<=a%997/\a%997<997:=⟨kK _ Cv,iS _ Cv⟩;refine dZ (λd=>∃x:Int,d=.int x/\0<=x/\x<1000033) (λq e=>⟨_,Db,t,_,Db,u,.inr ⟨Cv,Cv⟩,_,Db,.inl ⟨Cw,Cw⟩,v,e _ ⟨_,Db,kK _ Cv,iS _ Cv⟩⟩) ?_;rintro _ ⟨x,rfl,N,R⟩;refine dZ (λd=>∃x:Int,d=.int x/\0<=x/\x<999983) (λq e=>⟨_,Db,_,Db,.inl ⟨Cw,Cw⟩,_,Db,.inl ⟨Cv,Cv⟩,_,Db,z,e _ ⟨_,Db,kK _ Cv,iS _ Cv⟩⟩) ?_;rintro _ ⟨y,rfl,S,W⟩;exact⟨_,Db,.inl ⟨Cw,Cw⟩,B,_,Db,f,h _ (kK _ Cw) (iS _ f)⟩
def WP:dI P w K mg base iG 2 ng qh ["_law_tape_here","_law_many"] (cZ K Uz):=by
 refine uJ T.D_39.F Tc λv nd ds Q h=>?_;obtain⟨ns,m,rfl,u,Ca,Cb,h⟩:=h;refine⟨_,(aW (ss 2 nd cK)
 (aW (ss 3 nd (cd (jP T) T.D_38 v (aB (aH 0) (aB aQ aL))))
 (aW (jC (dF lB oU (aH 3) aQ)
 (aW (aAj (i:=4) nd Db (by first | exact j7 Db | exact j1 Db) (mH (SX (by repeat constructor))))
 (aW (ss 5 nd (cd (jP T) T.D_38 v (aB (aH 0) (aB aQ aL))))
 (cA (dM (gI kO rV (cV cJ gU (gI kO rV (aH 4) (gT (aH 5)) jX) (gI kO rV (aH 4) jX (gT (aH 5)))) jX (gT (aH 1)))))))
 fU)
 (aW (ss 6 nd (Zr cK (aB (el (fr:=[none,some 2,some 0]) (N':=["_law_k","_law_letters","_law_tape_here"]) (qE (aB aQ aL) (λh=>oC Db T.b_range h)) (λb=>⟨(eA (pk 0)),gY,(bU bE cN (aH 1) (cd (jP T) T.D_38 v (aB (aH 2) (aB aQ aL))))⟩)) aL) (λh ha=>nB PySem.F.plainAttrs_str PySem.F.slot_str_join PySem.F.type_str_join aBv h ha)))
 (aW (jC (dF lB oU (aH 3) aQ)
 (aW (ss 7 nd (cV cJ gU aQ (cd (jP T) T.D_38 v (aB (aH 0) (aB (cV tG HU aQ (aH 1)) aL)))))
 (aW (mR (i:=8) (fr:=[none,some 6,some 7]) (N':=["_law_k","_law_base","_law_size"]) (qE (aB (aH 1) aL) (λh=>oC Db T.b_range h)) (λb=>⟨(eA (pk 0)),gY,(gI kO rV (aH 1) jX (gT (cV cJ gU (aH 2) (aH 0))))⟩) (λhi hY=>jU (show nT _ (aX (top 50)) ["_law_tape_here","_law_many","_law_letters","_law_way","_law_some","_law_turn","_law_base","_law_size","_law_names_here","_law_at","_law_start"] ["_law_k","_law_base","_law_size"] [none,some 6,some 7]=true from by decide +kernel) nd Db (by first | exact j7 Db | exact j1 Db) Db hi hY Db))
 (aW (ss 5 nd (cd (jP T) T.D_38 v (aB (aH 0) (aB (aH 1) aL))))
 (aW (dM (cV cJ gU (gI kO rV (aH 8) (gT (aH 5)) jX) (gI kO rV (aH 8) jX (gT (aH 5)))))
 (rP 8 fU)))))
 fU)
 (aW (ss 7 nd (cV cJ gU aQ (cd (jP T) T.D_38 v (aB (aH 0) (aB aQ aL)))))
 (aW (ss 9 nd (cd (jP T) T.D_38 v (aB (aH 0) (aB (aH 7) aL))))
 (aW (ss 10 nd (cd (jP T) T.D_38 v (aB (aH 0) (aB aQ aL))))
 (cA (dM (el (fr:=[none,some 6,some 2,some 7,some 9,some 10]) (N':=["_law_k","_law_base","_law_letters","_law_size","_law_at","_law_start"]) (qE (aB (aH 1) aL) (λh=>oC Db T.b_range h)) (λb=>⟨(eA (pk 0)),gY,(cV cJ gU (cV cJ gU (gI kO rV (aH 1) jX (gT (aH 4))) (bU bE cN (aH 2) (cV pF HV (cV cJ gU (aH 5) (aH 0)) aQ))) (gI kO rV (aH 1) (gT (cV cJ gU (aH 4) aQ)) (gT (aH 3))))⟩)))))))))))),?_⟩
 show jA _ _ _ [.val (iU ns),.val (.int m),.un,.un,.un,.un,.un,.un,.un,.un,.un];refine cM (.str iW) (λq f=>f) ?_;refine dZ (λd=>∃w:Int,d=.int w) (λq f=>⟨_,Db,ns,4,Db,u,Cv,Cv,λr _ _=>f _ ⟨r,Db⟩⟩) ?_;rintro _ ⟨w,rfl⟩;have C:∀r:Int,0<=r->∃t:Nat,bM r=.int (t:Int)/\r=(t:Int):=λr g=>⟨r.toNat,by rw[hZ g],(hZ g).symm⟩;refine jZ (λb=>b=decide (w=0)) (λq f=>⟨_,Db,f _ Db⟩) (λ_=>?_) λ_=>?_
 ·refine cM (.list (CQ.map aR)) (λq f=>⟨Cv,f⟩) ?_;refine dZ (λd=>∃t:Nat,d=.int (t:Int)) (λq f=>⟨_,Db,ns,12,Db,u,Cv,Cv,λr g _=>f _ ((C r g).imp λ_ e=>e.1)⟩) ?_;rintro _ ⟨t,rfl⟩;refine⟨_,Db,_,Db,_,Db,_,Db,?_,_,Db,?_⟩
  ·rw[mX,mX,aC,aC,EW,pI,dP,bN];show 12-t+min t 12<=100000;lia
  ·show Q (.list (kW (kW (CQ.map aR) (some (t:Int)) none++kW (CQ.map aR) none (some (t:Int))) none (some (m:Int))));rw[mX,mX,<- cX,mX,EW,pI,pI];exact h _ (GF Qs t Cw)
 ·unfold lM;dsimp only;refine dZ (λd=>∃z:Str,d=.str z/\z.cps.toList.length=8/\∀c∈z.cps.toList,c∈iW.cps.toList) (λq f=>?_) ?_
  ·refine⟨_,Db,?_⟩;refine NR (ts:=eI 8) (λR h=>⟨8,Db,Cv,Cv,h⟩) (λ_ _ y=>∃c,c∈iW.cps.toList/\y=.str ⟨#[c]⟩) Cv (λj x q S f=>?_) λys o J=>?_
   ·refine⟨_,Db,_,Db,ns,26,Db,u,Cv,Cv,λr g E=>?_⟩;obtain⟨c,W,yb,_⟩:=tR (xs:=iW.cps.toList) (i:=r) g (by rw[BK];exact E);exact⟨Cv,c,yb,f _ ⟨c,W,Db⟩⟩
   ·obtain⟨n,rfl,G⟩:=J2 (ys:=ys) λy kd=>by
     obtain⟨j,N,rfl⟩:=xK.mp kd;have eH:j<(eI 8).length:=by rw[<- o];exact N
     exact J j (eI 8)[j] _ (aG eH) (aG N)
    have p:n.length=8:=by rw[aC,kB]at o;exact o
    refine⟨n.map λc=>⟨#[c]⟩,by rw[bD];rfl,?_,f _ ⟨_,Db,?_,?_⟩⟩
    ·rw[aC,bD,p]
     have:(aSi ((λx:Str=>x.length)∘λc=>(⟨#[c]⟩:Str)) n).sum=n.length:=by
      clear p o J G
      induction n with
      |nil=>rfl
      |cons a l ih=>rw[bS,gE,ih,dQ];show 1+_=_;lia
     rw[this,p];decide
    ·rw[show(Txt.join (d7 "") (n.map λc=>⟨#[c]⟩)).cps.toList=n from D7 n];exact p
    ·rw[show(Txt.join (d7 "") (n.map λc=>⟨#[c]⟩)).cps.toList=n from D7 n];exact G
  rintro _ ⟨z,rfl,B,M⟩
  have hz:z.length<=100000:=by
   have:z.length=z.cps.toList.length:=by simp[bd]
   lia
  refine jZ (λb=>b=decide (w=1)) (λq f=>⟨_,Db,f _ Db⟩) (λ_=>?_) λ_=>?_
  ·refine dZ (λd=>∃k:Nat,d=.int (k:Int)/\1<=k/\k+m<=9) (λq f=>⟨_,Db,_,Db,ns,9-(m:Int),Db,u,Cw,Cw,λr g E=>f _ ⟨(1+r).toNat,by rw[hZ Cw],Cw,Cw⟩⟩) ?_;rintro _ ⟨k,rfl,H,gL⟩;refine cM (.list (((fX m).map λj:Nat=>Txt.slice z none (some ((k:Int)+(j:Int)))).map aR)) (λq f=>?_) ?_
   ·refine iI (ts:=eI m) (λR h=>⟨_,Db,(m:Int),Db,Cw,Cw,by simpa using h⟩) (λx=>match x with | .int j=>.str (Txt.slice z none (some ((k:Int)+j))) | _=>.none) (by rw[kB];lia) (λx q S f=>?_) ?_
    ·obtain⟨j,N,rfl⟩:=aS.mp S;exact⟨_,Db,_,Db,_,Db,hz,f⟩
    ·unfold eI;rw[bD];rw[bD]at f;exact f
   refine dZ (λd=>∃t:Nat,d=.int (t:Int)) (λq f=>⟨_,Db,_,Db,ns,(m:Int),Db,u,Cw,Cw,λr g _=>f _ ((C r g).imp λ_ e=>e.1)⟩) ?_;rintro _ ⟨t,rfl⟩;have rB:=WX B M H gL
   have fin:∀ys:List Str,G1 m ys->(kW (ys.map aR) (some (t:Int)) none).length+(kW (ys.map aR) none (some (t:Int))).length<=100000/\Q (.list (kW (ys.map aR) (some (t:Int)) none++kW (ys.map aR) none (some (t:Int)))):=λys J=>by
    have E:=J.1;rw[mX,mX,<- cX,aC,aC,EW,pI,dP,bN];exact⟨Cw,h _ (RU J t)⟩
   exact⟨_,Db,_,Db,_,Db,_,Db,fin _ rB⟩
  ·try unfold lM
   dsimp only;refine dZ (λd=>∃k:Nat,d=.int (k:Int)/\1<=k/\k<=8) (λq f=>⟨_,Db,ns,8,Db,u,Cv,Cv,λr g E=>f _ ⟨(1+r).toNat,by rw[hZ Cw],Cw,Cw⟩⟩) ?_;rintro _ ⟨k,rfl,H,gJ⟩;refine dZ (λd=>∃t:Nat,d=.int (t:Int)/\t<k) (λq f=>⟨_,Db,_,Db,ns,(k:Int),Db,u,Cw,Cw,λr g E=>f _ ⟨r.toNat,by rw[hZ g],Cw⟩⟩) ?_;rintro _ ⟨t,rfl,wb⟩;refine dZ (λd=>∃s:Nat,d=.int (s:Int)) (λq f=>⟨_,Db,ns,26,Db,u,Cv,Cv,λr g _=>f _ ((C r g).imp λ_ e=>e.1)⟩) ?_;rintro _ ⟨s,rfl⟩;refine iI (ts:=eI m) (λR h=>⟨_,Db,(m:Int),Db,Cw,Cw,by simpa using h⟩) (λx=>match x with | .int j=>.str (AM z t k (SR ((s+j.toNat)%26))) | _=>.none) (by rw[kB];lia) (λx q S f=>?_) ?_
   ·obtain⟨j,N,rfl⟩:=aS.mp S;have e:((s:Int)+(j:Int))%26=(((s+j)%26:Nat):Int):=by lia
    have W:=C3 (i:=(s+j)%26) (BD _ Cv);have X:L2.atI iW.cps.toList (((s:Int)+(j:Int))%26)=some (SR ((s+j)%26)):=by rw[e];exact L2.gK W
    obtain⟨w1,w2⟩:=MM z B t k (SR ((s+j)%26));exact⟨_,Db,_,Db,hz,_,Db,_,Db,_,Db,(show(0:Int)<26 by decide),Cv,_,X,w1,_,Db,_,Db,_,Db,hz,w2,f⟩
   ·unfold eI;rw[bD];have:=h _ (RT B M (k:=k) (t:=t) (s:=s) (m:=m) gJ wb Cw);rw[bD]at this;exact this
def Se:dI P w K mg base iG 3 nh qi ["_law_tape_here","_law_fields","_law_values"] (cZ K Wb):=by
 refine uJ T.D_40.F Td λt nd ds Q h=>?_;obtain⟨ns,f,v,rfl,s,wa,By,Cg,Ci,h⟩:=h;refine⟨_,(aW (ss 3 nd (cV cJ gU aQ (cd (jP T) T.D_38 t (aB (aH 0) (aB (aH 1) aL)))))
 (aW (ss 4 nd (cd (WP T) T.D_39 t (aB (aH 0) (aB (aH 3) aL))))
 (aW (so 5 nd aL)
 (aW (sf (qE (aB (aH 3) aL) (λh=>oC Db T.b_range h)) (eA (pn 6 nd))
 (aW (ss 7 nd (cV cJ gU aQ (cd (jP T) T.D_38 t (aB (aH 0) (aB (cV tG HU (aH 2) aQ) aL)))))
 (aW (ss 8 nd (aH 4))
 (aW (jC (pM (yV (dF GD uW (aH 7) (aH 3)) (uK (dF GD uW (cd (jP T) T.D_38 t (aB (aH 0) (aB aQ aL))) aQ))))
 (cA (ss 8 nd (cd (WP T) T.D_39 t (aB (aH 0) (aB (aH 7) aL)))))
 fU)
 (cA (HB (i:=5) (pv 5) (dD (aB (bU bE cN (aH 4) (aH 6)) (aB (cY C2 (aB (gI kO rV (aH 8) jX (gT (aH 7))) aL) oP T.b_tuple oY) aL))) (pb:=λh=>hX (nB cO iM iL oG (pv 5) h))))))))
 (rP 5 (cA (dM (dD (aB (cY C2 (aB (aH 5) aL) oP T.b_tuple oY) (aB (cY C2 (aB (cd (WP T) T.D_39 t (aB (aH 0) (aB (cV cJ gU aQ (cd (jP T) T.D_38 t (aB (aH 0) (aB aQ aL)))) aL))) aL) oP T.b_tuple oY) aL)))))))))),?_⟩
 show jA _ _ _ [.val (iU ns),.val (.int f),.val (.int v),.un,.un,.un,.un,.un,.un];refine dZ (λd=>∃m:Nat,d=.int (m:Int)/\1<=m/\m<=f) (λq c=>⟨_,Db,_,Db,ns,(f:Int),Db,s,Cw,Cw,λr h0 y=>c _ ⟨(1+r).toNat,by rw[hZ Cw],Cw,Cw⟩⟩) ?_;rintro _ ⟨m,rfl,X,Cc⟩;refine dZ (λd=>∃a,G1 m a/\d=.list (a.map aR)) (λq c=>⟨_,Db,_,Db,ns,m,Db,s,X,Cw,λa u=>c _ ⟨a,u,Db⟩⟩) ?_;rintro _ ⟨a,u,rfl⟩;refine vV [] Cv (λq c=>c) ?_
 refine qO (ts:=eI m) (λR h=>⟨_,Db,(m:Int),Db,Cw,Cw,by simpa using h⟩)
  (λj σ=>∃(fs:List (Str×List Str))(s6 s7 s8:Sl),σ=[.val (iU ns),.val (.int f),.val (.int v),.val (.int m),.val (.list (a.map aR)),.own (fs.map lI),s6,s7,s8]/\fs.map (·.1)=a.take j/\∀x∈fs,2<=x.2.length/\x.2.length<=v/\G1 x.2.length x.2) ⟨[],_,_,_,Db,Cy,λx hx=>by simp at hx⟩ (λj x u7 hx J=>?_) λu7 J=>?_
 ·obtain⟨hj,rfl⟩:=tM hx;obtain⟨fs,s6,s7,s8,rfl,l,p⟩:=J;have C:j<a.length:=by rw[u.1];exact hj
  have B:fs.length<=j:=by
   have:=h9 kH l;rw[aC,bN]at this;lia
  refine dZ (λd=>∃k:Nat,d=.int (k:Int)/\2<=k/\k<=v) (λq c=>⟨_,Db,_,Db,ns,(v:Int)-1,Db,s,Cw,Cw,λr h0 y=>c _ ⟨(2+r).toNat,by rw[hZ Cw],Cw,Cw⟩⟩) ?_;rintro _ ⟨k,rfl,N,W⟩;refine cM (.list (a.map aR)) (λq c=>⟨_,Db,c⟩) ?_
  have fin:∀(o:List Str)(n:Nat),G1 n o->k<=n->∃(g:List (Str×List Str)),g.map (·.1)=a.take (j+1)/\(∀x∈g,2<=x.2.length/\x.2.length<=v/\G1 x.2.length x.2)/\g.map lI=fs.map lI++[lI (a[j],o.take k)]:=λo n hw S=>by
   have hk:=RV hw S;refine⟨fs++[(a[j],o.take k)],?_,λx hx=>?_,by rw[cX];rfl⟩
   ·rw[cX,l,dG,aG C];rfl
   ·rcases cC.mp hx with hx | hx
    ·exact p x hx
    ·rw[aP.mp hx];show 2<=(o.take k).length/\(o.take k).length<=v/\G1 (o.take k).length (o.take k);rw[hk.1];exact⟨N,W,hk⟩
  have E:L2.atI (a.map aR) (j:Int)=some (.str a[j]):=Y1 C;refine jZ (λb=>b=false->k<=m) (λq c=>?_) (λ_=>?_) λhF=>?_
  ·refine⟨_,Db,_,Db,?_⟩;show(if decide ((k:Int)>(m:Int))=true then _ else _);by_cases e:(k:Int)>(m:Int)
   ·rw[a9 (b7 e)];exact c _ λz=>by cases z
   ·rw[a8 (by simpa using e)];exact⟨_,Db,ns,4,Db,s,Cv,Cv,λr _ _=>c _ λ_=>by lia⟩
  ·refine⟨_,Db,_,Db,ns,k,Db,s,Cw,Cw,λo hw=>?_⟩;obtain⟨g,y,G,H⟩:=fin o k hw (aM _);refine zL (ts:=fs.map lI) (lI (a[j],o.take k)) Db (by rw[aC];lia) (λq c=>⟨_,Db,_,Db,_,E,_,Db,_,Db,?_⟩) ⟨g,_,_,_,by rw[H];rfl,y,G⟩;show _/\q (.tuple [.str a[j],.tuple (kW (o.map aR) none (some (k:Int)))]);rw[mX,pI];exact⟨Da,c⟩
  ·unfold lM;dsimp only;obtain⟨g,y,G,H⟩:=fin a m u (hF Db);refine zL (ts:=fs.map lI) (lI (a[j],a.take k)) Db (by rw[aC];lia) (λq c=>⟨_,Db,_,Db,_,E,_,Db,_,Db,?_⟩) ⟨g,_,_,_,by rw[H];rfl,y,G⟩;show _/\q (.tuple [.str a[j],.tuple (kW (a.map aR) none (some (k:Int)))]);rw[mX,pI];exact⟨Da,c⟩
 ·obtain⟨fs,s6,s7,s8,rfl,l,p⟩:=J;rw[kB,fS (by rw[u.1];exact aM _)]at l
  have B:fs.length=m:=by
   have:=h9 kH l;rw[aC,u.1]at this;exact this
  refine⟨_,Db,_,Db,_,Db,_,Db,ns,3,Db,s,Cv,Cv,λr h0 y=>⟨ns,(2+r).toNat,by rw[hZ Cw],s,Cw,Cw,λan ha=>⟨Da,?_⟩⟩⟩;have M:=ha.1;refine h fs an ⟨Cw,Cw,by rw[l,B];exact u,λx hx=>?_,Cw,Cw,by rw[M];exact ha,Cw⟩ Cw λx hx=>(p x hx).2.1;obtain⟨x1,x2,x3⟩:=p x hx;exact⟨x1,Cw,x3⟩
def Lc:dI P w K mg base iG 1 ni qj ["_law_form_here","_law_knot","_law_case"] (cZ K Wc):=by
 refine uJ T.D_41.F Te λS nd ds Q h=>?_;obtain⟨fs,an,k,n,v,s,t,rfl,F,g,hs,hc,h⟩:=h;refine⟨_,(aW (OS (bU bE cN (aH 1) aQ) (GM (rD Db (fQ (pn 3 nd) (fQ (pn 4 nd) (fQ (pn 5 nd) oN))))) (λhe hg=>lG he hg))
 (aW (ss 6 nd (wK (el (fr:=[none]) (N':=["_law_field"]) (fN (bU bE cN (aH 0) aQ)) (λb=>⟨(eA (pk 0)),gY,(bU bE cN (aH 0) aQ)⟩)) (aB (aH 4) aL) (λh y=>nB cO nE nD (wD S) h y)))
 (aW (ss 7 nd (bU bE cN (bU bE cN (bU bE cN (aH 0) aQ) (aH 6)) aQ))
 (aW (jC (dF NB WR (bU bE cN (aH 2) (aH 6)) kU)
 (cA (dM (bU bE cN (aH 1) aQ)))
 fU)
 (aW (jC (pM (yV (dF lB oU (bU bE cN (aH 2) (aH 6)) (aH 5)) (uK (pM (qZ (dF lB oU (aH 3) cK) (qL (dF PD uW (EJ (aH 7) (aB (bU bE cN (aH 2) (aH 6)) aL) (λh y=>nB rL rK rJ (D1 S) h y)) (EJ (aH 7) (aB (aH 5) aL) (λh y=>nB rL rK rJ (D1 S) h y)))))))))
 (cA (dM cK))
 fU)
 (cA (dM cK))))))),?_⟩
 show jA _ _ _ [.val (fJ fs an),.val (.tuple [.str "ask",.tuple [.str k,.str n,.str v],.str s]),.val (.tuple t),.un,.un,.un,.un,.un];obtain⟨zl,H⟩:=mI hc;have n5:=F.n5;obtain⟨d,r,m,p,B,M⟩:=Wy F g
 generalize jx fs n=j at r
 have cS:=(aI.mp r).1;have ej:(fs.map (·.1)).idxOf n=j:=by rw[<- p];exact CS F r
 have N:n∈fs.map (·.1):=aS.mpr ⟨d,m,p⟩;have i:t[j]?=some t[j]:=aG Cw
 generalize yb:t[j]=c at i
 have o:L2.atI t (j:Int)=some c:=L2.gK i;have J:L2.atI (fs.map lI) (j:Int)=some (lI d):=L2.gK (by rw[aO,r];rfl);have hok:=H j d c r i;rw[DG F r i p]at h;refine VG (a:=.str k) (b:=.str n) (c:=.str v) (λq g=>⟨_,Db,_,Db,g⟩) ?_;refine cM (.int (j:Int)) (λq g=>?_) ?_
 ·dsimp only[CY];refine iI (ts:=fs.map lI) (λR h=>⟨_,Db,_,Db,_,Db,h⟩) fst (by rw[aC];lia) (λx q hx g=>?_) ?_
  ·obtain⟨f,hf,rfl⟩:=aS.mp hx;exact⟨_,Db,_,Db,g⟩
  ·have e:(fs.map lI).map fst=(fs.map (·.1)).map aR:=by rw[bD,bD];rfl
   rw[e];have:=rT F.nd.2.1 N;rw[ej]at this;exact⟨_,Db,_,Db,_,j,Db,this,Cw,g⟩
 refine cM (.tuple (d.2.map aR)) (λq g=>⟨_,Db,_,Db,_,Db,_,J,_,Db,g⟩) ?_;refine jZ (λb=>b=CU c) (λq g=>⟨_,Db,_,Db,_,o,g _ Db⟩) (λG=>?_) λE=>?_
 ·cases c with
  |none=>exact⟨_,Db,_,Db,h⟩
  |_=>cases G
 try unfold lM
 dsimp only
 cases c with
 |none=>cases E
 |str z=>
  have X:z∈d.2:=b8 hok;have i1:=rT (F.vals m) X;have i2:=rT (F.vals m) B;have Cm:=(F.vs d m).2.2.2.2;have u:Q (.str (if k="is" then(if z=v then "yes" else "no")else if d.2.idxOf z<=d.2.idxOf v then "yes" else "no")):=h
  have W:(if(decide (z=v)||(decide (k="upto")&&decide ((d.2.idxOf z:Int)<(d.2.idxOf v:Int))))=true then("yes":Str)else "no")=(if k="is" then(if z=v then("yes":Str)else "no")else if d.2.idxOf z<=d.2.idxOf v then("yes":Str)else "no"):=by
   by_cases e:z=v
   ·subst e;rw[b7 Db,aJa,a9 rfl];split
    ·exact(a9 Db).symm
    ·exact(a9 (aM _)).symm
   ·rw[b9 e,JR];rcases M with rfl | rfl
    ·rw[a9 Db,a8 e,a8];rw[b9 Cu];simp
    ·rw[a8 (show¬("upto":Str)="is" by decide +kernel),b7 Db,pL]
     have eg:d.2.idxOf z≠d.2.idxOf v:=λz'=>e (by
      have h1:=nF (kN.mpr X);have h2:=nF (kN.mpr B);rw[<- h1,<- h2];congr 1)
     by_cases l:d.2.idxOf z<=d.2.idxOf v
     ·rw[a9 l,a9 (b7 Cw)]
     ·rw[a8 l,a8 (by rw[b9 Cw];decide)]
  rw[<- W]at u;refine jZ (λb=>b=(decide (z=v)||(decide (k="upto")&&decide ((d.2.idxOf z:Int)<(d.2.idxOf v:Int))))) (λq g=>⟨_,Db,_,Db,_,o,_,Db,?_⟩) (λG=>?_) λE=>?_
  ·show(if decide (z=v)=true then q true else _);by_cases e:z=v
   ·rw[a9 (b7 e)];exact g _ (by rw[b7 e];rfl)
   ·rw[a8 (by rw[b9 e];decide)];refine⟨_,Db,?_⟩;show(if decide (k="upto")=true then _ else q false);by_cases C:k="upto"
    ·rw[a9 (b7 C)];refine⟨_,Db,_,Db,_,Db,_,Db,_,o,_,_,Db,i1,_,Db,_,Db,_,Db,_,_,Db,i2,?_⟩;refine g _ ?_;rw[b9 e,b7 C];rfl
    ·rw[a8 (by rw[b9 C];decide)];exact g _ (by rw[b9 e,b9 C];rfl)
  ·rw[<- G,a9 rfl]at u;exact u
  ·try unfold lM
   dsimp only;rw[<- E,a8 Cv]at u;exact u
 |_=>cases hok
def Sf:dI P w K mg base iG 1 nk qk ["_law_form_here"] (cZ K We):=by
 refine uJ T.D_43.F Tg λE nd C Q h=>?_;obtain⟨fs,an,rfl,F,h⟩:=h;refine⟨_,(aW (so 1 nd aL)
 (aW (sf (fN (bU bE cN (aH 0) aQ)) (qR (rD Db (fQ (pn 2 nd) (fQ (pn 3 nd) oN))))
 (cA (jC (dF lB oU (cB jM (aB (aH 3) aL) cG T.b_len fZ) aQ)
 (cA (HB (i:=1) (pv 1) (dD (aB cK (aB (aH 2) (aB (bU bE cN (aH 3) aQ) aL)))) (pb:=λh=>hX (nB cO iM iL oG (pv 1) h))))
 (aW (sF 1 nd (P7 (pv 1) (el (fr:=[none,some 2]) (N':=["_law_value","_law_name"]) (fN (aH 3)) (λb=>⟨(eA (pk 0)),gY,(dD (aB cK (aB (aH 1) (aB (aH 0) aL))))⟩))))
 (cA (sF 1 nd (P7 (pv 1) (el (fr:=[none,some 2]) (N':=["_law_value","_law_name"]) (fN (gI kO rV (aH 3) (gT aQ) (gT (cV tG HU (cB jM (aB (aH 3) aL) cG T.b_len fZ) aQ)))) (λb=>⟨(eA (pk 0)),gY,(dD (aB cK (aB (aH 1) (aB (aH 0) aL))))⟩)))))))))
 (rP 1 (cA (dM (aH 1)))))),?_⟩
 show jA _ _ _ [.val (fJ fs an),.un,.un,.un];have n5:=F.n5;refine vV [] Da (λq a=>a) ?_
 refine qO (ts:=fs.map lI) (λR h=>⟨_,Db,_,Db,_,Db,h⟩)
  (λi B=>∃k s3:Sl,B=[.val (fJ fs an),.own (fY (fs.take i)),k,s3]) ⟨_,_,Db⟩ (λi x l d j=>?_) λl j=>?_
 ·obtain⟨k,s3,rfl⟩:=j;rw[aO]at d;obtain⟨f,c,rfl⟩:=dS.mp d;have u:=bB c;obtain⟨H,J,z⟩:=F.vs f u;have t:=nA F (fs.take i) λg v=>dU v;have y:(fs.take i).length<=5:=by rw[bN];lia
  have e:fY (fs.take (i+1))=fY (fs.take i)++JJ f:=by
   unfold fY;rw[dG,c,cX,TD];show _++[JJ f].flatten=_;rw[ME]
  refine⟨_,_,Db,?_⟩;by_cases m:f.2.length=2
  ·refine Yl (λq a=>⟨_,Db,a _ (b7 (by rw[aC];lia))⟩) ?_;have n:f.2[0]?=some (f.2[0]' Cw):=aG Cw
   have eq:JJ f=[Dm "is" f (f.2[0]' Cw)]:=by
    have p:wT f=[]:=by
     unfold wT;rw[show f.2.length-3=0 by lia];rfl
    unfold JJ;rw[p];unfold DP;rw[a9 m]
    have o:f.2.take 1=[f.2[0]' Cw]:=by
     rw[dG,n];rfl
    rw[o];rfl
   refine zL (Dm "is" f (f.2[0]' Cw)) Db Cw (λq a=>⟨_,Db,_,Db,_,L2.gK (by rw[aO,n];rfl),Da,a⟩) ⟨.val (.str f.1),.val (.tuple (f.2.map aR)),?_⟩;rw[e,eq];rfl
  ·refine AU (λb=>b=false) (λq a=>⟨_,Db,a _ (b9 (by rw[aC];lia))⟩) (λs=>by cases s) λ_=>?_;refine(show jA (J9 1 _) _ _ _ from⟨_,Db,?_⟩);refine iI (ts:=f.2.map aR) (λR h=>⟨_,Db,_,Db,h⟩) (λx=>.tuple [.str "is",.str f.1,x]) (by rw[aC];lia) (λx q d a=>⟨_,Db,_,Db,Da,a⟩) ?_;rw[bD];refine⟨_,Db,by rw[aC];lia,?_⟩;dsimp only;refine(show J9 1 _ _ _ from⟨_,Db,?_⟩)
   have r:kW (f.2.map aR) (some 1) (some (((f.2.map aR).length:Int)-2))=(wT f).map aR:=by
    rw[aC,show(f.2.length:Int)-2=((f.2.length-2:Nat):Int) by lia];have:=YM (f.2.map aR) 1 (f.2.length-2);rw[show f.2.length-2-1=f.2.length-3 by lia]at this;unfold wT;rw[aIr,aIs];exact this
   have G:(wT f).length<=5:=by unfold wT;rw[bN,dP];lia
   refine iI (ts:=(wT f).map aR) (λR h=>?_) (λx=>.tuple [.str "upto",.str f.1,x]) (by rw[aC];lia) (λx q d a=>⟨_,Db,_,Db,Da,a⟩) ?_
   ·rw[<- r]at h;exact⟨_,Db,_,Db,_,Db,h⟩
   rw[bD];refine⟨_,Db,by rw[bP,aC,aC];lia,.val (.str f.1),.val (.tuple (f.2.map aR)),?_⟩;rw[e];unfold JJ DP;rw[a8 m,<- BV];rfl
 ·obtain⟨k,s3,rfl⟩:=j;rw[aC,eU];exact⟨_,Db,_,Db,by rw[<- CL];exact h⟩
def Me:dI P w K mg base iG 1 nl ql ["_law_form_here","_law_rows"] (cZ K Wf):=by
 refine uJ T.D_44.F Ti λf nd i Q h=>?_;obtain⟨fs,an,rs,rfl,F,hok,g,h⟩:=h;refine⟨_,(cA (dM (el (fr:=[none,some 1]) (N':=["_law_answer","_law_rows"]) (fN (bU bE cN (aH 0) aQ)) (λb=>⟨(eA (pk 0)),gY,(cB jM (aB (el (fr:=[none,some 0]) (N':=["_law_row","_law_answer"]) (fN (aH 1)) (λb=>⟨(eA (pk 0)),(EB (dF lB oU (bU bE cN (aH 0) aQ) (aH 1))),(aH 0)⟩)) aL) cG T.b_len fZ)⟩)))),?_⟩;have a4:=F.a4;refine(iI (ts:=an.map aR) (λR h=>⟨_,Db,_,Db,_,Db,h⟩) (Fd rs) (by rw[aC];lia) (λx q d c=>?_) ?_)
 ·obtain⟨a,j,rfl⟩:=aS.mp d;show pO (f1 Jc) _ _ _;dsimp only[pO,xG,IW];refine zN (ts:=rs.map dE) (λR h=>⟨_,Db,_,Db,h⟩) (λx=>match x with | .tuple [_,.str z]=>decide (z=a) | _=>false) id (by rw[aC];lia) (λx q d c=>?_) (λx q d c=>⟨_,Db,c⟩) ?_
  ·obtain⟨r,f,rfl⟩:=aS.mp d;exact⟨_,Db,_,Db,_,Db,c⟩
  ·rw[xL,vR]
   have e:((rs.filter ((λx:D=>match x with | .tuple [_,.str z]=>decide (z=a) | _=>false)∘dE)).map dE).length=yF rs a:=by
    rw[aC];unfold yF;rw[FG];rfl
   show q (.int ((((rs.filter ((λx:D=>match x with | .tuple [_,.str z]=>decide (z=a) | _=>false)∘dE)).map dE).length:Nat):Int));rw[e];exact c
 ·show Q _
  have e:(an.map aR).map (Fd rs)=(jD an rs).map bM:=by
   unfold jD;rw[bD,bD];rfl
  rw[e];exact h
def WO:dI P w K mg base iG 2 nq qm ["_law_form_here","_law_rows"] (cZ K Wg):=by
 refine uJ T.D_45.F Tj λo nd r Q h=>?_;obtain⟨fs,an,rs,rfl,F,hok,j,h⟩:=h;refine⟨_,(aW (ss 2 nd (cd (Me T) T.D_44 o (aB (aH 0) (aB (aH 1) aL))))
 (cA (dM (cV tG HU (cV fM nK (cB jM (aB (aH 1) aL) cG T.b_len fZ) (cB jM (aB (aH 1) aL) cG T.b_len fZ)) (cB Lf (aB (el (fr:=[none]) (N':=["_law_count"]) (fN (aH 2)) (λb=>⟨(eA (pk 0)),gY,(cV fM nK (aH 0) (aH 0))⟩)) aL) (xD Db) T.b_sum YV))))),?_⟩
 show jA _ _ _ [.val (fJ fs an),.val (.list (rs.map dE)),.un];have a4:=F.a4;refine cM (.list ((jD an rs).map bM)) (λq i=>⟨_,Db,_,Db,fs,an,rs,Db,F,hok,j,i⟩) ?_;have f:(jD an rs).length=an.length:=by unfold jD;rw[aC]
 have g:∀c∈jD an rs,0<=c/\c<=(rs.length:Int):=λc d=>by
  unfold jD at d;obtain⟨a,_,rfl⟩:=aS.mp d;have:=YN rs a;lia
 refine⟨_,Db,_,Db,.inl ⟨by rw[aC];lia,by rw[aC];lia⟩,?_⟩;show pO (f1 Je) _ _ _;dsimp only[pO,xG,IW];refine iI (ts:=(jD an rs).map bM) (λR h=>⟨_,Db,_,Db,h⟩) Ij (by rw[aC,f];lia) (λx q p i=>?_) ?_
 ·obtain⟨c,d,rfl⟩:=aS.mp p;have:=g c d;exact⟨_,Db,_,Db,.inl ⟨Cw,Cw⟩,i⟩
 ·have e:((jD an rs).map bM).map Ij=((jD an rs).map λc=>c*c).map bM:=by
   rw[bD,bD];rfl
  rw[e];refine⟨_,Db,λn m=>?_,by rw[aC,f];lia,?_⟩
  ·obtain⟨c,d,rfl⟩:=aS.mp m;have:=g c d;have l:0<=c*c:=aIt Cw Cw;have s:c*c<=60*60:=aIu Cw Cw Cw Cw;exact⟨l,Cw⟩
  ·have k:=Yc F hok;show Q (.int ((((rs.map dE).length:Nat):Int)*(((rs.map dE).length:Nat):Int)-((jD an rs).map λc=>c*c).sum));rw[aC,k];exact h
def WN:dI P w K mg base iG 2 nt qo ["_law_tape_here","_law_form_here"] (cZ K Wi):=by
 refine uJ T.D_47.F Tl λN nd ds Q h=>?_;obtain⟨ns,fs,an,rfl,J,F,h⟩:=h;refine⟨_,(aW (so 2 nd aL)
 (aW (sf (fN (bU bE cN (aH 1) aQ)) (qR (rD Db (fQ (pn 3 nd) (fQ (pn 4 nd) oN))))
 (aW (ss 5 nd (bU bE cN (aH 4) (cd (jP T) T.D_38 N (aB (aH 0) (aB (cB jM (aB (aH 4) aL) cG T.b_len fZ) aL)))))
 (aW (jC (dF lB oU (cd (jP T) T.D_38 N (aB (aH 0) (aB aQ aL))) aQ)
 (cA (ss 5 nd kU))
 fU)
 (cA (HB (i:=2) (pv 2) (aH 5) (pb:=λh=>hX (nB cO iM iL oG (pv 2) h)))))))
 (rP 2 (cA (dM (dD (aB (cY C2 (aB (aH 2) aL) oP T.b_tuple oY) (aB (bU bE cN (bU bE cN (aH 1) aQ) (cd (jP T) T.D_38 N (aB (aH 0) (aB (cB jM (aB (bU bE cN (aH 1) aQ) aL) cG T.b_len fZ) aL)))) aL)))))))),?_⟩
 show jA _ _ _ [.val (iU ns),.val (fJ fs an),.un,.un,.un,.un];have n5:=F.n5;refine vV [] Da (λq n=>n) ?_
 refine qO (ts:=fs.map lI) (λR h=>⟨_,Db,_,Db,_,Db,h⟩)
  (λi S=>∃(b:List D)(s3 p s:Sl),S=[.val (iU ns),.val (fJ fs an),.own b,s3,p,s]/\b.length=i/\∀(k:Nat) f c,fs[k]?=some f->b[k]?=some c->L8 f c=true) ⟨[],_,_,_,Db,Db,λk f c _ e=>by simp at e⟩ (λi x W X y=>?_) λW y=>?_
 ·obtain⟨b,s3,p,s,rfl,l,m⟩:=y;rw[aO]at X;obtain⟨f,E,rfl⟩:=dS.mp X;have o:=bB E;have cR:=(aI.mp E).1;have v2:=(F.vs f o).1;have v5:=(F.vs f o).2.1;refine⟨_,_,Db,?_⟩
  have next:∀d:D,L8 f d=true->(∃(j:List D)(s3 p s:Sl),[Sl.val (iU ns),.val (fJ fs an),.own (b++[d]),.val (.str f.1),.val (.tuple (f.2.map aR)),.val d]=[.val (iU ns),.val (fJ fs an),.own j,s3,p,s]/\j.length=i+1/\∀(k:Nat) g c,fs[k]?=some g->j[k]?=some c->L8 g c=true):=λd hd=>
   ⟨_,_,_,_,Db,by rw[bP];show _+1=_;lia,λk g c G e=>by
    by_cases hk:k<b.length
    ·rw[eG hk]at e;exact m k g c G e
    ·rw[eD Cw]at e
     have H:k=i:=by
      have:=(aI.mp e).1;simp at this;lia
     subst H;rw[E]at G;cases G;rw[show k-b.length=0 by lia]at e;cases e;exact hd⟩
  refine dZ (λd=>L8 f d=true) (λq n=>⟨_,Db,_,Db,_,Db,ns,(f.2.length:Int),by rw[aC],J,Cw,Cw,λr u v=>?_⟩) ?_
  ·obtain⟨t,M,B,_⟩:=tR (xs:=f.2.map aR) (i:=r) u (by rw[aC];exact v);obtain⟨z,hz,rfl⟩:=aS.mp M;exact⟨_,B,n _ (b7 hz)⟩
  intro d hd;refine aAu (λ_=>True) (λS=>∃d:D,L8 f d=true/\S=[.val (iU ns),.val (fJ fs an),.own b,.val (.str f.1),.val (.tuple (f.2.map aR)),.val d]) (λq n=>⟨_,Db,ns,5,Db,J,Cv,Cv,λr _ _=>n _ trivial⟩) (λ_ Bm hD=>hD _ ⟨.none,Db,Db⟩) (λ_=>⟨d,hd,Db⟩) ?_;rintro _ ⟨d,hd,rfl⟩;exact zL d Db Cw (λq n=>⟨_,Db,n⟩) (next d hd)
 ·obtain⟨b,s3,p,s,rfl,l,m⟩:=y;rw[aC]at l;refine⟨_,Db,_,Db,_,Db,_,Db,_,Db,_,Db,_,Db,ns,(an.length:Int),by rw[aC],J,by have:=F.a2;lia,by have:=F.a4;lia,λr u v=>?_⟩;obtain⟨t,M,B,_⟩:=tR (xs:=an.map aR) (i:=r) u (by rw[aC];exact v);obtain⟨a,C,rfl⟩:=aS.mp M;exact⟨_,B,Da,h (b,a) ⟨Qa l m,C⟩⟩
def aAe(m:Nat)
  (o:dI P w K mg base iG (1+m) gl gx ["_law_found","_law_due"] (cZ K (uO m))):dI P w K mg base iG (1+m+1) gl gx ["_law_found","_law_due"] (cZ K (uO (m+1))):=by
 refine uJ T.D_42.F Tf λn nd C Q h=>?_;obtain⟨d,rfl,hd,h⟩:=h;refine⟨_,(aW (jC (pM (yV (tv (tO (D3 _) (aH 1) (λh=>gS nN Db T.b_isinstance eY (cI h (cI (nI Db T.b_list wN Db) gM))))) (uK (tv (tO (wG _) (aH 1) (λh=>gS nN Db T.b_isinstance eY (cI h (cI (nI Db T.b_tuple oY Db) gM))))))))
 (aW (jC (pM (yV (dF (AS n) iP (tO (D3 _) (aH 0) (λh=>gS nN Db T.b_isinstance eY (cI h (cI (nI Db T.b_list wN Db) gM)))) (tO (D3 _) (aH 1) (λh=>gS nN Db T.b_isinstance eY (cI h (cI (nI Db T.b_list wN Db) gM))))) (uK (dF (AS n) iP (tO (wG _) (aH 0) (λh=>gS nN Db T.b_isinstance eY (cI h (cI (nI Db T.b_tuple oY Db) gM)))) (tO (wG _) (aH 1) (λh=>gS nN Db T.b_isinstance eY (cI h (cI (nI Db T.b_tuple oY Db) gM))))))))
 (cA (dM vD))
 fU)
 (cA (dM (EL (rE (kR n) iP (cB jM (aB (aH 0) aL) cG T.b_len fZ) (cB jM (aB (aH 1) aL) cG T.b_len fZ)) (EI (cB Ld (aB (el (fr:=[none,none]) (N':=["_law_one","_law_other"]) (aB4 (aB (aH 0) (aB (aH 1) aL)) (λh=>aBd Db T.b_zip h)) (λb=>⟨(qR (rD Db (fQ (pk 0) (fQ (pk 1) oN)))),gY,(cd (hk:=by lia) o T.D_42 n (aB (aH 0) (aB (aH 1) aL)))⟩)) aL) (AH Db) T.b_all YX))))))
 fU)
 (cA (dM (EL (rE (kR n) iP (tO (K9 _) (aH 0) (λh=>gS nN Db T.b_isinstance eY (cI h (cI (nI Db T.b_bool QK Db) gM)))) (tO (K9 _) (aH 1) (λh=>gS nN Db T.b_isinstance eY (cI h (cI (nI Db T.b_bool QK Db) gM))))) (EI (rE (kR n) iP (aH 0) (aH 1))))))),?_⟩
 show jA _ _ _ [.val d,.val d];have e:∀b:Bool,bK (.bool b) (.bool b)=true:=λb=>by cases b<;>rfl
 have t:∀i:Int,bK (.int i) (.int i)=true:=λi=>by show(i==i)=true;exact bb i
 by_cases j:∃i:Int,d=.int i
 ·obtain⟨i,rfl⟩:=j;refine xS (λq c=>⟨_,Db,?_⟩) ?_
  ·show(if false=true then q true else _);rw[a8 Cv];exact⟨_,Db,c _ Db⟩
  refine⟨_,Db,_,Db,⟨Db,Db,Da⟩,?_⟩;show(if bK (.bool (P4 "bool" (.int i))) (.bool (P4 "bool" (.int i)))=true then _ else _);rw[a9 (e _)];refine⟨_,Db,_,Db,⟨Db,Db,Da⟩,?_⟩;show Q (.bool (bK (.int i) (.int i)));rw[t];exact h
 replace hd:(∃z,tJ z=true/\d=.str z)\/d=.none\/∃ts:List D,(d=.tuple ts\/d=.list ts)/\ts.length<=50000/\∀x∈ts,nW m x:=by
  rcases hd with h1 | h1 | h1 | h1
  ·exact c7 h1 j
  ·exact .inl h1
  ·exact .inr (.inl h1)
  ·exact .inr (.inr h1)
 clear j;by_cases j:d=.none
 ·subst j;refine xS (λq c=>⟨_,Db,?_⟩) ?_
  ·show(if false=true then q true else _);rw[a8 Cv];exact⟨_,Db,c _ Db⟩
  refine⟨_,Db,_,Db,⟨Db,Db,Da⟩,?_⟩;show(if bK (.bool (P4 "bool" .none)) (.bool (P4 "bool" .none))=true then _ else _);rw[a9 (e _)];exact⟨_,Db,_,Db,⟨Db,Db,Da⟩,h⟩
 replace hd:(∃z,tJ z=true/\d=.str z)\/∃ts:List D,(d=.tuple ts\/d=.list ts)/\ts.length<=50000/\∀x∈ts,nW m x:=by
  rcases hd with h1 | h1 | h1
  ·exact .inl h1
  ·exact c7 h1 j
  ·exact .inr h1
 clear j;by_cases j:∃z,tJ z=true/\d=.str z
 ·obtain⟨z,r,rfl⟩:=j;refine xS (λq c=>⟨_,Db,?_⟩) ?_
  ·show(if false=true then q true else _);rw[a8 Cv];exact⟨_,Db,c _ Db⟩
  refine⟨_,Db,_,Db,⟨Db,Db,Da⟩,?_⟩;show(if bK (.bool (P4 "bool" (.str z))) (.bool (P4 "bool" (.str z)))=true then _ else _);rw[a9 (e _)];refine⟨_,Db,_,Db,wB (YR r) (YR r),?_⟩;show Q (.bool (z==z));rw[bb];exact h
 ·obtain⟨ts,l,E,s⟩:=hd.resolve_left j;refine DJ (λq c=>⟨_,Db,?_⟩) ?_
  ·rcases l with rfl | rfl
   ·show(if false=true then q true else _);rw[a8 Cv];exact⟨_,Db,c _ Db⟩
   ·show(if true=true then q true else BR (Ir "tuple" (A4 1)) [.val (.list ts),.val (.list ts)] q);rw[a9 rfl];exact c _ Db
  refine xS (λq c=>?_) ?_
  ·rcases l with rfl | rfl
   all_goals
    refine⟨_,Db,_,Db,⟨Db,Db,Da⟩,?_⟩;show(if(!bK (.bool _) (.bool _))=true then q true else _);rw[e,a8 Cv];refine⟨_,Db,_,Db,⟨Db,Db,Da⟩,?_⟩;show q (!bK (.bool _) (.bool _));rw[e];exact c _ Db
  have f:∀x∈qJ ts ts,∃a b,x=.tuple [a,b]:=λx s=>by
   obtain⟨k,hk⟩:=cT s;obtain⟨a,b,_,_,rfl⟩:=yO hk;exact⟨_,_,Db⟩
  have g:∀a b,.tuple [a,b]∈qJ ts ts->a∈ts/\b=a:=λa b p=>by
   obtain⟨k,hk⟩:=cT p;obtain⟨y,B,h1,v,e⟩:=yO hk;rw[h1]at v;cases v;simp only[iN.injEq,List.cons.injEq,and_true]at e;obtain⟨rfl,rfl⟩:=e;exact⟨bB h1,Db⟩
  have done:∃bs:List Bool,MC ((qJ ts ts).map λ_=>CF true)=.list (bs.map CF)/\Q (.bool (bs.all id)):=by
   refine⟨(qJ ts ts).map λ_=>true,by rw[bD];rfl,?_⟩;have:(((qJ ts ts).map λ_=>true).all id)=true:=by simp
   rw[this];exact h
  rcases l with rfl | rfl
  ·refine⟨_,Db,_,Db,⟨Db,Db,Da⟩,?_⟩;show(if bK (.int _) (.int _)=true then _ else _);rw[a9 (t _)];dsimp only[pO,xG,IW];refine IA (ts:=qJ ts ts) (λR h=>⟨_,Db,_,Db,ts,ts,.inl Db,h⟩) (λ_=>.bool true) (by rw[mQ];lia) f (λa b q p c=>?_) done;obtain⟨u,rfl⟩:=g a b p;exact⟨_,Db,_,Db,_,Db,s _ u,c⟩
  ·refine⟨_,Db,_,Db,⟨Db,Db,Da⟩,?_⟩;show(if bK (.int _) (.int _)=true then _ else _);rw[a9 (t _)];dsimp only[pO,xG,IW];refine IA (ts:=qJ ts ts) (λR h=>⟨_,Db,_,Db,ts,ts,.inr Db,h⟩) (λ_=>.bool true) (by rw[mQ];lia) f (λa b q p c=>?_) done;obtain⟨u,rfl⟩:=g a b p;exact⟨_,Db,_,Db,_,Db,s _ u,c⟩
def PH:dI P w K mg base iG 8 gl gx ["_law_found","_law_due"] (cZ K Wd):=by
 have h:∀a:Nat,dI P w K mg base iG (1+a) gl gx ["_law_found","_law_due"] (cZ K (uO a)):=λa=>by
  induction a with
  |zero=>exact II zV λc Q h=>W2 h
  |succ a b=>exact aAe T a b
 exact h 7
def aAd(dd:Nat)
  (N:dI P w K mg base iG (8+dd) gm gy ["_law_form_here","_law_rows","_law_deep","_law_few"] (cZ K (uN dd))):dI P w K mg base iG (8+dd+1) gm gy ["_law_form_here","_law_rows","_law_deep","_law_few"] (cZ K (uN (dd+1))):=by
 refine uJ T.D_46.F Tk λs nd ds Q h=>?_;obtain⟨fs,an,rs,d,m,rfl,F,o,hl,hd,hm,h⟩:=h;refine⟨_,(aW (ss 4 nd (cd (hk:=by lia) (Me T) T.D_44 s (aB (aH 0) (aB (aH 1) aL))))
 (aW (ss 5 nd (dD (aB cK (aB (bU bE cN (bU bE cN (aH 0) aQ) (wK (aH 4) (aB (cB Le (aB (aH 4) aL) (xE Db) T.b_max YW) aL) (λh ha=>nB cO nE nD (wD s) h ha))) aL))))
 (aW (jC (pM (yV (dF (kR s) iP (aH 2) aQ) (uK (dF (kR s) iP (aH 1) (mH aL)))))
 (cA (dM (aH 5)))
 fU)
 (aW (ss 6 nd kU)
 (aW (ss 7 nd (cd (hk:=by lia) (WO T) T.D_45 s (aB (aH 0) (aB (aH 1) aL))))
 (aW (ss 8 nd (cB jM (aB (aH 1) aL) cG T.b_len fZ))
 (aW (sf (fN (cd (hk:=by lia) (Sf T) T.D_43 s (aB (aH 0) aL))) (eA (pn 9 nd))
 (cA (sf (fN (mH (aB cK (aB cK aL)))) (eA (pn 10 nd))
 (aW (ss 11 nd (dD (aB cK (aB (aH 9) (aB (aH 10) aL)))))
 (aW (mR (i:=12) (fr:=[none,some 0,some 11]) (N':=["_law_row","_law_form_here","_law_knot"]) (fN (aH 1)) (λb=>⟨(eA (pk 0)),(EB (dF lB oU (cd (hk:=by lia) (Lc T) T.D_41 s (aB (aH 1) (aB (aH 2) (aB (bU bE cN (aH 0) aQ) aL)))) cK)),(aH 0)⟩) (λhi hY=>jU (show nT _ (aX (top 57)) ["_law_form_here","_law_rows","_law_deep","_law_few","_law_counts_here","_law_leaf","_law_chosen","_law_least_top","_law_least_bottom","_law_question","_law_stray","_law_knot","_law_yes","_law_no","_law_top","_law_bottom"] ["_law_row","_law_form_here","_law_knot"] [none,some 0,some 11]=true from by decide +kernel) nd Db (by first | exact j7 Db | exact j1 Db) Db hi hY Db))
 (aW (mR (i:=13) (fr:=[none,some 0,some 11]) (N':=["_law_row","_law_form_here","_law_knot"]) (fN (aH 1)) (λb=>⟨(eA (pk 0)),(EB (dF lB oU (cd (hk:=by lia) (Lc T) T.D_41 s (aB (aH 1) (aB (aH 2) (aB (bU bE cN (aH 0) aQ) aL)))) cK)),(aH 0)⟩) (λhi hY=>jU (show nT _ (aX (top 57)) ["_law_form_here","_law_rows","_law_deep","_law_few","_law_counts_here","_law_leaf","_law_chosen","_law_least_top","_law_least_bottom","_law_question","_law_stray","_law_knot","_law_yes","_law_no","_law_top","_law_bottom"] ["_law_row","_law_form_here","_law_knot"] [none,some 0,some 11]=true from by decide +kernel) nd Db (by first | exact j7 Db | exact j1 Db) Db hi hY Db))
 (cA (jC (pM (qZ (dF KO uW (cB jM (aB (aH 12) aL) cG T.b_len fZ) (aH 3)) (qL (dF KO uW (cB jM (aB (aH 13) aL) cG T.b_len fZ) (aH 3)))))
 (aW (ss 14 nd (cV cJ gU (cV fM nK (cd (hk:=by lia) (WO T) T.D_45 s (aB (aH 0) (aB (aH 12) aL))) (cB jM (aB (aH 13) aL) cG T.b_len fZ)) (cV fM nK (cd (hk:=by lia) (WO T) T.D_45 s (aB (aH 0) (aB (aH 13) aL))) (cB jM (aB (aH 12) aL) cG T.b_len fZ))))
 (aW (ss 15 nd (cV fM nK (cB jM (aB (aH 12) aL) cG T.b_len fZ) (cB jM (aB (aH 13) aL) cG T.b_len fZ)))
 (cA (jC (dF PD uW (cV fM nK (aH 14) (aH 8)) (cV fM nK (aH 7) (aH 15)))
 (aW (ss 6 nd (dD (aB (aH 11) (aB (aH 12) (aB (aH 13) aL)))))
 (aW (ss 7 nd (aH 14))
 (cA (ss 8 nd (aH 15)))))
 fU))))
 fU))))))))
 (aW (jC (dF NB WR (aH 6) kU)
 (cA (dM (aH 5)))
 fU)
 (aW (ss 12 nd (cd (hk:=by lia) N T.D_46 s (aB (aH 0) (aB (bU bE cN (aH 6) aQ) (aB (cV tG HU (aH 2) aQ) (aB (aH 3) aL))))))
 (cA (dM (cV cJ gU (bU bE cN (aH 6) aQ) (dD (aB (aH 12) (aB (cd (hk:=by lia) N T.D_46 s (aB (aH 0) (aB (bU bE cN (aH 6) aQ) (aB (cV tG HU (aH 2) aQ) (aB (aH 3) aL))))) aL))))))))))))))),?_⟩
 show jA _ _ _ [.val (fJ fs an),.val (.list (rs.map dE)),.val (.int d),.val (.int m),.un,.un,.un,.un,.un,.un,.un,.un,.un,.un,.un,.un];have a2:=F.a2;have a4:=F.a4;refine cM (.list ((jD an rs).map bM)) (λq k=>⟨_,Db,_,Db,fs,an,rs,Db,F,o,hl,k⟩) ?_;refine dZ (λv=>∃a,E6 an rs a/\v=jJ (.say a)) (λq k=>?_) ?_
 ·have eg:jD an rs≠[]:=λz=>by
   have:=h9 kH z;unfold jD at this;rw[aC]at this;simp at this;rw[this]at a2;simp at a2
  refine⟨_,Db,_,Db,_,Db,_,Db,_,Db,_,Db,eg,λm hm W=>?_⟩;obtain⟨j,hj,ye⟩:=EG (jD an rs) m hm;have cS:=(aI.mp hj).1;have Bt:(jD an rs).length=an.length:=by unfold jD;rw[aC]
  have wo:an[j]?=some an[j]:=aG Cw;have yc:(jD an rs)[j]?=some ((yF rs an[j]:Nat):Int):=by unfold jD;rw[aO,wo];rfl
  rw[hj]at yc;have em:m=((yF rs an[j]:Nat):Int):=c8 yc;refine⟨_,j,Db,GE hj ye,Cw,_,L2.gK (by rw[aO,wo];rfl),Da,k _ ⟨_,⟨j,wo,λi b hb=>?_,λi b hi hb=>?_⟩,Db⟩⟩
  ·have:=W ((yF rs b:Nat):Int) (bB (i:=i) (by unfold jD;rw[aO,hb];rfl));lia
  ·have ux:(jD an rs)[i]?=some ((yF rs b:Nat):Int):=by unfold jD;rw[aO,hb];rfl
   have h1:=W _ (bB ux);have h2:((yF rs b:Nat):Int)≠m:=λz=>ye i hi (by rw[ux,z]);lia
 rintro _ ⟨a,ha,rfl⟩;have Am:=Pa F o hl
 have X:mU fs rs m=none\/d=0->Q (jJ (.say a)):=λz=>h _ (by
  cases d with
  |zero=>exact⟨a,ha,Db⟩
  |succ e=>
   unfold Gr;rw[z.resolve_right Cw];exact⟨a,ha,Db⟩)
 refine jZ (λb=>b=(decide (d=0)||decide (rs=[]))) (λq k=>?_) (λhT=>?_) λhF=>?_
 ·refine⟨_,Db,⟨Db,Db,Da⟩,?_⟩;show(if((d:Int)==0)=true then q true else _);by_cases z:d=0
  ·rw[a9 (by simp[z])];exact k _ (by rw[b7 z];rfl)
  ·rw[a8 (by simp[z])];refine⟨_,Db,Da,⟨Am.lay,Db,bL (E9 _ _) Da⟩,?_⟩;refine k _ ?_;rw[b9 z,JR]
   cases rs with
   |nil=>rfl
   |cons r rs=>rfl
 ·refine⟨_,Db,X ?_⟩;have:=hT.symm;rw[vS,d0,d0]at this;rcases this with z | z
  ·exact .inr z
  ·subst z;exact .inl (LY fs m)
 have hz:=hF.symm;rw[xN,l9,l9]at hz;obtain⟨tz,Ac⟩:=hz;have hR:0<rs.length:=mY.mpr Ac
 try unfold lM
 dsimp only;refine cM .none (λq k=>k) ?_;refine cM (.int ((B1 rs rs:Nat):Int)) (λq k=>⟨_,Db,_,Db,fs,an,rs,Db,F,o,hl,k⟩) ?_;refine cM (.int (rs.length:Nat)) (λq k=>⟨_,Db,?_⟩) ?_
 ·show q (.int (((rs.map dE).length:Nat):Int));rw[aC];exact k
 have J:∀(p:Rw->Bool),(rs.filter p).length<=60:=λp=>bL (bY _ _) hl
 refine qO (ts:=(qs fs).map qD) (λR h=>⟨_,Db,fs,an,Db,F,_,Db,h⟩)
  (λi σ=>∃(s9 u B C E G H:Sl),σ=ED fs an rs d m a ((((qs fs).take i).flatMap uE).foldl (JH fs rs m) none) s9 u B C E G H) ⟨_,_,_,_,_,_,_,Db⟩ (λi x u7 M hP=>?_) λu7 hP=>?_
 ·obtain⟨s9,u,B,C,E,G,H,rfl⟩:=hP;rw[aO]at M;obtain⟨f,yf,rfl⟩:=dS.mp M;have Ab:=bB yf;have wy:=HQ Ab
  have eT:((qs fs).take (i+1)).flatMap uE=((qs fs).take i).flatMap uE++uE f:=by
   rw[dG,yf,TF];simp
  generalize ((qs fs).take i).flatMap uE=pre at *
  rw[eT];refine(show VM _ _ _ _ _ from ?_)
  refine Iw (ts:=[.str "yes",.str "no"]) (λR h=>⟨Da,_,Db,h⟩)
   (λj σ=>∃(u B C E G H:Sl),σ=ED fs an rs d m a ((pre++(uE f).take j).foldl (JH fs rs m) none) (.val (qD f)) u B C E G H) ?_ (λj x u7 M hP=>?_) λu7 hP=>?_
  ·rw[aFg,dW];exact⟨_,_,_,_,_,_,Db⟩
  ·obtain⟨u,B,C,E,G,H,rfl⟩:=hP
   obtain⟨st,rfl,xa,hc⟩:∃st:Str,x=.str st/\(st="yes"\/st="no")/\(uE f)[j]?=some (f,st):=by
    have hj:j<2:=(aI.mp M).1;rcases(show j=0\/j=1 by lia)with rfl | rfl
    ·cases M;exact⟨_,Db,.inl Db,Db⟩
    ·cases M;exact⟨_,Db,.inr Db,Db⟩
   have e1:pre++(uE f).take (j+1)=(pre++(uE f).take j)++[(f,st)]:=by
    rw[dG,hc,<- BV];rfl
   have e2:(pre++(uE f).take (j+1)).foldl (JH fs rs m) none=JH fs rs m ((pre++(uE f).take j).foldl (JH fs rs m) none) (f,st):=by
    rw[e1,BU];rfl
   rw[e2]
   generalize (pre++(uE f).take j).foldl (JH fs rs m) none=S
   unfold ED;have g:∀l:List Rw,((((l.map dE).length:Nat)):Int)=(l.length:Int):=λl=>by rw[aC]
   refine(show jA _ _ _ _ from ?_);refine cM (.tuple [.str "ask",qD f,.str st]) (λq k=>⟨_,Db,_,Db,Da,k⟩) ?_;refine cM (.list ((yR fs (f,st) rs).map dE)) (λq k=>?_) ?_
   ·refine zN (ts:=rs.map dE) (λR h=>⟨_,Db,_,Db,h⟩) (Gh fs f st "yes") id (by rw[aC];lia) (λx q M k=>?_) (λx q M k=>⟨_,Db,k⟩) ?_
    ·obtain⟨r,s,rfl⟩:=aS.mp M;exact⟨_,Db,_,Db,_,Db,_,Db,fs,an,f.1,f.2.1,f.2.2,st,r.1,Db,F,wy,xa,(o r s).1,k⟩
    ·rw[P8];exact k
   refine cM (.list ((nR fs (f,st) rs).map dE)) (λq k=>?_) ?_
   ·refine zN (ts:=rs.map dE) (λR h=>⟨_,Db,_,Db,h⟩) (Gh fs f st "no") id (by rw[aC];lia) (λx q M k=>?_) (λx q M k=>⟨_,Db,k⟩) ?_
    ·obtain⟨r,s,rfl⟩:=aS.mp M;exact⟨_,Db,_,Db,_,Db,_,Db,fs,an,f.1,f.2.1,f.2.2,st,r.1,Db,F,wy,xa,(o r s).1,k⟩
    ·rw[P8,CP F wy xa o];exact k
   have ly:(yR fs (f,st) rs).length<=60:=J (Dv fs (f,st));have ln:(nR fs (f,st) rs).length<=60:=J (λr=>!Dv fs (f,st) r);refine AU (λb=>b=okC fs rs m (f,st)) (λq k=>⟨_,Db,_,Db,?_⟩) (λhT=>?_) λhF=>?_
   ·show(if decide ((((((yR fs (f,st) rs).map dE).length:Nat)):Int)>=m)=true then _ else q false);rw[g];unfold okC at k;by_cases z:m<=((yR fs (f,st) rs).length:Int)
    ·rw[a9 (b7 z)];refine⟨_,Db,_,Db,?_⟩;refine k _ ?_;rw[b7 z,pL,g]
    ·rw[a8 (by rw[b9 z];decide)];exact k _ (by rw[b9 z];rfl)
   ·have hok:=hT.symm;have xz:=VO (fs:=fs) hl (f,st);have Bu:=Ym (fs:=fs) hl S;refine cM (.int ((L7 fs rs (f,st):Nat):Int)) (λq k=>⟨_,Db,_,Db,fs,an,yR fs (f,st) rs,Db,F,o.filt _,J _,_,Db,.inr ⟨by rw[g];lia,by rw[g];lia⟩,_,Db,_,Db,fs,an,nR fs (f,st) rs,Db,F,o.filt _,J _,_,Db,.inr ⟨by rw[g];lia,by rw[g];lia⟩,?_⟩) ?_
    ·have e:((L7 fs rs (f,st):Nat):Int)=((B1 (yR fs (f,st) rs) (yR fs (f,st) rs):Nat):Int)*(((nR fs (f,st) rs).map dE).length:Int)+((B1 (nR fs (f,st) rs) (nR fs (f,st) rs):Nat):Int)*(((yR fs (f,st) rs).map dE).length:Int):=by
      unfold L7;rw[g,g,mD,fP,fP]
     rw[e]at k;exact k
    refine cM (.int ((JI fs rs (f,st):Nat):Int)) (λq k=>⟨_,Db,_,Db,.inr ⟨by rw[g];lia,by rw[g];lia⟩,?_⟩) ?_
    ·have e:((JI fs rs (f,st):Nat):Int)=(((yR fs (f,st) rs).map dE).length:Int)*(((nR fs (f,st) rs).map dE).length:Int):=by
      unfold JI;rw[g,g,fP]
     rw[e]at k;exact k
    have es:JH fs rs m S (f,st)=if L7 fs rs (f,st)*Em fs rs S<Ey fs rs S*JI fs rs (f,st)then some (f,st)else S:=a9 hok;rw[es];refine AU (λb=>b=decide (L7 fs rs (f,st)*Em fs rs S<Ey fs rs S*JI fs rs (f,st))) (λq k=>⟨_,Db,_,Db,.inr ⟨Cw,Cw⟩,_,Db,_,Db,.inr ⟨Cw,Cw⟩,?_⟩) (λhT=>?_) λhF=>?_
    ·refine k _ ?_;rw[v8,<- fP,<- fP,aPb]
    ·rw[a9 (b8 hT.symm)];refine cM (Jz fs rs (some (f,st))) (λq k=>⟨_,Db,_,Db,_,Db,Da,k⟩) ?_;refine cM (.int ((L7 fs rs (f,st):Nat):Int)) (λq k=>⟨_,Db,k⟩) ?_;exact CN (.int ((JI fs rs (f,st):Nat):Int)) (λq k=>⟨_,Db,k⟩) ⟨_,_,_,_,_,_,Db⟩
    ·rw[a8 (j9 hF.symm)];exact⟨_,_,_,_,_,_,Db⟩
   ·have es:JH fs rs m S (f,st)=S:=a8 (by rw[<- hF];decide);rw[es];exact⟨_,_,_,_,_,_,Db⟩
  ·obtain⟨u,B,C,E,G,H,rfl⟩:=hP;exact⟨_,_,_,_,_,_,_,Db⟩
 ·obtain⟨s9,u,B,C,E,G,H,rfl⟩:=hP
  have eq:((qs fs).take ((qs fs).map qD).length).flatMap uE=IP fs:=by
   rw[aC,eU];rfl
  rw[eq,Zv hm hR];unfold ED
  cases eb:mU fs rs m with
  |none=>
   refine DJ (λq k=>⟨_,Db,k _ Db⟩) ?_;exact⟨_,Db,X (.inl eb)⟩
  |some c=>
   refine xS (λq k=>⟨_,Db,k _ Db⟩) ?_
   cases d with
   |zero=>exact c7 Db tz
   |succ e=>
    have es:((e+1:Nat):Int)-1=((e:Nat):Int):=by lia
    refine dZ (λv=>∃y,Gr fs an m e (yR fs c rs) y/\v=jJ y) (λq fg=>⟨_,Db,_,Db,_,Db,_,Db,_,Db,fs,an,_,e,m,by rw[<- es]<;>rfl,F,o.filt _,J _,Cw,hm,λt ht=>fg _ ⟨t,ht,Db⟩⟩) ?_;rintro _ ⟨y,h0,rfl⟩;refine⟨_,Db,_,Db,_,Db,_,Db,_,Db,_,Db,_,Db,_,Db,fs,an,_,e,m,by rw[<- es]<;>rfl,F,o.filt _,J _,Cw,hm,λn h1=>⟨Da,Da,h (.ask c.1.1 c.1.2.1 c.1.2.2 c.2 y n) ?_⟩⟩;unfold Gr;rw[eb];exact⟨y,n,h0,h1,Db⟩
def Sg:dI P w K mg base iG 15 gm gy ["_law_form_here","_law_rows","_law_deep","_law_few"] (cZ K Wh):=by
 have h:∀a:Nat,dI P w K mg base iG (8+a) gm gy ["_law_form_here","_law_rows","_law_deep","_law_few"] (cZ K (uN a)):=λa=>by
  induction a with
  |zero=>exact II zV λc Q h=>W1 h
  |succ a b=>exact aAd T a b
 exact h 7
def aAc(M:Nat)
  (f:dI P w K mg base iG (2+M) gn gz ["_law_one","_law_other"] (cZ K (uM M))):dI P w K mg base iG (2+M+1) gn gz ["_law_one","_law_other"] (cZ K (uM (M+1))):=by
 refine uJ T.D_48.F Tn λl nd ds Q h=>?_;obtain⟨fs,an,t,u,rfl,F,o,r,hd,Al,Cf,h⟩:=h;refine⟨_,(aW (jC (pM (qZ (dF (kR l) iP (bU bE cN (aH 0) aQ) cK) (qZ (dF (kR l) iP (bU bE cN (aH 1) aQ) cK) (qZ (dF (kR l) iP (bU bE cN (aH 0) aQ) (bU bE cN (aH 1) aQ)) (qL (dF (kR l) iP (bU bE cN (aH 0) aQ) (bU bE cN (aH 1) aQ)))))))
 (aW (mR (i:=2) (fr:=[none]) (N':=["_law_place"]) (fN (cd (hk:=by lia) f T.D_48 l (aB (bU bE cN (aH 0) aQ) (aB (bU bE cN (aH 1) aQ) aL)))) (λb=>⟨(eA (pk 0)),gY,(cV cJ gU (dD (aB cK aL)) (aH 0))⟩) (λhi hY=>jU (show nT _ (aX (top 59)) ["_law_one","_law_other","_law_found"] ["_law_place"] [none]=true from by decide +kernel) nd Db (by first | exact j7 Db | exact j1 Db) Db hi hY Db))
 (cA (dM (cV cJ gU (aH 2) (el (fr:=[none]) (N':=["_law_place"]) (fN (cd (hk:=by lia) f T.D_48 l (aB (bU bE cN (aH 0) aQ) (aB (bU bE cN (aH 1) aQ) aL)))) (λb=>⟨(eA (pk 0)),gY,(cV cJ gU (dD (aB cK aL)) (aH 0))⟩))))))
 fU)
 (cA (dM (gI kO rV (mH (aB (dD aL) aL)) jX (gT (cY Pz (aB (rE (AS l) iP (aH 0) (aH 1)) aL) SO T.b_int Wm)))))),?_⟩
 show jA _ _ _ [.val (jJ t),.val (jJ u),.un];have H:∀i j:Str,bK (.str i) (.str j)=decide (i=j):=λi j=>by rw[eL];simp[bK]
 have d:∀{z z':Str},tJ z=true->tJ z'=true->RO (.str z) (.str z'):=λh h'=>⟨(iT h (n:=8) (m:=0) (aM _)).lay,(iT h' (n:=8) (m:=0) (aM _)).lay,Da⟩;refine jZ (λb=>b=LD t u) (λq c=>?_) (λS=>?_) λhF=>?_
 ·cases t with
  |say a=>
   refine⟨_,Db,_,Db,d HX tI,?_⟩;show(if bK (.str "say") (.str "ask")=true then _ else q false);rw[H,a8 Cu];exact c _ Db
  |ask k n v s y m=>
   refine⟨_,Db,_,Db,d tI tI,?_⟩;show(if bK (.str "ask") (.str "ask")=true then _ else q false);rw[H,a9 Cu]
   cases u with
   |say b=>
    refine⟨_,Db,_,Db,d HX tI,?_⟩;show(if bK (.str "say") (.str "ask")=true then _ else q false);rw[H,a8 Cu];exact c _ Db
   |ask C E G J g B=>
    obtain⟨X,Ae,_,_⟩:=o;obtain⟨fg,Af,_,_⟩:=r;have t1:=ZU F X;have t2:=ZU F fg;refine⟨_,Db,_,Db,d tI tI,?_⟩;show(if bK (.str "ask") (.str "ask")=true then _ else q false);rw[H,a9 Cu];refine⟨_,Db,_,Db,_,Db,_,Db,⟨t1.lay,t2.lay,bL (Nat.min_le_left _ _) (bL t1.depth Cv)⟩,?_⟩;show(if bK (.tuple [.str k,.str n,.str v]) (.tuple [.str C,.str E,.str G])=true then _ else q false);rw[YG];by_cases z:k=C/\n=E/\v=G
    ·rw[b7 z,a9 rfl];refine⟨_,Db,_,Db,_,Db,_,Db,d (KU Ae) (KU Af),c _ ?_⟩;show bK (.str s) (.str J)=decide (k=C/\n=E/\v=G/\s=J);rw[H,v8];exact⟨λy=>⟨z.1,z.2.1,z.2.2,y⟩,λy=>y.2.2.2⟩
    ·rw[b9 z,a8 Cv];refine c _ ?_;show false=decide (k=C/\n=E/\v=G/\s=J);rw[b9 λy=>z ⟨y.1,y.2.1,y.2.2.1⟩]
 ·cases t with
  |say a=>cases S
  |ask k n v s y m=>
   cases u with
   |say b=>cases S
   |ask C E G J g B=>
    obtain⟨rfl,rfl,rfl,rfl⟩:=b8 (show decide (k=C/\n=E/\v=G/\s=J)=true from S.symm);obtain⟨_,_,hy,hm⟩:=o;obtain⟨_,_,kd,W⟩:=r;have e1:(Tr.ask k n v s y m).dep=max y.dep m.dep+1:=rfl;have yx:(Tr.ask k n v s g B).dep=max g.dep B.dep+1:=rfl;unfold xY at h;rw[QI,cX]at h;have l1:=qU y g;have l2:=qU m B;have n1:=rW (t:=y) Cw;have n2:=rW (t:=m) Cw;have one:∀(w:Str)(p:List Str)(q:D->Prop),p.length<=12->q (oB (w::p))->He (.tuple [.str w]) (oB p) q:=λw p q N c=>⟨by rw[aC];show 1+_<=_;lia,c⟩;refine cM (.list (((B3 y g).map Du).map oB)) (λq c=>?_) ?_
    ·refine iI (ts:=(B3 y g).map oB) (λR h=>⟨_,Db,_,Db,_,Db,_,Db,fs,an,y,g,Db,F,hy,kd,Cw,Cw,Cw,_,Db,h⟩) (λx=>match x with | .tuple ts=>.tuple (.str "yes"::ts) | _=>x) (by rw[aC];lia) (λx q hx c=>?_) ?_
     ·obtain⟨p,N,rfl⟩:=aS.mp hx;have:=qV y g p N;exact⟨Da,_,Db,one "yes" p q Cw c⟩
     ·rw[bD];rw[bD]at c;exact c
    refine⟨_,Db,?_⟩;refine iI (ts:=(B3 m B).map oB) (λR h=>⟨_,Db,_,Db,_,Db,_,Db,fs,an,m,B,Db,F,hm,W,Cw,Cw,Cw,_,Db,h⟩) (λx=>match x with | .tuple ts=>.tuple (.str "no"::ts) | _=>x) (by rw[aC];lia) (λx q hx c=>?_) ?_
    ·obtain⟨p,N,rfl⟩:=aS.mp hx;have:=qV m B p N;exact⟨Da,_,Db,one "no" p q Cw c⟩
    ·refine⟨by simp only[aC];lia,?_⟩;rw[bD,bD];rw[bD,bD]at h;exact h
 ·unfold lM;dsimp only;obtain⟨c1,c2⟩:=YQ hF.symm;refine⟨Da,Da,_,Db,_,Db,wB (LQ F o Cw) (LQ F r Cw),?_⟩;unfold xY at h
  have key:Im (.list [.tuple []]) none (some (if(!bK (jJ t) (jJ u))=true then 1 else 0)) Q:=by
   by_cases e:t=u
   ·rw[c1 e]at h;rw[(yD t u).mpr e];exact h
   ·rw[c2 e]at h;rw[show bK (jJ t) (jJ u)=false from BW.mpr λz=>e ((yD t u).mp z)];exact h
  exact key
def Sh:dI P w K mg base iG 9 gn gz ["_law_one","_law_other"] (cZ K Wj):=by
 have h:∀a:Nat,dI P w K mg base iG (2+a) gn gz ["_law_one","_law_other"] (cZ K (uM a)):=λa=>by
  induction a with
  |zero=>exact II zV λc Q h=>W0 h
  |succ a b=>exact aAc T a b
 exact h 7
def Sj:dI P w K mg base iG 2 nu qp ["_law_tape_here","_law_form_here","_law_row"] (cZ K Vh):=by
 refine uJ T.D_50.F To λs nd J Q h=>?_;obtain⟨ns,fs,an,r,rfl,m,F,e,h⟩:=h;refine⟨_,(aW (OS (aH 2) (qR (rD Db (fQ (pn 3 nd) (fQ (pn 4 nd) oN)))) (λE G=>lG E G))
 (aW (ss 5 nd (cd (jP T) T.D_38 s (aB (aH 0) (aB (cB jM (aB (aH 3) aL) cG T.b_len fZ) aL))))
 (aW (ss 6 nd (bU bE cN (mH (aB cK (aB aQ (aB vD (aB cK (aB (dD aL) (aB (mH aL) (aB cK aL)))))))) (cd (jP T) T.D_38 s (aB (aH 0) (aB aQ aL)))))
 (aW (ss 7 nd (mH (aB (dD (aB (aH 3) (aB kU aL))) (aB (dD (aB (aH 3) (aB (aH 6) aL))) (aB (dD (aB (cV cJ gU (cV cJ gU (gI kO rV (aH 3) jX (gT (aH 5))) (dD (aB (aH 6) aL))) (gI kO rV (aH 3) (gT (cV cJ gU (aH 5) aQ)) jX)) (aB (aH 4) aL))) (aB (dD (aB (gI kO rV (aH 3) (gT aQ) jX) (aB (aH 4) aL))) aL))))))
 (aW (ss 7 nd (cV cJ gU (aH 7) (mH (aB (dD (aB (cV cJ gU (aH 3) (dD (aB kU aL))) (aB (aH 4) aL))) (aB (mH (aB (aH 3) (aB (aH 4) aL))) (aB (dD (aB (cY Wn (aB (aH 3) aL) IQ T.b_list wN) (aB (aH 4) aL))) (aB (dD (aB (aH 3) aL)) (aB kU (aB cK (aB (dD (aB (aH 4) (aB (aH 3) aL))) aL))))))))))
 (cA (dM (bU bE cN (aH 7) (cd (jP T) T.D_38 s (aB (aH 0) (aB aQ aL))))))))))),?_⟩
 obtain⟨cs,a⟩:=r;obtain⟨u,B⟩:=e;obtain⟨C,_⟩:=mI (cs:=cs) u;have n1:=F.n1;have n5:=F.n5;show jA _ _ _ [.val (iU ns),.val (fJ fs an),.val (.tuple [.tuple cs,.str a]),.un,.un,.un,.un,.un];refine⟨_,Db,_,_,Db,?_⟩;dsimp only[uB];refine dZ (λd=>∃k:Nat,k<cs.length/\d=.int (k:Nat)) (λq b=>⟨_,Db,_,Db,ns,(cs.length:Int),Db,m,Cw,Cw,λi g j=>b _ ⟨i.toNat,Cw,by congr 1;lia⟩⟩) ?_;rintro _ ⟨k,H,rfl⟩;refine dZ Od (λq b=>⟨Da,Da,Da,_,Db,ns,7,Db,m,Cv,Cv,λi g j=>?_⟩) ?_
 ·obtain⟨x,n,t,_⟩:=tR (xs:=Hd) g j;exact⟨x,t,b x (Xj x n)⟩
 intro f o;dsimp only[uB];have ct:kW cs none (some (k:Int))=cs.take k:=pI cs k;have l:kW cs (some 1) none=cs.drop 1:=EW cs 1;have c:kW cs (some ((k:Int)+1)) none=cs.drop (k+1):=EW cs (k+1);refine cM (.list ((Y0 cs a f k).take 4)) (λq b=>?_) ?_
 ·have p:q (.list [.tuple [.tuple cs,.none],.tuple [.tuple cs,f],.tuple [.tuple (kW cs none (some (k:Int))++[f]++kW cs (some ((k:Int)+1)) none),.str a],.tuple [.tuple (kW cs (some 1) none),.str a]]):=by rw[ct,c,l];exact b
  exact⟨_,Db,Da,_,Db,_,Db,Da,_,Db,_,Db,_,Db,Da,by rw[ct,bN];show _+1<=_;lia,_,Db,_,Db,by rw[ct,c,bP,bN,dP];show _+1+_<=_;lia,_,Db,Da,_,Db,_,Db,Da,Da,p⟩
 refine cM (.list (Y0 cs a f k)) (λq b=>⟨_,Db,_,Db,Da,by show cs.length+1<=_;lia,_,Db,Da,_,Db,_,Db,Da,_,Db,?_⟩) ?_
 ·exact⟨_,Db,Da,_,Db,Da,_,Db,_,Db,Da,Da,Da,b⟩
 refine⟨_,Db,_,Db,ns,11,Db,m,Cv,Cv,λi g j=>?_⟩;obtain⟨x,n,t,_⟩:=tR (xs:=Y0 cs a f k) g j;obtain⟨v,y,z⟩:=aC3 F u B o H x n;exact⟨x,t,h x v y z⟩
def Sk:dI P w K mg base iG 4 nv qq ["_law_tape_here","_law_form_here","_law_state"] (cZ K Vi):=by
 refine uJ T.D_51.F Va λl nd ds Q h=>?_;obtain⟨ns,fs,an,g,f,dp,fw,t,rfl,u,w,h⟩:=h;refine⟨_,(aW (ss 3 nd (iX l.u1 (aH 2) fD))
 (aW (mR (i:=4) (fr:=[none,some 2]) (N':=["_law_number","_law_state"]) (qE (aB (aH 3) aL) (λh=>oC Db T.b_range h)) (λb=>⟨(eA (pk 0)),(EB (ZT l.u1 (aH 0) (iX l.u1 (aH 1) fD))),(aH 0)⟩) (λhi hY=>jU (show nT _ (aX (top 62)) ["_law_tape_here","_law_form_here","_law_state","_law_given","_law_gone","_law_number","_law_bad_here","_law_there","_law_way"] ["_law_number","_law_state"] [none,some 2]=true from by decide +kernel) nd Db (by first | exact j7 Db | exact j1 Db) Db hi hY Db))
 (aW (ss 4 nd (cV cJ gU (aH 4) (mH (aB (aH 3) (aB (cV cJ gU (aH 3) aQ) (aB (YD aQ) (aB (cV Xs HV aQ aQ) aL)))))))
 (aW (ss 5 nd (bU bE cN (aH 4) (cd (jP T) T.D_38 l (aB (aH 0) (aB (cB jM (aB (aH 4) aL) cG T.b_len fZ) aL)))))
 (aW (ss 6 nd (cd (Sj T) T.D_50 l (aB (aH 0) (aB (aH 1) (aB (cd (WN T) T.D_47 l (aB (aH 0) (aB (aH 1) aL))) aL)))))
 (aW (ss 7 nd (AA (iX l.u1 (aH 2) fD) (pc:=λh=>gS (tQ Db) Db T.b_sorted sC h)))
 (aW (ss 8 nd (cd (jP T) T.D_38 l (aB (aH 0) (aB aQ aL))))
 (aW (jC (pM (yV (dF (kR l) iP (aH 8) aQ) (uK (pM (qZ (dF (kR l) iP (aH 8) aQ) (qL (dF (kR l) iP (aH 7) (mH aL))))))))
 (cA (dM (dD (aB (dD (aB cK (aB kU (aB (aH 6) aL)))) (aB cK aL)))))
 fU)
 (aW (jC (dF (kR l) iP (aH 8) aQ)
 (cA (dM (dD (aB (dD (aB cK (aB (bU bE cN (aH 7) (cd (jP T) T.D_38 l (aB (aH 0) (aB (cB jM (aB (aH 7) aL) cG T.b_len fZ) aL)))) (aB (aH 6) aL)))) (aB cK aL)))))
 fU)
 (aW (jC (dF (kR l) iP (aH 8) aQ)
 (cA (dM (dD (aB (dD (aB cK (aB (aH 5) (aB kU aL)))) (aB cK aL)))))
 fU)
 (cA (dM (dD (aB (dD (aB cK (aB (aH 5) (aB (bU bE cN (mH (aB (aH 6) (aB (cd (WN T) T.D_47 l (aB (aH 0) (aB (aH 1) aL))) aL))) (cd (jP T) T.D_38 l (aB (aH 0) (aB aQ aL)))) aL)))) (aB cK aL))))))))))))))),?_⟩
 obtain⟨Cj,Ax,Ay⟩:=w.len;obtain⟨oE,eE⟩:=w.eq;have f50:=w.f50;have F:=w.F;have X:∀i j:Int,bK (.int i) (.int j)=decide (i=j):=λi j=>by rw[eL];simp[bK]
 have G:List Sl->Prop:=λ_=>True;show jA _ _ _ [.val (iU ns),.val (fJ fs an),.val (TR (kY g) (f:Nat) dp fw t),.un,.un,.un,.un,.un,.un];refine cM (.int (f:Nat)) (λq c=>⟨_,Db,_,_,_,_,_,_,Db,Db,c⟩) ?_;refine cM (.list (((eI f).filter (zS g)).map id)) (λq c=>?_) ?_
 ·refine zN (ts:=eI f) (λR h=>⟨_,Db,(f:Nat),Db,Cw,Cw,by rw[oM];exact h⟩) (zS g) id (by rw[kB];lia) (λx q hx c=>?_) (λx q hx c=>⟨_,Db,c⟩) c;obtain⟨j,H⟩:=cT hx;obtain⟨_,rfl⟩:=tM H;exact⟨_,Db,_,Db,_,_,_,_,_,_,Db,Db,kY g,(j:Nat),Db,Db,c⟩
 refine cM (.list (((eI f).filter (zS g)).map id++[.int (f:Nat),.int ((f:Int)+1),.int (-1),.int (10^19)])) (λq c=>?_) ?_
 ·exact⟨_,Db,_,Db,_,Db,⟨Cv,Cv,Cv⟩,Da,by rw[aC];have:=bY (zS g) (eI f);rw[kB]at this;show _+4<=_;lia,c⟩
 have E:∀x∈((eI f).filter (zS g)).map id++[.int (f:Nat),.int ((f:Int)+1),.int (-1),.int (10^19)],∃j:Int,Dw g j/\x=.int j:=λx hx=>by
  have big:∀j:Int,(∀n:Nat,n<f->(n:Int)≠j)->Dw g j:=λj H e he=>H e.1 (w.lt e he);rcases cC.mp hx with hx | hx
  ·rw[xL]at hx;obtain⟨m,v⟩:=cH.mp hx;obtain⟨j,H⟩:=cT m;obtain⟨_,rfl⟩:=tM H;exact⟨_,Zz v,Db⟩
  ·simp only[aK,bR,e9]at hx;rcases hx with rfl | rfl | rfl | rfl
   ·exact⟨_,big _ λn J=>by lia,Db⟩
   ·exact⟨_,big _ λn J=>by lia,Db⟩
   ·exact⟨_,big _ λn J=>by lia,Db⟩
   ·exact⟨_,big _ λn J=>by lia,Db⟩
 have zx:0<(((eI f).filter (zS g)).map id++[.int (f:Nat),.int ((f:Int)+1),.int (-1),.int (10^19)]:List D).length/\(((eI f).filter (zS g)).map id++[.int (f:Nat),.int ((f:Int)+1),.int (-1),.int (10^19)]:List D).length<=100:=by
  have:=bY (zS g) (eI f);rw[kB]at this;rw[bP,aC];show 0<_+4/\_+4<=100;lia
 generalize (((eI f).filter (zS g)).map id++[.int (f:Nat),.int ((f:Int)+1),.int (-1),.int (10^19)]:List D)=gone at E zx
 refine dZ (λd=>∃j:Int,Dw g j/\d=.int j) (λq c=>⟨_,Db,_,Db,_,Db,ns,(gone.length:Int),Db,u,Cw,Cw,λi p m=>?_⟩) ?_
 ·obtain⟨x,hm,hx,_⟩:=tR (xs:=gone) p m;exact⟨x,hx,c x (E x hm)⟩
 rintro _ ⟨nj,M,rfl⟩;refine dZ (λd=>Cd d/\qQ fs an d=false/\ndc d=true) (λq c=>⟨_,Db,_,Db,_,Db,_,Db,ns,fs,an,Db,u,F,λr l=>⟨ns,fs,an,r,Db,u,F,l,λd m v h3=>c d ⟨m,v,h3⟩⟩⟩) ?_;rintro W ⟨s,C,B⟩;refine cM (.list (MR g)) (λq c=>⟨_,Db,_,_,_,_,_,_,Db,Db,kY g,Db,Ax,λus m v=>by rw[Lz m v w.ris];exact c⟩) ?_;refine dZ (λd=>∃i:Int,0<=i/\i<4/\d=.int i) (λq c=>⟨_,Db,ns,4,Db,u,Cv,Cv,λi p m=>c _ ⟨i,p,m,Db⟩⟩) ?_;rintro _ ⟨o,w0,w4,rfl⟩;dsimp only[uB];have nb:∀a:D,ndc a=true->(true&&(ndc a&&(ndc W&&true)))=true:=λa ha=>by rw[ha,B];rfl
 have iE:∀i:Int,RO (.int o) (.int i):=λi=>⟨Db,Db,Da⟩;refine jZ (λb=>b=(decide (o=0)||(decide (o=1)&&decide (g=[])))) (λq c=>⟨_,Db,iE 0,?_⟩) (λ_=>?_) λhF=>?_
 ·show(if bK (.int o) (.int 0)=true then q true else _);rw[X];by_cases z:o=0
  ·rw[a9 (b7 z)];exact c _ (by rw[b7 z];rfl)
  ·rw[a8 λy=>z (b8 y)];refine⟨_,Db,iE 1,?_⟩;show(if bK (.int o) (.int 1)=true then _ else q false);rw[X];by_cases z1:o=1
   ·rw[a9 (b7 z1)];refine⟨_,Db,Da,oE,?_⟩;show q (bK (.list (MR g)) (.list []));rw[eE];exact c _ (by rw[b9 z,b7 z1];rfl)
   ·rw[a8 λy=>z1 (b8 y)];exact c _ (by rw[b9 z,b9 z1];rfl)
 ·exact⟨_,Db,Da,Da,h _ _ (.inl ⟨W,s,C,Db,Db⟩) (nb .none Db)⟩
 try unfold lM
 try dsimp only
 refine jZ (λb=>b=decide (o=1)) (λq c=>⟨_,Db,iE 1,c _ (X o 1)⟩) (λhT=>?_) λBr=>?_
 ·have z1:=b8 hT.symm;have J:g≠[]:=λy=>by rw[b7 z1,b7 y,Bool.and_self,Bool.or_true]at hF;cases hF
  have Aa:=mY.mpr J;refine⟨_,Db,_,Db,_,Db,ns,((MR g).length:Int),Db,u,Cw,Cw,λi p m=>?_⟩;obtain⟨k,r,hk,hg,Ad⟩:=w.pick p m;exact⟨_,hk,_,Db,Da,Da,h _ _ (.inr (.inl ⟨k,r,W,hg,s,C,Db,Db⟩)) (nb (.int (k:Nat)) Db)⟩
 try unfold lM
 try dsimp only
 refine jZ (λb=>b=decide (o=2)) (λq c=>⟨_,Db,iE 2,c _ (X o 2)⟩) (λ_=>?_) λ_=>?_
 ·exact⟨_,Db,Da,Da,h _ _ (.inr (.inr (.inl ⟨nj,M,Db,Db⟩))) Db⟩
 try unfold lM
 try dsimp only
 refine⟨_,Db,_,Db,_,Db,_,Db,ns,fs,an,Db,u,F,λr N=>⟨Da,_,Db,ns,2,Db,u,Cv,Cv,λi p m=>?_⟩⟩;obtain⟨x,hm,hx,_⟩:=tR (xs:=[W,dE r]) p m
 have S:Cd x/\ndc x=true:=by
  simp only[aK,bR,e9]at hm;rcases hm with rfl | rfl
  ·exact⟨s,B⟩
  ·exact⟨N5 F N,wC N⟩
 refine⟨x,hx,Da,Da,h _ _ (.inr (.inr (.inr ⟨nj,x,M,S.1,Db,Db⟩))) ?_⟩;show(true&&(true&&(ndc x&&true)))=true;rw[S.2];rfl
def Rr:dI P w K mg base iG 4 ny qr ["_law_tape_here","_law_form_here","_law_state"] (cZ K Vj):=by
 refine uJ T.D_52.F Vb λc nd ds Q h=>?_;obtain⟨ns,fs,an,e,f,dp,fw,t,rfl,p,w,h⟩:=h;refine⟨_,(aW (ss 3 nd (AA (iX c.u1 (aH 2) fD) (pc:=λh=>gS (tQ Db) Db T.b_sorted sC h)))
 (aW (ss 4 nd (cd (jP T) T.D_38 c (aB (aH 0) (aB aQ aL))))
 (aW (ss 5 nd (cd (WN T) T.D_47 c (aB (aH 0) (aB (aH 1) aL))))
 (aW (jC (pM (qZ (dF (AS c) iP (aH 3) (mH aL)) (qL (dF (kR c) iP (cd (jP T) T.D_38 c (aB (aH 0) (aB aQ aL))) aQ))))
 (cA (ss 5 nd (IK c.u1 (iX c.u1 (aH 2) fD) (bU bE cN (aH 3) (cd (jP T) T.D_38 c (aB (aH 0) (aB (cB jM (aB (aH 3) aL) cG T.b_len fZ) aL)))))))
 fU)
 (aW (jC (pM (yV (dF PD uW (aH 4) aQ) (uK (dF (kR c) iP (aH 3) (mH aL)))))
 (cA (dM (dD (aB cK (aB (iX c.u1 (aH 2) fD) (aB (aH 5) aL))))))
 fU)
 (aW (ss 6 nd (bU bE cN (aH 3) (cd (jP T) T.D_38 c (aB (aH 0) (aB (cB jM (aB (aH 3) aL) cG T.b_len fZ) aL)))))
 (cA (dM (bU bE cN (mH (aB (dD (aB cK (aB (aH 6) (aB kU aL)))) (aB (dD (aB cK (aB (aH 6) (aB (aH 5) aL)))) aL))) (cV tG HU (aH 4) aQ)))))))))),?_⟩
 obtain⟨X,B,Ay⟩:=w.len;obtain⟨J,C⟩:=w.eq;have f50:=w.f50;have F:=w.F;have ei:∀i j:Int,bK (.int i) (.int j)=decide (i=j):=λi j=>by rw[eL];simp[bK]
 show jA _ _ _ [.val (iU ns),.val (fJ fs an),.val (TR (kY e) (f:Nat) dp fw t),.un,.un,.un,.un];refine cM (.list (MR e)) (λq a=>⟨_,Db,_,_,_,_,_,_,Db,Db,kY e,Db,B,λus l R=>by rw[Lz l R w.ris];exact a⟩) ?_;refine dZ (λd=>∃i:Int,0<=i/\i<6/\d=.int i) (λq a=>⟨_,Db,ns,6,Db,p,Cv,Cv,λi o l=>a _ ⟨i,o,l,Db⟩⟩) ?_;rintro _ ⟨s,w0,w6,rfl⟩;refine dZ (λd=>∃r:Rw,oZ fs an r/\d=dE r) (λq a=>⟨_,Db,_,Db,ns,fs,an,Db,p,F,λr c=>a _ ⟨r,c,Db⟩⟩) ?_;rintro _ ⟨M,x,rfl⟩;refine xR (e≠[]) (λd=>∃r:Rw,oZ fs an r/\d=dE r) (λq a=>?_) (λv q a=>?_) (dE M) Db ⟨M,x,Db⟩ ?_
 ·refine⟨_,Db,Da,J,?_⟩;show(if(!bK (.list (MR e)) (.list []))=true then _ else q false);rw[C];by_cases z:e=[]
  ·rw[b7 z,a8 Cv];exact a _ λy=>by cases y
  ·rw[b9 z,a9 Cv];exact⟨_,Db,ns,4,Db,p,Cv,Cv,λi _ _=>⟨⟨Db,Db,Da⟩,a _ λ_=>z⟩⟩
 ·refine⟨_,Db,_,_,_,_,_,_,Db,Db,_,Db,_,Db,_,Db,ns,((MR e).length:Int),Db,p,?_,?_,λi o l=>?_⟩
  ·have:=mY.mpr v;lia
  ·lia
  ·obtain⟨k,r,u,n,g⟩:=w.pick o l;exact⟨_,u,kY e,(k:Nat),dE r,Db,Db,qS n,a _ ⟨r,g,Db⟩⟩
 rintro _ ⟨r,m,rfl⟩;dsimp only[uB];have H:=wC m;refine jZ (λb=>b=(decide (s<4)||decide (e=[]))) (λq a=>⟨_,Db,?_⟩) (λ_=>?_) λS=>?_
 ·show(if decide (s<4)=true then q true else _);by_cases z:s<4
  ·rw[a9 (b7 z)];exact a _ (by rw[b7 z];rfl)
  ·rw[a8 λy=>z (b8 y)];refine⟨_,Db,Da,J,?_⟩;show q (bK (.list (MR e)) (.list []));rw[C];exact a _ (by rw[b9 z];rfl)
 ·refine⟨_,Db,_,_,_,_,_,_,Db,Db,_,Db,Da,h _ _ _ _ (.inl ⟨r,m,Db,Db,Db,Db⟩) ?_⟩;show(true&&(true&&(ndc (dE r)&&true)))=true;rw[H];rfl
 have G:=S.symm;rw[xN,l9,l9]at G;obtain⟨W,v⟩:=G;have E:=mY.mpr v;unfold lM;dsimp only;refine dZ (λd=>∃(k:Nat)(r:Rw),yC k e=some r/\d=.int (k:Nat)) (λq a=>⟨_,Db,_,Db,_,Db,ns,((MR e).length:Int),Db,p,Cw,Cw,λi o l=>?_⟩) ?_
 ·obtain⟨k,r,u,n,g⟩:=w.pick o l;exact⟨_,u,a _ ⟨k,r,n,Db⟩⟩
 rintro _ ⟨k,N,n,rfl⟩;refine⟨_,Db,Da,_,Db,_,Db,Da,Da,_,Db,?_⟩;have hw:s=4\/s=5:=by lia
 rcases hw with rfl | rfl
 ·exact⟨_,Db,h _ _ _ _ (.inr (.inl ⟨k,N,n,Db,Db,Db,Db⟩)) Db⟩
 ·refine⟨_,Db,h _ _ _ _ (.inr (.inr ⟨k,N,r,n,m,Db,Db,Db,Db⟩)) ?_⟩;show(true&&(true&&(ndc (dE r)&&true)))=true;rw[H];rfl
def Si:dI P w K mg base iG 18 iv jd ["_law_book","_law_deed_here"] (kT K (Wk A)):=by
 refine SE (F:=mB A) T.D_49.F VH (λX n M Q h=>by obtain⟨fs,an,d,m,y,o,p,f,J,v,N,x,C,rfl,b,w,c,hd,h⟩:=h;rfl) λG W outer s H E u l n M Q h=>?_;obtain⟨fs,an,d,m,y,o,p,f,J,v,N,x,C,rfl,b,w,c,hd,h⟩:=h;have nd:=VH.nd;refine⟨_,(lV (sY (ss 2 nd (dD (aB cK (aB kU aL)))))
 (Ph (i:=2) (aA4 (V3 (dF lB oU (bU bE cN (aH 1) aQ) cK)
 (zG (AV cK (HW Cu (aH 0) (rG (aB (bU bE cN (aH 1) aQ) aL)) (λh g=>lH h T.C_Book T.M_1 (Oh T) (u.mono Cv) T.D_1.d .nil iV g))) (λh=>lG h (pn 2 nd)))
 (V3 (dF lB oU (bU bE cN (aH 1) aQ) cK)
 (zG (AV cK (HW Cu (aH 0) (rG (aB (bU bE cN (aH 1) aQ) aL)) (λh g=>lH h T.C_Book T.M_2 (Oi T) (u.mono Cv) T.D_2.d .nil iV g))) (λh=>lG h (pn 2 nd)))
 (zG (AV cK (HW Cu (aH 0) (rG (aB (bU bE cN (aH 1) aQ) (aB (bU bE cN (aH 1) aQ) aL))) (λh g=>lH h T.C_Book T.M_3 (Pg T) (u.mono Cv) T.D_3.d .nil iV g))) (λh=>lG h (pn 2 nd))))) (λh=>aA6 lF h))
 (gF (qA (mT (aH 2)))))),?_⟩
 obtain rfl:l=y:=iK C;have few:=w.few;have f50:=w.f50;refine⟨Da,?_⟩;rcases hd with⟨r,a,rfl,rfl,rfl,rfl⟩ | ⟨k,r,q,rfl,rfl,rfl,rfl⟩ | ⟨k,r,S,q,a,rfl,rfl,rfl,rfl⟩
 ·refine OO Db Db ?_;exact⟨_,Db,Db,_,Db,_,Db,fs,an,d,m,l,o,f,r,p,Db,Db,b,Cw,c,Cw,(λe R z=>by have:=w.lt e R;lia),a,λt j B=>⟨_,Db,Ds _,Db,h t j⟩⟩
 ·refine JV Db Cu ?_;refine OO Db Db ?_;refine⟨_,Db,Db,_,Db,_,Db,fs,an,d,m,l,o,k,r,p,Db,Db,b,Cw,q,λt j B=>⟨_,Db,Ds _,Db,?_⟩⟩;rw[c];exact h t j
 ·refine JV Db Cu ?_;refine JV Db Cu ?_;refine⟨_,Db,Db,_,Db,_,Db,_,Db,_,Db,fs,an,d,m,l,o,k,r,S,p,Db,Db,b,Cw,q,a,λt j B=>⟨_,Db,Ds _,Db,?_⟩⟩;rw[c];exact h t j
def WM:dI P w K mg base iG 9 gp ic ["_law_book","_law_state"] (mK K (Lu A)):=by
 refine Ef (F:=MW A) T.D_54.F Vd λa nd E n ds Q h=>?_;obtain⟨fs,an,d,m,S,C,j,t,f,ht,rfl,b,W,h⟩:=h;refine⟨_,(eP (F6 qK (U5 1 (i:=2) (fr:=[none,some 1]) (N':=["_law_number","_law_state"]) (fN (AA (iX a.u1 (aH 1) fD) (pc:=λh=>gS (tQ Db) Db T.b_sorted sC h))) (λb=>⟨(eA (pk 0)),gY,(dD (aB (aH 0) (aB (IK a.u1 (iX a.u1 (aH 1) fD) (aH 0)) aL)))⟩) (λp N=>jU (show nT _ (aX (top 65)) ["_law_book","_law_state","_law_due","_law_k","_law_found"] ["_law_number","_law_state"] [none,some 1]=true from by decide +kernel) nd Db (by first | exact j7 Db | exact j1 Db) Db p N Db)))
 (eP (U6 (qE (aB aQ aL) (λh=>oC Db T.b_range h)) (eA (pn 3 nd))
 (Ka (i:=4) (zG (Ko Q4 (uX Cu (aH 0) (λh=>qB h T.C_Book T.M_4 (Ju T) (a.mono Cv) T.D_4.d .nil iV))) (λh=>lG h (pn 4 nd)))
 (eP (rO (UJ (UK (sT (L0 4 (tv (cd (PH T) T.D_42 a (aB (aH 4) (aB (aH 2) aL)))))) (MK (sT (Vq (xO (zW (PH T) T.D_42.m T.D_42.k T.D_42.d (a.mono Cv) (eS (rZ Q4 (LF Cu (aH 0) (λh=>qB h T.C_Book T.M_5 (Jv T) (a.mono Cv) T.D_5.d .nil iV))) (eS (rZ qK (nM 1 (iX a.u1 (aH 1) fD))) oJ)) (λh=>lY (PH T) (a.mono Cv) Db T.D_42.m T.D_42.k T.D_42.d .nil iV h)) (λh=>uT h)))))))
 (gF (qA (mT vD)))
 pE)
 (eP (Z7 (i:=4) (pv 4) (dD (aB aQ (aB aQ aL))) (pb:=λh=>hX (nB cO iM iL oG (pv 4) h)))
 (gF (Z4 (i:=4) (pv 4) (λh=>hX (M9 cO PySem.F.slot_list_reverse PySem.F.type_list_reverse NI h))))))) (λp hg hb=>M3 x9 Db p hg hb))
 (gF (qA (mT vD))))),?_⟩
 obtain⟨H,J⟩:=vT ht;obtain⟨g,c⟩:=E;obtain rfl:g=S:=zB H;obtain rfl:c=C:=iK J;obtain⟨⟨s,l,y⟩,B⟩:=n;obtain rfl:s=kY j:=b.kv;obtain rfl:l=(f:Nat):=b.giv;obtain rfl:y=jJ t:=b.str;have F:=b.bk.F;have w:=b.rw;have few:=w.few;have f50:=w.f50;have hn:=VJ F w.ok Cw;show sQ (F:=MW A) _ _ _ _ _ [.val (lL c),.val (pQ g),.un,.un,.un];refine⟨pQ g,⟨_,Db⟩,g,Db,Db,Kk Db w.ris Cw (λe=>.tuple [.int (e.1:Nat),dE e.2]) (λe X q r=>⟨_,Db,_,Db,_,_,_,_,_,_,Db,Db,_,Db,kY j,(e.1:Nat),dE e.2,Db,Db,qS (IH (HM w.ris) X),Da,r⟩) ⟨aBt w.ok,?_⟩⟩;dsimp only;refine Yu (ts:=eI 2) (λR M=>⟨2,Db,Cv,Cv,M⟩) (λi u σ=>u=(⟨kY j,(f:Nat),jJ t⟩,B)/\∃s3 v:Sl,σ=[.val (lL c),.val (pQ g),.val (.list (KS j)),s3,v]) ⟨Db,_,_,Db⟩ (λi u x z hx o=>?_) λu z o=>?_
 ·obtain⟨rfl,s3,v,rfl⟩:=o;refine⟨lL c,⟨_,Db⟩,_,Db,Db,c,j,Db,Db,b.bk.kv,λG=>?_⟩;show sQ (F:=wU (MW A)) _ _ _ _ _ [.val (lL c),.val (pQ g),.val (.list (KS j)),.val x,.val G];refine UA (λq r=>?_) ?_
  ·refine⟨id,⟨.hole,_,_,Db,Db⟩,_,Db,_,Db,_,Db,hn,?_⟩;show(if(!true)=true then _ else _);rw[a8 Cv];refine⟨_,_,Db,lL c,⟨_,Db⟩,_,Db,Db,c,Db,Db,pQ g,⟨_,Db⟩,g,Db,Db,_,Db,_,_,_,_,_,_,Db,Db,D0 t,jJ t,?_,HJ Cw (HI F t b.bk.tr),r⟩;show[B.st,jJ t]=_;rw[b.bk.st]
  refine(show sQ (F:=wU (MW A)) (Ma (F:=MW A) 4 _) _ _ _ _ _ from⟨⟨_,_,Db,Db⟩,Da,by show(KS j).length<=_;rw[KR];lia,?_⟩);exact⟨⟨_,_,Db,Db⟩,Db,_,_,Db⟩
 ·obtain⟨rfl,s3,v,rfl⟩:=o;exact h
def Rs:dI P w K mg base iG 19 js jz ["_law_book","_law_form_here","_law_state","_law_deed_here"] (mK K (Vk A)):=by
 refine Ef (F:=MW A) T.D_53.F Vc λg nd Tp n ds Q h=>?_;obtain⟨fs,an,d,m,S,Bo,N,p,f,de,o,f2,x,ht,rfl,b,Bv,Ce,hd,J,h⟩:=h;refine⟨_,(eP (uL (i:=4) (rZ qK (nM 2 (iX g.u1 (aH 2) fD))) (λh=>lG h (pn 4 nd)))
 (eP (uL (i:=5) (rZ qK (nM 2 (YC (iX g.u1 (aH 2) fD) (bU bE cN (aH 3) aQ) (pc:=λh X=>nB kX JO PySem.F.type_dict_get aBw h X)))) (λh=>lG h (pn 5 nd)))
 (eP (rO (Hq (dF lB oU (bU bE cN (aH 3) aQ) cK))
 (gF (F6 qK (Z3 (i:=2) (bU bE cN (aH 3) aQ) (pc:=λh=>hX (nB kX uG JN PQ (zJ g.u1 (pv 2) fD (by intro _ _;rfl)) h)))))
 (gF (F6 qK (Z2 (i:=2) (bU bE cN (aH 3) aQ) (bU bE cN (aH 3) aQ) (λh hi=>zH g.u1 (zJ g.u1 (pv 2) fD (by intro _ _;rfl)) hi h Db)))))
 (eP (sY (ss 6 nd (aH 5)))
 (eP (rO (Hq (dF lB oU (bU bE cN (aH 3) aQ) cK))
 (eP (sY (ss 6 nd (bU bE cN (aH 3) aQ)))
 (gF (F6 qK (Yg (i:=2) (cV cJ gU (bU bE cN (aH 3) aQ) aQ) (λh=>zH g.u1 (pv 2) fD h Db)))))
 pE)
 (eP (F6 qK (U5 2 (i:=7) (fr:=[none,some 2]) (N':=["_law_number","_law_state"]) (fN (AA (iX g.u1 (aH 2) fD) (pc:=λh=>gS (tQ Db) Db T.b_sorted sC h))) (λb=>⟨(eA (pk 0)),gY,(IK g.u1 (iX g.u1 (aH 1) fD) (aH 0))⟩) (λhi hY=>jU (show nT _ (aX (top 64)) ["_law_book","_law_form_here","_law_state","_law_deed_here","_law_elder","_law_former","_law_first","_law_rows","_law_told_here","_law_due"] ["_law_number","_law_state"] [none,some 2]=true from by decide +kernel) nd Db (by first | exact j7 Db | exact j1 Db) Db hi hY Db)))
 (eP (F6 qK (Yh (i:=2) (nM 2 (cd (Sg T) T.D_46 g (aB (aH 1) (aB (aH 7) (aB (iX g.u1 (aH 2) fD) (aB (iX g.u1 (aH 2) fD) aL)))))) (λh=>zH g.u1 (pv 2) fD h Db)))
 (Ka (i:=8) (zG (Ko Q4 (aBp (eS (mT (aH 0)) (eS (mT (aH 3)) oJ)) (λh=>lY (Si T) (g.mono Cv) Db T.D_49.m T.D_49.k T.D_49.d .nil iV h))) (λh=>lG h (pn 8 nd)))
 (eP (Vl (uL (i:=9) (rZ qK (nM 2 (dD (aB cK (aB (dD (aB (aH 6) (aB (cd (Sh T) T.D_48 g (aB (aH 4) (aB (iX g.u1 (aH 2) fD) aL))) aL))) aL))))) (λh=>lG h (pn 9 nd))))
 (eP (rO (sT (L0 8 (tv (cd (PH T) T.D_42 g (aB (aH 8) (aB (aH 9) aL))))))
 (gF (qA (mT vD)))
 pE)
 (eP (U7 (bU bE cN (bU bE cN (aH 8) aQ) aQ) (dD (aB cK aL)) (pb:=λh X=>hX (nB cO iM iL oG h X)))
 (gF (qA (mT vD)))))))))))))),?_⟩
 obtain⟨e1,e2⟩:=vT ht;obtain⟨c,B⟩:=Tp;obtain rfl:c=S:=zB e1;obtain rfl:B=Bo:=iK e2;obtain⟨⟨Aw,E,Bj⟩,n2⟩:=n;obtain rfl:Aw=kY N:=b.kv;obtain rfl:E=(f:Nat):=b.giv;obtain rfl:Bj=jJ p:=b.str;have F:=b.bk.F;have w:=b.rw;obtain⟨z,wa⟩:=w.deed hd J;have few:=z.few;have st:=λu=>RD F hd w.ok (t:=p) (u:=u) Cw;obtain⟨R,j,a,W,rfl,zu,B0,H,M⟩:=hd.get w.lt w.ok;show sQ (F:=MW A) _ _ _ _ _ [.val (lL B),.val (fJ fs an),.val (pQ c),.val (.tuple [.str R,.int (j:Nat),a]),.un,.un,.un,.un,.un,.un];refine OM (jJ p) (λq l=>⟨pQ c,⟨_,Db⟩,c,Db,Db,_,Db,_,_,_,_,_,_,Db,Db,D0 p,l⟩) ?_;refine OM W (λq l=>⟨pQ c,⟨_,Db⟩,c,Db,Db,_,Db,_,_,_,_,_,_,Db,Db,⟨kY N,Db⟩,_,Db,_,Db,kY N,(j:Nat),Db,Db,by rw[zu];exact⟨B0,l⟩⟩) ?_;refine Yw (decide (R="out")) (λmm σ=>mm=(⟨kY o,(f:Nat),jJ p⟩,n2)/\σ=[.val (lL B),.val (fJ fs an),.val (pQ c),.val (.tuple [.str R,.int (j:Nat),a]),.val (jJ p),.val W,.un,.un,.un,.un]) (λq l=>⟨_,Db,_,Db,l⟩) (λhb C G=>?_) (λhb C G=>?_) ?_
 ·rcases H with⟨_,⟨y,hy⟩,e⟩ | ⟨s,_⟩
  ·exact⟨pQ c,⟨_,Db⟩,Db,_,Db,_,Db,(j:Nat),y,Db,hy,G _ _ ⟨by rw[<- e];rfl,Db⟩⟩
  ·exact c7 (b8 hb) s
 ·rcases H with⟨s,_⟩ | ⟨_,e⟩
  ·exact c7 s (j9 hb)
  ·exact⟨pQ c,⟨_,Db⟩,_,Db,_,Db,Db,_,Db,_,Db,(j:Nat),Db,by show(kY N).length<=_;unfold kY;rw[aC];have:=w.few;have:=w.f50;lia,G _ _ ⟨by rw[<- e];rfl,Db⟩⟩
 rintro _ _ ⟨rfl,rfl⟩;refine G8 (cM W (λq l=>⟨_,Db,l⟩) ?_)
 try dsimp only
 refine Yx (decide (R="put")) (λmm σ=>mm=(⟨kY o,(f2:Nat),jJ p⟩,n2)/\σ=[.val (lL B),.val (fJ fs an),.val (pQ c),.val (.tuple [.str R,.int (j:Nat),a]),.val (jJ p),.val W,.val x,.un,.un,.un]) (λq l=>⟨_,Db,_,Db,l⟩) (λhb C G=>?_) (λhb=>?_) ?_
 ·rcases M with⟨_,rfl,rfl⟩ | ⟨s,_⟩
  ·refine G8 (cM (.int (j:Nat)) (λq l=>⟨_,Db,_,Db,l⟩) ?_);exact⟨pQ c,⟨_,Db⟩,_,Db,_,Db,_,Db,Db,G _ _ ⟨Db,Db⟩⟩
  ·exact c7 (b8 hb) s
 ·rcases M with⟨s,_⟩ | ⟨_,rfl,rfl⟩
  ·exact c7 s (j9 hb)
  ·exact⟨Db,Db⟩
 rintro _ _ ⟨rfl,rfl⟩;refine⟨pQ c,⟨_,Db⟩,c,Db,Db,Kk Db z.ris (by have:=z.f50;lia) (λe=>dE e.2) (λe he q l=>⟨_,Db,_,_,_,_,_,_,Db,Db,_,Db,kY o,(e.1:Nat),dE e.2,Db,Db,qS (IH (HM z.ris) he),l⟩) ?_⟩;have em:o.map (λe=>dE e.2)=(o.map (·.2)).map dE:=by rw[bD];rfl
 rw[em];refine⟨Qq z.ok,?_⟩;dsimp only[uB];refine⟨pQ c,⟨_,Db⟩,c,Db,Db,_,Db,_,Db,_,Db,_,_,_,_,_,_,Db,Db,_,Db,_,_,_,_,_,_,Db,Db,fs,an,o.map (·.2),d,m,by rw[b.sd,b.sf],F,z.ok,by rw[aC];have:=z.f50;lia,Cw,b.m1,λt hg=>⟨D0 t,Db,?_⟩⟩;obtain⟨g1,g2⟩:=LE d hg;refine⟨lL B,⟨_,Db⟩,_,Db,_,Db,fs,an,d,m,B,N,p,f,_,o,f2,x,Db,Db,b.bk,w,b.fol,hd,λv zv dr=>?_⟩;obtain rfl:v=t:=IG d (ZN.refl _) zv hg
 have nx:ndc (Ds x (.list (xY p v)))=true:=by
  have n1:ndc x=true:=by
   rcases hd.x with⟨i,rfl⟩ | ⟨k,r,hk,rfl⟩
   ·rfl
   ·exact wC (w.ok _ (aS.mpr ⟨_,zU hk,Db⟩))
  show(true&&((ndc x&&(ndc (.list (xY p v))&&true))&&true))=true;rw[n1,aBs];rfl
 refine⟨_,_,Db,pQ c,⟨_,Db⟩,c,Db,Db,_,Db,_,Db,_,Db,_,_,_,_,_,_,Db,Db,fs,an,p,v,Db,F,b.bk.tr,g1,Cw,Cw,Cw,Da,Da,nx,?_⟩;dsimp only[uB];refine UA (λq l=>⟨Ds x,⟨.tup (.tup .hole),_,_,Db,Db⟩,_,Db,_,Db,_,Db,st v,l⟩) ?_
 have vg:(xY p v).length<=100000:=by
  have h1:=bL (qU p v) (rW (show p.dep<=12 by lia));unfold xY;rw[aC];lia
 refine(show sQ (F:=wU (MW A)) (UG (F:=MW A) _ _) _ _ _ _ _ from⟨_,_,Db,_,Db,_,Db,_,Db,Db,Da,vg,?_⟩);exact h _ hg
def Ks:dI P w K mg base (S7 P w) 4 tm uu ["self","thing"] (nL K (qN A L I)):=by
 refine X6 (F:=mB A) T.D_6.F Hk (λu n i Q h=>by obtain⟨fs,an,b,d,f,rfl,F,e,hd,hw,h⟩:=h;rfl) λg o outer s H E a t c n i p h j=>?_;obtain⟨fs,an,b,d,f,rfl,F,e,hd,hw,h⟩:=h;have nd:=Hk.nd;refine⟨_,(gF (rO (sT (xO (zW (PJ T) T.D_11.m T.D_11.k T.D_11.d (a.mono Cv) (eS (tN T.C_Book T.n_Book_form (aH 0)) (eS (mT (aH 1)) oJ)) (λh=>lY (PJ T) (a.mono Cv) Db T.D_11.m T.D_11.k T.D_11.d .nil iV h)) (λh=>uT h)))
 (gF (JW j T.X_NoRow (aB cK aL) (λh=>KH T.R_NoRow a Db T.x_NoRow h)))
 pE)),?_⟩
 obtain rfl:c=b:=iK f;refine G9 true (λq l=>⟨_,Db,Db,c,_,Db,Db,_,Db,fs,an,d,by rw[e],F,hd,?_⟩) (λ_=>?_) λz=>by cases z
 ·rw[hw];exact l
 ·exact⟨Da,Db,h,λB r hb=>hb⟩
def Kt:dI P w K mg base (S7 P w) 2 tu uv ["self","number"] (nL K (oR A L I)):=by
 refine X6 (F:=mB A) T.D_7.F Hl (λr n g Q h=>by obtain⟨a,j,d,rfl,b,h⟩:=h;rfl) λf l outer s H E c p e n g m h i=>?_;obtain⟨a,j,d,rfl,b,h⟩:=h;have nd:=Hl.nd;refine⟨_,(gF (rO (UO c.u1 T.C_Book T.n_Book_numbered (aH 1) (aH 0))
 (gF (JW i T.X_NoSuch (aB cK aL) (λh=>KH T.R_NoSuch c Db T.x_NoSuch h)))
 pE)),?_⟩
 obtain rfl:e=a:=iK d;refine G9 true (λq k=>⟨_,Db,j,Db,_,Db,Db,?_⟩) (λ_=>?_) λz=>by cases z
 ·rw[b];exact k
 ·exact⟨Da,Db,h,λB o hb=>hb⟩
def Kp:dI P w K mg base (S7 P w) 17 td uq ["self","row"] (nL K (aAn A L I)):=by
 refine X6 (F:=mB A) T.D_1.F Fl (λq n j Q h=>by obtain⟨fs,an,b,d,g,rfl,F,e,hd,hw,h⟩:=h;rfl) λi l outer s H E f p c n j m h k=>?_;obtain⟨fs,an,b,d,g,rfl,F,e,hd,hw,h⟩:=h;have nd:=Fl.nd;refine⟨_,(eP (uA.or (qM (qT Cu (aH 0) (rG (aB (aH 1) aL)) (λh a=>lH h T.C_Book T.M_6 (Ff T) (f.mono Cv) T.D_6.d .nil iV a)) (λh=>hX h))
 (yY (zY k Cu (aH 0) (rG (aB (aH 1) aL)) (λh a=>lH h T.C_Book T.M_6 (Ks T) (f.mono Cv) T.D_6.d .nil PB a)) (λh=>hX h)))
 (eP (sY rQ)
 (eP (sY rQ)
 (eP (sY rQ)
 (eP (sY rQ)
 (gF (sY rQ))))))),?_⟩
 obtain rfl:c=b:=iK g;exact .inr ⟨⟨_,Db,Db,Db,_,Db,fs,an,c,d,Db,Db,F,e,hd,hw,h⟩,λB o hb=>hb⟩
def Kq:dI P w K mg base (S7 P w) 17 tf ur ["self","number"] (nL K (aAo A L I)):=by
 refine X6 (F:=mB A) T.D_2.F Fm (λr n k Q h=>by obtain⟨b,j,g,rfl,e,h⟩:=h;rfl) λi m outer s H E f q c n k o h l=>?_;obtain⟨b,j,g,rfl,e,h⟩:=h;have nd:=Fm.nd;refine⟨_,(eP (uA.or (qM (qT Cu (aH 0) (rG (aB (aH 1) aL)) (λh a=>lH h T.C_Book T.M_7 (Fg T) (f.mono Cv) T.D_7.d .nil iV a)) (λh=>hX h))
 (yY (zY l Cu (aH 0) (rG (aB (aH 1) aL)) (λh a=>lH h T.C_Book T.M_7 (Kt T) (f.mono Cv) T.D_7.d .nil PB a)) (λh=>hX h)))
 (eP (sY rQ)
 (gF (sY rQ)))),?_⟩
 obtain rfl:c=b:=iK g;exact .inr ⟨⟨_,Db,Db,Db,_,Db,c,j,Db,Db,e,h⟩,λB p hb=>hb⟩
def Kr:dI P w K mg base (S7 P w) 17 tj ut ["self","number","row"] (nL K (VF A L I)):=by
 refine X6 (F:=mB A) T.D_3.F Fo (λu n o Q h=>by obtain⟨fs,an,f,j,d,k,rfl,F,i,hd,h⟩:=h;rfl) λl q outer s H E c t b n o r h g=>?_;obtain⟨fs,an,f,j,d,k,rfl,F,i,hd,h⟩:=h;have nd:=Fo.nd;refine⟨_,(eP (uA.or (qM (qT Cu (aH 0) (rG (aB (aH 1) aL)) (λh a=>lH h T.C_Book T.M_7 (Fg T) (c.mono Cv) T.D_7.d .nil iV a)) (λh=>hX h))
 (yY (zY g Cu (aH 0) (rG (aB (aH 1) aL)) (λh a=>lH h T.C_Book T.M_7 (Kt T) (c.mono Cv) T.D_7.d .nil PB a)) (λh=>hX h)))
 (eP (uA.or (qM (qT Cu (aH 0) (rG (aB (aH 2) aL)) (λh a=>lH h T.C_Book T.M_6 (Ff T) (c.mono Cv) T.D_6.d .nil iV a)) (λh=>hX h))
 (yY (zY g Cu (aH 0) (rG (aB (aH 2) aL)) (λh a=>lH h T.C_Book T.M_6 (Ks T) (c.mono Cv) T.D_6.d .nil PB a)) (λh=>hX h)))
 (eP (sY rQ)
 (eP (sY rQ)
 (gF (sY rQ)))))),?_⟩
 obtain rfl:b=f:=iK k;rcases h with⟨e,h⟩ | ⟨m,e,hw,h⟩
 ·exact .inr ⟨⟨_,Db,Db,Db,_,Db,b,j,Db,Db,e,h⟩,λB p hb=>hb⟩
 ·refine .inl ⟨_,Db,Db,_,Db,b,j,m,Db,Db,e,?_⟩;dsimp only;exact .inr ⟨⟨_,Db,Db,Db,_,Db,fs,an,b,d,Db,Db,F,i,hd,hw,h⟩,λB p hb=>hb⟩
def Yj:dI P w K mg base iG 18 iv jd ["_law_book","_law_deed_here"] (mK K (FI A)):=by
 refine Ef (F:=mB A) T.D_49.F VH λl nd m n N Q h=>?_;obtain⟨fs,an,x,H,b,z,G,rfl,F,p,C,t,h⟩:=h;refine⟨_,(eP (sY (ss 2 nd (dD (aB cK (aB kU aL)))))
 (eP (uA.or (by refine' Z0 (J:=L) (i:=3) (HL (dF lB oU (bU bE cN (aH 1) aQ) cK)
 (rS Cu (aH 0) (rG (aB (bU bE cN (aH 1) aQ) aL)) (λh e=>AO (vZ lF fD (wA lF h T.C_Book T.M_1 (Kp T) (l.mono Cv) T.D_1.d e))))
 (HL (dF lB oU (bU bE cN (aH 1) aQ) cK)
 (rS Cu (aH 0) (rG (aB (bU bE cN (aH 1) aQ) aL)) (λh e=>AO (vZ lF fD (wA lF h T.C_Book T.M_2 (Kq T) (l.mono Cv) T.D_2.d e))))
 (rS Cu (aH 0) (rG (aB (bU bE cN (aH 1) aQ) (aB (bU bE cN (aH 1) aQ) aL))) (λh e=>AO (vZ lF fD (wA lF h T.C_Book T.M_3 (Kr T) (l.mono Cv) T.D_3.d e)))) (λc a b=>OY lF c a b)) (λc a b=>OY lF c a b)) (λy=>?hb) (λr b=>aA5 lF Db Db nd Db Db Db T.x_NoRow r b);(case hb=>(refine' (gF (sY (jC (pM (qZ (tv (show fK _ _ (Fe K (.type "ValueError") (A4 3))from ?z1)) (qL (HA (tv (show fK _ _ (QE K [Y,O,Z,I,j4,U] (A4 3))from ?z0))))))   (cA (ss 2 nd (dD (aB cK (aB kU aL)))))   fU)));(case z0=>exact(QA (cs:=[Y,O,Z,I,j4,U]) (aH 3) (λh=>gS GU Db T.b_isinstance eY (cI h (cI (DS (cI (lX Db T.x_NoLine Db) (cI (lX Db T.x_NoPlace Db) (cI (lX Db T.x_NoRule Db) (cI (lX Db T.x_NoSuch Db) (cI (lX Db T.x_NoText Db) (cI (lX Db T.x_TooMany Db) gM))))))) gM)))));(case z1=>exact(YE (c:=.type "ValueError") (cv:=.ty "ValueError") (aH 3) (λh=>gS (LS λ_ z=>z) Db T.b_isinstance eY (cI h (cI (nI Db T.b_ValueError xF Db) gM))))))))
 (by refine' U3 (J0:=L) (J:=I) (i:=3) (HL (dF lB oU (bU bE cN (aH 1) aQ) cK)
 (rS Cu (aH 0) (rG (aB (bU bE cN (aH 1) aQ) aL)) (λh e=>AO (vZ lF fD (wA lF h T.C_Book T.M_1 (Kp T) (l.mono Cv) T.D_1.d e))))
 (HL (dF lB oU (bU bE cN (aH 1) aQ) cK)
 (rS Cu (aH 0) (rG (aB (bU bE cN (aH 1) aQ) aL)) (λh e=>AO (vZ lF fD (wA lF h T.C_Book T.M_2 (Kq T) (l.mono Cv) T.D_2.d e))))
 (rS Cu (aH 0) (rG (aB (bU bE cN (aH 1) aQ) (aB (bU bE cN (aH 1) aQ) aL))) (λh e=>AO (vZ lF fD (wA lF h T.C_Book T.M_3 (Kr T) (l.mono Cv) T.D_3.d e)))) (λc a b=>OY lF c a b)) (λc a b=>OY lF c a b)) (λy=>?hb) (λr b=>V5 lF Db Db nd Db Db Db T.x_NoRow Db T.x_NoSuch r b);(case hb=>(refine' (gF (sY (jC (pM (qZ (tv (show fK _ _ (Fe K (.type "ValueError") (A4 3))from ?z3)) (qL (HA (tv (show fK _ _ (QE K [Y,O,Z,L,j4,U] (A4 3))from ?z2))))))   (cA (ss 2 nd (dD (aB cK (aB kU aL)))))   fU)));(case z2=>exact(QA (cs:=[Y,O,Z,L,j4,U]) (aH 3) (λh=>gS GU Db T.b_isinstance eY (cI h (cI (DS (cI (lX Db T.x_NoLine Db) (cI (lX Db T.x_NoPlace Db) (cI (lX Db T.x_NoRule Db) (cI (lX Db T.x_NoRow Db) (cI (lX Db T.x_NoText Db) (cI (lX Db T.x_TooMany Db) gM))))))) gM)))));(case z3=>exact(YE (c:=.type "ValueError") (cv:=.ty "ValueError") (aH 3) (λh=>gS (LS λ_ z=>z) Db T.b_isinstance eY (cI h (cI (nI Db T.b_ValueError xF Db) gM)))))))))
 (gF (qA (mT (aH 2)))))),?_⟩
 obtain rfl:m=x:=iK G;obtain⟨M,fol,st⟩:=n;obtain rfl:M=kY H:=C
 have u:jN K (.ref L) ([Y,O,Z,I,j4,U].map c9)=some false:=by
  show jN K (.ref L) [.ref Y,.ref O,.ref Z,.ref I,.ref j4,.ref U]=some false;simp only[jN,T.q_NoRow_NoLine,T.q_NoRow_NoPlace,T.q_NoRow_NoRule,T.q_NoRow_NoSuch,T.q_NoRow_NoText,T.q_NoRow_TooMany]
 have v:jN K (.ref I) ([Y,O,Z,L,j4,U].map c9)=some false:=by
  show jN K (.ref I) [.ref Y,.ref O,.ref Z,.ref L,.ref j4,.ref U]=some false;simp only[jN,T.q_NoSuch_NoLine,T.q_NoSuch_NoPlace,T.q_NoSuch_NoRule,T.q_NoSuch_NoRow,T.q_NoSuch_NoText,T.q_NoSuch_TooMany]
 refine G8 (cM (.tuple [.str "",.none]) (λq E=>⟨Da,E⟩) ?_);rcases t with⟨o,f,g,rfl,rfl⟩ | ⟨k,r,o,B,f,g,rfl,rfl⟩ | ⟨j,s,rfl,rfl⟩ | ⟨j,o,s,f,rfl,rfl⟩
 ·refine .inl (OO Db Db ?_);refine⟨_,Db,Db,_,Db,_,Db,fs,an,m,o,Db,Db,F,p,f,g,⟨L,Db,T.e_NoRow⟩,?_⟩;exact Dy T.v_NoRow Da u ⟨_,Db,h⟩
 ·refine .inl (JV Db Cu ?_);refine JV Db Cu ?_;refine⟨_,Db,Db,_,Db,_,Db,_,Db,_,Db,fs,an,m,(k:Nat),o,Db,Db,F,p,f,.inr ⟨_,qS B,g,⟨L,Db,T.e_NoRow⟩,?_⟩⟩;exact Dy T.v_NoRow Da u ⟨_,Db,h⟩
 ·refine .inr (JV Db Cu ?_);refine OO Db Db ?_;refine⟨_,Db,Db,_,Db,_,Db,m,j,Db,Db,Dc s,⟨I,Db,T.u_NoSuch_NoRow,T.e_NoSuch⟩,?_⟩;exact Dy T.v_NoSuch Da v ⟨_,Db,h⟩
 ·refine .inr (JV Db Cu ?_);refine JV Db Cu ?_;refine⟨_,Db,Db,_,Db,_,Db,_,Db,_,Db,fs,an,m,j,o,Db,Db,F,p,f,.inl ⟨Dc s,⟨I,Db,T.u_NoSuch_NoRow,T.e_NoSuch⟩,?_⟩⟩;exact Dy T.v_NoSuch Da v ⟨_,Db,h⟩
set_option maxHeartbeats 40000000 in
def Yk:dI P w K mg base iG 20 fq dh ["_law_script"] (cZ K DE):=by
 refine uJ T.D_law.F XP λa nd ds Q h=>?_;obtain⟨ns,rfl,X,h⟩:=h;refine⟨_,(aW (ss 1 nd (SF (cF (Sc T) T.D_37 a (aB (aH 0) aL))))
 (aW (ss 2 nd (cd (Se T) T.D_40 a (aB (aH 1) (aB aQ (aB aQ aL)))))
 (Z5 (i:=3) (cd (jP T) T.D_38 a (aB (aH 1) (aB aQ aL))) (cV cJ gU aQ (cd (jP T) T.D_38 a (aB (aH 1) (aB aQ aL)))) (dD (aB cK (aB (bU bE cN (bU bE cN (aH 2) aQ) aQ) aL))) (λh3 h4=>xW (i:=3) nd Db (by first | exact j7 Db | exact j1 Db) (aBh (zI fD KL (zI fD mZ (zI fD h3 (zI fD h4 aA8)))) Db Db (by intro z;cases z) Da)) (λh=>zH a.u1 (pv 3) fD h Db)
 (OP (i:=4) (eS (mT (aH 2)) (eS (nM 3 (iX a.u1 (aH 3) fD)) (eS (nM 3 (iX a.u1 (aH 3) fD)) oJ))) (λh=>xW (i:=4) nd Db (by first | exact j7 Db | exact j1 Db) (O8 T.K_Book (Ja T) (a.mono Cv) Db T.x_Book T.D_0.d .nil iV h))
 (OP (i:=5) (eS (mT (aH 2)) (eS (rZ qK (nM 3 (iX a.u1 (aH 3) fD))) (eS (rZ qK (nM 3 (iX a.u1 (aH 3) fD))) oJ))) (λh=>xW (i:=5) nd Db (by first | exact j7 Db | exact j1 Db) (O8 T.K_Book (Ja T) (a.mono Cv) Db T.x_Book T.D_0.d .nil iV h))
 (eP (rO (sT (F4 qK (xO (zX (k:=0) (f:=gp) (fd:=ic) (pn:=[]) (eS (mT (aH 4)) (eS (mT (aH 3)) oJ)) (λh=>lY (WM T) (a.mono Cv) Db T.D_54.m T.D_54.k T.D_54.d .nil iV h)) (λh=>uT h))))
 (gF (qA (mT vD)))
 pE)
 (eP (U6 (qE (aB (cV cJ gU aQ (cd (jP T) T.D_38 a (aB (aH 1) (aB aQ aL)))) aL) (λh=>oC Db T.b_range h)) (eA (pn 6 nd))
 (eP (rO (Hq (dF (kR a) iP (cd (jP T) T.D_38 a (aB (aH 1) (aB aQ aL))) aQ))
 (eP (Yi (rZ qK (rZ qK (nM 3 (cd (Sk T) T.D_51 a (aB (aH 1) (aB (aH 2) (aB (aH 3) aL))))))) (qR (rD Db (fQ (pn 7 nd) (fQ (pn 8 nd) oN)))) (λhe hg=>lG he hg))
 (gF (rO (UJ (UK (F4 qK (F4 Q4 (UP (AS a) iP (zX (k:=0) (f:=iv) (fd:=jd) (pn:=[]) (eS (mT (aH 4)) (eS (mT (aH 7)) oJ)) (λh=>lY (Yj T) (a.mono Cv) Db T.D_49.m T.D_49.k T.D_49.d .nil iV h)) (mT (dD (aB (aH 8) (aB kU aL))))))) (MK (sT (F4 qK (xO (zX (k:=0) (f:=gp) (fd:=ic) (pn:=[]) (eS (mT (aH 4)) (eS (mT (aH 3)) oJ)) (λh=>lY (WM T) (a.mono Cv) Db T.D_54.m T.D_54.k T.D_54.d .nil iV h)) (λh=>uT h)))))))
 (gF (qA (mT vD)))
 pE)))
 pE)
 (eP (uL (i:=9) (rZ qK (rZ qK (nM 3 (cd (Rr T) T.D_52 a (aB (aH 1) (aB (aH 2) (aB (aH 3) aL))))))) (λh=>lG h (pn 9 nd)))
 (gF (rO (UJ (UK (sT (F4 qK (xO (zX (k:=0) (f:=js) (fd:=jz) (pn:=[]) (eS (mT (aH 4)) (eS (mT (aH 2)) (eS (mT (aH 3)) (eS (mT (aH 9)) oJ)))) (λh=>lY (Rs T) (a.mono Cv) Db T.D_53.m T.D_53.k T.D_53.d .nil iV h)) (λh=>uT h)))) (MK (sT (F4 qK (xO (zX (k:=0) (f:=gp) (fd:=ic) (pn:=[]) (eS (mT (aH 4)) (eS (mT (aH 3)) oJ)) (λh=>lY (WM T) (a.mono Cv) Db T.D_54.m T.D_54.k T.D_54.d .nil iV h)) (λh=>uT h)))))))
 (gF (qA (mT vD)))
 pE)))) (λhi hg hb=>M3 x9 Db hi hg hb))
 (gF (qA (Xm (rZ Q4 (YB (kR a) iP (YA (uX Cu (aH 5) (λh=>qB h T.C_Book T.M_4 (Ju T) (a.mono Cv) T.D_4.d .nil iV))) (mT (mH aL)))) (Xp (rZ Q4 (YB (kR a) iP (LF Cu (aH 5) (λh=>qB h T.C_Book T.M_5 (Jv T) (a.mono Cv) T.D_5.d .nil iV)) (mT (dD (aB cK (aB (bU bE cN (bU bE cN (aH 2) aQ) aQ) aL))))))))))))))))),?_⟩
 show jA _ _ _ [.val (.list (ns.map bM)),.un,.un,.un,.un,.un,.un,.un,.un,.un];refine dZ (λd=>d=iU ns) (λq n=>⟨_,Db,ns,Db,X,λc hc=>⟨ns,c,Db,hc,n _ Db⟩⟩) ?_;rintro _ rfl;refine dZ (λd=>∃fs an,gZ fs an/\d=fJ fs an) (λq n=>⟨_,Db,ns,3,4,Db,X,Cv,Cv,Cv,Cv,λfs an F _ _=>n _ ⟨fs,an,F,Db⟩⟩) ?_;rintro _ ⟨fs,an,F,rfl⟩;have a2:=F.a2;obtain⟨g,u⟩:∃g,an[0]?=some g:=⟨_,aG Cw⟩;refine⟨_,Db,ns,5,Db,X,Cv,Cv,λdp p0 p5=>⟨dp,Db,_,Db,ns,3,Db,X,Cv,Cv,λfw f0 f3=>⟨1+fw,Db,Da,λS R W=>⟨_,Db,_,Db,_,L2.gK (by rw[aO,u];rfl),Da,?_⟩⟩⟩⟩;obtain⟨d,rfl⟩:∃d:Nat,dp=(d:Nat):=⟨dp.toNat,Cw⟩;have d4:d<=4:=by lia
 obtain⟨m,rfl⟩:∃m:Int,m=1+fw:=⟨_,Db⟩;have m1:(1:Int)<=1+fw:=by lia
 refine⟨_,Db,S,Db,Db,_,Db,_,_,_,_,_,_,Db,Db,Db,S,Db,Db,_,Db,_,_,_,_,_,_,Db,Db,Db,fJ fs an,S.dp,S.fw,Db,fs,an,d,1+fw,by rw[R,W],F,Cw,λt0 Ai j wa wp wt=>?_⟩;refine⟨_,Db,pQ S,⟨_,Db⟩,S,Db,Db,_,Db,_,_,_,_,_,_,Db,Db,Db,pQ S,⟨_,Db⟩,S,Db,Db,_,Db,_,_,_,_,_,_,Db,Db,Db,fJ fs an,S.dp,S.fw,Db,fs,an,d,1+fw,by rw[R,W],F,Cw,λt1 Aj B Bx zm kA=>?_⟩;obtain⟨b0,zh,rfl⟩:=XZ Ai;obtain⟨b1,xz,rfl⟩:=XZ Aj;obtain rfl:g=b0:=c8 (u.symm.trans zh);obtain rfl:g=b1:=c8 (u.symm.trans xz);have yp:g∈an:=bB u;have xu:E8 fs an d (1+fw) S j [] (.say g) 0 (⟨[],0,jJ (.say g)⟩,⟨[],0,jJ (.say g)⟩):=⟨⟨F,wa,wp.trans R,wt.trans W,Cw,Db,(λr a=>by cases a),Db,yp,cD _⟩,⟨F,(λr a=>by cases a),JQ.nil,(λe he=>by cases he),aM _,cD _⟩,R,W,m1,Db,Db,Db,Db⟩;have xl:∀{o t f nn}{s6 E G s9:Sl}{q:(SpS×S8)×S8->Bool->Prop},E8 fs an d (1+fw) S j o t f nn->t.dep<=4->q (nn,⟨[],0,jJ (.say g)⟩) false->(Mc (Kd (P:=De (MW A) (mB A)) qK (Hv (Mb (Lu A) (UH (zE (A4 4)) (UH (zE (A4 3)) Hu)))))) (.tuple [.tuple [pQ S,lL j],lL B]) (nn,⟨[],0,jJ (.say g)⟩) [.val (.list (ns.map bM)),.val (iU ns),.val (fJ fs an),.val (pQ S),.val (lL j),.val (lL B),s6,E,G,s9] q:=λ{o t f nn s6 E G s9 q} C h4 n=>⟨.tuple [pQ S,lL j],⟨_,Db⟩,_,Db,_,Db,fs,an,d,1+fw,S,j,o,t,f,Db,Db,C,h4,n⟩;show sQ (F:=De (MW A) (mB A)) _ _ _ _ _ [.val (.list (ns.map bM)),.val (iU ns),.val (fJ fs an),.val (pQ S),.val (lL j),.val (lL B),.un,.un,.un,.un];refine UA (λq n=>xl xu (cD _) n) ?_;refine(show sQ (F:=De (MW A) (mB A)) (Hr _ _ _) _ _ _ _ _ from⟨_,Db,ns,12,Db,X,Cv,Cv,λr r0 Cn=>⟨3+r,Db,Cw,Cw,λi p σ=>∃(o:List (Nat×Rw))(t:Tr)(f:Nat)(s6 E G s9:Sl),σ=[.val (.list (ns.map bM)),.val (iU ns),.val (fJ fs an),.val (pQ S),.val (lL j),.val (lL B),s6,E,G,s9]/\E8 fs an d (1+fw) S j o t f p.1/\t.dep<=4/\f<=i/\p.2=⟨[],0,jJ (.say g)⟩,⟨[],_,0,_,_,_,_,Db,xu,cD _,cD _,Db⟩,λi p x u7 hx hP=>?_,λp u7 hP=>?_⟩⟩)
 ·obtain⟨o,t,f,s6,E,G,s9,rfl,C,h4,zr,e2⟩:=hP;obtain⟨⟨Bb,yj⟩,nb⟩:=p;obtain rfl:nb=_:=e2;have e1:=C.eq;obtain rfl:Bb=_:=e1;have cR:i<(3+r).toNat:=by have:=(aI.mp hx).1;rwa [kB]at this
  show sQ (F:=De (MW A) (mB A)) _ _ _ _ _ [.val (.list (ns.map bM)),.val (iU ns),.val (fJ fs an),.val (pQ S),.val (lL j),.val (lL B),.val x,E,G,s9];refine Yv (λp σ=>p=((⟨kY o,(f:Nat),jJ t⟩,yj),⟨[],0,jJ (.say g)⟩)/\∃E G:Sl,σ=[.val (.list (ns.map bM)),.val (iU ns),.val (fJ fs an),.val (pQ S),.val (lL j),.val (lL B),.val x,E,G,s9]) (λq n=>⟨_,Db,ns,6,Db,X,Cv,Cv,λr _ _=>⟨⟨Db,Db,Da⟩,n _⟩⟩) (λBl hD=>?_) ⟨Db,_,_,Db⟩ ?_
  ·refine⟨.tuple [pQ S,lL j],⟨_,Db⟩,pQ S,⟨_,Db⟩,S,Db,Db,_,Db,_,Db,_,Db,ns,fs,an,o,f,S.dp,S.fw,jJ t,Db,X,C.rw,λb z yg hb=>⟨?_,_,_,Db,?_⟩⟩
   ·show(ndc b&&(true&&true))=true;rw[hb];rfl
   dsimp only[uB];have cz:Cd (.tuple [.str z,.none]):=(rC 8 0 2 (N:=100) (M:=5) (iB (iT yg.z (aM _)) (iB sU pT)) (aM _) Cv Cv).cd Cv;refine G9 false (λq n=>?_) (λz=>by cases z) λ_=>zn (hD _ _ ⟨Db,_,_,Db⟩);refine⟨.tuple [pQ S,lL j],⟨_,Db⟩,lL j,⟨_,Db⟩,_,Db,_,Db,fs,an,j,o,b,z,Db,Db,F,wa,C.bk.kv,yg,_,Db,Da,wB cz cz,?_⟩;have ev:bK (.tuple [.str z,.none]) (.tuple [.str z,.none])=true:=by simp[bK,PyData.eqvAll]
   show(if(!bK (.tuple [.str z,.none]) (.tuple [.str z,.none]))=true then _ else _);rw[ev,a8 Cv];exact xl C h4 n
  rintro _ _ ⟨rfl,E,G,rfl⟩;refine ZO (λp v=>p=((⟨kY o,(f:Nat),jJ t⟩,yj),⟨[],0,jJ (.say g)⟩)/\∃l s x,E7 fs an o f v l s x) (λq n=>⟨.tuple [pQ S,lL j],⟨_,Db⟩,pQ S,⟨_,Db⟩,S,Db,Db,_,Db,_,Db,_,Db,ns,fs,an,o,f,S.dp,S.fw,jJ t,Db,X,C.rw,λb l s y hd hb=>⟨hb,n _ _ ⟨Db,l,s,y,hd⟩⟩⟩) ?_;rintro _ de ⟨rfl,l,s,y,hd⟩;dsimp only[uB]
  have Bw:s<=f+1:=by
   rcases hd with⟨_,_,_,_,rfl,_⟩ | ⟨_,_,_,_,_,rfl,_⟩ | ⟨_,_,_,_,_,_,_,rfl,_⟩
   ·exact aM _
   ·exact pW _
   ·exact pW _
  have xx:s<=50:=by lia
  refine Yt (λp=>∃t',p=((⟨kY l,(s:Nat),jJ t'⟩,⟨kY l,(s:Nat),jJ t'⟩),⟨[],0,jJ (.say g)⟩)/\E8 fs an d (1+fw) S j l t' s p.1/\t'.dep<=4) (λq n=>?_) λp hm=>?_
  ·refine⟨.tuple [pQ S,lL j],⟨_,Db⟩,_,Db,_,Db,_,Db,_,Db,fs,an,d,1+fw,S,j,o,t,f,de,l,s,y,Db,Db,C,d4,h4,hd,xx,λt' hg=>?_⟩;obtain⟨H,J⟩:=C.deed hd xx hg d4;show(if(!true)=true then _ else _);rw[a8 Cv];exact xl H J (n _ ⟨t',Db,H,J⟩)
  ·obtain⟨t',rfl,H,J⟩:=hm;exact zn ⟨l,t',s,_,_,_,_,Db,H,J,Cw,Db⟩
 ·obtain⟨o,t,f,s6,E,G,s9,rfl,C,h4,zr,e2⟩:=hP;obtain⟨Ck,nb⟩:=p;obtain rfl:nb=_:=e2;have ca:Cd (jJ (.say g)):=LQ F (show A8 fs an (.say g)from yp) (cD _);have ev:bK (jJ (.say g)) (jJ (.say g))=true:=(yD _ _).mpr Db;refine⟨lL B,⟨_,Db⟩,_,Db,Db,B,[],Db,Db,Db,Db,Da,⟨Db,Db,Da⟩,true,Db,?_⟩;rw[a9 rfl];refine⟨lL B,⟨_,Db⟩,_,Db,Db,B,Db,Db,_,Db,_,Db,_,L2.gK (by rw[aO,u];rfl),Da,wB ca ca,?_⟩;show Q (.bool (bK (jJ (.say g)) (jJ (.say g))));rw[ev];exact h
def Wl:dI P w K mg base iG 20 fq dh ["_law_script"] (cZ K DE):=Yk T
def aIh{l:bu}{fa:Addr}(a:mg "law"=some (.ref fa)):∃b:iF,(∀s(v:Value),BindsTo s b ⟨[v],[]⟩ [("_law_script",v)])/\∀base:Heap,K.In base->base.Ns eB mg->dI l.prog w K mg base iG 20 fa b ["_law_script"] (cZ K DE):=by
 have e:=a.symm.trans T.D_law.m;cases e;refine⟨dh,?_,λbase _ _=>Wl T⟩;obtain⟨_,_,_,_,_,_,_,_,_,e,_⟩:=T.D_law.F.ex;rw[e]
 exactλs v=>.of_eq Db
omit T
def aOq{K:aF}{h:Heap}{mg:Str->Option Value}(X:K.In h)(G:h.Ns eB mg){c:Addr}
  (ck:fC K eB "JudgeError"=some (some (.ref c)))
  {i:Addr}
  (gs:fC K eB "TooMany"=some (some (.ref i)))
  {g:Addr}
  (gr:fC K eB "NoPlace"=some (some (.ref g)))
  {b:Addr}
  (ju:fC K eB "NoRow"=some (some (.ref b)))
  {a:Addr}
  (ja:fC K eB "NoSuch"=some (some (.ref a)))
  {j:Addr}
  (iy:fC K eB "NoLine"=some (some (.ref j)))
  {l:Addr}
  (jb:fC K eB "NoText"=some (some (.ref l)))
  {k:Addr}
  (iz:fC K eB "NoRule"=some (some (.ref k)))
   {se:ClassData} 
  (yi:K.lookup c=some ⟨c0_J,dd_J,.cls se,sl_J⟩)
   {uo:Array dz} {wg:Nat} 
  (vj:K.lookup se.ns=some ⟨oc_J,od_J,.dict uo wg,os_J⟩)
  (xt:(uo.toList.all λe=>match e.key with | .str _ _=>true | _=>false)=true)
  (vm:fC K se.ns "__init__"=some (none))
  (vk:bJ K c (.type "BaseException")=some true)
  
  (p:gD K c=some cc_JudgeError)
  (q:gA K (.ref c)=some (.type "type"))
  (lf:bJ K c (.ref c)=some true)
  
  (H:gD K i=some cc_TooMany)
  (Q:gA K (.ref i)=some (.type "type"))
  (M:bJ K i (.ref i)=some true)
  
  (B:gD K b=some cc_NoRow)
  (C:gA K (.ref b)=some (.type "type"))
  (fv:bJ K b (.ref b)=some true)
  
  (v:gD K a=some cc_NoSuch)
  (x:gA K (.ref a)=some (.type "type"))
  (dt:bJ K a (.ref a)=some true)
  
  (di:gD K j=some cc_NoLine)
  (dv:gA K (.ref j)=some (.type "type"))
  (dn:bJ K j (.ref j)=some true)
  
  (F:gD K g=some cc_NoPlace)
  (N:gA K (.ref g)=some (.type "type"))
  (J:bJ K g (.ref g)=some true)
  
  (dk:gD K k=some cc_NoRule)
  (dw:gA K (.ref k)=some (.type "type"))
  (dq:bJ K k (.ref k)=some true)
  
  (dm:gD K l=some cc_NoText)
  (dy:gA K (.ref l)=some (.type "type"))
  (du:bJ K l (.ref l)=some true)
  {ki kj:Str} {W:Addr}  {kc jt:Bool} 
  (qt:K.lookup b=some (og ki kj b W bs_NoRow (.ref c::[.type "ValueError",.type "Exception",.type "BaseException",.type "object"]) kc sn_NoRow sub_NoRow jt col_NoRow dd_NoRow k0_NoRow k1_NoRow k2_NoRow k3_NoRow k5_NoRow "ValueError.__new__"))
   {ft:Array dz} {jw:Nat} 
  (kg:K.lookup W=some ⟨oc_NoRow,od_NoRow,.dict ft jw,os_NoRow⟩)
  (R_NoRow:(ft.toList.all λe=>match e.key with | .str _ _=>true | _=>false)=true)
  (kh:fC K W "__init__"=some (none))
  (n:dL K (.ref b) "__getattribute__"=some (some (.builtin "BaseException.__getattribute__")))
  (s:dL K (.ref b) "__getattr__"=some (none))
  (y:dL K (.ref b) "__class__"=some (some (.builtin "object.__class__")))
  (R:bJ K b (.type "object")=some true)
  (f:bJ K b (.type "BaseException")=some true)
  (t:bJ K b (.type "ValueError")=some true)
  (fy:bJ K b (.type "int")=some false)
  (fz:bJ K b (.type "str")=some false)
  (ez:bJ K b (.type "list")=some false)
  (cy:bJ K b (.type "tuple")=some false)
  (ew:bJ K b (.type "bool")=some false)
  (j_NoRow:bJ K b (.ref c)=some true)
  (q_NoRow_TooMany:bJ K b (.ref i)=some false)
  (q_NoRow_NoSuch:bJ K b (.ref a)=some false)
  (q_NoRow_NoLine:bJ K b (.ref j)=some false)
  (q_NoRow_NoPlace:bJ K b (.ref g)=some false)
  (q_NoRow_NoRule:bJ K b (.ref k)=some false)
  (q_NoRow_NoText:bJ K b (.ref l)=some false)
  {jh ji:Str} {z:Addr}  {je iw:Bool} 
  (kf:K.lookup a=some (og jh ji a z bs_NoSuch (.ref c::[.type "ValueError",.type "Exception",.type "BaseException",.type "object"]) je sn_NoSuch sub_NoSuch iw col_NoSuch dd_NoSuch k0_NoSuch k1_NoSuch k2_NoSuch k3_NoSuch k5_NoSuch "ValueError.__new__"))
   {db:Array dz} {jc:Nat} 
  (jf:K.lookup z=some ⟨oc_NoSuch,od_NoSuch,.dict db jc,os_NoSuch⟩)
  (R_NoSuch:(db.toList.all λe=>match e.key with | .str _ _=>true | _=>false)=true)
  (jg:fC K z "__init__"=some (none))
  (m:dL K (.ref a) "__getattribute__"=some (some (.builtin "BaseException.__getattribute__")))
  (o:dL K (.ref a) "__getattr__"=some (none))
  (u:dL K (.ref a) "__class__"=some (some (.builtin "object.__class__")))
  (E:bJ K a (.type "object")=some true)
  (d:bJ K a (.type "BaseException")=some true)
  (r:bJ K a (.type "ValueError")=some true)
  (ey:bJ K a (.type "int")=some false)
  (fc:bJ K a (.type "str")=some false)
  (cx:bJ K a (.type "list")=some false)
  (S:bJ K a (.type "tuple")=some false)
  (cw:bJ K a (.type "bool")=some false)
  (j_NoSuch:bJ K a (.ref c)=some true)
  (q_NoSuch_TooMany:bJ K a (.ref i)=some false)
  (q_NoSuch_NoRow:bJ K a (.ref b)=some false)
  (q_NoSuch_NoLine:bJ K a (.ref j)=some false)
  (q_NoSuch_NoPlace:bJ K a (.ref g)=some false)
  (q_NoSuch_NoRule:bJ K a (.ref k)=some false)
  (q_NoSuch_NoText:bJ K a (.ref l)=some false) :
  Cz K mg (c) (i) (g) (b) (a) (j) (l) (k):={ x_JudgeError:=kC X G ck,x_TooMany:=kC X G gs,x_NoPlace:=kC X G gr,x_NoRow:=kC X G ju,x_NoSuch:=kC X G ja,x_NoLine:=kC X G iy,x_NoText:=kC X G jb,x_NoRule:=kC X G iz,X_NoRow:=⟨⟨n,s,y,R,f⟩,λT hT=>by simp only[aK,bR,e9]at hT;(rcases hT with rfl | rfl | rfl | rfl | rfl<;>first | exact pG XO fy | exact pG XN fz | exact pG PY ez | exact pG K6 cy | exact pG PZ ew)⟩,R_NoRow:=⟨_,_,_,_,_,_,_,_,_,_,_,_,_,_,_,_,_,_,_,_,qt,CO kg R_NoRow,kh,yi,CO vj xt,vm⟩,j_NoRow:=CW p q vk j_NoRow,e_NoRow:=CW B C f fv,v_NoRow:=pG xA t,q_NoRow_TooMany:=pH H Q q_NoRow_TooMany M,q_NoRow_NoRow:=K8,q_NoRow_NoSuch:=pH v x q_NoRow_NoSuch dt,q_NoRow_NoLine:=pH di dv q_NoRow_NoLine dn,q_NoRow_NoPlace:=pH F N q_NoRow_NoPlace J,q_NoRow_NoRule:=pH dk dw q_NoRow_NoRule dq,q_NoRow_NoText:=pH dm dy q_NoRow_NoText du,X_NoSuch:=⟨⟨m,o,u,E,d⟩,λT hT=>by simp only[aK,bR,e9]at hT;(rcases hT with rfl | rfl | rfl | rfl | rfl<;>first | exact pG XO ey | exact pG XN fc | exact pG PY cx | exact pG K6 S | exact pG PZ cw)⟩,R_NoSuch:=⟨_,_,_,_,_,_,_,_,_,_,_,_,_,_,_,_,_,_,_,_,kf,CO jf R_NoSuch,jg,yi,CO vj xt,vm⟩,j_NoSuch:=CW p q vk j_NoSuch,e_NoSuch:=CW v x d dt,v_NoSuch:=pG xA r,q_NoSuch_TooMany:=pH H Q q_NoSuch_TooMany M,q_NoSuch_NoRow:=pH B C q_NoSuch_NoRow fv,q_NoSuch_NoSuch:=K8,q_NoSuch_NoLine:=pH di dv q_NoSuch_NoLine dn,q_NoSuch_NoPlace:=pH F N q_NoSuch_NoPlace J,q_NoSuch_NoRule:=pH dk dw q_NoSuch_NoRule dq,q_NoSuch_NoText:=pH dm dy q_NoSuch_NoText du,u_NoRow_NoSuch:=P9 v x d q_NoRow_NoSuch,u_NoSuch_NoRow:=P9 B C f q_NoSuch_NoRow }
def XM{t n:Nat}(l:K.lookup t=some ⟨.type "tuple",none,.seq #[.str "yes" k0,.str "no" k1] n,s⟩):Gv K t ["yes","no"]:=⟨_,_,_,l,Db,Db,Db,(by show 2<=bG;decide),.cons ⟨_,Db⟩ (.cons ⟨_,Db⟩ (.nil))⟩
def W7:aV H (mask H []):=λb o e=>by
 unfold mask;rw[a8 Cy];exact e
theorem GK{K}:∀ns:List Int,Reps K H (ns.map bM) (ns.map V.int)
|[]=>.nil
|n::ns=>.cons (.int n) (GK ns)
def aQf{l:bu}{g:(Str->Option Value)->Heap->Prop}{b:f7->Heap->Prop}{d:DefRec}{K:Params->aF}(t:l.most=some 63)(c:d.params.defaults=[])
  (m:∀(w:f7)(h:Heap),b w h->(K w.params).In h) (j:∀(w:f7)(h:Heap),b w h->∀P,tabA=some P->h.get? P=some { cls:=.none,data:=.fields #[] }/\(K w.params).lookup P=none/\bf h P)
  (F:∀(w:f7)(mg:Str->Option Value)(fa:Addr)(h:Heap),(K w.params).In h->h.Ns eB mg->mg d.name=some (.ref fa) ->
   ∃e:iF,(∀s(u:Value),BindsTo s e ⟨[u],[]⟩ [("_law_script",u)])/\∀base:Heap,(K w.params).In base->base.Ns eB mg->dI l.prog w (K w.params) mg base iG 20 fa e ["_law_script"] (cZ (K w.params) DE)) :
  ZI q loose g b l.row.toRowW d [] (λf vs=>ir f vs):=
 L2.ZS (n:=63) (k:=20) (x:="_law_script") (CX:=λ_=>iG) (sp:=λw=>cZ (K w.params) DE) t Cv c ⟨Db,Cv,Cv,Db⟩ m j F
  (λw H a ns o _ i=>⟨[],[.list (ns.map bM)],λd=>d=.bool true,λp y=>by simp at y,.cons (.list (L2.aV.seq W7 i) (GK ns)) .nil,⟨ns,Db,o,Db⟩,λd v B _ r q=>by subst q;cases r;rfl⟩) λ_ _ _ _ _ z=>z
end
end K70
open L2
namespace PySem.W.Fast
theorem mt:True:=⟨⟩
def tw17283983540636634628:=mt
def tw4416608000377661544:=mt
def tw13408605766212499113:=mt
def tw11828312596136889021:=mt
def tw18195855468212817896:=mt
def tw343124220966538836:=mt
def tw4329570449563556614:=mt
def tw8391962668455968547:=mt
def tw15289748930796759230:=mt
def tw13199107088267335267:=mt
def tw8759124568575731028:=mt
def tw10998619498343932782:=mt
def tw3192046537930690708:=mt
def tw9725797255546090457:=mt
def tw11297247263078753616:=mt
def tw8088571228777583254:=mt
def tw13389335853727690741:=mt
def tw12078718812477364054:=mt
def tw4916289280993125778:=mt
def tw1157494729281256244:=mt
def tw10687491799124812984:=mt
def tw3972185638546542913:=mt
def tw5845230503316685400:=mt
def tw1077716378386805366:=mt
def tw17714054480158536874:=mt
def tw17980564204550871602:=mt
def tw13413833791158541807:=mt
def tw6073020756532719248:=mt
def tw7090312578839800847:=mt
def tw7739035355909237478:=mt
def tw12040649091836976317:=mt
def tw7229499396045549413:=mt
def tw14417757103769617524:=mt
def tw8688652604555281640:=mt
def tw15835854951120115159:=mt
def tw2662837880724880977:=mt
def tw6909506315301393209:=mt
def tw5760271625627246048:=mt
def tw3583715420660289756:=mt
def tw18147507840324224994:=mt
def tw1922422016797596049:=mt
def tw3888863687080239975:=mt
def tw9761831157507354757:=mt
def tw7392961423411323843:=mt
def tw10980119872892437652:=mt
def tw14894376752224974780:=mt
def tw2598383107858796046:=mt
def tw5190046316795985018:=mt
def tw15764404760661021528:=mt
def tw9726702945866619305:=mt
def tw8564034125416574772:=mt
def tw10657841445349167099:=mt
def tw6399270100322747514:=mt
def tw8225224594631895538:=mt
def tw8547191939419396343:=mt
def tw16809009360831438464:=mt
def tw5435518487644239210:=mt
def tw2869221688268407338:=mt
def tw15638797374691193343:=mt
def tw2076932910477606296:=mt
def tw13834492335167270916:=mt
def tw17384724719732998883:=mt
def tw4600690498000109837:=mt
def tw17178763461344473700:=mt
def tw14469411214954584120:=mt
def tw12301635745763866541:=mt
def tw1099348684296384327:=mt
def tw6836475803018094874:=mt
def tw15563999868132408356:=mt
def tw12344037166755772603:=mt
def tw17796570601146855928:=mt
def tw2705820327502184243:=mt
def tw7964313741117008051:=mt
def tw3606384325071846366:=mt
def tw16732709527880207826:=mt
def tw16075471823774230542:=mt
def tw2674366291606885878:=mt
def tw13198473518098271396:=mt
def tw430326130663944773:=mt
def tw630602764169915017:=mt
def tw1093995397399010801:=mt
def tw2063726536199509208:=mt
def tw16227758108826486439:=mt
def tw13319826256468431164:=mt
def tw4360432820278708507:=mt
def tw297353094733663551:=mt
def tw1357144706743591361:=mt
def tw10358356661113607351:=mt
def tw12077633471529812108:=mt
def tw5567757623633566907:=mt
def tw15848228337546217989:=mt
def tw17776050090296174563:=mt
def tw15218918065463911802:=mt
def tw13128666488562082054:=mt
def tw13017945471767237313:=mt
def tw1867546020082706778:=mt
def tw2797509612800735218:=mt
def tw4873492512722556730:=mt
def tw9596483279096063967:=mt
def tw11088113077767976702:=mt
def tw12300469849663339900:=mt
def tw847889181669718345:=mt
def tw7569490478973949899:=mt
def tw2489996510945671263:=mt
def tw16770751984049568591:=mt
def tw7774715365767303379:=mt
def tw6606782349486527031:=mt
def tw1869743676384501063:=mt
def tw11020553671319445729:=mt
def tw11693380650604256903:=mt
def tw2228573736024503520:=mt
def tw16997466744391343857:=mt
def tw2083503933368436225:=mt
def tw17508565142750100883:=mt
def tw7874270551512399416:=mt
def tw6433574815166794896:=mt
def tw1761997460037421394:=mt
def tw12379978479715913824:=mt
def tw7597758356203947882:=mt
def tw10470684350315463429:=mt
def tw4330760851428288094:=mt
def tw4472300025701464738:=mt
def tw18373831396402139397:=mt
def tw7240923477700057563:=mt
def tw1142285945894658201:=mt
def tw6172933275704264412:=mt
def tw16872718425796817059:=mt
def tw6043903591092312896:=mt
def tw12457814446687348172:=mt
def tw7795391470488294888:=mt
def tw732483082387842929:=mt
def tw1680525382129805150:=mt
def tw5437248576670715802:=mt
def tw13521133592176329965:=mt
def tw10817373908240937040:=mt
def tw9141739649751464672:=mt
def tw17879295897645950022:=mt
def tw7936633098860769313:=mt
def tw5215158195679812344:=mt
def tw6797932089611161337:=mt
def tw541111623024155395:=mt
def tw1972113209710779612:=mt
def tw1804160836556277689:=mt
def tw11674672006819995968:=mt
def tw7419498050735375095:=mt
def tw7270159002811346266:=mt
def tw6173602862985623956:=mt
def tw8404659345809692731:=mt
def tw8337205269240914921:=mt
def tw3525587320173624705:=mt
def tw14708578149431332415:=mt
def tw15534079136625620865:=mt
def tw10628329680424822831:=mt
def tw5745989411348869168:=mt
def tw13112234325863307762:=mt
def tw9698757581430159808:=mt
def tw4723723613365643732:=mt
def tw17648908665019889644:=mt
def tw13355583680863389605:=mt
def tw13957979091376716525:=mt
def tw1219747394585236250:=mt
def tw880497824883117449:=mt
def tw11234955262166012011:=mt
def tw16819394350894633663:=mt
def tw5062075147723731226:=mt
def tw11351336177606249911:=mt
def tw15289374502849241048:=mt
def tw13249171078496081631:=mt
def tw2227664775924754196:=mt
def tw14073180665339990168:=mt
def tw8335099826076365727:=mt
def tw4818976217377259892:=mt
def tw12894240508033059018:=mt
def tw6521150434098662515:=mt
def tw12272756842959296991:=mt
def tw15755227885846728634:=mt
def tw512093709113112429:=mt
def tw13355092810061160383:=mt
def tw10143831051801233281:=mt
def tw11472756055258422877:=mt
def tw17559824964146089545:=mt
def tw8243685245183837848:=mt
def tw8418583977064770777:=mt
def tw14740611594567477807:=mt
def tw14061094096206754549:=mt
def tw919353730689408891:=mt
def tw8344069341824225318:=mt
def tw17161199935131784714:=mt
def tw2259443530897977081:=mt
def tw1140871062232131257:=mt
def tw16204728484529441588:=mt
def tw16376070526449187426:=mt
def tw11454807032299818532:=mt
def tw9825761340536362074:=mt
def tw5311743464209771077:=mt
def tw5636335085269342751:=mt
def tw17772025286355071078:=mt
def tw16254072219786265494:=mt
def tw13483982874037799349:=mt
def tw1364933638188039057:=mt
def tw16264048017386259487:=mt
def tw3527975652423708785:=mt
def tw3234316242728904543:=mt
def tw2137720940061772780:=mt
def tw5454366941988770213:=mt
def tw17665848417118404326:=mt
def tw5379830317600351608:=mt
def tw18091135405731496008:=mt
def tw4526864861267097022:=mt
def tw4475617860642235074:=mt
def tw2839440928183767738:=mt
def tw5532366303747502056:=mt
def tw1567103661464577662:=mt
def tw4540710485518684813:=mt
def tw4990488109245346425:=mt
def tw2872716468458114854:=mt
def tw4531070483322833796:=mt
def tw16479334342265405547:=mt
def tw2117503800669129375:=mt
def tw10418624430965727579:=mt
def tw12257499002434657860:=mt
def tw14642859452351549368:=mt
def tw5042217507288460527:=mt
def tw7844396311130045630:=mt
def tw8899093866116509917:=mt
def tw13995034422253311846:=mt
def tw4030028300855408191:=mt
def tw8436927461378083507:=mt
def tw9278338687920581605:=mt
def tw11068609547301644815:=mt
def tw1319647292820310430:=mt
def tw13847885051560192566:=mt
def tw15812262403721925625:=mt
def tw13383562906265105920:=mt
def tw13616133805656271955:=mt
def tw599547992128660715:=mt
def tw5510933972151393161:=mt
def tw16013027153862647493:=mt
def tw7738253697014296689:=mt
def tw4604216055643136524:=mt
def tw183972045054562053:=mt
def tw16642913815982230376:=mt
def tw7800672134531049178:=mt
def tw11835408788910588596:=mt
def tw4330697894271358589:=mt
def tw16556335892554435872:=mt
def tw18144150133158279718:=mt
def tw6936584472704832143:=mt
def tw10084722556009611515:=mt
def tw4592173541259547929:=mt
def tw3414685211269661143:=mt
def tw3534077655613413015:=mt
def tw1758894657568616626:=mt
def tw10186100202231190376:=mt
def tw3202242095950728327:=mt
def tw1247930901128217548:=mt
def tw9894063876874158191:=mt
def tw8136496609603796932:=mt
def tw7824733629370795259:=mt
def tw12988100051717193276:=mt
def tw5708190072169593780:=mt
def tw15263499216967935185:=mt
def tw3309507405296261899:=mt
def tw6604310972673364514:=mt
def tw1963161274231646619:=mt
end PySem.W.Fast
open PySem PySem.W PyProof.Rows
set_option maxRecDepth 100000 in
set_option maxHeartbeats 0 in
theorem PySem.Challenge.cw_leafjudge_k70_whole_books_grown_anew_holds : PySem.Challenge.rw_leafjudge_k70_whole_books_grown_anew.Holds := by
  w_on; o_law; k_head; (case hw => w_witness2)
  k_fill
  refine K70.aQf (l := PySem.Challenge.rw_leafjudge_k70_whole_books_grown_anew) rfl rfl (λw h Y => PySem.W.km_in_of Y) (λw h Y P e => ?T) ?F
  case T =>
    cases e
    exact ⟨km_tabs_of Y 266 (aN ..), by kernel_rfl, L2.aF7 (codeHd_of_K (c := 268) (P := 266) (km_in_of Y) (by kernel_rfl)) (km_tabs_of Y 266 (aN ..))⟩
  case F =>
    intro w mg fa h KX G oT
    refine' K70.aIh ⟨K70.aOq KX G ?_ ?_ ?_ ?_ ?_ ?_ ?_ ?_ ?_ ?_ ?_ ?_ ?_ ?_ ?_ ?_ ?_ ?_ ?_ ?_ ?_ ?_ ?_ ?_ ?_ ?_ ?_ ?_ ?_ ?_ ?_ ?_ ?_ ?_ ?_ ?_ ?_ ?_ ?_ ?_ ?_ ?_ ?_ ?_ ?_ ?_ ?_ ?_ ?_ ?_ ?_ ?_ ?_ ?_ ?_ ?_ ?_ ?_ ?_ ?_ ?_ ?_ ?_ ?_ ?_ ?_ ?_ ?_ ?_ ?_ ?_ ?_ ?_ ?_ ?_ ?_ ?_ ?_ ?_ ?_ ?_,mg_of KX G ?_,⟨?_, ?_, ?_, ?_⟩,⟨?_, ?_, ?_, ?_⟩,na ?_,na ?_,na ?_,na ?_,na ?_,na ?_,⟨?_, ?_, ?_⟩,⟨?_, ?_, ?_⟩,⟨?_, ?_, ?_⟩,⟨?_, ?_, ?_⟩,⟨?_, ?_, ?_⟩,⟨?_, ?_, ?_⟩,⟨?_, ?_, ?_⟩,⟨?_, ?_, ?_⟩,dg Eh ?_ ?_ ?_,dg AL ?_ ?_ ?_,dg AL ?_ ?_ ?_,dg ZD ?_ ?_ ?_,dg TW ?_ ?_ ?_,dg TW ?_ ?_ ?_,dg AL ?_ ?_ ?_,dg AL ?_ ?_ ?_,dg TW ?_ ?_ ?_,df KX G ZD ?_ ?_ ?_ ?_,df KX G AL ?_ ?_ ?_ ?_,df KX G AL ?_ ?_ ?_ ?_,df KX G TW ?_ ?_ ?_ ?_,df KX G AL ?_ ?_ ?_ ?_,df KX G AL ?_ ?_ ?_ ?_,df KX G AL ?_ ?_ ?_ ?_,df KX G AL ?_ ?_ ?_ ?_,df KX G AL ?_ ?_ ?_ ?_,df KX G AL ?_ ?_ ?_ ?_,df KX G AL ?_ ?_ ?_ ?_,df KX G TW ?_ ?_ ?_ ?_,df KX G TW ?_ ?_ ?_ ?_,df KX G TW ?_ ?_ ?_ ?_,df KX G TW ?_ ?_ ?_ ?_,df KX G Eh ?_ ?_ ?_ ?_,df KX G AL ?_ ?_ ?_ ?_,df KX G ZD ?_ ?_ ?_ ?_,df KX G AL ?_ ?_ ?_ ?_,df KX G Eh ?_ ?_ ?_ ?_,df KX G AL ?_ ?_ ?_ ?_,df KX G AL ?_ ?_ ?_ ?_,df KX G ZD ?_ ?_ ?_ ?_,df KX G AL ?_ ?_ ?_ ?_,df KX G ZD ?_ ?_ ?_ ?_,df KX G Eh ?_ ?_ ?_ ?_,df KX G TW ?_ ?_ ?_ ?_,df KX G AL ?_ ?_ ?_ ?_,df KX G TW ?_ ?_ ?_ ?_,df KX G AL ?_ ?_ ?_ ?_,df KX G AL ?_ ?_ ?_ ?_,df KX G ZD ?_ ?_ ?_ ?_,df KX G ZD ?_ ?_ ?_ ?_,df KX G AL ?_ ?_ ?_ ?_,df KX G TW ?_ ?_ ?_ ?_,df KX G AL ?_ ?_ ?_ ?_,df KX G AL ?_ ?_ ?_ ?_,df KX G Eh ?_ ?_ ?_ ?_,df KX G AL ?_ ?_ ?_ ?_,df KX G AL ?_ ?_ ?_ ?_,df KX G AL ?_ ?_ ?_ ?_,df KX G ZD ?_ ?_ ?_ ?_,df KX G ZD ?_ ?_ ?_ ?_,df KX G ZD ?_ ?_ ?_ ?_,df KX G Eh ?_ ?_ ?_ ?_,df KX G AL ?_ ?_ ?_ ?_,df KX G TW ?_ ?_ ?_ ?_,mg_of KX G ?_,K70.XM ?_,mg_of KX G ?_,Xf ?y_31 rfl,j5 KX G ?_,j5 KX G ?_,j5 KX G ?_,j5 KX G ?_,j5 KX G ?_,j5 KX G ?_,j5 KX G ?_,j5 KX G ?_,j5 KX G ?_,j5 KX G ?_,j5 KX G ?_,j5 KX G ?_,j5 KX G ?_,j5 KX G ?_⟩ oT
    (case y_31 => kernel_rfl)
    all_goals first | k_is | rfl | decide | with_unfolding_all rfl | skip

end
end
noncomputable section