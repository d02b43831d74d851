import PyProof.Rows.All
import Wide.All
import OpenK.AllK
import Wide.FinOn
import Lean
import PyProof.EqAt
import PyProof.EqKinds
import PyProof.TupleCall
import PyProof.P3In
import PyProof.NeData
import KE.KSortKey
import PyProof.Rows.SortRuns
import KE.KLam
import KE.KNestM
import PyProof.FitsReplace
import PyProof.StrBlockL
import KE.KDictList
import KE.KItemsList
import PyProof.DictWalks
import PyProof.DictRoadsH
import PyProof.DictCopy
import PyProof.NsDelKeeps
import KE.KTryMore
import PySem.Challenge.RW_leafjudge_k92_whole_books_grow_anew
set_option Elab.async false
set_option linter.all false
set_option compiler.extract_closed false
set_option maxRecDepth 100000
open Option.some renaming inj->d7
open Classical renaming choose_spec->d9,choose->i0
open PySem.Value renaming ref->e7,none->j9,int->v4,type->y4,str->di,builtin->ed,bool->eh,float->oh
open PySem.Str renaming ofString->e8,length->bx
open PySem renaming bootBuiltins->g6,compareOp->g8,Around->g9,wpAny_field->i9,World->j0,attributeBase->k7,behindInMarks->k8,mem_of_lookup->l0,wpAny_truthy_bool->l5,foldedSetIterable->m4,wpAny_callSpecial?_slot->m6,backTo->m9,binaryOp->o9,sysModules->r8,wpAny_pyIter_list->t8,wpAny_seqItems->u3,wpAny_setField_rec->u6,NameKind->u9,wpAny_passesOwn->v0,rawInt->y8,letOwnedTupleGo->z4,builtinsNs->z5,wpAny_Call_Name_kw->z7,wpAny_rule->z8,wpAny_getItem_str_slice->z9,wpAny_execs_cons->ak,Builtin->am,cLine->aq,sliceBounds->au,wpAny_execs_nil->az,codeAny->bb,cellsFrom->bh,call_meets->bi,wpAny_setField->bq,PyData->bt,IsZip->bu,getItem->bw,wpAny_holding->cm,assignEach->dq,codeAny_mono->dt,wpAny_typeOf->dy,post_val_or_str->ee,isCodeTable->fx,recursionLimit->fz,wpAny_updateSeq_pair->gf,valueAt->gm,ExceptHandler->ic,wpAny_onRaise->ig,tupleKind_room_in1->ja,wpAny_pyIter_tuple->jb,callerA->jf,concat_meets->jg,leaving->jm,DictEntry->ka,assign->ki,getMethod->km,noFill_tuple_add->kx,noteFrame->lf,pushCells->lg,tupleKind->lh,keywordEach->lx,sizeLine_eq->lz,subscripted->ma,wpAny_letGo->md,Within->mf,wpAny_loadPart'->mz,holding->nt,standAt->nv,ZipApart->oi,atKey->ou,field->qd,newFunctionEnv->qk,pyNext->ql,wpAny_call->qp,call->qy,seq_tuple_add->tx,wpAny_attempt->ua,wpAny_comprehension_free->uc,wpAny_newList->ud,lastMarks->ul,call_meetsIn->uu,wpAny_isTrue_Compare1->xf,again->zb,backToKw->zc,excClassObj->zg,pyIter->Eb,sliceRange->Ed,stored->Ee,typeIs_int->Ef,typeIs_str->Eg,wpAny_Name->Eh,wpAny_load->Ei,wpAny_Assign_Name->Fi,wpAny_assign_Name->Fj,wpAny_pyIter_enum->Fk,wpAny_sequenceKey->Fl
open PySem.Builtin.SmallTypes renaming nextOf->g7,ownedTupleIsFree->l7,ownedTupleHandOut->av
open PySem.NameKind renaming cell->h8,free->j1
open PySem.Obj renaming mapSeq->i7,mapFields->y0,data_mapFields->y7,isFreed_of_fields->cu,cls_mapFields->wt
open True renaming intro->i8
open PyProof.Rows renaming seqObj->j2,wpS_bind->j3,envOfC->l3,wpS_pure->m3,slot_tuple_getitem->m8,callWith_type1->t9,reverseSlice'->ao,AllBare->ba,wpS_forRange->bd,arrOf->cw,Keyed->dz,pendingOf->gl,listUpdate_at->ie,get?_update_seq->mj,failedOf->qc,wpS_modify->qq,subscriptTail->tz,subscriptTail_builtinR->wq,wpS_mono->Bu,entry_tuple_getitem->Ca,Subscript_->Cu,args_tuple_getitem->Cv,setPending->Ec,IsTup->Ej,wpS_get->Fm
open ForInStep renaming yield->j6,done->af
open False renaming elim->j8
open PySem.W renaming mg_none_of->l4,OpenLaw->gn
open PySem.Builtin.List renaming listTooLong->m7
open Ne renaming symm->n8
open PySem.Builtin.Slice renaming slicePlaces->u4,sliceAdjust->aa,sliceApplied->ef
open PySem.Builtin.Tuple renaming tupleExact->u5,tupleItemsOf->eg
open Sum renaming inl->u7,inr->gp
open PySem.Builtin.Str renaming occurrences->v7,strSliceIndices->fg
open Or renaming inr->v8,inl->y9
open PySem.F renaming slot_tuple_iterator_next->w5,slot_zip_next->dh,args_tuple_iterator_next_1->kg,entry_tuple_iterator_next->lq,typeOf_object_class->uf,args_zip_next_1->Bv
open PySem.PassesOwn renaming never->bf
open PySem.Paired renaming length->dm
open PySem.Around renaming under->ff,frames_deeper->ni,under_plainId->nj
open Sum.inl renaming inj->gh
open LawfulBEq renaming eq_of_beq->gj
open PySem.Calls renaming Name_function_global->jd,callWith_builtin->me,evalArgs_plain->nz
open PySem.EntryCells renaming newEntry->kf
open PySem.Code renaming isFrame->nk
open PySem.Shared renaming heap->nn
open PySem.Data renaming fields->qt
open PySem.Walks renaming list->qz
open PySem.SeqAt renaming readOf->wl,readsAll_map->wm,items_eqAt->EM
open ForIn renaming forIn->Es
def a8:=@if_neg
def b8:=@if_pos
def c6:=@decide_eq_true
def c7:=@absurd
def c8:=@of_decide_eq_true
def c9:=@decide_eq_false
def f9:=@decide_eq_true_eq
def j5:=@congrArg
def l9:=@or_false
def t7:=@of_decide_eq_false
def u8:=@decide_eq_decide
def v9:=@if_true
def x8:=@if_false
def cq:=@decide_eq_true_iff
def du:=@decide_true
def gi:=@decide_false
def gk:=@getElem?_pos
def lr:=@beq_iff_eq
open List renaming length_map->aB,getElem?_eq_getElem->aD,getElem?_eq_some_iff->aF,mem_cons_of_mem->aJ,getElem?_map->aL,mem_cons_self->aO,mem_cons->aP,getElem?_set_ne->aQ,getElem?_set_self->aR,mem_map->bC,size_toArray->bF,mem_of_getElem?->bH,length_filter_le->bK,length_take->bL,mem_singleton->bM,map_map->bN,length_append->bO,map_append->bQ,map_cons->bR,mem_filter->cC,append_nil->cJ,getD_eq_getElem?_getD->cL,take_add_one->cM,not_mem_nil->cO,getElem?_of_mem->cT,mem_append_right->cZ,take_length->dF,filter_cons->dM,mem_append->dQ,replicate->dW,lookup_cons->dX,length_cons->dY,mem_of_mem_take->eE,getElem?_append_left->eK,length_drop->eM,getElem?_eq_none->eW,getElem?_append_right->eX,filter_append->fB,getElem_mem->fF,map_congr_left->fK,all_eq_true->fV,range->fZ,sum_cons->gI,append_assoc->hV,flatten_cons->iY,nodup_cons->iZ,find?_cons->jA,replicate_succ->jH,map_nil->jI,getElem?_zip_eq_some->jV,foldl_cons->kC,lookup->kF,getElem?_range->kT,filterMap_cons->kU,getElem?_replicate->kY,length->lK,take_of_length_le->lM,ext_getElem?->mC,idxOf_lt_length_iff->nA,getElem?_take->nD,getElem?_drop->nE,pairwise_map->nX,length_singleton->oM,any_eq_true->oN,Perm->oO,any_cons->oY,mem_append_left->pC,mem_range->qJ,getElem_idxOf->qK,length_range->rQ,filter_congr->rR,set->sT,length_eq_zero_iff->sU,forIn_cons->uH,filter_nil->uI,mem_of_mem_drop->vW,mem_iff_getElem->vX,map_take->xV,take_sublist->zR,length_eq_countP_add_countP->zS,foldl_append->zU,map_id->C9,range_succ->DD,of_mem_zip->DE,nil_append->DF,length_nil->DG,filter_map->DH,countP_eq_length_filter->DI,take_zero->FL,map->FM,forIn_nil->FN,drop_zero->FO,pairwise_iff_getElem->HC,getElem?_eq_none_iff->HD,Pairwise->HJ,getElem?_cons_succ->J2,flatten_singleton->KA,drop_eq_nil_of_le->KB,countP_le_length->MH,filter->OF,mem_map_of_mem->QS,flatten_append->QT,flatMap_append->QU,zip_cons_cons->Q9,mem_filterMap->RA,foldl->RB,filterMap_map->RC,getElem?_inj->W0,flatMap_cons->W1,zipIdx_cons->XE,getElem_inj->XF,cons_append->XG,zipIdx_nil->aA8,sum_append->aA9,length_set->aBa,countP_map->aBb,any_append->aBc,find?_map->aDb,set_set->aGv,all_map->aGw,range'->aMx,Nodup->aNj
open Nat renaming le_of_ble_eq_true->aC,le_refl->aN,le_trans->aX,lt_of_lt_of_le->bP,ne_of_lt->cI,zero_le->cU,lt_irrefl->eT,pow_le_pow_right->fT,mul_left_comm->gF,ne_of_gt->gS,mul_le_mul->iD,le_of_lt->iE,mul_comm->jK,mul_assoc->jL,le_of_eq->lR,lt_succ_self->mR,lt_trichotomy->oB,not_lt_zero->pV,mul_lt_mul_of_pos_right->pX,lt_of_mul_lt_mul_right->qX,lt_of_le_of_lt->qY,mul_pos->rV,lt_succ_of_lt->rW,add_mul->rX,gcd_pos_of_pos_right->sQ,lt_asymm->uG,min_eq_left->vH,le_succ->wM,gcd_dvd_right->AQ,min_eq_right->C8,not_lt->HA,div_eq_of_eq_mul_right->HB,mul_div_cancel_left->J9,zero_add->ME,sub_zero->MF,lt_trans->MG,mul_le_mul_right->QR,le_succ_of_le->XD,le_max_right->aA6,le_add_right->aA7,le_max_left->aC9,div_le_self->aDa,le_of_dvd->aGt,dvd_trans->aGu,zero_mul->aMr,sub_self->aMs,pow_succ->aMt,gcd_comm->aMu,div_zero->aMv,add_comm->aMw,one_mul->aNh,log2_lt->aNi
open PySem renaming wpAny_bind->aE,wpAny_pure->aV,sizeLine->bE,starEach->bI,Program->dD,wpAny_mono->eF,mainGlobals->fD,wpAny_newObj_type->iI,FuncData->iK,wpAny_call_entry->lQ,swapsWith->mJ
open PySem.Heap renaming get?_push_of_some->aG,lt_size->aY,get?_push_size->aZ,size_push->fE,SameBut->fL,get?_update_other->hX,get?_none_of_le->pD,get?_update_self->vI,size_update->A9,DictOf->DA,IsTuple->KC,Ns->W2,ExtBut->aM0
open PySem.W renaming Frag->aI,mroIn->bT,kitOne->cV,findIn->dU,kia_one->eJ,keepIn->gD,exmOne->gE,emptyDict->gZ,nsIn->iN,instObj->jS,clsIn->kB,typeIn->kR,kitMeta->lI,InstAt->mB,fnOf->nS,looks_findIn->oK,codeIn->pT,callWith_K->pU,kitx_list->qI,mg_of->qU,plainGet->rO,envX->sO,methodCall_KW->sY,nsOkIn->uD,lookIn->uE,kitCls->uF,plainGet_of->vL,methodObj->xT,hasDictIn->xU,codeHdIn->yT,takerIn->AM,kla_obj->AN,Looks->DZ,isFn->G7,cellsFrom_some->G8,kitx_tuple->MC,isNs_of_in->MD,plainOver->OA,kitx_dict->OB,handedIn->QP,makesIn->Q7,notCls->WY,CodeHd->WZ,subIn->XB,WalkO->XC
open PySem.PyData renaming str->aS,int->aW,eqv->bX,canLayAll0->eL,depthAll->eV,tuple->fA,hasDictAll->lX,list->mD,dict->qW,bulkAll->vG,none->AO,leavesShortAll->J1,bool->J8,showableAll->OC,strOk->aC8
open Bool renaming false_ne_true->bV,and_eq_true->dG,eq_iff_iff->eN,false_eq_true->fC,true_and->xW,or_eq_true->DJ,false_and->FP,eq_false_iff->W3,and_false->aDc,or_false->aGm,not_true->aGn
open PySem.F renaming plainAttrs_list->bY,type_list_append->cW,slot_list_append->cX,type_tuple_index->mO,slot_tuple_index->mP,plainAttrs_tuple->mQ,plainAttrs_dict->mZ,args_tuple_add_2->qV,entry_tuple_add->rP,slot_tuple_add->sP,slot_dict_pop->sZ,type_list_extend->D0,slot_list_extend->D1,slot_dict_values->D2,type_list_index->FH,slot_list_index->FI,slot_dict_items->FJ,plain_list_iadd->FK,type_dict_pop->HI
open Int renaming emod_lt_of_pos->cH,emod_nonneg->cN,natCast_mul->eO,toNat_natCast->iF,natCast_add->lY,ofNat->nT,le_refl->pI,natCast_ediv->tD,fdiv_eq_ediv_of_nonneg->HE,add_mul->QW,ofNat_lt->aMy,add_zero->aMz
open Option renaming map_eq_some_iff->dL,bind_eq_some_iff->G9,isSome_some->OD,filter_some->OE,isSome_map->QQ,getD_none->Q8
open Array renaming length_toList->fG,getElem?_toList->jO,getElem?_eq_some_iff->mI,getElem?_eq_none->nU,getElem?_setIfInBounds_ne->zV,toList_append->OG,forIn_toList->QX,find?_toList->QY,append_assoc->QZ,size_append->RD,all_toList->W4,toList->aGo
section
open PySem PySem.Spec PyProof.Rows
namespace SS
structure GS(a0:Array dz)(g:Nat->Nat)(pd:Array (Nat×Nat×Nat))(st:SortSt):Prop where
 size:(cw st).size=a0.size
 get:∀p,p<a0.size->(cw st)[p]?=a0[g p]?
 rng:∀p,p<a0.size->g p<a0.size
 kind:kindOf st=oneType'
 fail:qc st=none
 pend:gl st=pd
def Lx(a0:Array dz)(i j:Nat):Prop:=K a0 i<K a0 j\/(K a0 i=K a0 j/\i<j)
def Sd(a0:Array dz)(g:Nat->Nat)(lo hi:Nat):Prop:=∀p q,lo<=p->p<q->q<hi->Lx a0 (g p) (g q)
def In(g:Nat->Nat)(lo hi:Nat):Prop:=∀p,lo<=p->p<hi->lo<=g p/\g p<hi
noncomputable def yY(g:Nat->Nat)(i j:Nat):Nat->Nat:=λk=>if i<=k/\k<j then g (i+j-1-k)else g k
noncomputable def bub(g:Nat->Nat)(src a:Nat):Nat->Nat:=λk=>if k=a then g src else if a<k/\k<=src then g (k-1)else g k
section
variable{prog:dD}{w:j0}{A:g9}{E:Value->Shared->Prop}{s:Shared}{a0:Array dz}{g:Nat->Nat}{pd:Array (Nat×Nat×Nat)}{st:SortSt}
def L5(b:IntKeys a0){i:Nat}(hi:i<a0.size):∃t q,a0[i]?=some (.int (K a0 i) t,q):=by
 obtain⟨n,t,hn⟩:=b a0[i] (by simp);have e:a0[i]?=some a0[i]:=gk _ i hi;refine⟨t,a0[i].2,?_⟩;have a:a0[i]=(.int n t,a0[i].2):=Prod.ext hn rfl;unfold K;rw[e,a]
 rfl
def GS.mirr(h:GS a0 g pd st){i j:Nat}(b:j<=a0.size):GS a0 (yY g i j) pd (setArr st (mirror (cw st) i j ((j-i) / 2))) where
 size:=(mirror_size _ _ _ _).trans h.size
 get:=λp a=>by
  refine(getElem?_mirror_all (by rw[h.size];exact b) p).trans ?_;unfold yY;split
  ·exact h.get _ (by lia)
  ·exact h.get _ a
 rng:=λp a=>by
  unfold yY;split
  ·exact h.rng _ (by lia)
  ·exact h.rng _ a
 kind:=h.kind
 fail:=h.fail
 pend:=h.pend
def GS.bubb(h:GS a0 g pd st){src a:Nat}(hs:src<a0.size)(hd:a<=src):GS a0 (bub g src a) pd (setArr st (bubble (cw st) src (src-a))) where
 size:=(bubble_size _ _ _).trans h.size
 get:=λp b=>by
  refine(getElem?_bubble (by rw[h.size];exact hs) _ (by lia) p).trans ?_;rw[show src-(src-a)=a by lia];unfold bub;split
  ·exact h.get _ hs
  ·split
   ·exact h.get _ (by lia)
   ·exact h.get _ b
 rng:=λp b=>by
  unfold bub;split
  ·exact h.rng _ hs
  ·split
   ·exact h.rng _ (by lia)
   ·exact h.rng _ b
 kind:=h.kind
 fail:=h.fail
 pend:=h.pend
def wT{p q:Nat}{Q:Option Bool->SortSt->Prop}(h:GS a0 g pd st)(a:IntKeys a0)(b:p<a0.size)(c:q<a0.size)
  (k:Q (some (decide (K a0 (g p)<K a0 (g q)))) st):wpS (model prog w) A E s (ltAt' p q) Q st:=by
 obtain⟨t,x,d⟩:=L5 a (h.rng p b);obtain⟨u,y,e⟩:=L5 a (h.rng q c);exact wpS_ltAt h.kind ((h.get p b).trans d) ((h.get q c).trans e) k
noncomputable def QH(lo a c:Nat):StateT SortSt Sem AscSt:=
 Es [a:c] ((none,a):AscSt) λ_ z=>do
  let x <- ltAt' (lo+z.snd) (lo+z.snd-1)
  match x with
  |some b=>if b=true then pure (af (none,z.snd))else pure (j6 (none,z.snd+1))
  |_=>pure (af (some none,z.snd))
noncomputable def EA(lo n a:Nat):StateT SortSt Sem (Option Nat):=do
 ao lo (lo+n)
 let z <- QH lo n a
 match z.fst with
 |some r=>pure r
 |none=>pure (some z.snd)
noncomputable def NX(lo n a:Nat):StateT SortSt Sem DescSt:=
 Es [n:a] ((none,n,0):DescSt) λ_ z=>do
  let x <- ltAt' (lo+z.snd.fst) (lo+z.snd.fst-1)
  match x with
  |some b=>
   if b=true then
    if z.snd.snd>0 then do
     ao (lo+z.snd.fst-(z.snd.snd+1)) (lo+z.snd.fst)
     pure (j6 (none,z.snd.fst+1,0))
    else pure (j6 (none,z.snd.fst+1,0))
   else do
    let x <- ltAt' (lo+z.snd.fst-1) (lo+z.snd.fst)
    match x with
    |some c=>
     if c=true then pure (af (none,z.snd.fst,z.snd.snd))
     else pure (j6 (none,z.snd.fst+1,z.snd.snd+1))
    |_=>pure (af (some none,z.snd.fst,z.snd.snd))
  |_=>pure (af (some none,z.snd.fst,z.snd.snd))
noncomputable def IF(lo n a:Nat):StateT SortSt Sem (Option Nat):=do
 liftM (rule "list.sort.descending-run")
 let z <- NX lo (n+1) a
 match z.fst with
 |some r=>pure r
 |none=>
  if z.snd.snd>0 then do
   ao (lo+z.snd.fst-(z.snd.snd+1)) (lo+z.snd.fst)
   EA lo z.snd.fst a
  else EA lo z.snd.fst a
def P6(lo a:Nat):countRun' lo a=(do
  let z <- QH lo 1 a
  match z.fst with
  |some r=>pure r
  |none=>
   if(z.snd==a)=true then pure (some z.snd)
   else if z.snd>1 then do
    let x <- ltAt' lo (lo+z.snd-1)
    match x with
    |some b=>if b=true then pure (some z.snd)else do
      ao lo (lo+z.snd)
      IF lo z.snd a
    |_=>pure none
   else IF lo z.snd a):=by
 have i:∀(n:Nat),EA lo n a=(do
   ao lo (lo+n)
   let z <- QH lo n a
   match z with
   | (some r,_)=>pure r
   | (none,m)=>pure (some m)):=λn=>by
  unfold EA;congr 1;funext _;congr 1;funext z;obtain⟨r,m⟩:=z;cases r<;>rfl
 rw[countRun'_eq];unfold IF;simp only[i];unfold QH NX;congr 1;funext z;obtain⟨r,n⟩:=z
 cases r with
 |some r=>rfl
 |none=>
  dsimp only;split
  ·rfl
  ·split
   ·congr 1;funext x
    cases x with
    |none=>rfl
    |some b=>
     dsimp only;split
     ·rfl
     ·congr 1;funext _;congr 1;funext _;congr 1;congr 1;funext y;obtain⟨d,f,h⟩:=y
      cases d with
      |some d=>rfl
      |none=>
       dsimp only;split
       ·congr 1;funext _;congr 1;funext _;congr 1;funext u;obtain⟨c,e⟩:=u;cases c<;>rfl
       ·congr 1;funext _;congr 1;funext u;obtain⟨c,e⟩:=u;cases c<;>rfl
   ·congr 1;funext _;congr 1;congr 1;funext y;obtain⟨d,f,h⟩:=y
    cases d with
    |some d=>rfl
    |none=>
     dsimp only;split
     ·congr 1;funext _;congr 1;funext _;congr 1;funext u;obtain⟨c,e⟩:=u;cases c<;>rfl
     ·congr 1;funext _;congr 1;funext u;obtain⟨c,e⟩:=u;cases c<;>rfl
end
section
variable{prog:dD}{w:j0}{A:g9}{E:Value->Shared->Prop}{s:Shared}{a0:Array dz}{g g0:Nat->Nat}{pd:Array (Nat×Nat×Nat)}{st:SortSt}{lo n nr:Nat}
structure Rn(a0:Array dz)(g0 g:Nat->Nat)(lo m:Nat):Prop where
 sd:Sd a0 g lo (lo+m)
 inn:In g lo (lo+m)
 bef:∀p,p<lo->g p=g0 p
 aft:∀p,lo+m<=p->g p=p
def Rn.snoc{m:Nat}(r:Rn a0 g0 g lo m)(i:1<=m)(h:¬K a0 (g (lo+m))<K a0 (g (lo+m-1))):Rn a0 g0 g lo (m+1) where
 sd:=λp q a d j=>by
  by_cases f:q<lo+m
  ·exact r.sd p q a d f
  ·have e:q=lo+m:=by lia
   have c:=r.aft q (by lia);have k:=(r.inn p a (by lia)).2;rw[<- e,c]at h;unfold Lx;rw[c]
   have:K a0 (g p)<=K a0 (g (q-1)):=by
    by_cases b:p=q-1
    ·rw[b];exact pI _
    ·rcases r.sd p (q-1) a (by lia) (by lia)with z | z
     ·lia
     ·lia
   lia
 inn:=λp a d=>by
  by_cases b:p<lo+m
  ·have:=r.inn p a b;lia
  ·have:=r.aft p (by lia);lia
 bef:=r.bef
 aft:=λp a=>r.aft p (by lia)
def HL{a:Nat}{Q:AscSt->SortSt->Prop}(i:IntKeys a0)(hn:lo+nr<=a0.size)(ha:1<=a)(f:a<=nr)(j:GS a0 g pd st)(hs:Rn a0 g0 g lo a)
  (h:∀m,a<=m->m<=nr->Rn a0 g0 g lo m->(m=nr\/K a0 (g (lo+m))<K a0 (g (lo+m-1)))->Q (none,m) st):wpS (model prog w) A E s (QH lo a nr) Q st:=by
 unfold QH;refine bd (I:=λx c z=>z=st/\c=(none,x)/\Rn a0 g0 g lo x) ?step ?fin ⟨rfl,rfl,hs⟩
 case fin=>
  rintro c z ⟨rfl,rfl,b⟩;rw[show max a nr=nr by lia]at b |-
  exact h nr f (aN _) b (.inl rfl)
 case step=>
  rintro x c z e k ⟨rfl,rfl,b⟩;dsimp only;refine j3 (wT j i (by lia) (by lia) ?_);by_cases d:K a0 (g (lo+x))<K a0 (g (lo+x-1))
  ·simp only[d,du,v9];exact m3 (h x e (by lia) b (.inr d))
  ·simp only[d,gi,fC,x8];exact m3 ⟨rfl,rfl,b.snoc (by lia) d⟩
structure Dn(a0:Array dz)(g0 g:Nat->Nat)(lo x ne:Nat):Prop where
 le:ne+1<=x
 fall:∀p q,lo<=p->p<q->q<lo+(x-(ne+1))->Lx a0 (g q) (g p)
 inn:In g lo (lo+(x-(ne+1)))
 low:∀p,lo<=p->p<lo+(x-(ne+1))->K a0 (lo+x-1)<K a0 (g p)
 alike:∀p,lo+(x-(ne+1))<=p->p<lo+x->K a0 p=K a0 (lo+x-1)
 bef:∀p,p<lo->g p=g0 p
 aft:∀p,lo+(x-(ne+1))<=p->g p=p
def Dn.turn{x ne:Nat}(d:Dn a0 g0 g lo x ne) :
  (∀p q,lo<=p->p<q->q<lo+x->Lx a0 (yY g (lo+x-(ne+1)) (lo+x) q) (yY g (lo+x-(ne+1)) (lo+x) p))/\In (yY g (lo+x-(ne+1)) (lo+x)) lo (lo+x) /\
  (∀p,lo<=p->p<lo+x->K a0 (lo+x-1)<=K a0 (yY g (lo+x-(ne+1)) (lo+x) p))/\(∀p,p<lo->yY g (lo+x-(ne+1)) (lo+x) p=g0 p)/\∀p,lo+x<=p->yY g (lo+x-(ne+1)) (lo+x) p=p:=by
 have k:=d.le;have j:lo+x-(ne+1)=lo+(x-(ne+1)):=by lia
 have up:∀p,lo+(x-(ne+1))<=p->p<lo+x->yY g (lo+x-(ne+1)) (lo+x) p=lo+(x-(ne+1))+(lo+x)-1-p:=λp a e=>by
  unfold yY;rw[b8 (by lia),d.aft _ (by lia)];lia
 have c:∀p,p<lo+(x-(ne+1))->yY g (lo+x-(ne+1)) (lo+x) p=g p:=λp a=>by
  unfold yY;rw[a8 (by lia)]
 have i:∀p,lo+x<=p->yY g (lo+x-(ne+1)) (lo+x) p=p:=λp a=>by
  unfold yY;rw[a8 (by lia),d.aft _ (by lia)]
 refine⟨λp q a e h=>?_,λp a e=>?_,λp a e=>?_,λp a=>?_,i⟩
 ·by_cases f:q<lo+(x-(ne+1))
  ·rw[c q f,c p (by lia)];exact d.fall p q a e f
  ·rw[up q (by lia) h];have k1:=d.alike (lo+(x-(ne+1))+(lo+x)-1-q) (by lia) (by lia);by_cases b:p<lo+(x-(ne+1))
   ·rw[c p b];have:=d.low p a b
    left;lia
   ·rw[up p (by lia) (by lia)];have k2:=d.alike (lo+(x-(ne+1))+(lo+x)-1-p) (by lia) (by lia)
    right;lia
 ·by_cases b:p<lo+(x-(ne+1))
  ·rw[c p b];have:=d.inn p a b;lia
  ·rw[up p (by lia) e];lia
 ·by_cases b:p<lo+(x-(ne+1))
  ·rw[c p b];have:=d.low p a b;lia
  ·rw[up p (by lia) e];have k1:=d.alike (lo+(x-(ne+1))+(lo+x)-1-p) (by lia) (by lia);lia
 ·rw[c p (by lia)];exact d.bef p a
def NJ{x:Nat}(a:1<=x):yY g (lo+x-(0+1)) (lo+x)=g:=by
 funext k;unfold yY;split
 ·congr 1;lia
 ·rfl
def wS{i j:Nat}{Q:Unit->SortSt->Prop}(h:Q () (setArr st (mirror (cw st) i j ((j-i) / 2)))):wpS (model prog w) A E s (ao i j) Q st:=by
 rw[reverseSlice'_eq];exact qq h
def OH{Q:DescSt->SortSt->Prop}(k:IntKeys a0)(hn:lo+nr<=a0.size)(L:1<=n)(r:n<=nr)(u:GS a0 g pd st)(hs:Dn a0 g0 g lo n 0)
  (h:∀m ne g' f,GS a0 g' pd f->n<=m->m<=nr->Dn a0 g0 g' lo m ne->Q (none,m,ne) f):wpS (model prog w) A E s (NX lo n nr) Q st:=by
 unfold NX;refine bd (I:=λx c z=>∃ne g',c=(none,x,ne)/\GS a0 g' pd z/\Dn a0 g0 g' lo x ne) ?step ?fin ⟨0,g,rfl,u,hs⟩
 case fin=>
  rintro c z ⟨ne,g',rfl,a,hd⟩;rw[show max n nr=nr by lia]at hd |-
  exact h nr ne g' z a r (aN _) hd
 case step=>
  rintro x c z q J ⟨ne,g',rfl,a,hd⟩;dsimp only;have H:=hd.le;have ex:=hd.aft (lo+x) (by lia);have j:=hd.aft (lo+x-1) (by lia);refine j3 (wT a k (by lia) (by lia) ?_);rw[ex,j];by_cases o:K a0 (lo+x)<K a0 (lo+x-1)
  ·simp only[o,du,v9];obtain⟨y,B,C,F,G⟩:=hd.turn
   have nx:Dn a0 g0 (yY g' (lo+x-(ne+1)) (lo+x)) lo (x+1) 0:=by
    have es:x+1-(0+1)=x:=by lia
    refine⟨by lia,?_,?_,?_,?_,F,?_⟩
    ·rw[es];exact y
    ·rw[es];exact B
    ·rw[es];intro p b d;have:=C p b d;rw[show lo+(x+1)-1=lo+x by lia];lia
    ·rw[es];intro p b d;congr 1;lia
    ·rw[es];exact G
   by_cases e:ne>0
   ·rw[b8 e];exact j3 (wS (m3 ⟨0,_,rfl,a.mirr (by lia),nx⟩))
   ·rw[a8 e];have t:ne=0:=by lia
    subst t;rw[NJ (by lia)]at nx;exact m3 ⟨0,_,rfl,a,nx⟩
  ·simp only[o,gi,fC,x8];refine j3 (wT a k (by lia) (by lia) ?_);rw[ex,j];by_cases l:K a0 (lo+x-1)<K a0 (lo+x)
   ·simp only[l,du,v9];exact m3 (h x ne g' z a q (by lia) hd)
   ·simp only[l,gi,fC,x8];have es:x+1-(ne+1+1)=x-(ne+1):=by lia
    have el:lo+(x+1)-1=lo+x:=by lia
    have i:K a0 (lo+x)=K a0 (lo+x-1):=by lia
    refine m3 ⟨ne+1,g',rfl,a,⟨by lia,?_,?_,?_,?_,hd.bef,?_⟩⟩
    ·rw[es];exact hd.fall
    ·rw[es];exact hd.inn
    ·rw[es,el,i];exact hd.low
    ·rw[es,el];intro p b d;by_cases v:p=lo+x
     ·rw[v]
     ·rw[i];exact hd.alike p b (by lia)
    ·rw[es];exact hd.aft
def D4{Q:Option Nat->SortSt->Prop}(t:IntKeys a0)(hn:lo+nr<=a0.size)(u:1<=n)(k:n<=nr)(v:GS a0 g pd st)
  (f1:∀p q,lo<=p->p<q->q<lo+n->Lx a0 (g q) (g p)) (f2:In g lo (lo+n)) (l:∀p,p<lo->g p=g0 p) (o:∀p,lo+n<=p->g p=p)
  (h:∀m g' d,GS a0 g' pd d->1<=m->m<=nr->Rn a0 g0 g' lo m->Q (some m) d):wpS (model prog w) A E s (EA lo n nr) Q st:=by
 unfold EA;refine j3 (wS ?_);have e:=v.mirr (i:=lo) (j:=lo+n) (by lia);have up:∀p,lo<=p->p<lo+n->yY g lo (lo+n) p=g (lo+(lo+n)-1-p):=λp a b=>by unfold yY;rw[b8 ⟨a,b⟩]
 have f:∀p,(p<lo\/lo+n<=p)->yY g lo (lo+n) p=g p:=λp a=>by unfold yY;rw[a8 (by lia)]
 refine j3 (HL t hn u k e (g0:=g0) ⟨λp q a b c=>?_,λp a b=>?_,λp a=>?_,λp a=>?_⟩ λm y x r _=>m3 (h m _ _ e (by lia) x r))
 ·rw[up p a (by lia),up q (by lia) c];exact f1 _ _ (by lia) (by lia) (by lia)
 ·rw[up p a b];exact f2 _ (by lia) (by lia)
 ·rw[f p (.inl a)];exact l p a
 ·rw[f p (.inr a)];exact o p a
def D5{Q:Option Nat->SortSt->Prop}(b:IntKeys a0)(hn:lo+nr<=a0.size)(l:n+1<=nr)(p:GS a0 g pd st)(hs:Dn a0 g0 g lo (n+1) 0)
  (h:∀m g' a,GS a0 g' pd a->1<=m->m<=nr->Rn a0 g0 g' lo m->Q (some m) a):wpS (model prog w) A E s (IF lo n nr) Q st:=by
 unfold IF;refine j3 (wpS_lift (z8 ⟨rfl,?_⟩));refine j3 (OH b hn (by lia) l p hs λm ne g' a j q k hd=>?_);dsimp only;obtain⟨c,d,r,e,f⟩:=hd.turn;by_cases i:ne>0
 ·rw[b8 i];exact j3 (wS (D4 b hn (by lia) k (j.mirr (by lia)) c d e f h))
 ·rw[a8 i];have o:ne=0:=by lia
  subst o;rw[NJ (by lia)]at c d e f;exact D4 b hn (by lia) k j c d e f h
def KF{Q:Option Nat->SortSt->Prop}(f:IntKeys a0)(hn:lo+nr<=a0.size)(y:1<=nr)(d:GS a0 g pd st)(bef:∀p,p<lo->g p=g0 p)(aft:∀p,lo<=p->g p=p)
  (h:∀m g' o,GS a0 g' pd o->1<=m->m<=nr->Rn a0 g0 g' lo m->Q (some m) o):wpS (model prog w) A E s (countRun' lo nr) Q st:=by
 rw[P6];refine j3 (HL f hn (aN 1) y d (g0:=g0) ⟨λp q a b c=>by lia,λp a b=>by rw[aft p a];lia,bef,λp a=>aft p (by lia)⟩ λm t u r v=>?_);dsimp only;by_cases i:m=nr
 ·rw[b8 (by simpa using i)];exact m3 (h m g st d t u r)
 ·rw[a8 (by simpa using i)];have j:=v.resolve_left i;rw[aft _ (by lia),aft (lo+m-1) (by lia)]at j;by_cases l:m>1
  ·rw[b8 l];refine j3 (wT d f (by lia) (by lia) ?_);rw[aft lo (by lia),aft (lo+m-1) (by lia)];by_cases k:K a0 lo<K a0 (lo+m-1)
   ·simp only[k,du,v9];exact m3 (h m g st d t u r)
   ·simp only[k,gi,fC,x8]
    have le:∀p q,lo<=p->p<=q->q<lo+m->K a0 p<=K a0 q:=λp q a b c=>by
     by_cases e:p=q
     ·rw[e];exact pI _
     ·have:=r.sd p q a (by lia) c;rw[aft p a,aft q (by lia)]at this;rcases this with z | z<;>lia
    have all:∀p,lo<=p->p<lo+m->K a0 p=K a0 (lo+m-1):=λp a b=>by
     have k1:=le lo p (by lia) a b;have k2:=le p (lo+m-1) a (by lia) (by lia);lia
    have es:m+1-(0+1)=m:=by lia
    have el:lo+(m+1)-1=lo+m:=by lia
    have up:∀p,lo<=p->p<lo+m->yY g lo (lo+m) p=lo+(lo+m)-1-p:=λp a b=>by unfold yY;rw[b8 ⟨a,b⟩,aft _ (by lia)]
    refine j3 (wS (D5 f hn (by lia) (d.mirr (by lia)) (g0:=g0) ⟨by lia,?_,?_,?_,?_,?_,?_⟩ h))
    ·rw[es];intro p q a b c;rw[up p a (by lia),up q (by lia) c];have k1:=all (lo+(lo+m)-1-p) (by lia) (by lia);have k2:=all (lo+(lo+m)-1-q) (by lia) (by lia)
     right;lia
    ·rw[es];intro p a b;rw[up p a b];lia
    ·rw[es,el];intro p a b;rw[up p a b,all (lo+(lo+m)-1-p) (by lia) (by lia)];exact j
    ·rw[es];intro p a b;congr 1;lia
    ·intro p a;unfold yY;rw[a8 (by lia)];exact bef p a
    ·rw[es];intro p a;unfold yY;rw[a8 (by lia)];exact aft p (by lia)
  ·rw[a8 l];have x:m=1:=by lia
   subst x;refine D5 f hn (by lia) d (g0:=g0) ⟨by lia,λp q a b c=>by lia,λp a b=>by rw[aft p a];lia,λp a b=>?_,λp a b=>by congr 1;lia,bef,λp a=>aft p (by lia)⟩ h;rw[aft p a];have:p=lo:=by lia
   subst this;exact j
def RM{ok:Nat}{Q:Bool->SortSt->Prop}(M:IntKeys a0)(hn:lo+n<=a0.size)(hok:ok<=n)(X:1<=ok)(N:GS a0 g pd st)(hs:Rn a0 g0 g lo ok)
  (h:∀g' G,GS a0 g' pd G->Rn a0 g0 g' lo n->Q true G):wpS (model prog w) A E s (binarySort' lo n ok) Q st:=by
 rw[binarySort'_eq]
 refine j3 (Bu (bd (I:=λk c z=>c=(none,())/\∃g',GS a0 g' pd z/\Rn a0 g0 g' lo (min k n))
  (Q:=λc z=>c=(none,())/\∃g',GS a0 g' pd z/\Rn a0 g0 g' lo n) ?step ?fin ?init) ?post)
 case post=>
  rintro c z ⟨rfl,g',o,d⟩;exact m3 (h g' z o d)
 case init=>
  refine⟨rfl,g,N,?_⟩;rw[show min (max ok 1) n=ok by lia];exact hs
 case fin=>
  rintro c z ⟨O,g',o,d⟩;rw[show min (max (max ok 1) n) n=n by lia]at d;exact⟨O,g',o,d⟩
 case step=>
  rintro k c z S T ⟨rfl,g',o,d⟩;rw[show min k n=k by lia]at d;have H:=d.aft (lo+k) (aN _)
  refine j3 (Bu (bd (I:=λx c y=>y=z/\∃l r,c=(none,l,r)/\l<=r/\r<=k/\r-l<=k-x /\
    (∀i,i<l->K a0 (g' (lo+i))<=K a0 (lo+k))/\∀i,r<=i->i<k->K a0 (lo+k)<K a0 (g' (lo+i)))
   (Q:=λc y=>y=z/\∃l r,c=(none,l,r)/\l<=k/\(∀i,i<l->K a0 (g' (lo+i))<=K a0 (lo+k))/\∀i,l<=i->i<k->K a0 (lo+k)<K a0 (g' (lo+i))) ?istep ?ifin ?iinit) ?ipost)
  case iinit=>exact⟨rfl,0,k,rfl,by lia,by lia,by lia,λi hi=>by lia,λi a b=>by lia⟩
  case ifin=>
   rintro c y ⟨rfl,l,r,rfl,J,a2,L,a4,m⟩;have:l=r:=by lia
   subst this;exact⟨rfl,l,l,rfl,a2,a4,m⟩
  case istep=>
   rintro x c y _ U ⟨rfl,l,r,rfl,J,a2,L,a4,m⟩;dsimp only
   have le:∀i j,i<=j->j<k->K a0 (g' (lo+i))<=K a0 (g' (lo+j)):=λi j a b=>by
    by_cases e:i=j
    ·rw[e];exact pI _
    ·rcases d.sd (lo+i) (lo+j) (by lia) (by lia) (by lia)with q | q<;>lia
   by_cases F:l>=r
   ·rw[b8 F];have:l=r:=by lia
    subst this;exact m3 ⟨rfl,l,l,rfl,a2,a4,m⟩
   ·rw[a8 F];refine j3 (wT o M (by lia) (by lia) ?_);rw[H];by_cases B:K a0 (lo+k)<K a0 (g' (lo+(l+r) / 2))
    ·simp only[B,du,v9];refine m3 ⟨rfl,l,(l+r) / 2,rfl,by lia,by lia,by lia,a4,λi f v=>?_⟩;exact Int.lt_of_lt_of_le B (le _ _ f v)
    ·simp only[B,gi,fC,x8];refine m3 ⟨rfl,(l+r) / 2+1,r,rfl,by lia,by lia,by lia,λi f=>?_,m⟩;have:=le i ((l+r) / 2) (by lia) (by lia);lia
  case ipost=>
   rintro c y ⟨rfl,l,r,rfl,a2,a4,m⟩;show wpS _ _ _ _ (do moveDown' (lo+k) (lo+l);pure (j6 (none,()))) _ _;rw[moveDown'_eq];refine j3 (qq (m3 ⟨rfl,_,o.bubb (by lia) (by lia),?_⟩));rw[show min (k+1) n=k+1 by lia];have C:bub g' (lo+k) (lo+l) (lo+l)=lo+k:=by unfold bub;rw[b8 rfl,H]
   have t:∀p,lo+l<p->p<=lo+k->bub g' (lo+k) (lo+l) p=g' (p-1):=λp a b=>by unfold bub;rw[a8 (by lia),b8 ⟨a,b⟩]
   have u:∀p,(p<lo+l\/lo+k<p)->bub g' (lo+k) (lo+l) p=g' p:=λp a=>by unfold bub;rw[a8 (by lia),a8 (by lia)]
   have R:∀p,lo<=p->p<lo+l->K a0 (g' p)<=K a0 (lo+k):=λp a b=>by
    have:=a4 (p-lo) (by lia);rwa [show lo+(p-lo)=p by lia]at this
   have P:∀p,lo+l<=p->p<lo+k->K a0 (lo+k)<K a0 (g' p):=λp a b=>by
    have:=m (p-lo) (by lia) (by lia);rwa [show lo+(p-lo)=p by lia]at this
   refine⟨λp q f v W=>?_,λp f v=>?_,λp f=>?_,λp f=>?_⟩
   ·rcases oB p (lo+l)with c1 | c1 | c1
    ·rw[u p (.inl c1)];rcases oB q (lo+l)with c2 | c2 | c2
     ·rw[u q (.inl c2)];exact d.sd p q f v (by lia)
     ·rw[c2,C];have:=R p f c1;have:=(d.inn p f (by lia)).2;unfold Lx;lia
     ·rw[t q c2 (by lia)];exact d.sd p (q-1) f (by lia) (by lia)
    ·rw[c1,C,t q (by lia) (by lia)]
     left;exact P _ (by lia) (by lia)
    ·rw[t p c1 (by lia),t q (by lia) (by lia)];exact d.sd _ _ (by lia) (by lia) (by lia)
   ·rcases oB p (lo+l)with c1 | c1 | c1
    ·rw[u p (.inl c1)];have:=d.inn p f (by lia);lia
    ·rw[c1,C];lia
    ·rw[t p c1 (by lia)];have:=d.inn (p-1) (by lia) (by lia);lia
   ·rw[u p (.inl (by lia))];exact d.bef p f
   ·rw[u p (.inr (by lia))];exact d.aft p (by lia)
end
section
variable{α:Type}{le:α->α->Bool}
noncomputable abbrev mg(le:α->α->Bool)(xs ys:List α):List α:=List.merge xs ys le
end
section
def CC{a:Array dz}(b:IntKeys a){i:Nat}(hi:i<a.size):∃t,a[i].1=.int (K a i) t:=by
 obtain⟨t,q,e⟩:=L5 b hi;rw[gk a i hi]at e;exact⟨t,j5 Prod.fst (d7 e)⟩
end
structure Two(a b:Array dz):Prop where
 ia:IntKeys a
 ib:IntKeys b
 sa:∀i j,i<=j->j<a.size->K a i<=K a j
 sb:∀i j,i<=j->j<b.size->K b i<=K b j
 na:0<a.size
 nb:0<b.size
 last:∀j,j<b.size->K b j<K a (a.size-1)
 first:∀i,i<a.size->K b 0<K a i
section
variable{a:Array dz}
def zI{i:Nat}(h:i<a.size):a.toList.drop i=a[i]::a.toList.drop (i+1):=by
 rw[List.drop_eq_getElem_cons (by simpa using h)];simp
end
structure HG(n:Nat)(ky:Nat->Int)(J:List Nat):Prop where
 ord:J.Pairwise λi j=>ky i<ky j\/(ky i=ky j/\i<j)
 lt:∀i∈J,i<n
 len:J.length=n
noncomputable def fa(a0:Array dz)(i:Nat):dz:=(a0[i]?).getD (.none,.none)
section
variable{prog:dD}{w:j0}{A:g9}{E:Value->Shared->Prop}{s:Shared}{a0:Array dz}{g:Nat->Nat}{pd:Array (Nat×Nat×Nat)}{st:SortSt}
def GS.list(h:GS a0 g pd st):(cw st).toList=((fZ a0.size).map g).map (fa a0):=by
 apply mC;intro q;rw[jO,bN,aL];by_cases a:q<a0.size
 ·rw[h.get q a,kT a];show _=some (fa a0 (g q));unfold fa;rw[gk a0 _ (h.rng q a)];rfl
 ·rw[eW (by simp;lia),nU (by rw[h.size];lia)];rfl
def X8(c:GS a0 g pd st)(hs:Sd a0 g 0 a0.size):HG a0.size (K a0) ((fZ a0.size).map g) where
 ord:=by
  rw[HC];intro i j hi a b;simp only[aB,rQ]at hi a;simp only[List.getElem_map,List.getElem_range];exact hs i j (cU _) b a
 lt:=λi hi=>by
  obtain⟨p,d,rfl⟩:=bC.mp hi;exact c.rng p (qJ.mp d)
 len:=by simp
def PF{n:Nat}(h:n<64)(a:2<=n):minRun' n n 0=n:=by
 obtain⟨f,rfl⟩:∃f,n=f+2:=⟨n-2,by lia⟩;rw[show f+2=(f+1)+1 by lia,minRun'_succ,b8 (by lia)]
def End(a0:Array dz)(st:SortSt):Prop:=∃g,GS a0 g #[(0,a0.size,0)] st/\Sd a0 g 0 a0.size
def GS.setP(h:GS a0 g pd st)(q:Array (Nat×Nat×Nat)):GS a0 g q (Ec st q):=⟨h.size,h.get,h.rng,h.kind,h.fail,rfl⟩
def RL{Q:Unit->SortSt->Prop}(k:IntKeys a0)(l:GS a0 (λp=>p) #[] st)(F:2<=a0.size)(B:a0.size<64)
  (h:∀i J,qc i=none->(cw i).toList=J.map (fa a0)->HG a0.size (K a0) J->Q () i):wpS (model prog w) A E s sortRuns' Q st:=by
 have G:=PF B F;rw[sortRuns'_eq];refine j3 (Fm ?_);dsimp only;simp only[l.size]
 generalize minRun' a0.size a0.size 0=mn at G
 refine j3 (Bu (bd
  (I:=λx c z=>(x=0/\c=(none,0)/\GS a0 (λp=>p) #[] z)\/(1<=x/\c=(none,a0.size)/\End a0 z))
  (Q:=λc z=>c=(none,a0.size)/\End a0 z) ?step ?fin (.inl ⟨rfl,rfl,l⟩)) ?post)
 case fin=>
  rintro c z (⟨n,_,_⟩ | ⟨_,hc,f⟩)
  ·lia
  ·exact⟨hc,f⟩
 case step=>
  rintro x c z _ n (⟨rfl,rfl,ik⟩ | ⟨x1,rfl,f⟩)
  ·dsimp only;rw[a8 (by lia)];simp only[MF,ME]
   have next:∀(m:Nat)(g':Nat->Nat)(d:SortSt),GS a0 g' #[] d->m=a0.size->Rn a0 (λp=>p) g' 0 m ->
     (1=0/\((none,m):Option Unit×Nat)=(none,0)/\GS a0 (λp=>p) #[] (Ec d ((gl d).push (0,m,0)))) \/
     (1<=1/\((none,m):Option Unit×Nat)=(none,a0.size)/\End a0 (Ec d ((gl d).push (0,m,0)))):=λm g' d b e r=>by
    have v:=b.setP #[(0,m,0)];rw[show(gl d).push (0,m,0)=#[(0,m,0)] by rw[b.pend];rfl];subst e;refine .inr ⟨by lia,rfl,g',v,?_⟩;have:=r.sd
    rwa [ME]at this
   refine j3 (KF k (by lia) (by lia) ik (g0:=λp=>p) (λp a=>rfl) (λp a=>rfl) λm g' d b o L r=>?_);dsimp only;by_cases j:m<mn
   ·rw[b8 j];refine j3 (wpS_lift (z8 ⟨rfl,?_⟩));refine j3 (RM k (by lia) (by lia) o b r λC z2 c1 H=>?_);simp only[aGn,fC,x8];refine j3 (Fm ?_);rw[show(gl z2).back?=none by rw[c1.pend];rfl];dsimp only;exact j3 (qq (m3 (next _ C z2 c1 (by lia) H)))
   ·rw[a8 j];refine j3 (Fm ?_);rw[show(gl d).back?=none by rw[b.pend];rfl];dsimp only;exact j3 (qq (m3 (next _ g' d b (by lia) r)))
  ·dsimp only;rw[b8 (aN _)];exact m3 ⟨rfl,f⟩
 case post=>
  rintro c z ⟨rfl,f⟩;dsimp only
  refine j3 (Bu (bd (I:=λx c y=>c=(none,())/\x=0/\y=z)
   (Q:=λc y=>c=(none,())/\qc y=none/\∃J,(cw y).toList=J.map (fa a0)/\HG a0.size (K a0) J) ?_ ?_ ⟨rfl,rfl,rfl⟩) ?_)
  ·rintro x c y _ _ ⟨rfl,rfl,rfl⟩;refine j3 (Fm ?_);obtain⟨g,b,sd⟩:=f;rw[b8 (by rw[b.pend];exact aN 1)];exact m3 ⟨rfl,b.fail,_,b.list,X8 b sd⟩
  ·rintro c y ⟨rfl,n,_⟩;lia
  ·rintro c y ⟨rfl,q,J,t,u⟩;exact m3 (h y J q t u)
end
end SS
set_option maxHeartbeats 4000000
namespace SS
section
variable{prog:dD}{w:j0}{A:g9}{E:Value->Shared->Prop}{s:Shared}{a kS f:Addr}{vs:List Value}{kz:List Int}{P:PySem.Fin->Shared->Prop}{Tp:Shared->Prop}{lo:Nat}
structure QJ(Tp:Shared->Prop)(lo:Nat):Prop where
 up:∀(s':Shared)(x:Addr)h'(tk:Nat),Tp s'->lo<=x->fL x s'.heap h'->Tp { s' with heap:=h',toks:=tk }
 push:∀(s':Shared)(o:Obj),Tp s'->Tp { s' with heap:=s'.heap.push o }
def jN(prog:dD)(w:j0)(A:g9)(Tp:Shared->Prop)(lo:Nat)(f:Addr)(vs:List Value)(kz:List Int):Prop:=∀(i:Nat)(v:Value)(k:Int)(s':Shared),vs[i]?=some v->kz[i]?=some k->Tp s' ->
 wpAny (model prog w) A (call (.ref f) [v]) (λu s2=>∃t,u=.int k t/\Tp s2/\∀b o,lo<=b->s'.heap.get? b=some o->s2.heap.get? b=some o) (λ_ _=>False) s'
def RH{keys:Array Value}(hk:IntsAre keys.toList kz)(d:kz.length=vs.length):(keys.zip vs.toArray).size=vs.length/\∀i,i<vs.length->K (keys.zip vs.toArray) i=kz.getD i 0/\(fa (keys.zip vs.toArray) i).2=vs.getD i .none:=by
 have hs:keys.size=vs.length:=by have:=hk.length;rw[fG]at this;lia
 have hz:(keys.zip vs.toArray).size=vs.length:=by rw[Array.size_zip,hs,bF,Nat.min_self]
 refine⟨hz,λi hi=>?_⟩;obtain⟨t,b⟩:=hk.get i (kz[i]'(by lia)) (aD (by lia));rw[jO]at b;have c:vs.toArray[i]?=some vs[i]:=by simp[hi]
 have e:(keys.zip vs.toArray)[i]?=some (.int (kz[i]'(by lia)) t,vs[i]):=by
  rw[Array.getElem?_zip_eq_some];exact⟨b,c⟩
 constructor
 ·unfold K;rw[e];show numOf (v4 (kz[i]'(by lia)) t)=_;rw[cL,aD (by lia)];rfl
 ·unfold fa;rw[e,cL,aD hi];rfl
def HG.congr{n:Nat}{k1 k2:Nat->Int}{J}(h:HG n k1 J)(e:∀i,i<n->k1 i=k2 i):HG n k2 J where
 ord:=h.ord.imp_of_mem λ{i j} hi b q=>by rw[<- e i (h.lt i hi),<- e j (h.lt j b)];exact q
 lt:=h.lt
 len:=h.len
def MP{st:SortSt}{keys:Array Value}{e g:Nat}{J:List Nat}(T:QJ Tp lo)(t0:Tp s)(ok:s.heap.get? kS=some (j2 "list" keys e))(q:s.heap.get? a=some (j2 "list" #[] g))(r:kS≠a)(o:lo<=kS)(n:lo<=a)
  (k:keys.size<=bE) (j:(cw st).toList.map (·.2)=J.map λi=>vs.getD i .none) (m:J.length<=bE) (l:qc st=none)
  (h:∀h' tk out c,Tp { s with heap:=h',toks:=tk }->h'.get? a=some (j2 "list" out c)->out.toList=(J.map λi=>vs.getD i .none)->P (.done (.ret .none)) { s with heap:=h',toks:=tk }) :
  wpAny (model prog w) A (ksk_tail a false g (.ref kS) st) P E s:=by
 have s1:=fL.update s.heap kS (i7 λ_=>(#[]:Array Value));have b:(s.heap.update kS (i7 λ_=>(#[]:Array Value))).get? a=some (j2 "list" #[] g):=(s1.2 a r.symm).trans q;have s2:=fL.update (s.heap.update kS (i7 λ_=>(#[]:Array Value))) a (i7 λ_=>(cw st).map (·.2));obtain⟨d,p⟩:∃d,((s.heap.update kS (i7 λ_=>(#[]:Array Value))).update a (i7 λ_=>(cw st).map (·.2))).get? a=some (j2 "list" ((cw st).map (·.2)) d):=⟨_,mj b λ_=>(cw st).map (·.2)⟩
 have hz:((cw st).map (·.2)).size=J.length:=by
  have:=j5 lK j;simpa using this
 unfold ksk_tail
 try dsimp only
 refine aE (ie ok rfl ?_ k (cU _));refine aE (md ?_);refine aE (seqEpoch_at b rfl ?_);refine aE (ie b rfl ?_ (cU _) (by simp only[fC,x8];rw[hz];exact XD m));rw[l];simp only[bne_self_eq_false,fC,x8];exact aV (h _ _ _ d (T.up { s with heap:=s.heap.update kS (i7 λ_=>(#[]:Array Value)) } a _ s.toks (T.up s kS _ s.toks t0 o s1) n s2) p (by rw[Array.toList_map];exact j))
def aD2{keys:Array Value}{e t:Nat}(T:QJ Tp lo)(t0:Tp s)(ok:s.heap.get? kS=some (j2 "list" keys e))(x:s.heap.get? a=some (j2 "list" #[] t))(y:kS≠a)(v:lo<=kS)(u:lo<=a)
  (hk:IntsAre keys.toList kz) (H:kz.length=vs.length) (F:vs.length<64)
  (h:∀h' tk out c J,Tp { s with heap:=h',toks:=tk }->h'.get? a=some (j2 "list" out c)->HG vs.length (λi=>kz.getD i 0) J->out.toList=(J.map λi=>vs.getD i .none)->P (.done (.ret .none)) { s with heap:=h',toks:=tk }) :
  wpAny (model prog w) A (ksk_end a false vs.toArray t (.ref kS) keys) P E s:=by
 obtain⟨hz,r⟩:=RH (vs:=vs) hk H;have hs:keys.size=vs.length:=by have:=hk.length;rw[fG]at this;lia
 have k:(2:Nat)^24=bE:=rfl
 have d:∀J:List Nat,(∀i∈J,i<vs.length)->(J.map (fa (keys.zip vs.toArray))).map (·.2)=J.map λi=>vs.getD i .none:=λJ l=>by
  rw[bN];exact fK λi hi=>(r i (l i hi)).2
 unfold ksk_end
 try dsimp only
 simp only[fC,x8];by_cases b:vs.toArray.size<2
 ·rw[b8 b,b8 b];refine aE (aV ?_);rw[StateT.run_pure];refine aE (aV ?_)
  try dsimp only
  rw[bF]at b
  have g0:(keys.zip vs.toArray).toList=(fZ vs.length).map (fa (keys.zip vs.toArray)):=by
   apply mC;intro q;rw[jO,aL];by_cases m:q<vs.length
   ·rw[kT m,gk _ q (by rw[hz];exact m)];show _=some (fa _ q);unfold fa;rw[gk _ q (by rw[hz];exact m)];rfl
   ·rw[eW (by simp;lia),nU (by rw[hz];lia)];rfl
  have sb:HG vs.length (λi=>kz.getD i 0) (fZ vs.length):=⟨by
   rw[HC];intro i j hi G L;simp only[rQ]at hi G;lia,λi hi=>qJ.mp hi,by simp⟩
  exact MP (st:=SortSt.mk' general' (keys.zip vs.toArray) #[] 7 none) (J:=fZ vs.length) T t0 ok x y v u (by rw[hs,<- k];lia) (by
   show(keys.zip vs.toArray).toList.map (·.2)=_;rw[g0];exact d _ sb.lt) (by simp only[rQ];rw[<- k];lia) rfl λh' tk out c n o p=>h h' tk out c _ n o sb p
 ·rw[a8 b,a8 b];rw[bF]at b;rw[ksk_kind hk (by rw[hs];lia)];refine aE (aV ?_)
  refine aE (eF (RL (a0:=keys.zip vs.toArray) (st:=SortSt.mk' oneType' (keys.zip vs.toArray) #[] 7 none)
   (Q:=λ_ g=>qc g=none/\∃J,(cw g).toList=J.map (fa (keys.zip vs.toArray))/\HG (keys.zip vs.toArray).size (K (keys.zip vs.toArray)) J)
   (ksk_intKeys hk) ⟨rfl,λ_ _=>rfl,λ_ I=>I,rfl,rfl,rfl⟩ (by rw[hz];lia) (by rw[hz];exact F) λg J B a2 C=>⟨B,J,a2,C⟩) ?_ λ_ _ e=>e)
  rintro⟨⟨⟩,g⟩ s' ⟨rfl,hf,J,l,sb⟩
  try dsimp only
  rw[hz]at sb;have z:=sb.congr λi hi=>(r i hi).1;exact MP (J:=J) T t0 ok x y v u (by rw[hs,<- k];lia) (by rw[l];exact d J sb.lt) (by rw[sb.len,<- k];lia) hf λh' tk out c n o p=>h h' tk out c _ n o z p
def YD{m:Nat}(T:QJ Tp lo)(t0:Tp s)(ok:s.heap.get? kS=some (j2 "list" #[] 0))(S:s.heap.get? a=some (j2 "list" #[] m))(B:kS≠a)(n:lo<=kS)(y:lo<=a)
  (N:kz.length=vs.length) (I:vs.length<64) (turn:jN prog w A Tp lo f vs kz)
  (h:∀s' out c J,Tp s'->s'.heap.get? a=some (j2 "list" out c)->HG vs.length (λi=>kz.getD i 0) J->out.toList=(J.map λi=>vs.getD i .none)->P (.done (.ret .none)) s') :
  wpAny (model prog w) A (ksk_rest a (.ref f) false vs.toArray m (.ref kS)) P E s:=by
 have t:(2:Nat)^24=bE:=rfl;unfold ksk_rest;refine aE (z8 ?_)
 first
  |rw[List.forIn_toArray]
  | (rw[<- QX];simp only[List.toList_toArray])
  |rw[<- QX]
 refine aE (ksk_fold (λi s'=>Tp s'/\∃b e,s'.heap.get? kS=some (j2 "list" b e)/\s'.heap.get? a=some (j2 "list" #[] m)/\IntsAre b.toList (kz.take i)) vs 0 s
  ⟨t0,#[],0,ok,S,by simpa using IntsAre.nil⟩ ?step ?done)
 case step=>
  rintro j x s' u ⟨p,b,e,g,o,hk⟩;simp only[ME]at hk |-
  have W:j<vs.length:=(aF.mp u).1;obtain⟨k,q⟩:∃k,kz[j]?=some k:=⟨_,aD (by lia)⟩
  have hz:b.size<=vs.length:=by
   have K:=hk.length;rw[fG,bL]at K;lia
  refine aE (ua (eF (turn j x k s' u q p) (λv z M=>?_) λ_ _ L=>L.elim));obtain⟨d,rfl,U,keep⟩:=M
  try dsimp only
  have r:=keep kS _ n g;have C:=keep a _ y o;have s1:=fL.update z.heap kS (i7 (·.push (.int k d)));obtain⟨l,Q⟩:∃l,(z.heap.update kS (i7 (·.push (.int k d)))).get? kS=some (j2 "list" (b.push (.int k d)) l):=⟨_,mj r (·.push (.int k d))⟩;have H:kz.take (j+1)=kz.take j++[k]:=by rw[cM,q];simp
  have G:(b.push (v4 k d)).toList=b.toList++[v4 k d]:=by simp
  refine aE (ie r rfl ?_ (by rw[<- t];lia) (aX (lR (Array.size_push ..)) (by rw[<- t];lia)));exact aV ⟨rfl,T.up _ kS _ _ U n s1,b.push (.int k d),l,Q,(s1.2 a B.symm).trans C,by rw[G,H];exact ksk_snoc hk⟩
 case done=>
  rintro s' ⟨p,b,e,g,o,hk⟩;have F:kz.take (0+vs.length)=kz:=lM (by lia);rw[F]at hk
  try dsimp only
  refine aE (listItems_at g rfl ?_);exact aD2 T p g o B n y hk N I λh' tk out c J d R sb O=>h _ out c J d R sb O
def YC{n:Nat}(T:QJ Tp lo)(t0:Tp s)(b:s.heap.get? a=some (j2 "list" vs.toArray n))(d:lo<=a)(m:kz.length=vs.length)(l:vs.length<64)(turn:jN prog w A Tp lo f vs kz)
  (h:∀s' out c J,Tp s'->s'.heap.get? a=some (j2 "list" out c)->HG vs.length (λi=>kz.getD i 0) J->out.toList=(J.map λi=>vs.getD i .none)->P (.done (.ret .none)) s') :
  wpAny (model prog w) A (ksk_tree a (.ref f) false) P E s:=by
 have k:(2:Nat)^24=bE:=rfl;have ha:a<s.heap.objs.size:=aY b;have s1:=fL.update s.heap a (i7 λ_=>(#[]:Array Value));obtain⟨j,g⟩:∃j,(s.heap.update a (i7 λ_=>(#[]:Array Value))).get? a=some (j2 "list" #[] j):=⟨_,mj b λ_=>#[]⟩;have e:((s.heap.update a (i7 λ_=>(#[]:Array Value))).push (j2 "tuple" vs.toArray 0)).objs.size=s.heap.objs.size+1:=by rw[size_push',A9]
 unfold ksk_tree;refine aE (listItems_at b rfl ?_);refine aE (ie b rfl ?_ (by rw[bF,<- k];lia) (cU _));refine aE (seqEpoch_at g rfl ?_);refine aE (wpAny_newTuple ?_ (by show vs.length<=_;rw[<- k];lia));refine aE (ud ?_ (cU _));refine cm ?_
 exact YD (s:={ s with heap:=((s.heap.update a (i7 λ_=>(#[]:Array Value))).push (j2 "tuple" vs.toArray 0)).push (j2 "list" #[] 0) }) (kS:=((s.heap.update a (i7 λ_=>(#[]:Array Value))).push (j2 "tuple" vs.toArray 0)).objs.size)
  T (T.push { s with heap:=(s.heap.update a (i7 λ_=>(#[]:Array Value))).push (j2 "tuple" vs.toArray 0) } _ (T.push { s with heap:=s.heap.update a (i7 λ_=>(#[]:Array Value)) } _ (T.up s a _ s.toks t0 d s1)))
  (aZ _ rfl) (aG _ (aG _ g)) (by rw[e];exact gS (rW ha)) (by rw[e];exact aX d (iE (rW ha))) d m l turn h
def OS{l:Addr}{Q:Value->Shared->Prop}(T:QJ Tp lo)(t0:Tp s)(j:s.heap.IsList l vs.toArray)(d:lo<=s.heap.objs.size)(n:kz.length=vs.length)(g:vs.length<64)(turn:jN prog w A.in1.in1 Tp lo f vs kz)
  (h:∀s' D out c J,Tp s'->s.heap.objs.size<=D->s'.heap.get? D=some (j2 "list" out c)->HG vs.length (λi=>kz.getD i 0) J->out.toList=(J.map λi=>vs.getD i .none)->Q (.ref D) s') :
  wpAny (model prog w) A (call (.builtin "sorted") [.ref l] [(e8 "key",.ref f)]) Q E s:=by
 have e:(2:Nat)^24=bE:=rfl;refine call_function_entry_kw kind_sorted plain_sorted entry_sorted (ksk_s1 _ _) ?_;unfold am.«sorted»;refine aE (m:=checkCount "sorted" 1 1 _) (aV ?_);refine aE (collect_list j ?_ (by rw[<- e];lia));refine aE (ud ?_ (by rw[<- e];lia))
 have hsz:((s.heap.push (j2 "list" #[] 0)).update s.heap.objs.size (i7 (·++vs.toArray))).objs.size=s.heap.objs.size+1:=by
  rw[A9,size_push']
 have b:(((s.heap.push (j2 "list" #[] 0)).update s.heap.objs.size (i7 (·++vs.toArray))).push (j2 "list" vs.toArray 0)).get? (s.heap.objs.size+1)=some (j2 "list" vs.toArray 0):=by
  rw[<- hsz];exact aZ _ rfl
 show wpAny _ _ _ _ _ { s with heap:=((s.heap.push (j2 "list" #[] 0)).update s.heap.objs.size (i7 (·++vs.toArray))).push (j2 "list" vs.toArray 0) };rw[hsz];refine aE (cm (wpAny_call_entry_kw slot_list_sort ⟨_,b,rfl⟩ entry_list_sort ?body (ksk_l1 _ _)))
 case body=>
  show wpAny (model prog w) A.in1.in1 (am.«list.sort» ⟨[.ref (s.heap.objs.size+1)],[(e8 "key",.ref f)]⟩) _ _ _;rw[ksk_t1];have p:=T.push { s with heap:=(s.heap.push (j2 "list" #[] 0)).update s.heap.objs.size (i7 (·++vs.toArray)) } (j2 "list" vs.toArray 0) (T.up { s with heap:=s.heap.push (j2 "list" #[] 0) } s.heap.objs.size _ s.toks (T.push s (j2 "list" #[] 0) t0) d (fL.update _ _ _));refine YC (s:={ s with heap:=((s.heap.push (j2 "list" #[] 0)).update s.heap.objs.size (i7 (·++vs.toArray))).push (j2 "list" vs.toArray 0) }) T p b (XD d) n g turn λs' out c J q o sb k=>⟨_,rfl,?_⟩;exact aV ⟨_,rfl,h s' _ out c J q (wM _) o sb k⟩
end
end SS
noncomputable section
def L2.tabA:Option PySem.Addr:=some 204
namespace L2
abbrev jN:=Sum Int Str
noncomputable def EW:jN->Value->Bool
|.inl k,v=>Value.isInt k v
|.inr x,v=>Value.isStrOf x v
noncomputable def aO1(w:j0):jN->Int
|.inl k=>hashInt k
|.inr x=>hashStr w x
def jG:∀{k v},EW k v=true->(∃i t,k=u7 i/\v=v4 i t)\/(∃x t,k=gp x/\v=di x t)
|.inl i,v,h=>by
 obtain⟨t,e⟩:=Value.isInt_shape (k:=i) (v:=v) h;exact .inl ⟨i,t,rfl,e⟩
|.inr x,v,h=>by
 obtain⟨t,e⟩:=Value.isStrOf_shape (x:=x) (v:=v) h;exact .inr ⟨x,t,rfl,e⟩
def PP(i:Int)(t:Tok):EW (.inl i) (.int i t)=true:=by simp[EW,Value.isInt]
def PN(x:Str)(t:Tok):EW (.inr x) (.str x t)=true:=by simp[EW,Value.isStrOf]
def aFb(a b:Int):decide ((u7 a:jN)=u7 b)=(a==b):=by
 by_cases e:a=b
 ·subst e;simp
 ·have h:¬(u7 a:jN)=u7 b:=λq=>e (gh q);rw[c9 h];exact(beq_eq_false_iff_ne.mpr e).symm
def aE7(a b:Str):decide ((gp a:jN)=gp b)=decide (a=b):=by
 by_cases e:a=b
 ·subst e;simp
 ·have h:¬(gp a:jN)=gp b:=λq=>e (Sum.inr.inj q);rw[c9 h,c9 e]
def aFa(a:Int)(b:Str):decide ((u7 a:jN)=gp b)=false:=c9 (λq=>nomatch q)
def aE8(a:Str)(b:Int):decide ((gp a:jN)=u7 b)=false:=c9 (λq=>nomatch q)
noncomputable def fH(prog:dD)(w:j0):PySem.KeyKind prog w jN where
 is:=EW
 hash:=aO1 w
 inj:=λv a b ha hb=>by
  rcases jG ha with⟨i,t,rfl,rfl⟩ | ⟨x,t,rfl,rfl⟩
  ·rcases jG hb with⟨j,u,rfl,e⟩ | ⟨y,u,rfl,e⟩
   ·injection e with c _;rw[c]
   ·exact nomatch e
  ·rcases jG hb with⟨j,u,rfl,e⟩ | ⟨y,u,rfl,e⟩
   ·exact nomatch e
   ·injection e with c _;rw[c]
 byValue:=λk v h=>by
  rcases jG h with⟨i,t,rfl,rfl⟩ | ⟨x,t,rfl,rfl⟩<;>rfl
 pyHash:=λd h=>by
  rcases jG d with⟨i,t,rfl,rfl⟩ | ⟨x,t,rfl,rfl⟩
  ·exact wpAny_pyHash_int h
  ·exact wpAny_pyHash_str h
 eqBool:=λf d h=>by
  rcases jG f with⟨i,t,rfl,rfl⟩ | ⟨x,t,rfl,rfl⟩
  ·rcases jG d with⟨j,u,rfl,rfl⟩ | ⟨y,u,rfl,rfl⟩
   ·rw[aFb]at h;exact wpAny_eqBool_int h
   ·rw[aFa]at h;exact SeqAt.EqAt.int_str i t y u _ _ _ _ h
  ·rcases jG d with⟨j,u,rfl,rfl⟩ | ⟨y,u,rfl,rfl⟩
   ·rw[aE8]at h;exact SeqAt.EqAt.str_int x t j u _ _ _ _ h
   ·rw[aE7]at h;exact wpAny_eqBool_str h
 «strs»:=λk x t v h=>by
  rcases jG h with⟨i,u,rfl,e⟩ | ⟨y,u,rfl,e⟩
  ·exact nomatch e
  ·injection e with c _
   subst c;cases v<;>rfl
def IU(prog:dD)(w:j0)(i:Int)(t:Tok):(fH prog w).is (.inl i) (.int i t)=true:=PP i t
def IS(prog:dD)(w:j0)(x:Str)(t:Tok):(fH prog w).is (.inr x) (.str x t)=true:=PN x t
inductive V where
 |non | bl (b:Bool) | int (i:Int) | str (x:Str) | byt (b:Array UInt8) | flt (b:UInt64) | ref (a:Addr) | ty (n:String)
 deriving DecidableEq
def fU:V->Value->Prop
|.non,u=>u=j9
|.bl b,u=>u=eh b
|.int i,u=>∃t,u=v4 i t
|.str x,u=>∃t,u=di x t
|.byt b,u=>∃t,u=Value.bytes b t
|.flt b,u=>∃t,u=oh b t
|.ref a,u=>u=e7 a
|.ty n,u=>u=y4 n
abbrev fM:List V->List Value->Prop:=Paired fU
theorem fM.length{xs:List V}{us:List Value}(r:fM xs us):xs.length=us.length:=dm r
theorem fM.get:∀{xs us}{i:Nat}{x},fM xs us->xs[i]?=some x->∃u,us[i]?=some u/\fU x u
|_,_,_,_,.nil,e=>by simp at e
|_,_,0,_,.cons r _,e=>by simp at e;subst e;exact⟨_,rfl,r⟩
|_,_,i+1,x,.cons _ t,e=>by
 obtain⟨u,a,b⟩:=fM.get (i:=i) (x:=x) t (by simpa using e);exact⟨u,by simpa using a,b⟩
theorem fM.append:∀{xs ys us ws},fM xs us->fM ys ws->fM (xs++ys) (us++ws)
|_,_,_,_,.nil,s=>s
|_,_,_,_,.cons r t,s=>.cons r (fM.append t s)
theorem fM.take:∀{xs:List V}{us:List Value}(n:Nat),fM xs us->fM (xs.take n) (us.take n)
|_,_,0,_=>.nil
|_,_,_+1,.nil=>.nil
|_,_,n+1,.cons r t=>.cons r (fM.take n t)
theorem fM.drop:∀{xs:List V}{us:List Value}(n:Nat),fM xs us->fM (xs.drop n) (us.drop n)
|_,_,0,r=>r
|_,_,_+1,.nil=>.nil
|_,_,n+1,.cons _ t=>fM.drop n t
def uB:Option V->Option Value->Prop
|some v,some u=>fU v u
|none,none=>True
|_,_=>False
def KV{a:Type}:List (a×V)->List (a×Value)->Prop:=Paired λ(p:a×V) (q:a×Value)=>p.1=q.1/\fU p.2 q.2
noncomputable def kV:jN->V
|.inl i=>.int i
|.inr x=>.str x
inductive HO where
 /-- a list -/
 |lst (xs:List V)
 /-- a tuple (never changes) -/
 |tup (xs:List V)
 /-- a dict whose keys are ints and texts;one whose keys are tuples of ints and texts (the empty one is both) -/
 |dK (kvs:List (jN×V)) | dT (kvs:List (List jN×V))
 /-- a set of ints: i3 members,i3 size -/
 |set (S:Int->Bool) (n:Nat)
 /-- an instance of the class at C,i3 dict at dx,i3 attributes -/
 |ins (C dx:Addr) (fs:List (Str×V))
 /-- the dict of the instance at x -/
 |own (x:Addr)
 /-- the dict of an exception -/
 |xd (fs:List (Str×V))
 /-- a bound method,f of x -/
 |met (f x:Addr)
 /-- a range object lo,lo+1,.. below hi -/
 |rng (lo hi:Int)
 /-- a thing that is known to the object (the script;a dict while a Bq walks it): read,never written while it is so -/
 |frz (o:Obj) (u:HO)
 /-- a code object's table -/
 |tbl (ps:Array Value)
 /-- any other thing,by what is true of i3 one object (a def of Pj own: SetO a S n:=HO.ext λh=>..) -/
 |ext (φ:Heap->Prop)
abbrev Hp:=Addr->Option HO
noncomputable def fS(H:Hp)(a:Addr)(o:HO):Hp:=λb=>if b=a then some o else H b
def cE{H}{a:Addr}{o}:fS H a o a=some o:=by unfold fS;rw[b8 rfl]
def bZ{H}{a b:Addr}{o}(h:b≠a):fS H a o b=H b:=by unfold fS;rw[a8 h]
def aLl{H:Hp}{a b:Addr}{o u:HO}(h:H a=some o)(h':H b=some u)(d:o≠u):a≠b:=by
 intro e;subst e;rw[h]at h';exact d (d7 h')
def eP{H:Hp}{a b:Addr}{o:HO}(h:H a=some o)(h':H b=none):a≠b:=by
 intro e;subst e;rw[h]at h';cases h'
section
variable(P:dD)(w:j0)
def DX(h:Heap)(a:Addr)(b:Array Value):Prop:=∃o,h.get? a=some o/\o.cls=.type "tuple"/\∃n,o.data=.seq b n/\o.dict=none
def DX.tup{h}{a:Addr}{items}(x:DX h a items):Ej h a items:=let ⟨o,e,c,n,d,_⟩:=x;⟨o,e,c,n,d⟩
theorem DX.lt{h:Heap}{a:Addr}{items}(x:DX h a items):a<h.objs.size:=x.tup.lt
def DX.new(h:Heap)(a:Array Value):DX (h.push { cls:=.type "tuple",data:=.seq a }) h.objs.size a:=⟨_,aZ _ rfl,rfl,_,rfl,rfl⟩
def WW(oc:Obj):Prop:=∃(vs:Array Value)(q:Str)(t:Tok),oc.data=.fields vs/\vs[1]?=some (.str q t)
def iT(H:Hp)(h:Heap)(a:Addr):HO->Prop
|.lst xs=>xs.length<=bE/\∃(i3:List Value)(n:Nat),fM xs i3/\h.get? a=some { cls:=.type "list",data:=.seq i3.toArray n }
|.tup xs=>xs.length<=bE/\∃i3:List Value,fM xs i3/\DX h a i3.toArray
|.dK kvs=>kvs.length<=bE/\(a==r8)=false/\∃vs,KV kvs vs/\h.DictOf (fH P w) a vs
|.dT kvs=>kvs.length<=bE/\(a==r8)=false/\∃xs:List (List jN×Addr×Value),
  Paired (λ(p:List jN×V) (q:List jN×Addr×Value)=>p.1=q.1/\H q.2.1=some (.tup (p.1.map kV))/\fU p.2 q.2.2) kvs xs /\
  ∃o es ep,h.get? a=some o/\o.ExactDict/\o.data=.dict es ep/\es.toList=xs.map (entryOfKey (lh (fH P w)))/\(xs.map (·.1)).Nodup
|.set S n=>h.SetOf (intKind P w) a S n
|.ins C dx fs=>H dx=some (.own a)/\fs.length<=1000/\dx≠a/\h.get? a=some (jS C dx) /\
  ∃mA,h.Ns1 dx mA/\(∀f,uB (fs.lookup f) (mA f))/\mf mA (fs.map (·.1))
|.own _=>∃o,h.get? a=some o
|.xd fs=>∃mA,h.Ns1 a mA/\∀f,uB (fs.lookup f) (mA f)
|.rng lo hi=>∃t u v,h.get? a=some { cls:=.type "range",data:=.fields #[.int lo t,.int hi u,.int 1 v] }
|.frz o u=>h.get? a=some o/\iT H h a u
|.tbl _=>∃qs:Array Value,h.get? a=some { cls:=.none,data:=.fields qs }/\TriplesOk qs.toList/\∀(p:Pos)(c:Value),codeAmong p qs.toList=some c->∃c' oc,c=.ref c'/\H c'=some (.frz oc (.own a))/\WW oc
|.met f x=>h.get? a=some (xT (.ref f) (.ref x))
|.ext φ=>φ h/\(∃o,h.get? a=some o)/\∀b d:Heap,φ b->(∀o,b.get? a=some o->d.get? a=some o)->φ d
def pK(H:Hp)(h:Heap):Prop:=∀a o,H a=some o->iT P w H h a o
end
section
variable{P:dD}{w:j0}{H H':Hp}{h h':Heap}{a:Addr}{o:HO}
theorem iT.lt(x:iT P w H h a o):a<h.objs.size:=by
 cases o with
 |lst xs=>obtain⟨_,_,_,_,e⟩:=x;exact aY e
 |tup xs=>obtain⟨_,_,_,p⟩:=x;exact p.lt
 |dK kvs=>obtain⟨_,_,_,_,o,_,_,e,_⟩:=x;exact aY e
 |dT kvs=>obtain⟨_,_,_,_,o,_,_,e,_⟩:=x;exact aY e
 |set S n=>obtain⟨o,_,_,_,e,_⟩:=x;exact aY e
 |ins C dx fs=>obtain⟨_,_,_,e,_⟩:=x;exact aY e
 |own y=>obtain⟨_,e⟩:=x;exact aY e
 |xd fs=>obtain⟨_,⟨_,_,_,e,_⟩,_⟩:=x;exact aY e
 |rng lo hi=>obtain⟨_,_,_,e⟩:=x;exact aY e
 |frz ob u=>obtain⟨e,_⟩:=x;exact aY e
 |tbl ps=>obtain⟨_,e,_⟩:=x;exact aY e
 |met f y=>exact aY (show h.get? a=some _ from x)
 |ext φ=>obtain⟨_,⟨_,e⟩,_⟩:=x;exact aY e
theorem Paired.mapP{c d:Type}{F G:c->d->Prop}:∀{l₁ l₂},Paired F l₁ l₂->(∀a b,F a b->G a b)->Paired G l₁ l₂
|_,_,.nil,_=>.nil
|_,_,.cons r t,f=>.cons (f _ _ r) (Paired.mapP t f)
def iT.stay(x:iT P w H h a o)(k:∀b u,(b=a\/H b=some (.own a))->h.get? b=some u->h'.get? b=some u)
  (j:∀b,H b=some (.own a)->H' b=some (.own a)) (l:∀b xs,H b=some (.tup xs)->H' b=some (.tup xs)) (i:∀b ob u,H b=some (.frz ob u)->H' b=some (.frz ob u):=by exactλ_ _ _ q=>q):iT P w H' h' a o:=by
 induction o with
 |lst xs=>obtain⟨z,i3,n,r,e⟩:=x;exact⟨z,i3,n,r,k _ _ (.inl rfl) e⟩
 |tup xs=>obtain⟨z,i3,r,ob,e,c⟩:=x;exact⟨z,i3,r,ob,k _ _ (.inl rfl) e,c⟩
 |dK kvs=>obtain⟨z,y,vs,r,ob,es,ep,e,c⟩:=x;exact⟨z,y,vs,r,ob,es,ep,k _ _ (.inl rfl) e,c⟩
 |dT kvs=>
  obtain⟨z,y,xs,r,ob,es,ep,e,c⟩:=x;exact⟨z,y,xs,Paired.mapP r λp q z=>⟨z.1,l _ _ z.2.1,z.2.2⟩,ob,es,ep,k _ _ (.inl rfl) e,c⟩
 |set S n=>obtain⟨ob,es,ep,t,e,c⟩:=x;exact⟨ob,es,ep,t,k _ _ (.inl rfl) e,c⟩
 |ins C dx fs=>
  obtain⟨d,z,ne,e,mA,⟨od,es,ep,g,c⟩,r⟩:=x;exact⟨j _ d,z,ne,k _ _ (.inl rfl) e,mA,⟨od,es,ep,k _ _ (.inr d) g,c⟩,r⟩
 |own y=>obtain⟨ob,e⟩:=x;exact⟨ob,k _ _ (.inl rfl) e⟩
 |xd fs=>obtain⟨mA,⟨od,es,ep,e,c⟩,r⟩:=x;exact⟨mA,⟨od,es,ep,k _ _ (.inl rfl) e,c⟩,r⟩
 |rng lo hi=>obtain⟨t,u,v,e⟩:=x;exact⟨t,u,v,k _ _ (.inl rfl) e⟩
 |frz ob u m=>obtain⟨e,q⟩:=x;exact⟨k _ _ (.inl rfl) e,m q⟩
 |tbl ps=>
  obtain⟨qs,e,t,z⟩:=x;exact⟨qs,k a _ (.inl rfl) e,t,λp c q=>let ⟨c',oc,h1,h2,h3⟩:=z p c q;⟨c',oc,h1,i _ _ _ h2,h3⟩⟩
 |met f y=>
  have e:h.get? a=some (xT (.ref f) (.ref y)):=x;show h'.get? a=some (xT (.ref f) (.ref y));exact k a _ (.inl rfl) e
 |ext φ=>obtain⟨p,⟨o,e⟩,st⟩:=x;exact⟨st _ _ p λo q=>k _ _ (.inl rfl) q,⟨o,k _ _ (.inl rfl) e⟩,st⟩
theorem pK.lt(x:pK P w H h)(e:H a=some o):a<h.objs.size:=(x a o e).lt
def pK.fresh(x:pK P w H h)(e:h.objs.size<=a):H a=none:=by
 cases q:H a with
 |none=>rfl
 |some u=>exact c7 (bP (x.lt q) e) (eT _)
def pK.kept(x:pK P w H h)(k:∀b u,h.get? b=some u->h'.get? b=some u):pK P w H h':=λa o e=>
 (x a o e).stay (λb u _ q=>k b u q) (λ_ q=>q) λ_ _ q=>q
def pK.laid(x:pK P w H h)(k:∀b u,h.get? b=some u->h'.get? b=some u)(d:h.objs.size<=a)(new:iT P w (fS H a o) h' a o):pK P w (fS H a o) h':=λb u e=>by
 have hn:=x.fresh d;by_cases hb:b=a
 ·subst hb;rw[cE]at e;cases e;exact new
 ·rw[bZ hb]at e;exact(x b u e).stay (λc v _ q=>k c v q) (λc q=>by rw[bZ (eP q hn)];exact q) (λc xs q=>by rw[bZ (eP q hn)];exact q) λc ob v q=>by rw[bZ (eP q hn)];exact q
end
def Rd(H:Hp)(a:Addr)(u:HO):Prop:=H a=some u\/∃o,H a=some (.frz o u)
def Rd.ok{P w H h}{a:Addr}{u}(r:Rd H a u)(x:pK P w H h):iT P w H h a u:=by
 rcases r with r | ⟨o,r⟩
 ·exact x a u r
 ·obtain⟨_,q⟩:=x a _ r;exact q
def Mut:Option HO->Prop
|some (.lst _)=>True
|some (.dK _)=>True
|some (.dT _)=>True
|some (.set _ _)=>True
|some (.ins _ _ _)=>True
|some (.ext _)=>True
|_=>False
section
variable{P:dD}{w:j0}{H:Hp}{h h':Heap}{x e:Addr}{o':HO}
def pK.write(ok:pK P w H h)(a:Mut (H x))(g:e=x\/H e=some (.own x))(k:∀b u,b≠e->h.get? b=some u->h'.get? b=some u)(j:∃u,h'.get? e=some u)
  (new:iT P w (fS H x o') h' x o'):pK P w (fS H x o') h':=λb u q=>by
 have f:∀c y,H c=some (.own y)->c≠x:=λc y r z=>by subst z;rw[r]at a;exact a
 have l:∀c xs,H c=some (.tup xs)->c≠x:=λc xs r z=>by subst z;rw[r]at a;exact a
 by_cases hb:b=x
 ·subst hb;rw[cE]at q;cases q;exact new
 ·rw[bZ hb]at q;by_cases d:b=e
  ·have i:H b=some (.own x):=by
    rcases g with z | z
    ·exact c7 (d.trans z) hb
    ·rw[d];exact z
   rw[q]at i;cases i;obtain⟨v,m⟩:=j;exact⟨v,by rw[d];exact m⟩
  ·refine(ok b u q).stay (λc v hc r=>k c v ?_ r) (λc r=>by rw[bZ (f c b r)];exact r) (λc xs r=>by rw[bZ (l c xs r)];exact r) λc ob v r=>by rw[bZ (λz=>by subst z;rw[r]at a;exact a)];exact r
   rcases hc with rfl | hc
   ·exact d
   ·rintro rfl;rcases g with z | z
    ·exact f c b hc z
    ·rw[hc]at z;cases z;exact hb rfl
end
structure Un(fs ex:List Addr)(H H':Hp)(h h':Heap):Prop where
 keep:∀b o,h.get? b=some o->H b=none->b∉fs->b∉ex->h'.get? b=some o
 slot:∀b o,h.get? b=some o->H b=none->b∈fs->b∉ex->∃sl,h'.get? b=some { o with slots:=sl }
 free:∀b o,h.get? b=some o->H b=none->b∉ex->H' b=none
 there:∀b o,h.get? b=some o->b∉ex->∃o',h'.get? b=some o'
 tups:∀b xs,H b=some (.tup xs)->H' b=some (.tup xs)
 frzs:∀b o u,H b=some (.frz o u)->H' b=some (.frz o u)
 tbls:∀b ps,H b=some (.tbl ps)->∃more,H' b=some (.tbl (ps++more))
section
variable{fs ex:List Addr}{H H1 H2:Hp}{h h1 h2 h':Heap}{a x e:Addr}{o:HO}
def Un.any(u:Un fs ex H H1 h h1){b:Addr}{ob}(q:h.get? b=some ob)(n:H b=none)(c:b∉ex):∃sl,h1.get? b=some { ob with slots:=sl }:=by
 by_cases hb:b∈fs
 ·exact u.slot b ob q n hb c
 ·exact⟨ob.slots,u.keep b ob q n hb c⟩
def Un.trans(a:Un fs ex H H1 h h1)(b:Un fs ex H1 H2 h1 h2):Un fs ex H H2 h h2 where
 keep:=λc ob q n g d=>b.keep c ob (a.keep c ob q n g d) (a.free c ob q n d) g d
 slot:=λc ob q n g d=>by
  obtain⟨sl,f⟩:=a.slot c ob q n g d;obtain⟨j,i⟩:=b.slot c _ f (a.free c ob q n d) g d;exact⟨j,i⟩
 free:=λc ob q n d=>by
  obtain⟨o',f⟩:=a.there c ob q d;exact b.free c o' f (a.free c ob q n d) d
 there:=λc ob q d=>by
  obtain⟨o',f⟩:=a.there c ob q d;exact b.there c o' f d
 tups:=λc xs q=>b.tups c xs (a.tups c xs q)
 frzs:=λc ob xs q=>b.frzs c ob xs (a.frzs c ob xs q)
 tbls:=λc ps q=>by
  obtain⟨k,f⟩:=a.tbls c ps q;obtain⟨l,i⟩:=b.tbls c _ f;exact⟨k++l,by rw[i,QZ]⟩
def Un.kept(k:∀b u,h.get? b=some u->h'.get? b=some u):Un fs ex H H h h':=
 ⟨λb ob q _ _ _=>k b ob q,λb ob q _ _ _=>⟨ob.slots,k b ob q⟩,λ_ _ _ n _=>n,λb ob q _=>⟨ob,k b ob q⟩,λ_ _ q=>q,λ_ _ _ q=>q,λ_ ps q=>⟨#[],by rw[q];simp⟩⟩
def Un.refl:Un fs ex H H h h:=Un.kept λ_ _ q=>q
def Un.laid(k:∀b u,h.get? b=some u->h'.get? b=some u)(c:h.objs.size<=a)(hn:H a=none):Un fs ex H (fS H a o) h h' where
 keep:=λb u q _ _ _=>k b u q
 slot:=λb u q _ _ _=>⟨u.slots,k b u q⟩
 free:=λb u q n _=>by rw[bZ (cI (bP (aY q) c))];exact n
 there:=λb u q _=>⟨u,k b u q⟩
 tups:=λb xs q=>by rw[bZ (eP q hn)];exact q
 frzs:=λb u xs q=>by rw[bZ (eP q hn)];exact q
 tbls:=λb ps q=>⟨#[],by rw[bZ (eP q hn),q];simp⟩
def Un.write(c:Mut (H x))(i:e=x\/H e=some (.own x))(k:∀b u,b≠e->h.get? b=some u->h'.get? b=some u)(g:∃u,h'.get? e=some u):Un fs ex H (fS H x o) h h':=by
 have d:∀b,H b=none->b≠x:=λb n z=>by subst z;rw[n]at c;exact c
 have hb:∀b,H b=none->b≠e:=λb n z=>by
  subst z;rcases i with r | r
  ·exact d b n r
  ·rw[n]at r;cases r
 have hm:∀b u,H b=some u->¬Mut (some u)->b≠x:=λb u q nm z=>by subst z;rw[q]at c;exact nm c
 refine⟨λb u q n _ _=>k b u (hb b n) q,λb u q n _ _=>⟨u.slots,k b u (hb b n) q⟩,λb u q n _=>by rw[bZ (d b n)];exact n,λb u q _=>?_,
  λb xs q=>by rw[bZ (hm b _ q λz=>z)];exact q,λb u xs q=>by rw[bZ (hm b _ q λz=>z)];exact q,λb ps q=>⟨#[],by rw[bZ (hm b _ q λz=>z),q];simp⟩⟩
 by_cases f:b=e
 ·subst f;exact g
 ·exact⟨u,k b u f q⟩
end
noncomputable def trk(h:Heap)(H:Hp):List Addr:=(fZ h.objs.size).filter λa=>(H a).isSome
noncomputable def GF(h:Heap)(H:Hp):Heap:=PySem.W.hideAll h (trk h H)
def PU(h:Heap)(H:Hp):(GF h H).objs.size=h.objs.size:=PySem.W.hideAll_size _ _
def VD{h:Heap}{H}{b:Addr}{o}(e:h.get? b=some o)(n:H b=none):(GF h H).get? b=some o:=
 PySem.W.hideAll_get _ e λhm=>by
  have q:(H b).isSome=true:=(cC.mp hm).2;rw[n]at q;simp at q
def ZG{h:Heap}{H:Hp}{b:Addr}{o}(e:(GF h H).get? b=some o):h.get? b=some o/\H b=none:=by
 have a:h.get? b=some o:=PySem.W.of_hideAll (trk h H) e;refine⟨a,?_⟩
 cases q:H b with
 |none=>rfl
 |some x=>
  have hm:b∈trk h H:=cC.mpr ⟨qJ.mpr (aY a),by simp[q]⟩;have z:(GF h H).get? b=none:=PySem.W.hideAll_none (trk h H) hm;rw[z]at e;cases e
noncomputable def aA0(g h:Heap)(L:Addr):List (Addr×Obj):=(fZ h.objs.size).filterMap λa=>if a=L\/(g.get? a).isSome=true then none else(h.get? a).map λo=>(a,o)
noncomputable def jW(g h:Heap)(L d:Addr):List (Addr×Obj):=(aA0 g h L).filter λp=>decide (p.1≠d)
structure Mod(K:aI)(mg:Str->Option Value)(base:Heap):Prop where
 kin:K.In base
 glob:base.Ns fD mg
 blt:∃mb,base.Ns z5 mb/\∀x:Str,x≠"__name__"->mb x=g6 x
 nolimit:base.NoLimit
 bmod:∃bm o,mg "__builtins__"=some (.ref bm)/\bm≠z5/\base.get? bm=some o/\o.cls=.type "module"/\o.dict=some z5/\o.data=.plain
structure Cx where
 prog:dD
 w:j0
 K:aI
 mg:Str->Option Value
 base:Heap
 A:g9
 N:List Str
 s₀:Shared
 H₀:Hp
 env:Env
 outer:List Env
 stack:List Env
 ex:List Addr
 fn:Str->Bool
 calm:Bool
 pn:List (Addr×Obj)
 xe:Value->Shared->Prop
noncomputable def qO(l:List Env):List Addr:=l.filterMap (·.frame)
noncomputable abbrev Cx.fs(X:Cx):List Addr:=qO X.outer
def Vis(sc:Scope)(x:Str):Prop:=sc.names.lookup x=some .local\/sc.names.lookup x=some .cell\/sc.names.lookup x=some .free
def W8(sc:Scope)(x:Str):Prop:=sc.names.lookup x=some .local\/sc.names.lookup x=some .cell
def aPl(env:Env)(h:Heap)(m:Str->Option Value)(x:Str)(u:Value):Prop:=
 (env.kindOf x=some .local/\m x=some u)\/((env.kindOf x=some .cell\/env.kindOf x=some .free)/\∃c,env.cells.lookup x=some c/\h.IsCell c (some u))
def Tb(H:Hp):Prop:=∀P,tabA=some P->∃ps,H P=some (.tbl ps)
structure Cx.Ok(X:Cx):Prop where
 mod:Mod X.K X.mg X.base
 kind:X.env.scope.kind=.function
 glob:X.env.globals=fD
 blt:X.env.builtins=z5
 above:X.s₀.heap.objs.size<=X.env.locals
 inj:∀x y c,X.env.cells.lookup x=some c->X.env.cells.lookup y=some c->x=y
 has:∀x,(X.env.kindOf x=some .cell\/X.env.kindOf x=some .free)->∃c,X.env.cells.lookup x=some c
 cab:∀x c,X.fn x=true->X.env.cells.lookup x=some c->X.s₀.heap.objs.size<=c
 hd:X.calm=true->X.A.handled=none
 frames:X.A.frames=some X.stack
 stk:X.stack=X.outer\/(X.stack=X.env::X.outer/\X.env.frame=some X.env.locals)
 exf:∀b∈X.ex,b≠X.env.locals/\∀x c,X.env.cells.lookup x=some c->c≠b
 bs:∀b o,X.base.get? b=some o->X.s₀.heap.get? b=some o/\X.H₀ b=none
 bsz:X.base.objs.size<=X.s₀.heap.objs.size
 noex:∀b o,X.base.get? b=some o->b∉X.ex
 exfs:∀b∈X.ex,b∉X.fs
 funs:X.s₀.heap.FunFrames X.base X.outer
 frf:∀b∈X.fs,X.H₀ b=none
 tab:Tb X.H₀
structure dI(X:Cx)(pins:List (Addr×Obj))(σ:List (Option V))(H:Hp)(s:Shared):Prop where
 ok:X.Ok
 os:s.os=X.s₀.os
 bare:ba s.gens
 base:Un X.fs X.ex X.H₀ H X.s₀.heap s.heap
 loc:∃m,s.heap.Ns X.env.locals m/\∀(i:Nat)(x:Str)(v:V),X.N[i]?=some x->σ[i]?=some (some v)->Vis X.env.scope x->∃u,fU v u/\aPl X.env s.heap m x u
 cell:∀x c,X.env.cells.lookup x=some c->∃v,s.heap.IsCell c v
 free:H X.env.locals=none
 freeC:∀x c,X.env.cells.lookup x=some c->H c=none
 pin:∀p∈X.pn++pins,s.heap.get? p.1=some p.2/\H p.1=none/\p.1≠X.env.locals/\p.1∉X.fs/\∀v,p.2.data≠.cell v
 hok:pK X.prog X.w H s.heap
 len:σ.length=X.N.length
section
variable{X:Cx}{pins:List (Addr×Obj)}{σ:List (Option V)}{H H':Hp}{s:Shared}{h':Heap}
def Cx.Ok.nofr(ok:X.Ok){b:Addr}{o}(e:X.base.get? b=some o):b∉X.fs:=λhb=>by
 have:=(ok.funs.mem hb).1;rw[e]at this;cases this
theorem dI.bs(I:dI X pins σ H s):∀b o,X.base.get? b=some o->s.heap.get? b=some o/\H b=none:=λb o e=>
 ⟨I.base.keep b o (I.ok.bs b o e).1 (I.ok.bs b o e).2 (I.ok.nofr e) (I.ok.noex b o e),I.base.free b o (I.ok.bs b o e).1 (I.ok.bs b o e).2 (I.ok.noex b o e)⟩
def dI.bk(I:dI X pins σ H s):∀b o,X.base.get? b=some o->s.heap.get? b=some o:=λb o e=>(I.bs b o e).1
theorem dI.mod(I:dI X pins σ H s):Mod X.K X.mg X.base:=I.ok.mod
def dI.kIn(I:dI X pins σ H s):X.K.In s.heap:=I.ok.mod.kin.keeps I.bk
theorem dI.nolimit(I:dI X pins σ H s):s.heap.NoLimit:=I.ok.mod.nolimit.keeps I.bk
theorem dI.lt(I:dI X pins σ H s):X.env.locals<s.heap.objs.size:=let ⟨_,hn,_⟩:=I.loc;hn.lt
def dI.sz(I:dI X pins σ H s):X.s₀.heap.objs.size<=s.heap.objs.size:=aX I.ok.above (iE I.lt)
def dI.nofs(I:dI X pins σ H s){a:Addr}(h:s.heap.objs.size<=a):a∉X.fs:=λhb=>by
 obtain⟨_,o,b,_⟩:=I.ok.funs.mem hb;exact c7 (bP (aY b) (aX I.sz h)) (eT _)
def dI.cne(I:dI X pins σ H s):∀x c,X.env.cells.lookup x=some c->c≠X.env.locals:=λx c e z=>by
 obtain⟨v,o,a,hd⟩:=I.cell x c e;obtain⟨m,⟨o',es,ep,d,b,_⟩,_⟩:=I.loc;rw[z,d]at a;cases a;rw[b]at hd;cases hd
theorem dI.funs(I:dI X pins σ H s):s.heap.FunFrames X.base X.outer:=by
 have all:∀l,(∀b∈qO l,b∈X.fs)->X.s₀.heap.FunFrames X.base l->s.heap.FunFrames X.base l:=by
  intro l
  induction l with
  |nil=>intro _ _;trivial
  |cons env r h=>
   intro hs d;obtain⟨hk,⟨L,o,c,hn,f,hd⟩,g⟩:=d;have a:L∈X.fs:=hs L (by unfold qO;rw[kU,c];exact aO);obtain⟨sl,e⟩:=I.base.slot L o f (I.ok.frf L a) a λz=>I.ok.exfs L z a;exact⟨hk,⟨L,_,c,hn,e,hd⟩,h (λb hb=>hs b (by unfold qO;rw[kU,c];exact aJ _ hb)) g⟩
 exact all X.outer (λ_ hb=>hb) I.ok.funs
theorem dI.stack(I:dI X pins σ H s):s.heap.FunFrames X.base X.stack:=by
 rcases I.ok.stk with e | ⟨e,a⟩
 ·rw[e];exact I.funs
 ·rw[e];obtain⟨m,hn,_⟩:=I.loc;refine .cons (by rw[I.ok.kind];decide) a hn ?_ I.funs;exact pD (aX I.ok.bsz I.ok.above)
def dI.stkSub(I:dI X pins σ H s):∀b∈qO X.stack,b∈X.env.locals::X.fs:=λb hb=>by
 rcases I.ok.stk with e | ⟨e,a⟩
 ·rw[e]at hb;exact aJ _ hb
 ·rw[e]at hb;unfold qO at hb;rw[kU,a]at hb;exact hb
def dI.stkFree(I:dI X pins σ H s):∀b∈qO X.stack,H b=none:=λb hb=>by
 rcases aP.mp (I.stkSub b hb)with e | hb
 ·rw[e];exact I.free
 ·obtain⟨_,o,a,_⟩:=I.ok.funs.mem hb;exact I.base.free b o a (I.ok.frf b hb) λz=>I.ok.exfs b z hb
def dI.step{g':Array GenState}{t':Nat}{d':Drawn}{ch:List Addr}(I:dI X pins σ H s)
  (t:∀b∈ch,(b∈X.ex\/X.s₀.heap.objs.size<=b)/\b≠X.env.locals/\(∀x c,X.env.cells.lookup x=some c->c≠b)/\∀p∈X.pn++pins,p.1≠b)
  (keep:∀b o,b≠X.env.locals->b∉X.fs->b∉ch->s.heap.get? b=some o->H b=none->h'.get? b=some o)
  (slot:∀b o,b≠X.env.locals->b∈X.fs->b∉ch->s.heap.get? b=some o->H b=none->∃sl,h'.get? b=some { o with slots:=sl }) (free:∀b o,b∉ch->s.heap.get? b=some o->H b=none->H' b=none)
  (there:∀b o,b∉ch->s.heap.get? b=some o->∃o',h'.get? b=some o')
  (tups:∀b xs,H b=some (.tup xs)->H' b=some (.tup xs)) (frzs:∀b o u,H b=some (.frz o u)->H' b=some (.frz o u)) (tbls:∀b ps,H b=some (.tbl ps)->∃more,H' b=some (.tbl (ps++more)))
  (ns:∀m,s.heap.Ns X.env.locals m->h'.Ns X.env.locals m) (hok:pK X.prog X.w H' h') (K:ba g') :
  dI X pins σ H' { s with heap:=h',gens:=g',drawn:=d',toks:=t' }:=by
 have B:∀b o,X.s₀.heap.get? b=some o->b≠X.env.locals:=λb o e=>cI (bP (aY e) I.ok.above)
 have y:∀b o,X.s₀.heap.get? b=some o->b∉X.ex->b∉ch:=λb o e a hb=>by
  rcases(t b hb).1 with z | z
  ·exact a z
  ·exact c7 (bP (aY e) z) (eT _)
 have A:∀x c,X.env.cells.lookup x=some c->∀v,s.heap.IsCell c v->h'.IsCell c v:=λx c e v ⟨o,g,hd⟩=>by
  have h:c∉ch:=λz=>(t c z).2.2.1 x c e rfl;by_cases C:c∈X.fs
  ·obtain⟨sl,q⟩:=slot c o (I.cne x c e) C h g (I.freeC x c e);exact⟨_,q,hd⟩
  ·exact⟨o,keep c o (I.cne x c e) C h g (I.freeC x c e),hd⟩
 refine⟨I.ok,I.os,K,⟨λb o e n hb a=>?_,λb o e n hb a=>?_,λb o e n a=>?_,λb o e a=>?_,λb xs e=>tups b xs (I.base.tups b xs e),λb o xs e=>frzs b o xs (I.base.frzs b o xs e),λb ps e=>?_⟩,?_,λx c e=>?_,?_,λx c e=>?_,λp E=>?_,hok,I.len⟩
 ·exact keep b o (B b o e) hb (y b o e a) (I.base.keep b o e n hb a) (I.base.free b o e n a)
 ·obtain⟨sl,f⟩:=I.base.slot b o e n hb a;obtain⟨G,j⟩:=slot b _ (B b o e) hb (y b o e a) f (I.base.free b o e n a);exact⟨G,j⟩
 ·obtain⟨o',f⟩:=I.base.there b o e a;exact free b o' (y b o e a) f (I.base.free b o e n a)
 ·obtain⟨o',f⟩:=I.base.there b o e a;exact there b o' (y b o e a) f
 ·obtain⟨M,f⟩:=I.base.tbls b ps e;obtain⟨N,j⟩:=tbls b _ f;exact⟨M++N,by rw[j,QZ]⟩
 ·obtain⟨m,hn,L⟩:=I.loc;refine⟨m,ns m hn,λi x v f j J=>?_⟩;obtain⟨u,r,l⟩:=L i x v f j J;refine⟨u,r,?_⟩;rcases l with l | ⟨k,c,e,z⟩
  ·exact .inl l
  ·exact .inr ⟨k,c,e,A x c e _ z⟩
 ·obtain⟨v,z⟩:=I.cell x c e;exact⟨v,A x c e v z⟩
 ·obtain⟨m,⟨o,_,_,g,_⟩,_⟩:=I.loc;exact free _ o (λz=>(t _ z).2.1 rfl) g I.free
 ·obtain⟨v,o,g,hd⟩:=I.cell x c e;exact free c o (λz=>(t c z).2.2.1 x c e rfl) g (I.freeC x c e)
 ·obtain⟨e,n,ne,F,d⟩:=I.pin p E;have h:p.1∉ch:=λz=>(t p.1 z).2.2.2 p E rfl;exact⟨keep p.1 p.2 ne F h e n,free p.1 p.2 h e n,ne,F,d⟩
def dI.un{t':Nat}(I:dI X pins σ H s)(u:Un X.fs [] H H' s.heap h')(hok:pK X.prog X.w H' h'):dI X pins σ H' { s with heap:=h',toks:=t' }:=by
 obtain⟨m,⟨o,es,ep,a,r⟩,_⟩:=id I.loc;obtain⟨sl,f⟩:=u.any a I.free (by simp)
 exact I.step (g':=s.gens) (d':=s.drawn) (ch:=[]) (λ_ z=>nomatch z) (λb o _ hb _ e n=>u.keep b o e n hb (by simp)) (λb o _ hb _ e n=>u.slot b o e n hb (by simp)) (λb o _ e n=>u.free b o e n (by simp)) (λb o _ e=>u.there b o e (by simp)) u.tups u.frzs u.tbls (λm' hm=>by
  obtain⟨o',h,d,c,g⟩:=hm;rw[a]at c;cases c;exact⟨_,h,d,f,g⟩) hok I.bare
def dI.call{g':Array GenState}{t':Nat}{d':Drawn}{ch:List Addr}(I:dI X pins σ H s)(u:Un (qO X.stack) ch H H' s.heap h')(hok:pK X.prog X.w H' h')(j:ba g')
  (g:∀b∈ch,(b∈X.ex\/X.s₀.heap.objs.size<=b)/\b≠X.env.locals/\(∀x c,X.env.cells.lookup x=some c->c≠b)/\∀p∈X.pn++pins,p.1≠b) :
  dI X pins σ H' { s with heap:=h',gens:=g',drawn:=d',toks:=t' }:=by
 obtain⟨m,⟨o,es,ep,f,r⟩,_⟩:=id I.loc;obtain⟨sl,d⟩:=u.any f I.free λz=>(g _ z).2.1 rfl
 exact I.step (ch:=ch) g (λb o d hb a e n=>u.keep b o e n (λz=>(aP.mp (I.stkSub b z)).elim d hb) a) (λb o _ _ a e n=>u.any e n a) (λb o a e n=>u.free b o e n a) (λb o a e=>u.there b o e a) u.tups u.frzs u.tbls (λm' hm=>by
  obtain⟨o',l,i,h,k⟩:=hm;rw[f]at h;cases h;exact⟨_,l,i,d,k⟩) hok j
def dI.turned{t':Nat}{it:Addr}(I:dI X pins σ H s)(k:∀b o,b≠it->s.heap.get? b=some o->h'.get? b=some o)(hn:H it=none)(f:it≠X.env.locals)
  (g:it∈X.ex\/X.s₀.heap.objs.size<=it) (h:∀x c,X.env.cells.lookup x=some c->c≠it) (i:∀p∈X.pn++pins,p.1≠it):dI X pins σ H { s with heap:=h',toks:=t' }:=by
 have d:∀b u,H b=some u->b≠it:=λb u e z=>by rw[z,hn]at e;cases e
 refine I.step (g':=s.gens) (d':=s.drawn) (ch:=[it]) (λb hb=>?_) (λb o _ _ a e _=>k b o (λz=>a (by simp[z])) e) (λb o _ _ a e _=>⟨o.slots,k b o (λz=>a (by simp[z])) e⟩) (λ_ _ _ _ n=>n)
  (λb o a e=>⟨o,k b o (λz=>a (by simp[z])) e⟩) (λ_ _ e=>e) (λ_ _ _ e=>e) (λb ps e=>⟨#[],by rw[e];simp⟩) (λm hm=>?_) (λb u e=>?_) I.bare
 ·have e:b=it:=by simpa using hb
  subst e;exact⟨g,f,h,i⟩
 ·obtain⟨o,es,ep,j,r⟩:=hm;exact⟨o,es,ep,k _ o (n8 f) j,r⟩
 ·refine(I.hok b u e).stay (λc v a q=>k c v ?_ q) (λ_ q=>q) λ_ _ q=>q;rcases a with z | z
  ·rw[z];exact d b u e
  ·exact d c _ z
def dI.tok(I:dI X pins σ H s)(t:Nat):dI X pins σ H { s with toks:=t }:=I.un (h':=s.heap) (t':=t) Un.refl I.hok
theorem dI.kept{t':Nat}(I:dI X pins σ H s)(k:∀b u,s.heap.get? b=some u->h'.get? b=some u):dI X pins σ H { s with heap:=h',toks:=t' }:=I.un (Un.kept k) (I.hok.kept k)
theorem dI.laid{a:Addr}{o}{t':Nat}(I:dI X pins σ H s)(k:∀b u,s.heap.get? b=some u->h'.get? b=some u)(c:s.heap.objs.size<=a)(new:iT X.prog X.w (fS H a o) h' a o) :
  dI X pins σ (fS H a o) { s with heap:=h',toks:=t' }:=I.un (Un.laid k c (I.hok.fresh c)) (I.hok.laid k c new)
theorem dI.write{x e:Addr}{o}{t':Nat}(I:dI X pins σ H s)(d:Mut (H x))(c:e=x\/H e=some (.own x))(k:∀b u,b≠e->s.heap.get? b=some u->h'.get? b=some u)(a:∃u,h'.get? e=some u)
  (new:iT X.prog X.w (fS H x o) h' x o):dI X pins σ (fS H x o) { s with heap:=h',toks:=t' }:=I.un (Un.write d c k a) (I.hok.write d c k a new)
def dI.pins_of{pins'}(I:dI X pins σ H s)(h:∀p∈pins',s.heap.get? p.1=some p.2/\H p.1=none/\p.1≠X.env.locals/\p.1∉X.fs/\∀v,p.2.data≠.cell v):dI X pins' σ H s:=
 ⟨I.ok,I.os,I.bare,I.base,I.loc,I.cell,I.free,I.freeC,λp a=>(dQ.mp a).elim (λz=>I.pin p (pC _ z)) (h p),I.hok,I.len⟩
def B6{N:List Str}(e:N.Nodup){i j:Nat}{x}(a:N[i]?=some x)(b:N[j]?=some x):i=j:=by
 obtain⟨f,c⟩:=aF.mp a;obtain⟨g,d⟩:=aF.mp b;exact(XF e).mp (c.trans d.symm)
def EC{M A}{E:Value->Shared->Prop}{i:Nat}{x v u}{Q:Unit->Shared->Prop}(I:dI X pins σ H s)(W:X.N.Nodup)(hi:X.N[i]?=some x)(g:W8 X.env.scope x)(r:fU v u)
  (h:∀s',dI X pins (σ.set i (some v)) H s'->(∃a,fL a s.heap s'.heap/\(a=X.env.locals\/X.env.cells.lookup x=some a))->Q () s') (hf:X.fn x=true\/X.env.scope.names.lookup x=some .local:=by first | exact .inl rfl | exact .inr rfl | assumption):wpAny M A (storeName X.env x u) Q E s:=by
 obtain⟨m,hn,Y⟩:=id I.loc;have Di:(X.env.scope.kind==.class||(X.env.scope.kind==.module&&X.env.locals != X.env.globals))=false:=by rw[I.ok.kind];rfl
 have P:i<σ.length:=by rw[I.len];exact(aF.mp hi).1
 have cne:=I.cne
 have Z:∀{a:Addr}{h':Heap},(∃o,s.heap.get? a=some o/\H a=none)->fL a s.heap h'->pK X.prog X.w H h':=λ{a h'} ha hs b ob e=>by
  obtain⟨_,_,U⟩:=ha;refine(I.hok b ob e).stay (λc B hc q=>(hs.2 c ?_).trans q) (λ_ q=>q) λ_ _ q=>q;rintro rfl;rcases hc with rfl | hc
  ·rw[U]at e;cases e
  ·rw[U]at hc;cases hc
 rcases g with hk | hk
 ·refine wpAny_storeName_local hk hn (λh' Hd hs=>?_) Di;obtain⟨oL,_,_,Iv,_⟩:=id hn;refine h _ ⟨I.ok,I.os,I.bare,⟨λb o e n hb g=>?_,λb o e n hb g=>?_,I.base.free,λb o e g=>?_,I.base.tups,I.base.frzs,I.base.tbls⟩,⟨_,Hd,λj y O f l C=>?_⟩,λy c e=>?_,I.free,I.freeC,λp F=>?_,Z ⟨oL,Iv,I.free⟩ hs,by simpa using I.len⟩ ⟨_,hs,.inl rfl⟩
  ·exact(hs.2 b (cI (bP (aY e) I.ok.above))).trans (I.base.keep b o e n hb g)
  ·obtain⟨sl,f⟩:=I.base.slot b o e n hb g;exact⟨sl,(hs.2 b (cI (bP (aY e) I.ok.above))).trans f⟩
  ·obtain⟨o',f⟩:=I.base.there b o e g;exact⟨o',(hs.2 b (cI (bP (aY e) I.ok.above))).trans f⟩
  ·by_cases t:j=i
   ·subst t;rw[hi]at f;cases f;rw[aR P]at l;cases l;exact⟨u,r,.inl ⟨hk,by simp⟩⟩
   ·rw[aQ (n8 t)]at l;obtain⟨L,K,q⟩:=Y j y O f l C;refine⟨L,K,?_⟩;rcases q with⟨k,e⟩ | ⟨k,c,e,z⟩
    ·refine .inl ⟨k,?_⟩;have:y≠x:=λe=>t (B6 W f (e▸hi));simp[this,e]
    ·exact .inr ⟨k,c,e,z.sameBut hs (cne y c e)⟩
  ·obtain⟨B,z⟩:=I.cell y c e;exact⟨B,z.sameBut hs (cne y c e)⟩
  ·obtain⟨e,n,ne,G,d⟩:=I.pin p F;exact⟨(hs.2 p.1 ne).trans e,n,ne,G,d⟩
 ·have J:X.fn x=true:=by
   rcases hf with z | z
   ·exact z
   ·rw[z]at hk;cases hk
  obtain⟨c,hc⟩:=I.ok.has x (.inl hk);obtain⟨B,z⟩:=I.cell x c hc;refine wpAny_storeName_cell I.ok.kind hk hc z (λh' T hs=>?_);obtain⟨oc,S,Lm⟩:=id z;refine h { s with heap:=h' } ⟨I.ok,I.os,I.bare,⟨λb o e n hb g=>?_,λb o e n hb g=>?_,I.base.free,λb o e g=>?_,I.base.tups,I.base.frzs,I.base.tbls⟩,⟨m,hn.sameBut hs (n8 (cne x c hc)),λj y O f l C=>?_⟩,λy c' e=>?_,I.free,I.freeC,λp F=>?_,Z ⟨oc,S,I.freeC x c hc⟩ hs,by simpa using I.len⟩ ⟨c,hs,.inr hc⟩
  ·exact(hs.2 b (cI (bP (aY e) (I.ok.cab x c J hc)))).trans (I.base.keep b o e n hb g)
  ·obtain⟨sl,f⟩:=I.base.slot b o e n hb g;exact⟨sl,(hs.2 b (cI (bP (aY e) (I.ok.cab x c J hc)))).trans f⟩
  ·obtain⟨o',f⟩:=I.base.there b o e g;exact⟨o',(hs.2 b (cI (bP (aY e) (I.ok.cab x c J hc)))).trans f⟩
  ·by_cases t:j=i
   ·subst t;rw[hi]at f;cases f;rw[aR P]at l;cases l;exact⟨u,r,.inr ⟨.inl hk,c,hc,T⟩⟩
   ·rw[aQ (n8 t)]at l;obtain⟨L,K,q⟩:=Y j y O f l C;refine⟨L,K,?_⟩;rcases q with q | ⟨k,c',e,z'⟩
    ·exact .inl q
    ·refine .inr ⟨k,c',e,z'.sameBut hs ?_⟩;rintro rfl;exact t (B6 W f (I.ok.inj _ _ _ e hc▸hi))
  ·by_cases R:c'=c
   ·subst R;exact⟨_,T⟩
   ·obtain⟨w2,z2⟩:=I.cell y c' e;exact⟨w2,z2.sameBut hs R⟩
  ·obtain⟨e,n,ne,G,d⟩:=I.pin p F;refine⟨(hs.2 p.1 ?_).trans e,n,ne,G,d⟩;intro q;rw[q,S]at e;have q':oc=p.2:=d7 e;exact d B (by rw[<- q'];exact Lm)
def BJ{M A}{E:Value->Shared->Prop}{i:Nat}{x v u}{Q:Unit->Shared->Prop}(I:dI X pins σ H s)(b:X.N.Nodup)(hi:X.N[i]?=some x)(d:W8 X.env.scope x)(r:fU v u)
  (h:∀s',dI X pins (σ.set i (some v)) H s'->Q () s') (c:X.fn x=true\/X.env.scope.names.lookup x=some .local:=by first | exact .inl rfl | exact .inr rfl | assumption):wpAny M A (storeName X.env x u) Q E s:=
 EC I b hi d r (λs' a _=>h s' a) c
def dI.call'{s':Shared}{ch}(I:dI X pins σ H s)(d:s'.os=s.os)(u:Un (qO X.stack) ch H H' s.heap s'.heap)(hok:pK X.prog X.w H' s'.heap)(a:ba s'.gens)
  (f:∀b∈ch,(b∈X.ex\/X.s₀.heap.objs.size<=b)/\b≠X.env.locals/\(∀x c,X.env.cells.lookup x=some c->c≠b)/\∀p∈X.pn++pins,p.1≠b):dI X pins σ H' s':=by
 obtain⟨h',g',d',t',o'⟩:=s';have e:o'=s.os:=d;subst e;exact I.call (g':=g') (t':=t') (d':=d') u hok a f
end
abbrev XK:=Value->Option Addr->Hp->Prop
abbrev St:=List (Option V)
abbrev VK:=V->Hp->Prop
abbrev TE:=St->Hp->VK->Prop
abbrev TT:=St->Hp->(Bool->Hp->Prop)->Prop
abbrev TA:=St->Hp->(List V->Hp->Prop)->Prop
structure AJ where
 nx:St->Hp->Prop
 rt:VK
 bk:St->Hp->Prop:=λ_ _=>False
 ct:St->Hp->Prop:=λ_ _=>False
abbrev TS:=AJ->St->Hp->Prop
def EP(X:Cx)(pins:List (Addr×Obj))(σ:St)(Q:VK)(u:Value)(s':Shared):Prop:=∃v H',dI X pins σ H' s'/\fU v u/\Q v H'
def TP(X:Cx)(pins:List (Addr×Obj))(σ:St)(Q:Bool->Hp->Prop)(b:Bool)(s':Shared):Prop:=∃H',dI X pins σ H' s'/\Q b H'
def AP(X:Cx)(pins:List (Addr×Obj))(σ:St)(Q:List V->Hp->Prop)(us:List Value)(s':Shared):Prop:=∃vs H',dI X pins σ H' s'/\fM vs us/\Q vs H'
def SP(X:Cx)(pins:List (Addr×Obj))(D:AJ)(f:Flow)(s':Shared):Prop:=
 match f with
 |.next=>∃d8 H',dI X pins d8 H' s'/\D.nx d8 H'
 |.brk=>∃d8 H',dI X pins d8 H' s'/\D.bk d8 H'
 |.cont=>∃d8 H',dI X pins d8 H' s'/\D.ct d8 H'
 |.ret u=>∃v d8 H',dI X pins d8 H' s'/\fU v u/\D.rt v H'
def PE(X:Cx)(e:Expr)(t:TE):Prop:=
 ∀pins s σ H Q,dI X pins σ H s->t σ H Q->wpAny (model X.prog X.w) X.A (eval e X.env) (EP X pins σ Q) X.xe s
def PT(X:Cx)(e:Expr)(t:TT):Prop:=
 ∀pins s σ H(Q:Bool->Hp->Prop),dI X pins σ H s->t σ H Q->wpAny (model X.prog X.w) X.A (isTrue e X.env (eval e X.env)) (TP X pins σ Q) X.xe s
def PW(X:Cx)(e:Expr)(t:TT):Prop:=
 ∀(a:Sem Value)pins s σ H(Q:Bool->Hp->Prop),dI X pins σ H s->t σ H Q->wpAny (model X.prog X.w) X.A (isTrue e X.env a) (TP X pins σ Q) X.xe s
def PW.pt{X e t}(h:PW X e t):PT X e t:=h _
def PA(X:Cx)(es:List Expr)(t:TA):Prop:=
 ∀(pos:Pos)pins s σ H(Q:List V->Hp->Prop),dI X pins σ H s->t σ H Q->wpAny (model X.prog X.w) X.A (spliced (m9 pos (bI es X.env))) (AP X pins σ Q) X.xe s
def PS(X:Cx)(st:Stmt)(t:TS):Prop:=
 ∀pins s σ H(D:AJ),dI X pins σ H s->t D σ H->wpAny (model X.prog X.w) X.A (exec st X.env) (SP X pins D) X.xe s
def AG(X:Cx)(st:List Stmt)(t:TS):Prop:=
 ∀pins s σ H(D:AJ),dI X pins σ H s->t D σ H->wpAny (model X.prog X.w) X.A (execs st X.env) (SP X pins D) X.xe s
def jM{d:Type}{t}{Q b:d->Shared->Prop}{M A}{E:Value->Shared->Prop}{s}(h:wpAny M A t Q E s)(c:∀a s,Q a s->b a s):wpAny M A t b E s:=eF h c λ_ _ x=>x
section
variable{X:Cx}
def qM(i:Nat):TE:=λσ H Q=>∃v,σ[i]?=some (some v)/\Q v H
def tC(v:V):TE:=λ_ H Q=>Q v H
def TJ{i:Nat}{x:Str}{pos}(f:X.N[i]?=some x)(j:Vis X.env.scope x)(hd:(x==("__debug__":Str))=false:=by decide)(d:(x==("__classdict__":Str))=false:=by decide):PE X (.Name x pos) (qM i):=by
 intro pins s σ H Q I h;obtain⟨v,e,h⟩:=h;obtain⟨m,hn,g⟩:=I.loc;obtain⟨u,r,l⟩:=g i x v f e j;have fin:EP X pins σ Q u s:=⟨v,H,I,r,h⟩;rcases l with⟨hk,hm⟩ | ⟨hk,c,a,b⟩
 ·exact Eh (wpAny_loadName_local I.ok.kind hk hn hm fin) hd
 ·rcases hk with hk | hk
  ·exact Eh (wpAny_loadName_cell I.ok.kind hk a b fin) hd
  ·exact Eh (wpAny_loadName_free I.ok.kind hk a b fin d) hd
def yE{i j pos}:PE X (.Constant (.int i) j pos) (tC (.int i)):=λ_ _ _ H _ I h=>wpAny_Constant_int ⟨.int i,H,I.tok _,⟨_,rfl⟩,h⟩
def aKh{b j pos}:PE X (.Constant (.bool b) j pos) (tC (.bl b)):=λ_ _ _ H _ I h=>Constant_bool ⟨.bl b,H,I,rfl,h⟩
def aEq{j pos}:PE X (.Constant .none j pos) (tC .non):=λ_ _ _ H _ I h=>Constant_none ⟨.non,H,I,rfl,h⟩
def aEo{x j pos}:PE X (.Constant (.str x) j pos) (tC (.str x)):=λ_ _ _ H _ I h=>Calls.Constant_str ⟨.str x,H,I.tok _,⟨_,rfl⟩,h⟩
def Gl(X:Cx)(x:Str):Prop:=X.env.kindOf x=some .globalImplicit
def xE{E:Value->Shared->Prop}{pins s σ H}{x:Str}{u pos}{Q:Value->Shared->Prop}(I:dI X pins σ H s)(a:Gl X x)(hm:X.mg x=some u)(h:Q u s)
  (hd:(x==("__debug__":Str))=false:=by decide):wpAny (model X.prog X.w) X.A (eval (.Name x pos) X.env) Q E s:=
 jd I.ok.kind a (Calls.loadGlobal_global (by rw[I.ok.glob];exact I.mod.glob.keeps I.bk) hm h) hd
def wF{E:Value->Shared->Prop}{pins s σ H}{x:Str}{u pos}{Q:Value->Shared->Prop}(I:dI X pins σ H s)(c:Gl X x)(hm:X.mg x=none)(d:g6 x=some u)(h:Q u s)
  (hn:x≠"__name__":=by decide) (hd:(x==("__debug__":Str))=false:=by decide):wpAny (model X.prog X.w) X.A (eval (.Name x pos) X.env) Q E s:=by
 obtain⟨mb,a,b⟩:=I.mod.blt;exact jd I.ok.kind c (Calls.loadGlobal_builtin (by rw[I.ok.glob];exact I.mod.glob.keeps I.bk) hm (by rw[I.ok.blt];exact a.keeps I.bk) ((b x hn).trans d) h) hd
def uP{x:Str}{v u pos}(a:Gl X x)(hm:X.mg x=some u)(r:fU v u)(hd:(x==("__debug__":Str))=false:=by decide):PE X (.Name x pos) (tC v):=
 λ_ _ _ H _ I h=>xE I a hm ⟨v,H,I,r,h⟩ hd
def Y7{x:Str}{v u pos}(a:Gl X x)(hm:X.mg x=none)(b:g6 x=some u)(r:fU v u)(hn:x≠"__name__":=by decide)(hd:(x==("__debug__":Str))=false:=by decide):PE X (.Name x pos) (tC v):=
 λ_ _ _ H _ I h=>wF I a hm b ⟨v,H,I,r,h⟩ hn hd
variable{a b:Expr}{ta tb:TE}{pos:Pos}
def PC(X:Cx)(e:CmpOp)(a b:Expr)(t:TE):Prop:=
 ∀pins s σ H Q,dI X pins σ H s->t σ H Q ->
  wpAny (model X.prog X.w) X.A (eval a X.env) (λv c=>wpAny (model X.prog X.w) X.A (eval b X.env) (λu d=>wpAny (model X.prog X.w) X.A (g8 e v u) (EP X pins σ Q) X.xe d) X.xe c) X.xe s
def T9(b:Expr){op}(h:op≠.In)(e:op≠.NotIn):k8 op b=false:=by
 have c:(op==CmpOp.In)=false:=by cases op<;>first | rfl | exact c7 rfl h
 have d:(op==CmpOp.NotIn)=false:=by cases op<;>first | rfl | exact c7 rfl e
 cases b<;>simp[k8,c,d]
def tB(t:TE):TT:=λσ H Q=>t σ H λx H1=>∃c,x=.bl c/\Q c H1
def S6{op t}(h:PC X op a b t)(e:k8 op b=false:=by first | exact T9 _ (by decide) (by decide) | rfl):PT X (.Compare a [op] [b] pos) (tB t):=by
 intro pins s σ H Q I hw;refine xf (jM (h pins s σ H _ I hw) λv s1 e=>jM e λu s2 g=>jM g λc s3 k=>?_) e;obtain⟨x,H1,f,j,i⟩:=k;obtain⟨d,rfl,q⟩:=i;cases j;exact l5 ⟨H1,f,q⟩
def yC{e:Expr}{t}(h:PE X e t)(g:∀c,isTrue e X.env c=(do let v <- c;nv e.pos;nt [v] (truthy v)):=by intro _;rfl):PT X e (tB t):=by
 intro pins s σ H Q I hw;refine isTrue_plain (jM (h pins s σ H _ I hw) λv s1 k=>?_) (g _);obtain⟨x,H1,f,j,i⟩:=k;obtain⟨d,rfl,q⟩:=i;cases j;exact l5 ⟨H1,f,q⟩
variable{tA uo:TT}{jW:List Expr}
def aN5(t u:TT):TT:=λσ H Q=>t σ H λc H1=>if c=true then u σ H1 Q else Q false H1
def tOr(t u:TT):TT:=λσ H Q=>t σ H λc H1=>if c=true then Q true H1 else u σ H1 Q
def aN2(t:TT):TT:=λσ H Q=>t σ H λc H1=>Q (!c) H1
def YX(ha:PT X a tA):PW X (.BoolOp .And [a] pos) tA:=by
 intro d pins s σ H Q I h;refine isTrue_and (jM (ha pins s σ H Q I h) λc s1 e=>?_)
 cases c with
 |true=>exact isTrue_and_nil e
 |false=>exact e
def S0(ha:PT X a tA):PW X (.BoolOp .Or [a] pos) tA:=by
 intro d pins s σ H Q I h;refine isTrue_or (jM (ha pins s σ H Q I h) λc s1 e=>?_)
 cases c with
 |false=>exact isTrue_or_nil e
 |true=>exact e
def aEi(ha:PT X a tA)(hb:PW X (.BoolOp .And (b::jW) pos) uo):PW X (.BoolOp .And (a::b::jW) pos) (aN5 tA uo):=by
 intro f pins s σ H Q I h;refine isTrue_and (jM (ha pins s σ H _ I h) λc s1 g=>?_);obtain⟨H1,d,e⟩:=g
 cases c with
 |true=>exact hb f pins s1 σ H1 Q d e
 |false=>exact⟨H1,d,e⟩
def aBz(ha:PT X a tA)(hb:PW X (.BoolOp .Or (b::jW) pos) uo):PW X (.BoolOp .Or (a::b::jW) pos) (tOr tA uo):=by
 intro f pins s σ H Q I h;refine isTrue_or (jM (ha pins s σ H _ I h) λc s1 g=>?_);obtain⟨H1,d,e⟩:=g
 cases c with
 |true=>exact⟨H1,d,e⟩
 |false=>exact hb f pins s1 σ H1 Q d e
def S5(ha:PT X a tA):PT X (.UnaryOp .Not a pos) (aN2 tA):=by
 intro pins s σ H Q I h;exact isTrue_not (ha pins s σ H (λc H1=>Q (!c) H1) I h)
def aHj(ta tb:TE):TE:=λσ H Q=>ta σ H λx H1=>∃c,x=.bl c/\if c=true then tb σ H1 Q else Q (.bl false) H1
def aEp{op t}(h:PE X a t):PE X (.BoolOp op [a] pos) t:=λpins s σ H Q I hw=>BoolOp_one (h pins s σ H Q I hw)
def aEs(ha:PE X a ta)(hb:PE X (.BoolOp .And (b::jW) pos) tb):PE X (.BoolOp .And (a::b::jW) pos) (aHj ta tb):=by
 intro pins s σ H Q I h;refine BoolOp_and (jM (ha pins s σ H _ I h) λv s1 g=>?_);obtain⟨x,H1,e,f,d⟩:=g;obtain⟨c,rfl,d⟩:=d;cases f;refine l5 ?_
 cases c with
 |true=>exact hb pins s1 σ H1 Q e d
 |false=>exact⟨.bl false,H1,e,rfl,d⟩
def tIf(t:TT)(ta tb:TE):TE:=λσ H Q=>t σ H λc H1=>if c=true then ta σ H1 Q else tb σ H1 Q
def IE{c}(g:PT X c tA)(ha:PE X a ta)(hb:PE X b tb):PE X (.IfExp c a b pos) (tIf tA ta tb):=by
 intro pins s σ H Q I h;refine wpAny_IfExp (jM (g pins s σ H _ I h) λd s1 i=>?_);obtain⟨H1,e,f⟩:=i
 cases d with
 |true=>exact ha pins s1 σ H1 Q e f
 |false=>exact hb pins s1 σ H1 Q e f
end
def nB(K:aI)(H:Hp)(a:Addr)(xs:List V):Prop:=
 Rd H a (.lst xs) \/
  ∃(o:Obj)(i3:Array Value)(n:Nat),K.lookup a=some o/\o.cls=.type "list"/\o.dict=none/\o.data=.seq i3 n/\i3.size<=bE/\fM xs i3.toList
def qG(K:aI)(H:Hp)(a:Addr)(xs:List V):Prop:=
 Rd H a (.tup xs) \/
  ∃(o:Obj)(i3:Array Value)(n:Nat),K.lookup a=some o/\o.cls=.type "tuple"/\o.dict=none/\o.data=.seq i3 n/\i3.size<=bE/\fM xs i3.toList
noncomputable def aPd:Value->Option V
|.none=>some .non
|.bool b=>some (.bl b)
|.int i _=>some (.int i)
|.str x _=>some (.str x)
|.bytes b _=>some (.byt b)
|.float b _=>some (.flt b)
|.ref a=>some (.ref a)
|.type n=>some (.ty n)
|_=>none
def fU.abs{x u}(r:fU x u):aPd u=some x:=by
 cases x with
 |non=>cases r;rfl
 |bl _=>cases r;rfl
 |int _=>obtain⟨t,rfl⟩:=r;rfl
 |str _=>obtain⟨t,rfl⟩:=r;rfl
 |byt _=>obtain⟨t,rfl⟩:=r;rfl
 |flt _=>obtain⟨t,rfl⟩:=r;rfl
 |ref _=>cases r;rfl
 |ty _=>cases r;rfl
theorem fU.inj{x y u}(r:fU x u)(q:fU y u):x=y:=d7 (r.abs.symm.trans q.abs)
theorem fM.inj:∀{xs ys us},fM xs us->fM ys us->xs=ys
|_,_,_,.nil,.nil=>rfl
|_,_,_,.cons r t,.cons r' t'=>by rw[r.inj r',fM.inj t t']
section
variable{X:Cx}{pins:List (Addr×Obj)}{σ:St}{H:Hp}{s:Shared}{a:Addr}{xs ys:List V}
def nB.of{K}(h:H a=some (.lst xs)):nB K H a xs:=.inl (.inl h)
def qG.of{K}(h:H a=some (.tup xs)):qG K H a xs:=.inl (.inl h)
def dI.list(I:dI X pins σ H s)(h:nB X.K H a xs):∃i3:List Value,fM xs i3/\PlainL s.heap a i3.toArray/\xs.length<=bE:=by
 rcases h with h | ⟨o,i3,n,hk,b,hd,hs,hz,r⟩
 ·obtain⟨z,i3,n,r,e⟩:=h.ok I.hok;exact⟨i3,r,⟨_,n,e,rfl,rfl,rfl⟩,z⟩
 ·refine⟨i3.toList,r,⟨o,n,I.kIn a o hk,b,hd,by simpa using hs⟩,?_⟩;have e:=r.length;simp only[fG]at e;lia
def dI.tuple(I:dI X pins σ H s)(h:qG X.K H a xs):∃i3:List Value,fM xs i3/\Ej s.heap a i3.toArray/\xs.length<=bE:=by
 rcases h with h | ⟨o,i3,n,hk,b,_,hs,hz,r⟩
 ·obtain⟨z,i3,r,p⟩:=h.ok I.hok;exact⟨i3,r,p.tup,z⟩
 ·refine⟨i3.toList,r,⟨o,I.kIn a o hk,b,n,by simpa using hs⟩,?_⟩;have e:=r.length;simp only[fG]at e;lia
def dI.tupleN(I:dI X pins σ H s)(h:qG X.K H a xs):∃o,s.heap.get? a=some o/\o.cls=.type "tuple"/\o.dict=none:=by
 rcases h with h | ⟨o,i3,n,hk,b,hd,_⟩
 ·obtain⟨z,i3,r,⟨o,e,c,n,_,d⟩⟩:=h.ok I.hok;exact⟨o,e,c,d⟩
 ·exact⟨o,I.kIn a o hk,b,hd⟩
def dI.list_inj(I:dI X pins σ H s)(h:nB X.K H a xs)(h':nB X.K H a ys):xs=ys:=by
 obtain⟨i3,r,⟨o,n,e,_,_,d⟩,_⟩:=I.list h;obtain⟨its',f,⟨o',n',b,_,_,d'⟩,_⟩:=I.list h';rw[e]at b;cases b;rw[d]at d';injection d' with c _
 have:i3=its':=by simpa using j5 aGo c
 subst this;exact r.inj f
def dI.tuple_inj(I:dI X pins σ H s)(h:qG X.K H a xs)(h':qG X.K H a ys):xs=ys:=by
 obtain⟨i3,r,⟨o,e,_,n,d⟩,_⟩:=I.tuple h;obtain⟨its',f,⟨o',b,_,n',d'⟩,_⟩:=I.tuple h';rw[e]at b;cases b;rw[d]at d';injection d' with c _
 have:i3=its':=by simpa using j5 aGo c
 subst this;exact r.inj f
end
noncomputable abbrev Cx.wish(X:Cx)(E:Value->Shared->Prop):Cx:={ X with xe:=E }
noncomputable abbrev Cx.nox(X:Cx):Cx:=X.wish λ_ _=>False
theorem Cx.Ok.wish{X:Cx}(ok:X.Ok)(E:Value->Shared->Prop):(X.wish E).Ok:=
 ⟨ok.mod,ok.kind,ok.glob,ok.blt,ok.above,ok.inj,ok.has,ok.cab,ok.hd,ok.frames,ok.stk,ok.exf,ok.bs,ok.bsz,ok.noex,ok.exfs,ok.funs,ok.frf,ok.tab⟩
def Cx.Ok.unwish{X:Cx}{E:Value->Shared->Prop}(ok:(X.wish E).Ok):X.Ok:=
 ⟨ok.mod,ok.kind,ok.glob,ok.blt,ok.above,ok.inj,ok.has,ok.cab,ok.hd,ok.frames,ok.stk,ok.exf,ok.bs,ok.bsz,ok.noex,ok.exfs,ok.funs,ok.frf,ok.tab⟩
section
variable{X:Cx}{pins:List (Addr×Obj)}{σ:St}{H:Hp}{s:Shared}{E:Value->Shared->Prop}
theorem dI.wish(I:dI X pins σ H s)(E:Value->Shared->Prop):dI (X.wish E) pins σ H s:=⟨I.ok.wish E,I.os,I.bare,I.base,I.loc,I.cell,I.free,I.freeC,I.pin,I.hok,I.len⟩
theorem dI.unwish(I:dI (X.wish E) pins σ H s):dI X pins σ H s:=⟨I.ok.unwish,I.os,I.bare,I.base,I.loc,I.cell,I.free,I.freeC,I.pin,I.hok,I.len⟩
theorem SP.unwish{D f s'}(h:SP (X.wish E) pins D f s'):SP X pins D f s':=by
 cases f with
 |next=>obtain⟨d8,H',I,q⟩:=h;exact⟨d8,H',I.unwish,q⟩
 |brk=>obtain⟨d8,H',I,q⟩:=h;exact⟨d8,H',I.unwish,q⟩
 |cont=>obtain⟨d8,H',I,q⟩:=h;exact⟨d8,H',I.unwish,q⟩
 |ret u=>obtain⟨v,d8,H',I,r,q⟩:=h;exact⟨v,d8,H',I.unwish,r,q⟩
theorem AG.nox{st t}(h:AG X.nox st t):AG X st t:=λpins s σ H D I hw=>
 eF (h pins s σ H D (I.wish _) hw) (λ_ _ q=>q.unwish) λ_ _ z=>j8 z
end
section
variable{X:Cx}{st:Stmt}{jW:List Stmt}{t u:TS}{e:Expr}{te:TE}{pos:Pos}
def aHg:TS:=λD σ H=>D.nx σ H
def OO(t u:TS):TS:=λD σ H=>t { D with nx:=u D } σ H
def M0:AG X [] aHg:=λ_ _ σ H _ I h=>az ⟨σ,H,I,h⟩
def lE(b:PS X st t)(c:AG X jW u):AG X (st::jW) (OO t u):=by
 intro pins s σ H D I h;refine ak (jM (b pins s σ H { D with nx:=u D } I h) λf s1 q=>?_)
 cases f with
 |next=>
  obtain⟨d8,H',a,q⟩:=q;exact c pins s1 d8 H' D a q
 |ret v=>exact q
 |brk=>exact q
 |cont=>exact q
def sA(a:PS X st t):AG X [st] t:=by
 intro pins s σ H D I h;refine ak (jM (a pins s σ H D I h) λf s1 q=>?_)
 cases f with
 |next=>exact az q
 |ret v=>exact q
 |brk=>exact q
 |cont=>exact q
def dI.quiet{pins σ H s}(I:dI X pins σ H s):interactive X.env=false:=by simp[interactive,I.ok.kind]
def yU(te:TE):TS:=λD σ H=>te σ H λ_ H1=>D.nx σ H1
def fN(b:PE X e te)(hs:mJ e none pos.line X.env=pure false:=by rfl):PS X (.Expr e pos) (yU te):=by
 intro pins s σ H D I h;exact wpAny_Expr_any (jM (b pins s σ H _ I h) λv s1 ⟨x,H1,a,d,c⟩=>⟨σ,H1,a,c⟩) I.quiet hs
def aN1(te:TE):TS:=λD σ H=>te σ H D.rt
def yD(b:PE X e te):PS X (.Return (some e) pos) (aN1 te):=by
 intro pins s σ H D I h;exact wpAny_Return_some (jM (b pins s σ H _ I h) λv s1 ⟨x,H1,a,d,c⟩=>⟨x,σ,H1,a,d,c⟩)
def aN4(c:TT)(t u:TS):TS:=λD σ H=>c σ H λb H1=>if b=true then t D σ H1 else u D σ H1
def TC{c a b tc}(i:PT X c tc)(ha:AG X a t)(hb:AG X b u):PS X (.If c a b pos) (aN4 tc t u):=by
 intro pins s σ H D I h;refine wpAny_If (jM (i pins s σ H _ I h) λd s1 j=>?_);obtain⟨H1,f,g⟩:=j
 cases d with
 |true=>exact ha pins s1 σ H1 D f g
 |false=>exact hb pins s1 σ H1 D f g
end
abbrev TG:=V->St->Hp->(St->Hp->Prop)->Prop
abbrev TGs:=List V->St->Hp->(St->Hp->Prop)->Prop
def PG(X:Cx)(a:Expr)(t:TG):Prop:=
 ∀pins s σ H(v:V)(u:Value)(Q:St->Hp->Prop),dI X pins σ H s->fU v u->t v σ H Q ->
  wpAny (model X.prog X.w) X.A (ki a X.env u) (λ_ s'=>∃d8 H',dI X pins d8 H' s'/\Q d8 H') X.xe s
def PGs(X:Cx)(ts:List Expr)(t:TGs):Prop:=
 ∀pins s(σ:St)H(vs:List V)(us:List Value)(Q:St->Hp->Prop),dI X pins σ H s->fM vs us->t vs σ H Q ->
  wpAny (model X.prog X.w) X.A (assignInOrder ((dq ts X.env).map (·.2)) us) (λ_ s'=>∃d8 H',dI X pins d8 H' s'/\Q d8 H') X.xe s
section
variable{X:Cx}{pos:Pos}
def kP(i:Nat):TG:=λv σ H Q=>Q (σ.set i (some v)) H
def M3{i:Nat}{x}(b:X.N.Nodup)(hi:X.N[i]?=some x)(d:W8 X.env.scope x)(c:X.fn x=true\/X.env.scope.names.lookup x=some .local:=by first | exact .inl rfl | exact .inr rfl | assumption):PG X (.Name x pos) (kP i):=by
 intro pins s σ H v u Q I r h;exact Fj (BJ I b hi d r (λs' a=>⟨_,H,a,h⟩) c)
def Z9:TGs:=λvs σ H Q=>vs=[]/\Q σ H
def vR(t:TG)(u:TGs):TGs:=λvs σ H Q=>∃v r,vs=v::r/\t v σ H λd8 H'=>u r d8 H' Q
def mF:PGs X [] Z9:=by
 intro pins s σ H vs us Q I r h;obtain⟨e,h⟩:=h;subst e;cases r;exact assignInOrder_nil ⟨σ,H,I,h⟩
def eD{e es t u}(d:PG X e t)(f:PGs X es u)
  (hs:(dq (e::es) X.env).map (·.2)=ki e X.env::(dq es X.env).map (·.2):=by rfl):PGs X (e::es) (vR t u):=by
 intro pins s σ H vs us Q I r h;obtain⟨v,k,c,h⟩:=h;subst c
 cases r with
 |cons r i=>
  rw[hs];refine assignInOrder_cons (jM (d pins s σ H _ _ _ I r h) λ_ s1 j=>?_);obtain⟨a,H1,b,g⟩:=j;exact f pins s1 a H1 _ _ Q b i g
def Z8(K:aI)(n:Nat)(t:TGs):TG:=λv σ H Q=>∃a xs,v=.ref a/\qG K H a xs/\xs.length=n/\t xs σ H Q
def nY{es}{k:Nat}{t}{n:Nat}(i:X.calm=true)(h:PGs X es t)
  (hn:(dq es X.env).length=n:=by rfl) (g:(dq es X.env).findIdx? (·.1)=none:=by rfl):PG X (.Tuple es k pos) (Z8 X.K n t):=by
 intro pins s σ H v u Q I r hw;obtain⟨a,xs,f,l,j,hw⟩:=hw;subst f;cases r;obtain⟨i3,c,m,hz⟩:=I.tuple l;refine assign_Tuple_tuple (I.ok.hd i) m (by simp[hn,<- j,c.length]) g λh' p=>?_;have d:dI X pins σ H { s with heap:=h' }:=I.kept (t':=s.toks) λb o e=>p b o (cI (aY e)) e;exact h pins _ σ H xs _ Q d (by simpa using c) hw
def tF(te:TE)(g:TG):TS:=λD σ H=>te σ H λx H1=>g x σ H1 D.nx
def lO{tg e te g}(c:PE X e te)(d:PG X tg g)(hs:swapsWithSole [tg] e pos.line X.env=pure false:=by rfl)(hw:swappedStores [tg] e X.env=pure none:=by rfl)
  (b:(dq [tg] X.env).map (·.2)=[ki tg X.env]:=by rfl):PS X (.Assign [tg] e pos) (tF te g):=by
 intro pins s σ H D I h;refine wpAny_Assign_stores (jM (c pins s σ H _ I h) λv s1 j=>?_) hs hw;obtain⟨x,H1,a,i,f⟩:=j;rw[b];exact jM (d pins s1 σ H1 x v _ a i f) λ_ s2 q=>q
def BV{i:Nat}{x e te q9}(c:X.N.Nodup)(hi:X.N[i]?=some x)(g:W8 X.env.scope x)(d:PE X e te)(hs:mJ e (some (.Name x q9)) pos.line X.env=pure false:=by rfl)(f:X.fn x=true\/X.env.scope.names.lookup x=some .local:=by first | exact .inl rfl | exact .inr rfl | assumption) :
  PS X (.Assign [.Name x q9] e pos) (tF te (kP i)):=by
 intro pins s σ H D I h;refine Fi (jM (d pins s σ H _ I h) λv s1 l=>?_) hs;obtain⟨y,H1,a,k,j⟩:=l;exact BJ a c hi g k (λs2 b=>⟨_,H1,b,j⟩) f
end
section
variable{X:Cx}{pos:Pos}
def RZ(c:TT)(a:TS):TS:=λD σ H=>∃W:Nat->St->Hp->Prop,(∃m,W m σ H)/\∀m σ H,W m σ H ->
 c σ H λb H1=>if b=true then∃N:St->Hp->Prop,(∀d8 H',N d8 H'->∃m',m'<m/\W m' d8 H')/\a { D with nx:=N,ct:=N,bk:=D.nx } σ H1 else D.nx σ H1
def S9{c body tc tb}(p:PassesOwn (model X.prog X.w) X.A X.env X.xe)(r:PT X c tc)(hb:AG X body tb):PS X (.While c body [] pos) (RZ tc tb):=by
 intro pins s σ H D I h;obtain⟨W,⟨t,u⟩,turn⟩:=h;refine wpAny_While (codeAny_whileLoop (λn s'=>∃d8 H',dI X pins d8 H' s'/\W n d8 H') ?_ t ⟨σ,H,I,u⟩);rintro n s1 ⟨d,H1,q,x⟩;refine v0 p (jM (r pins s1 d H1 _ q (turn n d H1 x)) λb s2 y=>?_);obtain⟨l,m,e⟩:=y
 cases b with
 |true=>
  obtain⟨N,o,e⟩:=e;rw[b8 rfl];refine v0 p (jM (hb pins s2 d l _ m e) λf s3 g=>?_)
  cases f with
  |next=>
   obtain⟨a,H3,i,j⟩:=g;obtain⟨m',hm,k⟩:=o a H3 j;exact⟨m',hm,a,H3,i,k⟩
  |cont=>
   obtain⟨a,H3,i,j⟩:=g;obtain⟨m',hm,k⟩:=o a H3 j;exact⟨m',hm,a,H3,i,k⟩
  |brk=>exact g
  |ret v=>exact g
 |false=>
  rw[a8 bV];exact az ⟨d,l,m,e⟩
end
structure It where
 go:Nat->Hp->Prop
 yld:Nat->Hp->V->Hp->Prop
 stop:Nat->Hp->Prop
def AI(X:Cx)(pins:List (Addr×Obj))(H:Hp)(b:Addr):Prop:=
 H b=none/\b≠X.env.locals/\b∉X.fs/\(b∈X.ex\/X.s₀.heap.objs.size<=b)/\(∀x c,X.env.cells.lookup x=some c->c≠b)/\∀p∈X.pn++pins,p.1≠b
def dI.fpOk{X pins σ H H'}{s:Shared}{b:Addr}(I:dI X pins σ H s)(hb:s.heap.objs.size<=b)(hn:H' b=none):AI X pins H' b:=by
 refine⟨hn,gS (bP I.lt hb),I.nofs hb,.inr (aX I.sz hb),λx c e z=>?_,λp a z=>?_⟩
 ·obtain⟨v,q⟩:=I.cell x c e;exact c7 (bP q.lt (by rw[z];exact hb)) (eT _)
 ·exact c7 (bP (aY (I.pin p a).1) (by rw[z];exact hb)) (eT _)
structure JV(P:dD)(w:j0)(K:aI)(tg:Expr)(J:It)(fp:List Addr)(it:Addr)(tn:Nat->Heap->Prop):Prop where
 mem:it∈fp
 obj:∀i h,tn i h->∀b∈fp,∃o,h.get? b=some o/\∀v,o.data≠.cell v
 keep:∀i h h',tn i h->(∀b∈fp,∀o,h.get? b=some o->h'.get? b=some o)->tn i h'
 item:∀(X:Cx),X.prog=P->X.w=w->X.K=K->X.calm=true->∀(i:Nat)pins(s:Shared)σ H E,dI X pins σ H s->(∀b∈fp,AI X pins H b)->tn i s.heap->J.go i H ->
  wpAny (model P w) X.A (ql (.ref it)) (λr s1=>∃u,r=some u /\
   wpAny (model P w) X.A (z4 tg (.ref it) u) (λ_ s2=>∃x H',dI X pins σ H' s2/\fU x u/\J.yld i H x H'/\tn (i+1) s2.heap/\∀b∈fp,H' b=none) E s1) E s
 done:∀(X:Cx),X.prog=P->X.w=w->X.K=K->X.calm=true->∀(i:Nat)pins(s:Shared)σ H E,dI X pins σ H s->(∀b∈fp,AI X pins H b)->tn i s.heap->J.stop i H ->
  wpAny (model P w) X.A (ql (.ref it)) (λr s1=>r=none/\dI X pins σ H s1) E s
 self:∀A(i:Nat)(s:Shared)Q E,tn i s.heap->Q (.ref it) s->wpAny (model P w) A (Eb (.ref it)) Q E s
abbrev TI:=St->Hp->(It->Hp->Prop)->Prop
def PIE(X:Cx)(pins:List (Addr×Obj))(σ:St)(tg:Expr)(R:It->Hp->Prop)(a:Value)(s2:Shared):Prop:=
 ∃(it:Addr)(fp:List Addr)(tn:Nat->Heap->Prop)(J:It)(H':Hp),a=.ref it/\dI X pins σ H' s2/\JV X.prog X.w X.K tg J fp it tn/\tn 0 s2.heap/\(∀b∈fp,AI X pins H' b)/\R J H'
def PI(X:Cx)(tg iter:Expr)(a:TI):Prop:=
 ∀pins(s:Shared)σ H(R:It->Hp->Prop),dI X pins σ H s->a σ H R ->
  wpAny (model X.prog X.w) X.A (eval iter X.env) (λv s1=>wpAny (model X.prog X.w) X.A (Eb v) (PIE X pins σ tg R) X.xe s1) X.xe s
def VF{M A}{E:Value->Shared->Prop}{s:Shared}{tg}{it:Addr}{u}{o:Obj}{n vs}{Q:Unit->Shared->Prop}(c:s.heap.get? it=some o)(b:o.cls=.type n)(hd:o.data=.fields vs)
  (hn:["enumerate","zip","dict_itemiterator","dict_reverseitemiterator","odict_iterator","itertools.zip_longest","itertools.pairwise"].contains n=false) (a:Q () s):wpAny M A (z4 tg (.ref it) u) Q E s:=by
 unfold z4
 cases tg<;>first
  |exact aV a
  | (cases u<;>first
    |exact aV a
    | (refine aE (Ei c ?_)
       rw[b,hd];show wpAny M A (if(["enumerate","zip","dict_itemiterator","dict_reverseitemiterator","odict_iterator","itertools.zip_longest","itertools.pairwise"].contains n&&vs[0]?==some (y8 _))=true then _ else _) Q E s;rw[a8 (by intro h;rw[hn,FP]at h;cases h)];exact aV a))
noncomputable def Itl(K:aI)(a:Addr):It:=
 ⟨λi H=>∃xs x,nB K H a xs/\xs[i]?=some x,λi H x H'=>H'=H/\∀xs,nB K H a xs->xs[i]?=some x,λi H=>∃xs,nB K H a xs/\xs.length<=i⟩
noncomputable def Itt(K:aI)(a:Addr):It:=
 ⟨λi H=>∃xs x,qG K H a xs/\xs[i]?=some x,λi H x H'=>H'=H/\∀xs,qG K H a xs->xs[i]?=some x,λi H=>∃xs,qG K H a xs/\xs.length<=i⟩
noncomputable def Itr(lo:Int)(n:Nat):It:=⟨λi _=>i<n,λi H x H'=>H'=H/\x=.int (lo+i),λi _=>n<=i⟩
def OJ{P w K tg}(a it:Addr):JV P w K tg (Itl K a) [it] it (λi h=>h.IsListIter it a i) where
 mem:=by simp
 obj:=λi h st b hb=>by
  have e:b=it:=by simpa using hb
  subst e;obtain⟨o,e,c,d⟩:=st;exact⟨o,e,λv z=>by rw[d]at z;cases z⟩
 keep:=λi h h' st k=>st.at λo e=>k it (by simp) o e
 item:=by
  intro X r hw q C i pins s σ H E I f st t;subst r hw q;obtain⟨xs,x,g,y⟩:=t;obtain⟨i3,A,p,hz⟩:=I.list g;obtain⟨u,J,M⟩:=A.get y;obtain⟨j,f1,f2,l,m,n⟩:=f it (by simp);refine wpAny_pyNext_list_item st p.isList (x:=u) (by simpa using J) λh' B sb=>?_;have F:dI X pins σ H { s with heap:=h' }:=I.turned (t':=s.toks) (λb o hb e=>(sb.2 b hb).trans e) j f1 l m n;obtain⟨o,e,c,d⟩:=id B;exact⟨u,rfl,VF (s:={ s with heap:=h' }) e c d (by decide) ⟨x,H,F,M,⟨rfl,λys L=>by rw[I.list_inj L g];exact y⟩,B,λb hb=>(f b hb).1⟩⟩
 done:=by
  intro X r hw q C i pins s σ H E I f st t;subst r hw q;obtain⟨xs,g,y⟩:=t;obtain⟨i3,A,p,hz⟩:=I.list g;obtain⟨j,f1,f2,l,m,n⟩:=f it (by simp);have N:=A.length;exact wpAny_pyNext_list_end (I.ok.hd C) st p.isList (by simp;lia) λh' G=>⟨rfl,I.turned (t':=s.toks) (λb o hb e=>G b o hb e) j f1 l m n⟩
 self:=λ_ _ _ _ _ st h=>wpAny_pyIter_listiter st h
def KH{P w K tg}(a it:Addr):JV P w K tg (Itt K a) [it] it (λi h=>h.IsTupleIter it a i) where
 mem:=by simp
 obj:=λi h st b hb=>by
  have e:b=it:=by simpa using hb
  subst e;obtain⟨o,e,c,d⟩:=st;exact⟨o,e,λv z=>by rw[d]at z;cases z⟩
 keep:=λi h h' st k=>st.at λo e=>k it (by simp) o e
 item:=by
  intro X r hw q C i pins s σ H E I f st t;subst r hw q;obtain⟨xs,x,g,y⟩:=t;obtain⟨i3,A,p,hz⟩:=I.tuple g;obtain⟨u,J,M⟩:=A.get y;obtain⟨j,f1,f2,l,m,n⟩:=f it (by simp);refine wpAny_pyNext_tuple_item st (show s.heap.IsTuple a i3.toArray from p) (x:=u) (by simpa using J) λh' B sb=>?_;have F:dI X pins σ H { s with heap:=h' }:=I.turned (t':=s.toks) (λb o hb e=>(sb.2 b hb).trans e) j f1 l m n;obtain⟨o,e,c,d⟩:=id B;exact⟨u,rfl,VF (s:={ s with heap:=h' }) e c d (by decide) ⟨x,H,F,M,⟨rfl,λys L=>by rw[I.tuple_inj L g];exact y⟩,B,λb hb=>(f b hb).1⟩⟩
 done:=by
  intro X r hw q C i pins s σ H E I f st t;subst r hw q;obtain⟨xs,g,y⟩:=t;obtain⟨i3,A,p,hz⟩:=I.tuple g;obtain⟨j,f1,f2,l,m,n⟩:=f it (by simp);have N:=A.length;exact wpAny_pyNext_tuple_end (I.ok.hd C) st (show s.heap.IsTuple a i3.toArray from p) (by simp;lia) λh' G=>⟨rfl,I.turned (t':=s.toks) (λb o hb e=>G b o hb e) j f1 l m n⟩
 self:=λ_ _ _ _ _ st h=>wpAny_pyIter_tupleiter st h
def KI{P w K tg}(it:Addr)(lo:Int)(n:Nat):JV P w K tg (Itr lo n) [it] it (λi h=>IsRangeIter h it (lo+(i:Nat)*1) ((n:Int)-(i:Nat)) 1) where
 mem:=by simp
 obj:=λi h st b hb=>by
  have e:b=it:=by simpa using hb
  subst e
  exact⟨_,st,λv z=>by
   have A:qt _=Data.cell v:=z;cases A⟩
 keep:=λi h h' st k=>k it (by simp) _ st
 item:=by
  intro X l hw j m i pins s σ H E I a st p;subst l hw j;obtain⟨c,f1,f2,d,f,g⟩:=a it (by simp);have W:=Walks.range (prog:=X.prog) (w:=X.w) (I.ok.hd m) it lo 1 n;refine W.item i s _ _ p st λv h' tk x q y=>?_;obtain⟨t,rfl⟩:=x;have r:dI X pins σ H { s with heap:=h',toks:=tk }:=I.turned (λb o hb e=>y b o (by simpa using hb) e) c f1 d f g;refine⟨_,rfl,VF (s:={ s with heap:=h',toks:=tk }) (n:="range_iterator") q rfl rfl (by decide) ⟨.int (lo+i),H,r,⟨t,?_⟩,⟨rfl,rfl⟩,q,λb hb=>(a b hb).1⟩⟩;rw[Int.mul_one]
 done:=by
  intro X l hw j m i pins s σ H E I a st p;subst l hw j;obtain⟨c,f1,f2,d,f,g⟩:=a it (by simp);exact wpAny_pyNext_range_end (I.ok.hd m) st (by have:n<=i:=p;lia) λh' u=>⟨rfl,I.turned (t':=s.toks) (λb o hb e=>u b o hb e) c f1 d f g⟩
 self:=λ_ _ _ _ _ st h=>wpAny_pyIter_rangeiter st h
section
variable{X:Cx}{tg:Expr}
def SU{pins σ H}{s:Shared}{R:It->Hp->Prop}{E:Value->Shared->Prop}{lo hi:Int}{t u v}{tk:Nat}(I:dI X pins σ H s)(f:-(2^62)<=lo)(g:lo<2^62)(h:-(2^62)<=hi)(i:hi<2^62)
  (q:R (Itr lo (hi-lo).toNat) H):wpAny (model X.prog X.w) X.A (Eb (.ref s.heap.objs.size)) (PIE X pins σ tg R) E { s with heap:=s.heap.push { cls:=.type "range",data:=.fields #[.int lo t,.int hi u,.int 1 v] },toks:=tk }:=by
 refine wpAny_pyIter_range (IsRange.new ..) (small_one f g h i) ?_;have a:dI X pins σ H { s with heap:=s.heap.push { cls:=.type "range",data:=.fields #[.int lo t,.int hi u,.int 1 v] },toks:=tk }:=I.kept λb o e=>aG _ e
 refine⟨(s.heap.push { cls:=.type "range",data:=.fields #[.int lo t,.int hi u,.int 1 v] }).objs.size,[(s.heap.push { cls:=.type "range",data:=.fields #[.int lo t,.int hi u,.int 1 v] }).objs.size],_,_,H,rfl,
  a.kept (t':=tk) λb o e=>aG _ e,KI _ lo (hi-lo).toNat,?_,λb hb=>?_,q⟩
 ·have c:lo+((0:Nat):Int)*1=lo:=by simp
  have d:(((hi-lo).toNat:Nat):Int)-((0:Nat):Int)=Builtin.Range.rangeSize lo hi 1:=by rw[rangeSize_one];split<;>lia
  show IsRangeIter _ _ (lo+((0:Nat):Int)*1) ((((hi-lo).toNat:Nat):Int)-((0:Nat):Int)) 1;rw[c,d];exact aZ _ rfl
 ·have e:b=(s.heap.push { cls:=.type "range",data:=.fields #[.int lo t,.int hi u,.int 1 v] }).objs.size:=by simpa using hb
  subst e;exact a.fpOk (aN _) (a.hok.fresh (aN _))
def aCq(a:TA):TI:=λσ H R=>a σ H λvs H1=>∃j:Int,vs=[.int j]/\-(2^62)<=j/\j<2^62/\R (Itr 0 j.toNat) H1
def jR{a ta p pos}(d:Gl X "range")(hm:X.mg "range"=none)(ha:PA X [a] ta)(hs:bI [a] X.env=[(false,eval a X.env)]:=by rfl):PI X tg (.Call (.Name "range" p) [a] [] pos) (aCq ta):=by
 intro pins s σ H R I h;refine Call_ (wF I d hm boot_range (t9 (jM (ha pos pins s σ H _ I h) λus s1 k=>?_) hs rfl));obtain⟨vs,H1,c,g,b⟩:=k;obtain⟨j,e,b,f,q⟩:=b;subst e
 cases g with
 |cons r i=>
  cases i;obtain⟨t,rfl⟩:=r;exact call_range_1 (SU c (by lia) (by lia) b f (by simpa using q))
def aDv(c:TI)(g:TG)(b:TS):TS:=λD σ H=>c σ H λJ H1=>∃W:Nat->Nat->St->Hp->Prop,(∃m,W 0 m σ H1)/\∀i m σ H,W i m σ H ->
 (J.stop i H/\D.nx σ H)\/(J.go i H/\∃N:St->Hp->Prop,(∀d8 H',N d8 H'->∃m',m'<m/\W (i+1) m' d8 H')/\∀x H',J.yld i H x H'->g x σ H' λd a=>b { D with nx:=N,ct:=N,bk:=D.nx } d a)
noncomputable def BX(fp:List Addr)(h:Heap):List (Addr×Obj):=fp.filterMap λb=>(h.get? b).map λo=>(b,o)
def sD{fp}{h:Heap}{b:Addr}{o}(hb:b∈fp)(e:h.get? b=some o):(b,o)∈BX fp h:=RA.mpr ⟨b,hb,by rw[e];rfl⟩
def O8{fp}{h:Heap}{p:Addr×Obj}(c:p∈BX fp h):p.1∈fp/\h.get? p.1=some p.2:=by
 obtain⟨b,hb,e⟩:=RA.mp c
 cases q:h.get? b with
 |none=>rw[q]at e;cases e
 |some o=>
  rw[q]at e;have a:(b,o)=p:=d7 e;subst a;exact⟨hb,q⟩
def dI.pinned{pins σ H}{s:Shared}{fp}(I:dI X pins σ H s)(f:∀b∈fp,AI X pins H b)(g:∀b∈fp,∃o,s.heap.get? b=some o/\∀v,o.data≠.cell v):dI X (pins++BX fp s.heap) σ H s:=
 I.pins_of λp h=>(dQ.mp h).elim (λz=>I.pin p (cZ _ z)) λz=>by
  obtain⟨hb,e⟩:=O8 z;obtain⟨c,f1,f2,_⟩:=f p.1 hb;obtain⟨o,a,d⟩:=g p.1 hb;rw[e]at a;cases a;exact⟨e,c,f1,f2,d⟩
def dI.unpinned{pins pl σ H s}(I:dI X (pins++pl) σ H s):dI X pins σ H s:=I.pins_of λp a=>I.pin p (cZ _ (pC _ a))
def K0{iter body wi g tb pos}(p:PassesOwn (model X.prog X.w) X.A X.env X.xe)(M:X.calm=true)(hi:PI X tg iter wi)(hg:PG X tg g)(hb:AG X body tb)
  (hs:∀x,m4 iter X.env x=pure x:=by intro _;rfl):PS X (.For tg iter body [] pos) (aDv wi g tb):=by
 intro pins s σ H D I h;refine wpAny_For (jM (hi pins s σ H _ I h) λv s1 h1=>jM h1 λIz s2 h2=>?_) hs;obtain⟨it,fp,tn,J,P,e,R,T,E,f2,W,⟨m0,w0⟩,turn⟩:=h2;subst e
 -- what stays true of the iterator's objects through the Bq
 have B:∀{H':Hp},(∀b∈fp,H' b=none)->∀b∈fp,AI X pins H' b:=λhn b hb=>⟨hn b hb,(f2 b hb).2⟩;refine codeAny_forLoop_any (λn s'=>∃i d8 H',dI X pins d8 H' s'/\tn i s'.heap/\(∀b∈fp,H' b=none)/\W i n d8 H') ?_ m0 ⟨0,σ,P,R,E,λb hb=>(f2 b hb).1,w0⟩;rintro n s3 ⟨i,q,H3,K,G,L,w3⟩;rcases turn i n q H3 w3 with⟨stop,qn⟩ | ⟨go,N,hN,step⟩
 ·refine v0 p (jM (T.done X rfl rfl rfl M i pins s3 q H3 X.xe K (B L) G stop) λr s4 l=>?_);obtain⟨z,S⟩:=l;subst z;exact az ⟨q,H3,S,qn⟩
 ·refine v0 p (jM (T.item X rfl rfl rfl M i pins s3 q H3 X.xe K (B L) G go) λr s4 l=>?_);obtain⟨u,z,h4⟩:=l;subst z;refine v0 p (jM h4 λ_ O l=>?_);obtain⟨x,F,U,r5,y5,y,Qj⟩:=l;have Z:=U.pinned (B Qj) (T.obj _ _ y);refine v0 p (jM (hg _ O q F x u _ Z r5 (step x F y5)) λ_ s6 l=>?_);obtain⟨Vw,Q,Y,q6⟩:=l;refine v0 p (jM (hb _ s6 Vw Q _ Y q6) λf C k=>?_)
  have zb:∀{j:St}{a:Hp},dI X (pins++BX fp O.heap) j a C->N j a->∃m,m<n/\∃i d8 H',dI X pins d8 H' C/\tn i C.heap/\(∀b∈fp,H' b=none)/\W i m d8 H':=λ{j a} c t=>by
   obtain⟨m',hm,w7⟩:=hN j a t;refine⟨m',hm,i+1,j,a,c.unpinned,T.keep _ _ _ y λb hb o e=>(c.pin (b,o) (cZ _ (cZ _ (sD hb e)))).1,λb hb=>?_,w7⟩;obtain⟨o,e,d⟩:=T.obj _ _ y b hb;exact(c.pin (b,o) (cZ _ (cZ _ (sD hb e)))).2.1
  cases f with
  |next=>obtain⟨j,a,c,t⟩:=k;exact zb c t
  |cont=>obtain⟨j,a,c,t⟩:=k;exact zb c t
  |brk=>obtain⟨j,a,c,k⟩:=k;exact⟨j,a,c.unpinned,k⟩
  |ret v=>obtain⟨x7,j,a,c,r7,k⟩:=k;exact⟨x7,j,a,c.unpinned,r7,k⟩
end
abbrev R2:=V->V->Hp->VK->Prop
def oG(X:Cx)(f:Value->Value->Sem Value)(r:R2):Prop:=
 ∀pins s σ H(x y:V)(v u:Value)Q,dI X pins σ H s->fU x v->fU y u->r x y H Q ->
  wpAny (model X.prog X.w) X.A (f v u) (EP X pins σ Q) X.xe s
def UnR(X:Cx)(f:Value->Sem Value)(r:V->Hp->VK->Prop):Prop:=
 ∀pins s σ H(x:V)(v:Value)Q,dI X pins σ H s->fU x v->r x H Q ->
  wpAny (model X.prog X.w) X.A (f v) (EP X pins σ Q) X.xe s
def kE(X:Cx)(f:Value)(r:List V->Hp->VK->Prop):Prop:=
 ∀pins s σ H(xs:List V)(us:List Value)Q,dI X pins σ H s->fM xs us->r xs H Q ->
  wpAny (model X.prog X.w) X.A (call f us) (EP X pins σ Q) X.xe s
def aPf(X:Cx)(r:V->Hp->(Bool->Hp->Prop)->Prop):Prop:=
 ∀pins s σ H(x:V)(v:Value)(Q:Bool->Hp->Prop),dI X pins σ H s->fU x v->r x H Q ->
  wpAny (model X.prog X.w) X.A (truthy v) (TP X pins σ Q) X.xe s
def tOp(r:R2)(b c:TE):TE:=λσ H Q=>b σ H λx H1=>c σ H1 λy a=>r x y a Q
def tUn(r:V->Hp->VK->Prop)(a:TE):TE:=λσ H Q=>a σ H λx H1=>r x H1 Q
def rI(C:Int->Int->Prop)(g:Int->Int->V):R2:=λx y H Q=>∃i j,x=.int i/\y=.int j/\C i j/\Q (g i j) H
def SX(g:Int->Int->V):R2:=λx y H Q=>∃i j,x=.int i/\y=.int j/\Q (g i j) H
def rU(g:Int->V):V->Hp->VK->Prop:=λx H Q=>∃i,x=.int i/\Q (g i) H
section
variable{X:Cx}{a b:Expr}{ta tb:TE}{pos:Pos}
def aGb(ha:PE X a ta)(hb:PE X b tb){pins s σ H}{R:V->V->Hp->Prop}(I:dI X pins σ H s)
  (h:ta σ H λx H1=>tb σ H1 λy c=>R x y c) {Q:Value->Shared->Prop} {f:Value->Value->Sem Value}
  (j:∀v u s2 x y c,dI X pins σ c s2->fU x v->fU y u->R x y c->wpAny (model X.prog X.w) X.A (f v u) Q X.xe s2) :
  wpAny (model X.prog X.w) X.A (eval a X.env) (λv d=>wpAny (model X.prog X.w) X.A (eval b X.env) (λu k=>wpAny (model X.prog X.w) X.A (f v u) Q X.xe k) X.xe d) X.xe s:=by
 refine jM (ha pins s σ H _ I h) λv s1 e=>?_;obtain⟨x,H1,g,n,l⟩:=e;refine jM (hb pins s1 σ H1 _ g l) λu s2 e=>?_;obtain⟨y,c,i,o,m⟩:=e;exact j v u s2 x y c i n o m
def IC{op r}(e:oG X (o9 op) r)(ha:PE X a ta)(hb:PE X b tb):PE X (.BinOp a op b pos) (tOp r ta tb):=by
 intro pins s σ H Q I h;exact wpAny_BinOp (aGb ha hb I h λv u s2 x y c d f g q=>e pins s2 σ c x y v u Q d f g q)
def aKf{op}{r:V->Hp->VK->Prop}(d:UnR X (unaryOp op) r)(ha:PE X a ta):PE X (.UnaryOp op a pos) (tUn r ta):=by
 intro pins s σ H Q I h;exact UnaryOp_ (jM (ha pins s σ H _ I h) λv s1 ⟨x,H1,c,f,e⟩=>d pins s1 σ H1 x v Q c f e)
def opI{f:Value->Value->Sem Value}{C:Int->Int->Prop}{g:Int->Int->Int}
  (rule:∀(i j:Int)(t u:Tok)(s:Shared)Q E,C i j->Q (.int (g i j) s.toks) { s with toks:=s.toks+1 }->wpAny (model X.prog X.w) X.A (f (.int i t) (.int j u)) Q E s) :
  oG X f (rI C λi j=>.int (g i j)):=by
 intro pins s σ H x y v u Q I d e h;obtain⟨i,j,rfl,rfl,c,q⟩:=h;obtain⟨t,rfl⟩:=d;obtain⟨t',rfl⟩:=e;exact rule i j t t' s _ _ c ⟨.int (g i j),H,I.tok _,⟨_,rfl⟩,q⟩
def aKj{f:Value->Value->Sem Value}{g:Int->Int->Int}
  (rule:∀(i j:Int)(t u:Tok)(s:Shared)Q E,Q (.int (g i j) s.toks) { s with toks:=s.toks+1 }->wpAny (model X.prog X.w) X.A (f (.int i t) (.int j u)) Q E s) :
  oG X f (SX λi j=>.int (g i j)):=by
 intro pins s σ H x y v u Q I c d h;obtain⟨i,j,rfl,rfl,q⟩:=h;obtain⟨t,rfl⟩:=c;obtain⟨t',rfl⟩:=d;exact rule i j t t' s _ _ ⟨.int (g i j),H,I.tok _,⟨_,rfl⟩,q⟩
def ZA{f:Value->Value->Sem Value}{g:Int->Int->Bool}
  (rule:∀(i j:Int)(t u:Tok)s Q E,Q (.bool (g i j)) s->wpAny (model X.prog X.w) X.A (f (.int i t) (.int j u)) Q E s) :
  oG X f (SX λi j=>.bl (g i j)):=by
 intro pins s σ H x y v u Q I c d h;obtain⟨i,j,rfl,rfl,q⟩:=h;obtain⟨t,rfl⟩:=c;obtain⟨t',rfl⟩:=d;exact rule i j t t' s _ _ ⟨.bl (g i j),H,I,rfl,q⟩
def aGk(i j:Int):Prop:=0<j/\j<1073741824
def J0(i j:Int):Prop:=(-(2^64)<i/\i<2^64)\/(-(2^64)<j/\j<2^64)
def J0.ok{i j:Int}(h:J0 i j):IntMulOk i j:=by
 rcases h with⟨c,d⟩ | ⟨c,d⟩
 ·exact .of_left (intBits_le_64 c d)
 ·exact .of_right (intBits_le_64 c d)
def aEy:oG X (o9 .Add) (SX λi j=>.int (i+j)):=aKj λ_ _ _ _ _ _ _ q=>add_int q
def sC:oG X (o9 .Sub) (SX λi j=>.int (i-j)):=aKj λ_ _ _ _ _ _ _ q=>sub_int q
def TV:oG X (o9 .Mult) (rI J0 λi j=>.int (i*j)):=opI λ_ _ _ _ _ _ _ c q=>mul_int q c.ok
def pF:oG X (o9 .FloorDiv) (rI aGk λi j=>.int (i / j)):=opI λi j _ _ _ _ _ c q=>by
 have d:(0:Int)<j:=c.1;have e:j<1073741824:=c.2;exact floordiv_int (by lia) (by rw[HE i (by lia)];exact q) (.inl (PyProof.noPylong_small (by lia)))
def gA:oG X (o9 .Mod) (rI (λ_ j=>0<j) λi j=>.int (i%j)):=opI λi j _ _ _ _ _ c q=>by
 have d:(0:Int)<j:=c;exact mod_int' (by lia) (by rw[Int.fmod_eq_emod_of_nonneg i (by lia)];exact q)
def unI{f:Value->Sem Value}{g:Int->Int}
  (rule:∀(i:Int)(t:Tok)(s:Shared)Q E,Q (.int (g i) s.toks) { s with toks:=s.toks+1 }->wpAny (model X.prog X.w) X.A (f (.int i t)) Q E s) :
  UnR X f (rU λi=>.int (g i)):=by
 intro pins s σ H x v Q I c h;obtain⟨i,rfl,q⟩:=h;obtain⟨t,rfl⟩:=c;exact rule i t s _ _ ⟨.int (g i),H,I.tok _,⟨_,rfl⟩,q⟩
def aDi:UnR X (unaryOp .USub) (rU λi=>.int (-i)):=unI λ_ _ _ _ _ q=>neg_int q
end
noncomputable def aD6:V->V->Bool
|.non,.non=>true | .non,.int _=>true | .int _,.non=>true | .non,.bl _=>true | .bl _,.non=>true | .non,.str _=>true | .str _,.non=>true
|.int _,.int _=>true | .bl _,.bl _=>true | .str _,.str _=>true | .byt _,.byt _=>true
|.int _,.str _=>true | .str _,.int _=>true | .bl _,.str _=>true | .str _,.bl _=>true
|_,_=>false
def rEq:R2:=λx y H Q=>aD6 x y=true/\Q (.bl (decide (x=y))) H
def rNe:R2:=λx y H Q=>aD6 x y=true/\Q (.bl (!decide (x=y))) H
def NZ{i j:Int}:decide (V.int i=V.int j)=(i==j):=by
 rw[eN];simp
def V7{i j:Bool}:decide (V.bl i=V.bl j)=(i==j):=by
 rw[eN];simp
def NY{i j}:decide (V.str i=V.str j)=(i==j):=by
 rw[eN];simp
def N0{i j:Array UInt8}:decide (V.byt i=V.byt j)=(i.toList==j.toList):=by
 rw[eN];cases i;cases j;simp
section
variable{X:Cx}{a b c:Expr}{ta tb tc:TE}{pos:Pos}
def fX{pins σ H s Q}{k d:Bool}(I:dI X pins σ H s)(q:Q (.bl k) H)(e:k=d):EP X pins σ Q (.bool d) s:=by
 subst e;exact⟨.bl k,H,I,rfl,q⟩
def jF:oG X (g8 .Eq) rEq:=by
 intro pins s σ H x y v u Q I e d h;obtain⟨hs,q⟩:=h
 cases x with
 |non=>
  cases e
  cases y with
  |non=>cases d;exact PySem.EqNone.eq_none_none (fX I q (by simp))
  |bl j=>cases d;exact PySem.EqNone.eq_none_bool (fX I q (by simp))
  |int j=>obtain⟨t',rfl⟩:=d;exact PySem.EqNone.eq_none_int (fX I q (by simp))
  |str j=>obtain⟨t',rfl⟩:=d;exact PySem.EqNone.eq_none_str (fX I q (by simp))
  |_=>exact c7 (show false=true from hs) bV
 |bl i=>
  cases e
  cases y with
  |non=>cases d;exact PySem.EqNone.eq_bool_none (fX I q (by simp))
  |bl j=>cases d;exact eq_bool (fX I q V7)
  |str j=>obtain⟨t',rfl⟩:=d;exact PySem.EqMixed.eq_bool_str (fX I q (by simp))
  |_=>exact c7 (show false=true from hs) bV
 |int i=>
  obtain⟨t,rfl⟩:=e
  cases y with
  |non=>cases d;exact PySem.EqNone.eq_int_none (fX I q (by simp))
  |int j=>obtain⟨t',rfl⟩:=d;exact eq_int (fX I q NZ)
  |str j=>obtain⟨t',rfl⟩:=d;exact PySem.EqMixed.eq_int_str (fX I q (by simp))
  |_=>exact c7 (show false=true from hs) bV
 |str i=>
  obtain⟨t,rfl⟩:=e
  cases y with
  |non=>cases d;exact PySem.EqNone.eq_str_none (fX I q (by simp))
  |bl j=>cases d;exact PySem.EqMixed.eq_str_bool (fX I q (by simp))
  |int j=>obtain⟨t',rfl⟩:=d;exact PySem.EqMixed.eq_str_int (fX I q (by simp))
  |str j=>obtain⟨t',rfl⟩:=d;exact eq_str (fX I q NY)
  |_=>exact c7 (show false=true from hs) bV
 |byt i=>
  obtain⟨t,rfl⟩:=e
  cases y with
  |byt j=>obtain⟨t',rfl⟩:=d;exact PySem.W.eq_bytes (fX I q N0)
  |_=>exact c7 (show false=true from hs) bV
 |_=>cases y<;>exact c7 (show false=true from hs) bV
def B0:oG X (g8 .NotEq) rNe:=by
 intro pins s σ H x y v u Q I e d h;obtain⟨hs,q⟩:=h
 cases x with
 |non=>
  cases e
  cases y with
  |non=>cases d;exact PySem.EqNone.ne_none_none (fX I q (by simp))
  |bl j=>cases d;exact PySem.EqNone.ne_none_bool (fX I q (by simp))
  |int j=>obtain⟨t',rfl⟩:=d;exact PySem.EqNone.ne_none_int (fX I q (by simp))
  |str j=>obtain⟨t',rfl⟩:=d;exact PySem.EqNone.ne_none_str (fX I q (by simp))
  |_=>exact c7 (show false=true from hs) bV
 |bl i=>
  cases e
  cases y with
  |non=>cases d;exact PySem.EqNone.ne_bool_none (fX I q (by simp))
  |bl j=>cases d;exact ne_bool (fX I q (j5 not V7))
  |str j=>obtain⟨t',rfl⟩:=d;exact PySem.EqMixed.ne_bool_str (fX I q (by simp))
  |_=>exact c7 (show false=true from hs) bV
 |int i=>
  obtain⟨t,rfl⟩:=e
  cases y with
  |non=>cases d;exact PySem.EqNone.ne_int_none (fX I q (by simp))
  |int j=>obtain⟨t',rfl⟩:=d;exact ne_int (fX I q (j5 not NZ))
  |str j=>obtain⟨t',rfl⟩:=d;exact PySem.EqMixed.ne_int_str (fX I q (by simp))
  |_=>exact c7 (show false=true from hs) bV
 |str i=>
  obtain⟨t,rfl⟩:=e
  cases y with
  |non=>cases d;exact PySem.EqNone.ne_str_none (fX I q (by simp))
  |bl j=>cases d;exact PySem.EqMixed.ne_str_bool (fX I q (by simp))
  |int j=>obtain⟨t',rfl⟩:=d;exact PySem.EqMixed.ne_str_int (fX I q (by simp))
  |str j=>obtain⟨t',rfl⟩:=d;exact ne_str (fX I q (j5 not NY))
  |_=>exact c7 (show false=true from hs) bV
 |byt i=>
  obtain⟨t,rfl⟩:=e
  cases y with
  |byt j=>obtain⟨t',rfl⟩:=d;exact PySem.W.ne_bytes (fX I q (j5 not N0))
  |_=>exact c7 (show false=true from hs) bV
 |_=>cases y<;>exact c7 (show false=true from hs) bV
def IH:oG X (g8 .Lt) (SX λi j=>.bl (decide (i<j))):=ZA λ_ _ _ _ _ _ _ q=>lt_int q
def TW:oG X (g8 .LtE) (SX λi j=>.bl (decide (i<=j))):=ZA λ_ _ _ _ _ _ _ q=>le_int q
def B2:oG X (g8 .Gt) (SX λi j=>.bl (decide (j<i))):=ZA λ_ _ _ _ _ _ _ q=>gt_int q
def II:oG X (g8 .GtE) (SX λi j=>.bl (decide (j<=i))):=ZA λ_ _ _ _ _ _ _ q=>ge_int q
def O4:oG X (g8 .In) (λx y H Q=>∃i j,x=.str i/\y=.str j/\Q (.bl (!(v7 j i 0 j.length 1).isEmpty)) H):=by
 intro pins s σ H x y v u Q I d e h;obtain⟨i,j,rfl,rfl,q⟩:=h;obtain⟨t,rfl⟩:=d;obtain⟨t',rfl⟩:=e;exact in_str (fX I q rfl)
def aEv:oG X (g8 .Is) (λx y H Q=>y=.non/\Q (.bl (decide (x=.non))) H):=by
 intro pins s σ H x y v u Q I d e h;obtain⟨rfl,q⟩:=h;cases e;refine is_none_gen (fX I q ?_)
 cases x<;>first
  | (cases d;rfl)
  | (obtain⟨t,rfl⟩:=d;rfl)
def Y8:oG X (g8 .IsNot) (λx y H Q=>y=.non/\Q (.bl (!decide (x=.non))) H):=by
 intro pins s σ H x y v u Q I d e h;obtain⟨rfl,q⟩:=h;cases e;refine isnot_none_gen (fX I q ?_)
 cases x<;>first
  | (cases d;rfl)
  | (obtain⟨t,rfl⟩:=d;rfl)
def oG.or{f:Value->Value->Sem Value}{r d:R2}(h:oG X f r)(h':oG X f d):oG X f (λx y H Q=>r x y H Q\/d x y H Q):=by
 intro pins s σ H x y v u Q I e g q;rcases q with q | q
 ·exact h pins s σ H x y v u Q I e g q
 ·exact h' pins s σ H x y v u Q I e g q
def B5(b:Expr){op}(h:op≠.In:=by decide)(f:op≠.NotIn:=by decide):k8 op b=false:=by
 have d:(op==CmpOp.In)=false:=by cases op<;>first | rfl | exact c7 rfl h
 have e:(op==CmpOp.NotIn)=false:=by cases op<;>first | rfl | exact c7 rfl f
 cases b<;>simp[k8,d,e]
def M4{op r}(f:oG X (g8 op) r)(ha:PE X a ta)(hb:PE X b tb)(hm:k8 op b=false):PE X (.Compare a [op] [b] pos) (tOp r ta tb):=by
 intro pins s σ H Q I h;exact wpAny_Compare1 (aGb ha hb I h λv u s2 x y d e g i q=>f pins s2 σ d x y v u Q e g i q) hm
def aBk(t:TE):TT:=λσ H Q=>t σ H λx H'=>∃k,x=.bl k/\Q k H'
def MZ{op r}(j:oG X (g8 op) r)(ha:PE X a ta)(hb:PE X b tb)(hm:k8 op b=false):PT X (.Compare a [op] [b] pos) (aBk (tOp r ta tb)):=by
 intro pins s σ H Q I h
 refine xf (jM (ha pins s σ H _ I h) λv s1 ⟨x,H1,f,o,l⟩=>jM (hb pins s1 σ H1 _ f l) λu s2 ⟨y,d,g,p,m⟩=>
  jM (j pins s2 σ d x y v u _ g o p m) λc s3 ⟨z,H3,i,q,k,e,n⟩=>?_) hm
 subst e;cases q;exact l5 ⟨H3,i,n⟩
def KO(r f:R2)(ta tb tc:TE):TE:=λσ H Q=>ta σ H λx H1=>tb σ H1 λy d=>r x y d λz H3=>∃k,z=.bl k /\
 (if k=true then tc σ H3 λg e=>f y g e Q else Q (.bl false) H3)
def TR{op op' r r'}(q:oG X (g8 op) r)(B:oG X (g8 op') r')(ha:PE X a ta)(hb:PE X b tb)(p:PE X c tc)
  (hm:ul [op,op'] [b,c]=false:=by with_unfolding_all rfl):PE X (.Compare a [op,op'] [b,c] pos) (KO r r' ta tb tc):=by
 intro pins s σ H Q I h
 refine Compare_chain (jM (ha pins s σ H _ I h) λv s1 ⟨x,H1,m,C,t⟩=>chain_link (jM (hb pins s1 σ H1 _ m t) λu s2 ⟨y,j,n,i,w⟩=>
  jM (q pins s2 σ j x y v u _ n C i w) λd s3 ⟨z,H3,f,E,k,e,g⟩=>?_)) hm
 subst e;cases E;refine l5 ?_
 cases k with
 |false=>exact ite_ff ⟨.bl false,H3,f,rfl,g⟩
 |true=>exact ite_tt (chain_last (jM (p pins s3 σ H3 _ f g) λJ G ⟨K,l,o,F,A⟩=>B pins G σ l y K u J Q o i F A))
def S7{op op' r r'}(B:oG X (g8 op) r)(K:oG X (g8 op') r')(ha:PE X a ta)(hb:PE X b tb)(A:PE X c tc)
  (hm:ul [op,op'] [b,c]=false:=by with_unfolding_all rfl):PT X (.Compare a [op,op'] [b,c] pos) (aBk (KO r r' ta tb tc)):=by
 intro pins s σ H Q I h
 refine isTrue_chain (jM (ha pins s σ H _ I h) λv s1 ⟨x,H1,n,L,E⟩=>test_link (jM (hb pins s1 σ H1 _ n E) λu s2 ⟨y,j,o,i,F⟩=>
  jM (B pins s2 σ j x y v u _ o L i F) λd s3 ⟨z,H3,f,M,k,e,g⟩=>?_)) hm
 subst e;cases M;refine l5 ?_
 cases k with
 |false=>
  obtain⟨U,t,C⟩:=g;cases t;exact ite_ff ⟨H3,f,C⟩
 |true=>
  refine ite_tt (test_last (jM (A pins s3 σ H3 _ f g) λR P ⟨S,l,p,N,G⟩=>jM (K pins P σ l y S u R _ p i N G) λd' W T=>?_));obtain⟨z2,m,q,O,k2,w,J⟩:=T;subst w;cases O;exact l5 ⟨m,q,J⟩
def aGe(K:aI)(x:V)(H:Hp)(k:Bool):Prop:=
 match x with
 |.non=>k=false
 |.bl b=>k=b
 |.int i=>k=(i != 0)
 |.str y=>y.length<=bE/\k=((y.length:Int) != 0)
 |.byt y=>y.size<=bE/\k=((y.size:Int) != 0)
 |.ref p=>(∃xs,nB K H p xs/\k=!xs.isEmpty)\/(∃xs,qG K H p xs/\k=!xs.isEmpty)\/∃kvs,H p=some (.dK kvs)/\k=!kvs.isEmpty
 |_=>False
def LN{d:Type}{kvs:List (d×V)}{vs:List (d×Value)}(r:KV kvs vs):(!vs.isEmpty)=!kvs.isEmpty:=by
 cases r<;>rfl
def CH{xs:List V}{i3:List Value}(r:fM xs i3):(!i3.toArray.isEmpty)=!xs.isEmpty:=by
 cases r<;>simp
def yG:(bE:Nat)<2^63:=by rw[lz];decide
def aDm:aPf X (λx H Q=>∃k,aGe X.K x H k/\Q k H):=by
 intro pins s σ H x v Q I f h;obtain⟨k,e,q⟩:=h;have o:=yG;have hs:bE=16777216:=lz
 cases x with
 |non=>
  cases f;have d:k=false:=e;subst d;exact truthy_none ⟨H,I,q⟩
 |bl b=>
  cases f;have d:k=b:=e;subst d;exact l5 ⟨H,I,q⟩
 |int i=>
  obtain⟨t,rfl⟩:=f;have d:k=(i != 0):=e;subst d;exact PySem.P.truthy_int ⟨H,I,q⟩
 |str y=>
  obtain⟨t,rfl⟩:=f;obtain⟨n,d⟩:y.length<=bE/\k=((y.length:Int) != 0):=e;subst d;exact PySem.P.truthy_str (by lia) ⟨H,I.tok _,q⟩
 |byt y=>
  obtain⟨t,rfl⟩:=f;obtain⟨n,d⟩:y.size<=bE/\k=((y.size:Int) != 0):=e;subst d;exact PySem.W.truthy_bytes (by lia) ⟨H,I.tok _,q⟩
 |ref p=>
  cases f;have d:(∃xs,nB X.K H p xs/\k=!xs.isEmpty)\/(∃xs,qG X.K H p xs/\k=!xs.isEmpty)\/∃kvs,H p=some (.dK kvs)/\k=!kvs.isEmpty:=e;rcases d with⟨xs,g,d⟩ | ⟨xs,g,d⟩ | ⟨kvs,g,d⟩
  ·subst d;obtain⟨i3,r,pl,hz⟩:=I.list g;have j:=r.length;exact wpAny_truthy_list pl.isList (by simp only[bF];lia) ⟨H,I.tok _,by rw[CH r];exact q⟩
  ·subst d;obtain⟨i3,r,pl,hz⟩:=I.tuple g;have j:=r.length;exact truthy_tuple pl (by simp only[bF];lia) ⟨H,I.tok _,by rw[CH r];exact q⟩
  ·subst d;obtain⟨hz,l,vs,r,m⟩:kvs.length<=bE/\(p==r8)=false/\∃vs,KV kvs vs/\s.heap.DictOf (fH X.prog X.w) p vs:=I.hok p _ g;have j:kvs.length=vs.length:=dm r;exact wpAny_truthy_dict l m (by lia) ⟨H,I.tok _,by rw[LN r];exact q⟩
 |_=>exact(show False from e).elim
def S4(ha:PE X a ta)(f:∀d,isTrue a X.env d=(do let v <- d;nv a.pos;nt [v] (truthy v))) :
  PT X a (λσ H Q=>ta σ H λx H'=>∃k,aGe X.K x H' k/\Q k H'):=by
 intro pins s σ H Q I h;exact isTrue_plain (jM (ha pins s σ H _ I h) λv s1 ⟨x,H1,e,i,g⟩=>aDm pins s1 σ H1 x v Q e i g) (f _)
def K6:oG X (o9 .Add) (λx y H Q=>∃i j,x=.str i/\y=.str j/\i.length+j.length<=bE/\Q (.str (i++j)) H):=by
 intro pins s σ H x y v u Q I d e h;obtain⟨i,j,rfl,rfl,hz,q⟩:=h;obtain⟨t,rfl⟩:=d;obtain⟨t',rfl⟩:=e;exact add_str (λt' tk=>⟨.str (i++j),H,I.tok _,⟨_,rfl⟩,q⟩) hz
def nV{x us}(r:fM [x] us):∃u,us=[u]/\fU x u:=by
 cases r with
 |cons d e=>cases e;exact⟨_,rfl,d⟩
def HN{x y us}(r:fM [x,y] us):∃u d,us=[u,d]/\fU x u/\fU y d:=by
 cases r with
 |cons e f=>
  cases f with
  |cons g h=>cases h;exact⟨_,_,rfl,e,g⟩
def FA(e:X.calm=true):kE X (.builtin "max") (λxs H Q=>∃i j,xs=[.int i,.int j]/\Q (.int (if j>i then j else i)) H):=by
 intro pins s σ H xs us Q I r h;obtain⟨i,j,rfl,q⟩:=h;obtain⟨u,f,rfl,⟨t,rfl⟩,⟨t',rfl⟩⟩:=HN r;refine max_two_ints (I.ok.hd e) λh' tk k=>⟨_,H,I.kept k,?_,q⟩;by_cases d:j>i
 ·rw[b8 d,b8 d];exact⟨_,rfl⟩
 ·rw[a8 d,a8 d];exact⟨_,rfl⟩
def E9(e:X.calm=true):kE X (.builtin "min") (λxs H Q=>∃i j,xs=[.int i,.int j]/\Q (.int (if j<i then j else i)) H):=by
 intro pins s σ H xs us Q I r h;obtain⟨i,j,rfl,q⟩:=h;obtain⟨u,f,rfl,⟨t,rfl⟩,⟨t',rfl⟩⟩:=HN r;refine min_two_ints (I.ok.hd e) λh' tk k=>⟨_,H,I.kept k,?_,q⟩;by_cases d:j<i
 ·rw[b8 d,b8 d];exact⟨_,rfl⟩
 ·rw[a8 d,a8 d];exact⟨_,rfl⟩
def oA:kE X (.type "int") (λxs H Q=>(∃i,xs=[.int i]/\Q (.int i) H)\/∃k,xs=[.bl k]/\Q (.int (if k then 1 else 0)) H):=by
 intro pins s σ H xs us Q I r h;rcases h with⟨i,rfl,q⟩ | ⟨k,rfl,q⟩
 ·obtain⟨u,rfl,t,rfl⟩:=nV r;exact call_int_int ⟨.int i,H,I,⟨_,rfl⟩,q⟩
 ·obtain⟨u,rfl,d⟩:=nV r;cases d;exact call_int_bool ⟨.int (if k then 1 else 0),H,I.tok _,⟨_,rfl⟩,q⟩
end
structure L8(h:Heap)(x dx C:Addr)(mA:Str->Option Value):Prop where
 obj:h.get? x=some (jS C dx)
 ns:h.Ns1 dx mA
 ne:dx≠x
def PJ{h:Heap}{dx:Addr}{mA:Str->Option Value}(n:h.Ns1 dx mA):∃od,h.get? dx=some od/\∀name,uE name od=some (mA name):=by
 obtain⟨o,es,ep,d,hd,hk,_,hm⟩:=n;refine⟨o,d,λname=>?_⟩;have e:=hm name;unfold nsFind findBy at e;rw[<- QY]at e;unfold uE;rw[hd];dsimp only;split
 ·rename_i y q;rw[q]at e;exact j5 some e
 ·rename_i q;rw[q]at e
  have a:es.toList.any (·.refKey)=false:=by
   rw[List.any_eq_false];intro y f;obtain⟨z,t,b⟩:=hk y (Array.mem_toList_iff.mp f);simp[DictEntry.refKey,b]
  have c:¬es.toList.any (·.refKey)=true:=by rw[a];exact bV
  rw[a8 c];exact j5 some e
def L8.look{h}{x dx C:Addr}{mA:Str->Option Value}(I:L8 h x dx C mA):∃od,mB h x (jS C dx) C (some od)/\∀name,uE name od=some (mA name):=
 let ⟨od,ho,hl⟩:=PJ I.ns
 ⟨od,⟨I.obj,rfl,rfl,ho⟩,hl⟩
section
variable{prog:dD}{w:j0}{A:g9}{E:Value->Shared->Prop}{s:Shared}{K:aI}{x dx C f:Addr}{mA:Str->Option Value}{name:Str}{v:Value}
def Z6{a:Bool}{Q:Value->Shared->Prop}(X:K.In s.heap)(I:L8 s.heap x dx C mA)(c:rO K C name=true)(d:xU K C=true)
  (ha:dU K (.ref C) name=some none) (g:mA name=some v) (b:QP v=true) (h:Q v { s with toks:=s.toks+1 }) :
  wpAny (model prog w) A (getAttr (.ref x) name a) Q E s:=by
 obtain⟨od,J,e⟩:=I.look;exact PySem.W.get_value X J (vL c).1 (PySem.W.findObj_own d ha rfl (by rw[e,g])) b h
def VG{pl}{Q:Value×List Value->Shared->Prop}(X:K.In s.heap)(I:L8 s.heap x dx C mA)(a:rO K C name=true)
  (b:dU K (.ref C) name=some (some (.ref f))) (d:G7 K (.ref f)=true) (e:mA name=none) (h:Q (.ref f,[.ref x]) s) :
  wpAny (model prog w) A (km (.ref x) name pl) Q E s:=by
 obtain⟨od,J,c⟩:=I.look;exact PySem.W.method_fn X J (vL a).1 (vL a).2 b (beq_iff_eq.mp d) (by show(uE name od).map (·.isSome)=some false;rw[c,e];rfl) h
def YK{ns:List Str}{Q:Unit->Shared->Prop}(X:K.In s.heap)(I:L8 s.heap x dx C mA)
  (hs:dU K (.ref C) "__setattr__"=some (some (.builtin "object.__setattr__"))) (m:OA K C=true) (n:AM K C name=some none) (l:xU K C=true)
  (hw:mf mA ns) (hsz:ns.length<=bE)
  (h:∀h',L8 h' x dx C (λy=>if y=name then some v else mA y)->fL dx s.heap h'->Q () { s with heap:=h',toks:=s.toks+2 }) :
  wpAny (model prog w) A (setAttr (.ref x) name v) Q E s:=by
 obtain⟨od,J,t⟩:=I.look;refine PySem.W.set_plain X J hs (PySem.W.osa_open (s:={ s with toks:=s.toks+1 }) (r:=none) X J m n λb=>?_);obtain⟨cd,k,e⟩:=PySem.W.any_some l;have o:s.heap.get? x=some ⟨.ref C,some dx,.plain,#[]⟩:=I.obj;refine aE (aV (aE (aE (wpAny_loadPart o (aE (DZ.here (s:={ s with toks:=s.toks+1 }) (PySem.W.looks_clsIn X k) ?_))))));rw[e];refine aV (a:=some dx) (aE (aV (aE ?_)));refine wpAny_nsSet1 (s:={ s with toks:=s.toks+1 }) I.ns λh' c d=>?_;obtain⟨u,q,p,j,i,g⟩:=c.count (PySem.Within.cons name v hw);refine aE (wpAny_lookBehind j (by rw[i];exact pastItsLine_dict (aX g (by rw[dY];lia))) ?_);exact aV (h _ ⟨(d.2 _ (n8 I.ne)).trans I.obj,c,I.ne⟩ d)
def UO{R:Result->Shared->Prop}{vs kw}(X:K.In s.heap)(hm:Q7 K C=true)
  (hi:dU K (.ref C) "__init__"=some (some (.ref f))) (a:kR K (.ref f)=some (.type "function"))
  (h:bb (model prog w) (A.under (.builtin "type.__call__" ⟨.ref C::vs,kw⟩)) (.call (.ref f) ⟨.ref (s.heap.objs.size+1)::vs,kw⟩) (PySem.W.InitBack (s.heap.objs.size+1) R)
   { s with heap:=(s.heap.push gZ).push (jS C s.heap.objs.size) }) :
  bb (model prog w) A (.call (.ref C) ⟨vs,kw⟩) R s:=by
 obtain⟨b,g,d,t,os⟩:=s;exact PySem.W.make_core (PySem.W.makes_of X hm) (oK X hi) (λself=>PySem.W.bind_fn X self a) (.inl rfl) h
end
noncomputable def tK(f:Str)(v:V):List (Str×V)->List (Str×V)
|[]=>[(f,v)]
| (g,x)::r=>if g=f then(g,v)::r else(g,x)::tK f v r
theorem yZ(f g:Str)(v:V):∀fs:List (Str×V),(tK f v fs).lookup g=if g=f then some v else fs.lookup g
|[]=>by
 show kF g [(f,v)]=_;by_cases h:g=f
 ·have hb:(g==f)=true:=beq_iff_eq.mpr h;simp only[kF,hb,b8 h]
 ·have hb:(g==f)=false:=beq_eq_false_iff_ne.mpr h;simp only[kF,hb,a8 h]
| (k,x)::r=>by
 have a:=yZ f g v r;rw[show tK f v ((k,x)::r)=(if k=f then(k,v)::r else(k,x)::tK f v r)from rfl];by_cases hk:k=f
 ·rw[b8 hk];by_cases h:g=k
  ·have hb:(g==k)=true:=beq_iff_eq.mpr h;simp only[kF,hb,b8 (h.trans hk)]
  ·have hb:(g==k)=false:=beq_eq_false_iff_ne.mpr h;simp only[kF,hb,a8 (λe:g=f=>h (e.trans hk.symm))]
 ·rw[a8 hk];by_cases h:g=k
  ·have hb:(g==k)=true:=beq_iff_eq.mpr h;simp only[kF,hb,a8 (λe:g=f=>hk (h.symm.trans e))]
  ·have hb:(g==k)=false:=beq_eq_false_iff_ne.mpr h;simp only[kF,hb];exact a
theorem yH(f:Str)(v:V):∀fs:List (Str×V),f∈(tK f v fs).map (·.1)/\∀g,g∈fs.map (·.1)->g∈(tK f v fs).map (·.1)
|[]=>⟨by simp[tK],λg h=>by simp at h⟩
| (k,x)::r=>by
 obtain⟨a,b⟩:=yH f v r;rw[show tK f v ((k,x)::r)=(if k=f then(k,v)::r else(k,x)::tK f v r)from rfl];by_cases hk:k=f
 ·rw[b8 hk];subst hk;exact⟨by simp,λg h=>by simpa using h⟩
 ·rw[a8 hk];refine⟨?_,λg h=>?_⟩
  ·rw[bR];exact aJ _ a
  ·rw[bR]at h |-
   rcases aP.mp h with e | e
   ·exact aP.mpr (.inl e)
   ·exact aJ _ (b g e)
theorem zF(f:Str)(v:V):∀fs:List (Str×V),(tK f v fs).length<=fs.length+1
|[]=>by simp[tK]
| (k,x)::r=>by
 have a:=zF f v r;rw[show tK f v ((k,x)::r)=(if k=f then(k,v)::r else(k,x)::tK f v r)from rfl];by_cases hk:k=f
 ·rw[b8 hk,dY,dY];lia
 ·rw[a8 hk,dY,dY];lia
def uB.some_of{v o}(r:uB (some v) o):∃u,o=some u/\fU v u:=by
 cases o with
 |none=>exact(show False from r).elim
 |some u=>exact⟨u,rfl,r⟩
def uB.none_of{o}(r:uB none o):o=none:=by
 cases o with
 |none=>rfl
 |some u=>exact(show False from r).elim
def PX{v u}(r:fU v u):QP u=true:=by
 cases v with
 |non=>cases (show u=j9 from r);rfl
 |bl b=>cases (show u=eh b from r);rfl
 |int i=>obtain⟨t,e⟩:=(show∃t,u=v4 i t from r);cases e;rfl
 |str x=>obtain⟨t,e⟩:=(show∃t,u=di x t from r);cases e;rfl
 |byt b=>obtain⟨t,e⟩:=(show∃t,u=Value.bytes b t from r);cases e;rfl
 |flt b=>obtain⟨t,e⟩:=(show∃t,u=oh b t from r);cases e;rfl
 |ref a=>cases (show u=e7 a from r);rfl
 |ty n=>cases (show u=y4 n from r);rfl
section
variable{P:dD}{w:j0}{H:Hp}{h:Heap}{a C dx:Addr}{fs:List (Str×V)}
def A4(hok:pK P w H h)(e:H a=some (.ins C dx fs)):∃mA,L8 h a dx C mA/\(∀f,uB (fs.lookup f) (mA f))/\mf mA (fs.map (·.1))/\fs.length<=1000/\H dx=some (.own a):=by
 obtain⟨d,z,ne,ob,mA,n,r,q⟩:=(show iT P w H h a (.ins C dx fs)from hok a _ e);exact⟨mA,⟨ob,n,ne⟩,r,q,z,d⟩
end
structure AL(K:aI)(C:Addr):Prop where
 pg:rO K C Str.empty=true
 hd:xU K C=true
 po:OA K C=true
 sa:dU K (.ref C) "__setattr__"=some (some (.builtin "object.__setattr__"))
def AL.get{K}{C:Addr}(c:AL K C)(f:Str):rO K C f=true:=c.pg
def gM(K:aI)(C:Addr)(f:Str):Prop:=dU K (.ref C) f=some none
def gM.taker{K}{C:Addr}{f}(n:gM K C f):AM K C f=some none:=by
 unfold AM;rw[show dU K (.ref C) f=some none from n]
 rfl
structure AH(K:aI)(C:Addr)(m:Str)(f:Addr):Prop where
 at_:dU K (.ref C) m=some (some (.ref f))
 fn:G7 K (.ref f)=true
 kp:gD K (.ref f)=true
section
variable{X:Cx}{pins:List (Addr×Obj)}{σ:St}{H:Hp}{s:Shared}{a C dx:Addr}{fs:List (Str×V)}{f:Str}{v:V}{A:g9}{E:Value->Shared->Prop}
def CJ{b:Bool}{Q:Value->Shared->Prop}(I:dI X pins σ H s)(e:H a=some (.ins C dx fs))(c:AL X.K C)(n:gM X.K C f)(l:fs.lookup f=some v)
  (h:∀u s',dI X pins σ H s'->fU v u->Q u s'):wpAny (model X.prog X.w) A (getAttr (.ref a) f b) Q E s:=by
 obtain⟨mA,O,r,_,_,_⟩:=A4 I.hok e;obtain⟨u,g,d⟩:=uB.some_of (v:=v) (o:=mA f) (by rw[<- l];exact r f);exact Z6 I.kIn O (c.get f) c.hd n g (PX d) (h u _ (I.tok _) d)
def wG{m}{g:Addr}{pl}{Q:Value×List Value->Shared->Prop}(I:dI X pins σ H s)(e:H a=some (.ins C dx fs))(c:AL X.K C)(k:AH X.K C m g)(l:fs.lookup m=none)
  (h:Q (.ref g,[.ref a]) s):wpAny (model X.prog X.w) A (km (.ref a) m pl) Q E s:=by
 obtain⟨mA,O,r,_,_,_⟩:=A4 I.hok e;have hn:mA m=none:=uB.none_of (by rw[<- l];exact r m);exact VG I.kIn O (c.get m) k.at_ k.fn hn h
def BN{y u}{Q:Unit->Shared->Prop}(I:dI X pins σ H s)(e:H a=some (.ins C dx fs))(c:AL X.K C)(n:gM X.K C f)(m:fs.length<1000)(l:fU y u)
  (h:∀s',dI X pins σ (fS H a (.ins C dx (tK f y fs))) s'->Q () s'):wpAny (model X.prog X.w) A (setAttr (.ref a) f u) Q E s:=by
 obtain⟨mA,O,r,j,_,i⟩:=A4 I.hok e;have hz:(fs.map (·.1)).length<=bE:=by rw[aB,lz];lia
 refine YK I.kIn O c.sa c.po n.taker c.hd j hz λh' d sb=>h _ ?_;have hd:∃o,h'.get? dx=some o:=let ⟨o,_,_,e',_⟩:=d.ns;⟨o,e'⟩
 refine I.write (x:=a) (e:=dx) (by rw[e];exact i8) (.inr i) (λb q hb z=>(sb.2 b hb).trans z) hd ?_;refine⟨by rw[bZ O.ne];exact i,?_,O.ne,d.obj,_,d.ns,λg=>?_,λg k=>?_⟩
 ·have:=zF f y fs;lia
 ·show uB ((tK f y fs).lookup g) (if g=f then some u else mA g);rw[yZ];by_cases q:g=f
  ·rw[b8 q,b8 q];exact l
  ·rw[a8 q,a8 q];exact r g
 ·by_cases q:g=f
  ·rw[q];exact(yH f y fs).1
  ·refine(yH f y fs).2 g (j g λz=>k ?_);show(if g=f then some u else mA g)=none;rw[a8 q];exact z
def dI.made(I:dI X pins σ H s):dI X pins σ (fS (fS H s.heap.objs.size (.own (s.heap.objs.size+1))) (s.heap.objs.size+1) (.ins C s.heap.objs.size []))
  { s with heap:=(s.heap.push gZ).push (jS C s.heap.objs.size) }:=by
 have c:(s.heap.push gZ).get? s.heap.objs.size=some gZ:=aZ s.heap rfl
 have g:((s.heap.push gZ).push (jS C s.heap.objs.size)).get? (s.heap.objs.size+1)=some (jS C s.heap.objs.size):=by
  have:=aZ (s.heap.push gZ) (o:=jS C s.heap.objs.size) rfl
  rwa [fE]at this
 have h:(s.heap.push gZ).Ns s.heap.objs.size (λ_=>none):=⟨gZ,#[],_,c,rfl,(λe i=>c7 i (by simp)),λ_=>rfl⟩;have d:=I.laid (a:=s.heap.objs.size) (o:=.own (s.heap.objs.size+1)) (h':=s.heap.push gZ) (t':=s.toks) (λb u q=>aG _ q) (aN _) ⟨_,c⟩;refine d.laid (a:=s.heap.objs.size+1) (o:=.ins C s.heap.objs.size []) (t':=s.toks) (λb u q=>aG _ q) (lR (fE _ _)) ?_;have ne:s.heap.objs.size≠s.heap.objs.size+1:=cI (mR _);refine⟨by rw[bZ ne,cE],cU _,ne,g,λ_=>none,(Heap.Ns1.of_empty h).at λo q=>aG _ q,λ_=>i8,λy j=>c7 rfl j⟩
def aAy{prog w env e f pos s}{Q:Value->Shared->Prop}(hb:k7 e f env (eval e env)=eval e env)
  (h:wpAny (model prog w) A (eval e env) (λo b=>wpAny (model prog w) A (getAttr o f true) Q E b) E s):wpAny (model prog w) A (eval (.Attribute e f pos) env) Q E s:=
 Attribute_any_ h (by rw[arm_eval_Attribute,hb])
end
def aHh(K:aI)(b:TE)(f:Str):TE:=λσ H Q=>b σ H λx H1=>∃a C dx fs v,x=.ref a/\H1 a=some (.ins C dx fs)/\AL K C/\gM K C f/\fs.lookup f=some v/\Q v H1
def KR(K:aI)(c tv:TE)(f:Str):TS:=λD σ H=>tv σ H λy H1=>c σ H1 λx b=>∃a C dx fs,x=.ref a/\b a=some (.ins C dx fs)/\AL K C/\gM K C f/\fs.length<1000 /\
 D.nx σ (fS b a (.ins C dx (tK f y fs)))
def aMp(X:Cx)(a:Operator)(b:V->V->Hp->VK->Prop):Prop:=
 ∀pins s σ H(x y:V)(u v:Value)Q,dI X pins σ H s->fU x u->fU y v->b x y H Q->wpAny (model X.prog X.w) X.A (inplaceOp a u v) (EP X pins σ Q) X.xe s
def YV(K:aI)(g tv:TE)(e:V->V->Hp->VK->Prop)(f:Str):TS:=λD σ H=>g σ H λx H1=>∃a C dx fs v,x=.ref a/\H1 a=some (.ins C dx fs)/\AL K C/\gM K C f/\fs.lookup f=some v /\
 tv σ H1 λy d=>e v y d λz H3=>∃c b,H3 a=some (.ins C c b)/\b.length<1000/\D.nx σ (fS H3 a (.ins C c (tK f z b)))
section
variable{X:Cx}{o e value:Expr}{f:Str}{pos q9 gc:Pos}{ta tv:TE}
def TQ(i:PE X e ta)(hb:k7 e f X.env (eval e X.env)=eval e X.env):PE X (.Attribute e f pos) (aHh X.K ta f):=by
 intro pins s σ H Q I h;refine aAy hb (jM (i pins s σ H _ I h) λu s1 m=>?_);obtain⟨x,H1,b,k,a,C,dx,fs,v,ex,g,c,n,l,q⟩:=m;subst ex;obtain rfl:u=e7 a:=k;exact CJ b g c n l λp s2 d j=>⟨v,H1,d,j,q⟩
def wC(ha:PE X o ta)(j:PE X value tv)(hs:mJ value (some (.Attribute o f q9)) pos.line X.env=pure false):PS X (.Assign [.Attribute o f q9] value pos) (KR X.K ta tv f):=by
 intro pins s σ H D I h;refine plainObj_wpAny_Assign_Attribute (jM (j pins s σ H _ I h) λu s1 ⟨y,H1,b,r,q⟩=>jM (ha pins s1 σ H1 _ b q) λk s2 t=>?_) hs;obtain⟨x,v,d,p,a,C,dx,fs,ex,i,c,n,l,m⟩:=t;subst ex;obtain rfl:k=e7 a:=p;exact BN d i c n l r λs3 g=>⟨σ,_,g,m⟩
def OZ{op}{d:V->V->Hp->VK->Prop}(ha:PE X o ta)(A:PE X value tv)(t:aMp X op d):PS X (.AugAssign (.Attribute o f gc) op value pos) (YV X.K ta tv d f):=by
 intro pins s σ H D I h;refine wpAny_AugAssign_AttributeAny (jM (ha pins s σ H _ I h) λE s1 b=>?_);obtain⟨x,H1,i,L,a,C,dx,fs,v,ex,w,c,n,l,q⟩:=b;subst ex;obtain rfl:E=e7 a:=L;refine CJ i w c n l λu s2 j J=>jM (A pins s2 σ H1 _ j q) λO s3 ⟨y,g,k,M,F⟩=>jM (t pins s3 σ g v y u O _ k J M F) λT R b=>?_;obtain⟨z,H3,m,N,Q,P,r,B,G⟩:=b;exact BN m r c n B N λS p=>⟨σ,_,p,G⟩
def aOn:V->V->Hp->VK->Prop:=λx y H Q=>∃i j,x=.int i/\y=.int j/\Q (.int (i+j)) H
def aFh:aMp X .Add aOn:=by
 rintro pins s σ H x y u v Q I a b ⟨i,j,rfl,rfl,q⟩;obtain⟨t,rfl⟩:=(show∃t,u=v4 i t from a);obtain⟨t',rfl⟩:=(show∃t',v=v4 j t' from b);exact PyProof.Rows.iadd_int ⟨.int (i+j),H,I.tok _,⟨_,rfl⟩,q⟩
end
section
variable{X:Cx}{pins:List (Addr×Obj)}{σ:St}{H:Hp}{s:Shared}{A:g9}{E:Value->Shared->Prop}{Q:Value->Shared->Prop}{c:Value}{b:Bool}
inductive AE(K:aI)(H:Hp):V->Value->Prop where
|non:AE K H .non (.type "NoneType")
|bl (x:Bool):AE K H (.bl x) (.type "bool")
|int (i:Int):AE K H (.int i) (.type "int")
|str (x:Str):AE K H (.str x) (.type "str")
|flt (x:UInt64):AE K H (.flt x) (.type "float")
|lst {a:Addr} {xs:List V} (e:H a=some (.lst xs)):AE K H (.ref a) (.type "list")
|frz {a:Addr} {o:Obj} {xs:List V} (e:H a=some (.frz o (.lst xs))):AE K H (.ref a) (.type "list")
|tup {a:Addr} {xs:List V} (e:H a=some (.tup xs)):AE K H (.ref a) (.type "tuple")
|dK {a:Addr} {kvs:List (jN×V)} (e:H a=some (.dK kvs)):AE K H (.ref a) (.type "dict")
|dT {a:Addr} {kvs:List (List jN×V)} (e:H a=some (.dT kvs)):AE K H (.ref a) (.type "dict")
|ins {a C dx:Addr} {fs:List (Str×V)} (e:H a=some (.ins C dx fs)) (cl:AL K C) (ha:dU K (.ref C) "__class__"=some (some (.builtin "object.__class__")))
  (hn:PySem.W.specialIn K (.builtin "object.__class__") "__get__"=some (some (.builtin "getset_descriptor.__get__"))) (Oq:PySem.W.takesIn K (.builtin "object.__class__")=some true)
  (hm:bT K C (.type "object")=some true):AE K H (.ref a) (.ref C)
def uU{x u t}(I:dI X pins σ H s)(d:fU x u)(ty:AE X.K H x t)(e:cV X.K t c=some b)(h:∀tk,Q (.bool b) { s with toks:=tk }) :
  wpAny (model X.prog X.w) A (call (.builtin "isinstance") [u,c]) Q E s:=by
 cases ty with
 |non=>cases (show u=j9 from d);exact eJ PySem.W.kitx_none I.kIn i8 e (λz=>nomatch z) h
 |bl y=>cases (show u=eh y from d);exact eJ PySem.W.kitx_bool I.kIn i8 e (λz=>nomatch z) h
 |int i=>obtain⟨t,q⟩:=(show∃t,u=v4 i t from d);cases q;exact eJ PySem.W.kitx_int I.kIn i8 e (λz=>nomatch z) h
 |str y=>obtain⟨t,q⟩:=(show∃t,u=di y t from d);cases q;exact eJ PySem.W.kitx_str I.kIn i8 e (λz=>nomatch z) h
 |flt y=>obtain⟨t,q⟩:=(show∃t,u=oh y t from d);cases q;exact eJ PySem.W.kitx_float I.kIn i8 e (λz=>nomatch z) h
 |@lst a xs ea=>
  cases (show u=e7 a from d);obtain⟨_,_,n,_,f⟩:=(show iT X.prog X.w H s.heap a (.lst xs)from I.hok a _ ea);exact eJ qI I.kIn ⟨_,f,rfl⟩ e (λz=>nomatch z) h
 |@frz a ob xs ea=>
  cases (show u=e7 a from d);obtain⟨_,_,_,n,_,f⟩:=(show iT X.prog X.w H s.heap a (.frz ob (.lst xs))from I.hok a _ ea);exact eJ qI I.kIn ⟨_,f,rfl⟩ e (λz=>nomatch z) h
 |@tup a xs ea=>
  cases (show u=e7 a from d);obtain⟨_,_,_,p⟩:=(show iT X.prog X.w H s.heap a (.tup xs)from I.hok a _ ea);obtain⟨o,f,g,_⟩:=p;exact eJ MC I.kIn ⟨o,f,g⟩ e (λz=>nomatch z) h
 |@dK a kvs ea=>
  cases (show u=e7 a from d);obtain⟨_,_,vs,_,p⟩:=(show iT X.prog X.w H s.heap a (.dK kvs)from I.hok a _ ea);obtain⟨o,es,ep,f,g,_⟩:=p;exact eJ OB I.kIn ⟨o,f,g.1⟩ e (λz=>nomatch z) h
 |@dT a kvs ea=>
  cases (show u=e7 a from d);obtain⟨_,_,xs,_,o,es,ep,f,g,_⟩:=(show iT X.prog X.w H s.heap a (.dT kvs)from I.hok a _ ea);exact eJ OB I.kIn ⟨o,f,g.1⟩ e (λz=>nomatch z) h
 |@ins a C dx fs ea cl ha hn Oq hm=>
  cases (show u=e7 a from d);obtain⟨mA,O,_⟩:=A4 I.hok ea;obtain⟨od,J,_⟩:=O.look;exact eJ (PySem.W.kitx_own (cl.get _) cl.hd ha hn Oq hm) I.kIn J e (λz=>nomatch z) h
end
structure gR(k:Nat)(A:g9):Prop where
 hd:A.handled=none
 dp:A.depth+3*k+5<fz
 un:A.units+16*k+200<aq
 gd:A.guards=some []
def gR.mono{j k:Nat}{A}(r:gR k A)(h:j<=k):gR j A:=⟨r.hd,by have:=r.dp;lia,by have:=r.un;lia,r.gd⟩
theorem gR.deeper{k:Nat}{A:g9}(r:gR (k+1) A)(env:Env):gR k (A.deeper env):=
 ⟨r.hd,by have:=r.dp;show A.depth+1+3*k+5<_;lia,by have:=r.un;show A.units+3+16*k+200<_;lia,r.gd⟩
theorem gR.in1{k:Nat}{A:g9}(r:gR (k+1) A):gR k A.in1:=
 ⟨r.hd,by have:=r.dp;show A.depth+3*k+5<_;lia,by have:=r.un;show A.units+1+16*k+200<_;lia,r.gd⟩
def LG{A:g9}{C:Addr}{us kw}:(A.under (.builtin "type.__call__" ⟨.ref C::us,kw⟩)).depth=A.depth+1:=by
 first | rfl | simp[ff,Code.weight,Code.isCreation,Code.isGuard,Code.isCaller,Code.frames,nk,guardIds]
def LF{A:g9}{C:Addr}{us kw}:(A.under (.builtin "type.__call__" ⟨.ref C::us,kw⟩)).units=A.units+1:=by
 first | rfl | simp[ff,Code.cUnits,Code.frames,nk]
def gR.make{k:Nat}{A:g9}(r:gR (k+1) A)(C:Addr)(us:List Value)(a:List (Str×Value)):gR k (A.under (.builtin "type.__call__" ⟨.ref C::us,a⟩)):=
 ⟨r.hd,by have:=r.dp;rw[LG];lia,by have:=r.un;rw[LF];lia,by first | exact r.gd | (simp[ff,Code.isGuard,guardIds];exact r.gd)⟩
theorem gR.depth{k:Nat}{A:g9}(r:gR k A):A.depth<fz:=by have:=r.dp;lia
theorem gR.units{k:Nat}{A:g9}(r:gR k A):A.units+64<aq:=by have:=r.un;lia
def DM:TA:=λ_ H Q=>Q [] H
def wU(b:TE)(tr:TA):TA:=λσ H Q=>b σ H λx H1=>tr σ H1 λxs a=>Q (x::xs) a
section
variable{X:Cx}{e:Expr}{es:List Expr}{te:TE}{t:TA}{pos:Pos}
def jX:PA X [] DM:=λ_ _ _ _ H Q I h=>Calls.spliced_nil ⟨[],H,I,.nil,h⟩
def fP(ha:PE X e te)(d:PA X es t)(hs:bI (e::es) X.env=(false,eval e X.env)::bI es X.env:=by rfl):PA X (e::es) (wU te t):=by
 intro pos pins s σ H Q I h;rw[hs];show wpAny _ _ (spliced ((false,eval e X.env)::m9 pos (bI es X.env))) _ _ s;refine Calls.spliced_cons (jM (ha pins s σ H _ I h) λu s1 k=>?_);obtain⟨x,H1,b,i,f⟩:=k;exact jM (d pos pins s1 σ H1 _ b f) λus s2 ⟨xs,a,c,j,g⟩=>⟨x::xs,a,c,.cons i j,g⟩
def aN0(t:TA):TE:=λσ H Q=>t σ H λxs H1=>xs.length<=bE/\∀p,H1 p=none->Q (.ref p) (fS H1 p (.tup xs))
def aN3(t:TA):TE:=λσ H Q=>t σ H λxs H1=>xs.length<=bE/\∀p,H1 p=none->Q (.ref p) (fS H1 p (.lst xs))
def K3{x1}(h:PA X es t):PE X (.Tuple es x1 pos) (aN0 t):=by
 intro pins s σ H Q I d;refine wpAny_Tuple_spliced (jM (h pos pins s σ H _ I d) λus s1 ⟨xs,H1,a,r,z,q⟩=>⟨by rw[<- r.length];exact z,?_⟩);have c:H1 s1.heap.objs.size=none:=a.hok.fresh (aN _);refine⟨.ref s1.heap.objs.size,fS H1 s1.heap.objs.size (.tup xs),a.laid (t':=s1.toks) (λb u e=>aG _ e) (aN _) ?_,rfl,q _ c⟩;exact⟨z,us,r,⟨_,aZ _ rfl,rfl,_,rfl,rfl⟩⟩
def F4(h:PA X es t):PE X (.List es pos) (aN3 t):=by
 intro pins s σ H Q I d;refine wpAny_List_spliced (jM (h pos pins s σ H _ I d) λus s1 ⟨xs,H1,a,r,z,q⟩=>⟨by rw[<- r.length];exact z,?_⟩);have c:H1 s1.heap.objs.size=none:=a.hok.fresh (aN _);refine⟨.ref s1.heap.objs.size,fS H1 s1.heap.objs.size (.lst xs),a.laid (t':=s1.toks) (λb u e=>aG _ e) (aN _) ?_,rfl,q _ c⟩;exact⟨z,us,0,r,aZ _ rfl⟩
end
abbrev Sp:=List V->Hp->VK->XK->Prop
abbrev WX:=List Env->Hp->Shared->XK->Value->Shared->Prop
structure MB(P:dD)(w:j0)(K:aI)(mg:Str->Option Value)(base:Heap)(A:g9)(outer:List Env)(s:Shared)(H:Hp):Prop where
 frames:A.frames=some outer
 mod:Mod K mg base
 bs:∀b o,base.get? b=some o->s.heap.get? b=some o/\H b=none
 bsz:base.objs.size<=s.heap.objs.size
 funs:s.heap.FunFrames base outer
 frf:∀b∈qO outer,H b=none
 hok:pK P w H s.heap
 bare:ba s.gens
 tab:Tb H
def CE(outer:List Env)(P:dD)(w:j0)(H:Hp)(s:Shared)(Q:VK)(u:Value)(s':Shared):Prop:=
 ∃v H',s'.os=s.os/\ba s'.gens/\Un (qO outer) [] H H' s.heap s'.heap/\pK P w H' s'.heap/\fU v u/\Q v H'
def CR(CX:WX)(outer:List Env)(P:dD)(w:j0)(H:Hp)(s:Shared)(Q:VK)(E:XK)(r:Result)(s':Shared):Prop:=
 match r with
 |.ok (.ret u)=>CE outer P w H s Q u s'
 |.ok _=>False
 |.error e=>CX outer H s E e s'
structure dP(P:dD)(w:j0)(K:aI)(mg:Str->Option Value)(base:Heap)(CX:WX)(k:Nat)(f:Addr)(fd:iK)(ps:List Str)(sp:Sp):Prop where
 len:∀vs H Q E,sp vs H Q E->vs.length=ps.length
 run:∀A outer s H(args:Args)(us:List Value)(vs:List V)Q E,gR k A->MB P w K mg base A outer s H->BindsTo s fd args (ps.zip us)->fM vs us->sp vs H Q E ->
  bb (model P w) A (.call (.ref f) args) (CR CX outer P w H s Q E) s
def dP.imp{P w K}{mg:Str->Option Value}{base CX}{k:Nat}{f:Addr}{fd ps}{sp a:Sp}(F:dP P w K mg base CX k f fd ps sp)
  (h:∀vs H Q E,a vs H Q E->sp vs H Q E):dP P w K mg base CX k f fd ps a:=
 ⟨λvs H Q E q=>F.len vs H Q E (h _ _ _ _ q),λA outer s H args us vs Q E c b hb d hs=>F.run A outer s H args us vs Q E c b hb d (h _ _ _ _ hs)⟩
def MB.make{P w K}{mg:Str->Option Value}{base}{A:g9}{outer s H}(e:MB P w K mg base A outer s H)(C:Addr)(us:List Value)(a:List (Str×Value)) :
  MB P w K mg base (A.under (.builtin "type.__call__" ⟨.ref C::us,a⟩)) outer s H:=⟨by first | exact e.frames | (simpa[ff,Code.envs,nk,pushEnvs]using e.frames),e.mod,e.bs,e.bsz,e.funs,e.frf,e.hok,e.bare,e.tab⟩
section
variable{X:Cx}{pins:List (Addr×Obj)}{σ:St}{H:Hp}{s s':Shared}
def dI.env0(I:dI X pins σ H s):MB X.prog X.w X.K X.mg X.base X.A X.stack s H:=
 ⟨I.ok.frames,I.ok.mod,I.bs,aX I.ok.bsz I.sz,I.stack,I.stkFree,I.hok,I.bare,λP e=>let ⟨ps,h⟩:=I.ok.tab P e;let ⟨m,h'⟩:=I.base.tbls P ps h;⟨_,h'⟩⟩
def dI.after{Q u}(I:dI X pins σ H s)(h:CE X.stack X.prog X.w H s Q u s'):EP X pins σ Q u s':=by
 obtain⟨v,H',os,bare,un,hok,r,q⟩:=h;obtain⟨c,g,d,t,a⟩:=s';obtain rfl:a=s.os:=os;exact⟨v,H',I.call (h':=c) (g':=g) (d':=d) (t':=t) (ch:=[]) un hok bare (λb z=>c7 z (by simp)),r,q⟩
end
def yV(sp:Sp)(a:List V)(E:XK)(t:TA):TE:=λσ H Q=>t σ H λvs H1=>sp (vs++a) H1 Q E
def BG(C:Addr)(m:Str)(sp:Sp)(c:List V)(E:XK)(d:TE)(t:TA):TE:=λσ H Q=>d σ H λx H1=>∃a dx fs,x=.ref a/\H1 a=some (.ins C dx fs)/\fs.lookup m=none /\
 t σ H1 λvs b=>sp (x::(vs++c)) b Q E
def aBl(C:Addr)(sp:Sp)(b:List V)(E:XK)(t:TA):TE:=λσ H Q=>t σ H λvs H1=>∀x dx,H1 x=none->H1 dx=none->dx≠x ->
 sp (.ref x::(vs++b)) (fS (fS H1 dx (.own x)) x (.ins C dx [])) (λv a=>v=.non/\Q (.ref x) a) E
def pS(K:aI)(fd:iK)(ps:List Str)(ds:List Value):Prop:=
 ∀(s:Shared)(us:List Value),K.In s.heap->(us++ds).length=ps.length->BindsTo s fd ⟨us,[]⟩ (ps.zip (us++ds))
def pS.all{K fd}{ps:List Str}(h:∀us:List Value,us.length=ps.length->bindArgs fd ⟨us,[]⟩=pure (ps.zip us)):pS K fd ps []:=λs us _ a=>by
 rw[cJ]at a |-
 exact .of_eq (h us a)
def uC(CX:WX)(X:Cx)(E:XK):Prop:=∀pins σ H s(e:Value)s',dI X pins σ H s->CX X.stack H s E e s'->X.xe e s'
section
variable{X:Cx}{CX:WX}{k:Nat}{f C:Addr}{fd:iK}{ps:List Str}{sp:Sp}{jh:List V}{ds:List Value}{E:XK}{x m:Str}{p pos n9:Pos}{e o:Expr}{es:List Expr}{ta:TE}{t:TA}
def KU{pins σ H s Q us vs}(F:dP X.prog X.w X.K X.mg X.base CX k f fd ps sp)(d:gR k X.A)(hb:pS X.K fd ps ds)(hd:fM jh ds)(g:uC CX X E)
  (I:dI X pins σ H s) (r:fM vs us) (h:sp (vs++jh) H Q E):wpAny (model X.prog X.w) X.A (call (.ref f) us) (EP X pins σ Q) X.xe s:=by
 have b:fM (vs++jh) (us++ds):=r.append hd;have c:(us++ds).length=ps.length:=by rw[<- b.length];exact F.len _ _ _ _ h
 refine qp (dt (F.run X.A X.stack s H ⟨us,[]⟩ (us++ds) (vs++jh) Q E d I.env0 (hb s us I.kIn c) b h) λr s' a=>?_)
 cases r with
 |error e=>exact g pins σ H s e s' I a
 |ok fl=>
  cases fl with
  |ret u=>exact I.after a
  |next=>exact j8 a
  |brk=>exact j8 a
  |cont=>exact j8 a
def mG(F:dP X.prog X.w X.K X.mg X.base CX k f fd ps sp)(g:gR k X.A)(d:Gl X x)(hm:X.mg x=some (.ref f))(hk:gD X.K (.ref f)=true)(hb:pS X.K fd ps ds)(hd:fM jh ds)(i:uC CX X E)
  (ha:PA X (e::es) t) (j:(x==("__debug__":Str))=false:=by decide) (c:bI (e::es) X.env=(false,eval e X.env)::bI es X.env:=by rfl) (b:(m9 pos (bI es X.env)).any (·.1)=false:=by rfl) :
  PE X (.Call (.Name x p) (e::es) [] pos) (yV sp jh E t):=by
 intro pins s σ H Q I h;refine z7 (xE I d hm ?_ j);refine pU (h₀:=X.base) I.ok.mod.kin hk (jM (ha pos pins s σ H _ I h) λus s1 ⟨vs,H1,a,r,q⟩=>⟨a.kIn,?_⟩) c b;exact KU F g hb hd i a r q
def kG{pl}(n:PE X o ta)(c:AL X.K C)(hm:AH X.K C m f)(F:dP X.prog X.w X.K X.mg X.base CX k f fd ps sp)(v:gR k X.A)(hb:pS X.K fd ps ds)(hd:fM jh ds)(z:uC CX X E)(ha:PA X (e::es) t)
  (j:bI (e::es) X.env=(false,eval e X.env)::bI es X.env:=by rfl) (g:(m9 pos (bI es X.env)).any (·.1)=false:=by rfl)
  (y:eval (.Call (.Attribute o m n9) (e::es) [] pos) X.env=(do
   let ov <- eval o X.env
   nv n9.atName
   let (f,first) <- nt [ov] (km ov m pl)
   callWith pos f first (m9 pos (bI (e::es) X.env)) (zc pos (lx [] X.env))):=by rfl) :
  PE X (.Call (.Attribute o m n9) (e::es) [] pos) (BG C m sp jh E ta t):=by
 intro pins s σ H Q I h;refine sY (pl:=pl) (jM (n pins s σ H _ I h) λu s1 J=>?_) y;obtain⟨x,H1,b,G,a,dx,fs,ex,i,l,q⟩:=J;subst ex;obtain rfl:u=e7 a:=G;refine wG b i c hm l ?_;refine pU (first:=[.ref a]) (h₀:=X.base) I.ok.mod.kin hm.kp (jM (ha pos pins s1 σ H1 _ b q) λus s2 ⟨vs,L,d,r,B⟩=>⟨d.kIn,?_⟩) j g;exact KU (us:=.ref a::us) (vs:=.ref a::vs) F v hb hd z d (.cons rfl r) B
def rG{pl}(g:PE X o ta)(c:AL X.K C)(hm:AH X.K C m f)(F:dP X.prog X.w X.K X.mg X.base CX k f fd ps sp)(i:gR k X.A)(hb:pS X.K fd ps ds)(hd:fM jh ds)(n:uC CX X E)
  (j:eval (.Call (.Attribute o m n9) [] [] pos) X.env=(do
   let ov <- eval o X.env
   nv n9.atName
   let (f,first) <- nt [ov] (km ov m pl)
   callWith pos f first (m9 pos (bI [] X.env)) (zc pos (lx [] X.env))):=by rfl) :
  PE X (.Call (.Attribute o m n9) [] [] pos) (BG C m sp jh E ta DM):=by
 intro pins s σ H Q I h;refine sY (pl:=pl) (jM (g pins s σ H _ I h) λu s1 v=>?_) j;obtain⟨x,H1,b,r,a,dx,fs,ex,d,l,q⟩:=v;subst ex;obtain rfl:u=e7 a:=r;refine wG b d c hm l ?_;exact PySem.W.callWith_K0 (first:=[.ref a]) b.kIn hm.kp (KU (us:=[.ref a]) (vs:=[.ref a]) F i hb hd n b (.cons rfl .nil) q)
structure Mk(K:aI)(C f:Addr):Prop where
 makes:Q7 K C=true
 init:dU K (.ref C) "__init__"=some (some (.ref f))
 fn:G7 K (.ref f)=true
 kp:gD K (.ref C)=true
def SM{pins σ}{H:Hp}{s}{Q:VK}{us vs}(M:Mk X.K C f)(F:dP X.prog X.w X.K X.mg X.base CX k f fd ps sp)(n:gR (k+1) X.A)(hb:pS X.K fd ps ds)(hd:fM jh ds)
  (q:uC CX X E) (I:dI X pins σ H s) (r:fM vs us)
  (h:∀x dx,H x=none->H dx=none->dx≠x->sp (.ref x::(vs++jh)) (fS (fS H dx (.own x)) x (.ins C dx [])) (λv g=>v=.non/\Q (.ref x) g) E) :
  wpAny (model X.prog X.w) X.A (call (.ref C) us) (EP X pins σ Q) X.xe s:=by
 have c:=h (s.heap.objs.size+1) s.heap.objs.size (I.hok.fresh (wM _)) (I.hok.fresh (aN _)) (cI (mR _));have b:=dI.made (C:=C) I;have d:fM (V.ref (s.heap.objs.size+1)::(vs++jh)) (e7 (s.heap.objs.size+1)::(us++ds)):=.cons rfl (r.append hd)
 have l:(e7 (s.heap.objs.size+1)::us++ds).length=ps.length:=by
  have e:=d.length;rw[F.len _ _ _ _ c]at e;exact e.symm
 refine qp (UO (f:=f) I.kIn M.makes M.init (beq_iff_eq.mp M.fn) (dt (F.run _ X.stack _ _ ⟨e7 (s.heap.objs.size+1)::us,[]⟩ (e7 (s.heap.objs.size+1)::(us++ds)) _ _ E (n.make C us [])
  (b.env0.make C us []) (hb _ (e7 (s.heap.objs.size+1)::us) b.kIn l) d c) λr s' a=>?_))
 cases r with
 |error e=>exact q pins σ _ _ e s' b a
 |ok fl=>
  cases fl with
  |ret u=>
   obtain⟨v,H',i,z,j,y⟩:=b.after a;subst j;exact⟨z,⟨V.ref (s.heap.objs.size+1),H',i,rfl,y⟩⟩
  |next=>exact j8 a
  |brk=>exact j8 a
  |cont=>exact j8 a
def Y6(M:Mk X.K C f)(F:dP X.prog X.w X.K X.mg X.base CX k f fd ps sp)(g:gR (k+1) X.A)(d:Gl X x)(hm:X.mg x=some (.ref C))(hb:pS X.K fd ps ds)(hd:fM jh ds)(i:uC CX X E)
  (ha:PA X (e::es) t) (j:(x==("__debug__":Str))=false:=by decide) (c:bI (e::es) X.env=(false,eval e X.env)::bI es X.env:=by rfl) (b:(m9 pos (bI es X.env)).any (·.1)=false:=by rfl) :
  PE X (.Call (.Name x p) (e::es) [] pos) (aBl C sp jh E t):=by
 intro pins s σ H Q I h;refine z7 (xE I d hm ?_ j);refine pU (h₀:=X.base) I.ok.mod.kin M.kp (jM (ha pos pins s σ H _ I h) λus s1 ⟨vs,H1,a,r,q⟩=>⟨a.kIn,?_⟩) c b;exact SM M F g hb hd i a r q
end
structure bW(N P:List Str)(sc:Scope):Prop where
 kind:sc.kind=.function
 co:sc.isCoroutine=false
 gen:sc.isGenerator=false
 nd:N.Nodup
 pre:N.take P.length=P
 par:∀x∈P,sc.names.lookup x=some .local\/sc.names.lookup x=some .cell
 nofree:∀y∈sc.names,y.2≠.free
theorem FD{kindOf:Str->Option u9}{x}:∀{binds}{m:Str->Option Value},(∀v,(x,v)∉binds)->bindL kindOf binds m x=m x
|[],_,_=>rfl
| (n,v)::r,m,h=>by
 unfold bindL;rw[FD λw hw=>h w (aJ _ hw)];split
 ·have:x≠n:=by rintro rfl;exact h v aO
  simp[this]
 ·rfl
theorem FF{kindOf:Str->Option u9}{x}:∀{binds}{m:Str->Option Value},(∀v,(x,v)∉binds)->bindC kindOf binds m x=m x
|[],_,_=>rfl
| (n,v)::r,m,h=>by
 unfold bindC;rw[FF λw hw=>h w (aJ _ hw)];split
 ·rfl
 ·have:x≠n:=by rintro rfl;exact h v aO
  simp[this]
theorem FE{kindOf:Str->Option u9}{x v}:∀{P:List Str}{vs}{i:Nat}{m:Str->Option Value},P.Nodup->P[i]?=some x->vs[i]?=some v->kindOf x=some .local ->
 bindL kindOf (P.zip vs) m x=some v
|[],_,_,_,_,h,_,_=>by simp at h
|_::_,[],_,_,_,_,h,_=>by simp at h
|p::P,w::vs,0,m,nd,h1,h2,hk=>by
 simp at h1 h2;subst h1;subst h2;show bindL kindOf ((p,w)::P.zip vs) m p=_;unfold bindL;rw[FD λv a=>(iZ.mp nd).1 (DE a).1,b8 hk];simp
|p::P,w::vs,i+1,m,nd,h1,h2,hk=>by
 show bindL kindOf ((p,w)::P.zip vs) m x=_;unfold bindL;exact FE (i:=i) (iZ.mp nd).2 (by simpa using h1) (by simpa using h2) hk
theorem FG{kindOf:Str->Option u9}{x v}:∀{P:List Str}{vs}{i:Nat}{m:Str->Option Value},P.Nodup->P[i]?=some x->vs[i]?=some v->kindOf x≠some .local ->
 bindC kindOf (P.zip vs) m x=some v
|[],_,_,_,_,h,_,_=>by simp at h
|_::_,[],_,_,_,_,h,_=>by simp at h
|p::P,w::vs,0,m,nd,h1,h2,hk=>by
 simp at h1 h2;subst h1;subst h2;show bindC kindOf ((p,w)::P.zip vs) m p=_;unfold bindC;rw[FF λv a=>(iZ.mp nd).1 (DE a).1,a8 hk];simp
|p::P,w::vs,i+1,m,nd,h1,h2,hk=>by
 show bindC kindOf ((p,w)::P.zip vs) m x=_;unfold bindC;exact FG (i:=i) (iZ.mp nd).2 (by simpa using h1) (by simpa using h2) hk
noncomputable def lZ(N:List Str)(vs:List V):St:=vs.map some++dW (N.length-vs.length) none
noncomputable def qP(CX:WX)(P:dD)(w:j0)(K:aI)(mg:Str->Option Value)(base:Heap)(N:List Str)(qual:Str)(scope:Scope)(f:Addr)(cd:Value)(A:g9)(outer:List Env)(s:Shared)(H:Hp)(E:XK):Cx where
 prog:=P
 w:=w
 K:=K
 mg:=mg
 base:=base
 A:=A.deeper (l3 qual scope s.heap.objs.size f cd)
 N:=N
 s₀:=s
 H₀:=H
 env:=l3 qual scope s.heap.objs.size f cd
 outer:=outer
 stack:=l3 qual scope s.heap.objs.size f cd::outer
 ex:=[]
 calm:=true
 fn:=λ_=>true
 pn:=[]
 xe:=λe s'=>wpAny (model P w) (A.deeper (l3 qual scope s.heap.objs.size f cd)) (jm (l3 qual scope s.heap.objs.size f cd) e) (λ_ a=>CX outer H s E e a) (λb a=>CX outer H s E b a) s'
def JP{sc:Scope}{n:Nat}{x}(h:sc.names.lookup x=some .cell):∃c,(bh n sc.names []).lookup x=some c:=by
 have q:=G8 sc.names n [] (.inl h);exact Option.isSome_iff_exists.mp q
def PQ{CX P w K}{mg:Str->Option Value}{base}{N ps:List Str}{qual}{scope:Scope}{f:Addr}{cd}{A:g9}{outer}{s s1:Shared}{H E us}{vs:List V}
  (S:bW N ps scope) (hd:A.handled=none) (g:MB P w K mg base A outer s H) (F:vs.length=ps.length) (r:fM vs us)
  (x:InCallC s s.heap.objs.size (bindL (l3 qual scope s.heap.objs.size f cd).kindOf (ps.zip us) λ_=>none) (bh (s.heap.objs.size+1) scope.names []) (bindC (l3 qual scope s.heap.objs.size f cd).kindOf (ps.zip us) λ_=>none) s1) :
  dI (qP CX P w K mg base N qual scope f cd A outer s H E) [] (lZ N vs) H s1:=by
 have B:ps.length<=N.length:=by have:=j5 lK S.pre;rw[bL]at this;lia
 obtain⟨l,tk,rfl,hk⟩:=x.done;have noA:∀b:Addr,b∉(qP CX P w K mg base N qual scope f cd A outer s H E).ex:=λb z=>c7 (show b∈([]:List Addr)from z) (by simp)
 refine⟨⟨g.mod,S.kind,rfl,rfl,aN _,λy z c l d=>?_,λy hy=>?_,λy c _ h=>?_,λ_=>hd,ni g.frames,.inr ⟨rfl,rfl⟩,λb z=>c7 z (noA b),g.bs,g.bsz,λb _ _=>noA b,λb z=>c7 z (noA b),g.funs,g.frf,g.tab⟩,
  rfl,g.bare,Un.kept hk,⟨_,x.toInCall.ns,λi y v l d C=>?_⟩,λy c h=>⟨_,x.cell y c h⟩,g.hok.fresh (aN _),λy c h=>?_,λp j=>c7 (show p∈([]:List (Addr×Obj))from j) (by simp),g.hok.kept hk,?_⟩
 ·exact name_of_addr x.apart (l0 l) (l0 d)
 ·have hy:scope.names.lookup y=some .cell\/scope.names.lookup y=some .free:=hy;rcases hy with hy | hy
  ·exact JP hy
  ·exact c7 rfl (S.nofree _ (l0 hy))
 ·exact iE (x.above y c (l0 h))
 ·have hi:i<vs.length:=by
   unfold lZ at d;by_cases hi:i<vs.length
   ·exact hi
   ·rw[eX (by simpa using hi)]at d;rw[kY]at d;split at d<;>cases d
  have ha:vs[i]?=some v:=by
   unfold lZ at d;rw[eK (by simpa using hi),aL]at d
   cases e:vs[i]? with
   |none=>rw[e]at d;cases d
   |some a=>rw[e]at d;cases d;rfl
  obtain⟨u,o,t⟩:=r.get ha
  have j:ps[i]?=some y:=by
   rw[<- S.pre,List.getElem?_take_of_lt (by lia)];exact l
  have m:ps.Nodup:=by rw[<- S.pre];exact S.nd.sublist (zR _ _)
  refine⟨u,t,?_⟩;rcases S.par y (bH j)with k | k
  ·exact .inl ⟨k,FE m j o k⟩
  ·obtain⟨c,e⟩:=JP (n:=s.heap.objs.size+1) k;refine .inr ⟨.inl k,c,e,?_⟩;have q:=x.cell y c e;rw[FG m j o (by show scope.names.lookup y≠_;rw[k];decide)]at q;exact q
 ·exact g.hok.fresh (iE (x.above y c (l0 h)))
 ·unfold lZ;show _=N.length;rw[bO,aB,List.length_replicate];lia
def VO{CX P w}{K:aI}{mg:Str->Option Value}{base}{k:Nat}{f:Addr}{name qual params body scope dV kV jt pm t6 ct oc an od}
  {ly} {N ps:List Str} {sp:Sp} (F:K.lookup f=some ⟨oc,od,.func (nS name qual params body scope dV kV jt pm an t6 ct),ly⟩) (l:pT K t6 qual=true) (S:bW N ps scope)
  (len:∀vs H Q E,sp vs H Q E->vs.length=ps.length)
  (G:∀(A:g9)outer(s:Shared)H(vs:List V)Q E,gR k (A.deeper (l3 qual scope s.heap.objs.size f t6))->sp vs H Q E ->
   ∃t,AG (qP CX P w K mg base N qual scope f t6 A outer s H E) body t/\t { nx:=λ_ H'=>Q .non H',rt:=Q } (lZ N vs) H) :
  dP P w K mg base CX (k+1) f (nS name qual params body scope dV kV jt pm an t6 ct) ps sp:=by
 refine⟨len,λA outer s H args us vs Q E c a hb r h=>?_⟩;have p:=len _ _ _ _ h;have g:K.In s.heap:=a.mod.kin.keeps λb o e=>(a.bs b o e).1;have i:s.heap.NoLimit:=a.mod.nolimit.keeps λb o e=>(a.bs b o e).1
 have j:∀y∈ps.zip us,scope.names.lookup y.1=some .local\/(scope.names.lookup y.1=some .cell/\((bh (s.heap.objs.size+1) scope.names []).lookup y.1).isSome=true):=λ⟨n,v⟩ C=>by
  rcases S.par n (DE C).1 with q | q
  ·exact .inl q
  ·exact .inr ⟨q,G8 _ _ _ (.inl q)⟩
 refine codeAny_call_function c.depth (g _ _ F) rfl S.co S.gen rfl (PySem.W.codeRec_of g l) (hb _ _ _ _ ?_);refine wpAny_newFunctionEnv_cells S.kind j λenv m s1 x=>?_;subst m;refine⟨i.keeps x.toInCall.keep,codeAny_func ?_⟩;obtain⟨t,B,z⟩:=G A outer s H vs Q E (c.deeper _) h;have I:dI (qP CX P w K mg base N qual scope f t6 A outer s H E) [] (lZ N vs) H s1:=PQ S c.hd a p r x;refine eF (B [] s1 (lZ N vs) H _ I z) (λfl s' hs=>?_) λe s' hs=>hs
 have fin:∀{d8:St}{H':Hp}{v:V}{u:Value},dI (qP CX P w K mg base N qual scope f t6 A outer s H E) [] d8 H' s'->fU v u->Q v H'->CE outer P w H s Q u s':=
  λ{d8 H' v u} J d q=>⟨v,H',J.os,J.bare,J.base,J.hok,d,q⟩
 cases fl with
 |ret u=>
  obtain⟨v,d8,H',J,d,q⟩:=hs;exact fin J d q
 |next=>
  obtain⟨d8,H',J,q⟩:=hs;exact fin (v:=V.non) (u:=j9) J rfl q
 |brk=>
  obtain⟨_,_,_,q⟩:=hs;exact j8 q
 |cont=>
  obtain⟨_,_,_,q⟩:=hs;exact j8 q
section
variable{X:Cx}{x:Str}{p pos:Pos}{e:Expr}{es:List Expr}{t:TA}{id T:String}{r:List V->Hp->VK->Prop}
def Q0(r:List V->Hp->VK->Prop)(t:TA):TE:=λσ H Q=>t σ H λvs H1=>r vs H1 Q
def kN(c:kE X (.builtin id) r)(f:Gl X x)(hm:X.mg x=none)(g:g6 x=some (.builtin id))(ha:PA X (e::es) t)(hn:x≠"__name__":=by decide)(i:(x==("__debug__":Str))=false:=by decide)
  (d:bI (e::es) X.env=(false,eval e X.env)::bI es X.env:=by rfl) (b:(m9 pos (bI es X.env)).any (·.1)=false:=by rfl):PE X (.Call (.Name x p) (e::es) [] pos) (Q0 r t):=by
 intro pins s σ H Q I h;refine z7 (wF I f hm g ?_ hn i);exact PyProof.Rows.callWith_builtin1 (jM (ha pos pins s σ H _ I h) λus s1 ⟨vs,H1,a,k,j⟩=>c pins s1 σ H1 vs us Q a k j) d b
def uQ(c:kE X (.type T) r)(f:Gl X x)(hm:X.mg x=none)(g:g6 x=some (.type T))(ha:PA X (e::es) t)(hn:x≠"__name__":=by decide)(i:(x==("__debug__":Str))=false:=by decide)
  (d:bI (e::es) X.env=(false,eval e X.env)::bI es X.env:=by rfl) (b:(m9 pos (bI es X.env)).any (·.1)=false:=by rfl):PE X (.Call (.Name x p) (e::es) [] pos) (Q0 r t):=by
 intro pins s σ H Q I h;refine z7 (wF I f hm g ?_ hn i);exact t9 (jM (ha pos pins s σ H _ I h) λus s1 ⟨vs,H1,a,k,j⟩=>c pins s1 σ H1 vs us Q a k j) d b
end
end L2
namespace HT
section
variable{prog:dD}{w:j0}{A:g9}{E:Value->Shared->Prop}{s:Shared}
def cat_tup{t b:Addr}{vs a:List Value}{Q:Value->Shared->Prop}(p:Ej s.heap t vs.toArray)(hb:Ej s.heap b a.toArray)(i:vs≠[])
  (m:a=[]->Q (.ref t) s) (o:a≠[]->Q (.ref s.heap.objs.size) { s with heap:=s.heap.push { cls:=.type "tuple",data:=.seq (vs++a).toArray } })
  (hsz:vs.length+a.length<=bE):wpAny (model prog w) A (o9 .Add (.ref t) (.ref b)) Q E s:=by
 obtain⟨⟨cls,dd,data,sl⟩,c,h,n,hd⟩:=id p;obtain⟨⟨q,g,data2,l⟩,d,j,k,f⟩:=id hb;simp only at h hd j f;subst h hd j f;have e:vs.toArray++a.toArray=(vs++a).toArray:=by simp
 by_cases hw:a=[]
 ·exact jg ⟨_,c,rfl⟩ ⟨_,d,rfl⟩ kx tx sP rP (qV _ _)
   (tuple_addW1 t b vs.toArray a.toArray n k dd g sl l (by simpa using i) (by simp[hw])) ⟨c,d,m hw⟩
 ·refine jg ⟨_,c,rfl⟩ ⟨_,d,rfl⟩ kx tx sP rP (qV _ _)
   (tuple_addW2 t b vs.toArray a.toArray n k dd g sl l (by simpa using i) (by simpa using hw) (by rw[bF,bF];exact hsz)) ⟨c,d,?_⟩
  rw[e];exact o hw
noncomputable def sIx(n d:Nat):Option Int->Nat
|none=>d
|some v=>if v<0 then(v+(n:Int)).toNat else min v.toNat n
def sIx_none(n d:Nat):sIx n d none=d:=rfl
def sIx_nat(n d k:Nat):sIx n d (some (k:Int))=min k n:=by
 show(if(k:Int)<0 then((k:Int)+(n:Int)).toNat else min (k:Int).toNat n)=min k n;rw[a8 (by lia),iF]
def sIx_le(n d:Nat)(hd:d<=n)(o:Option Int):sIx n d o<=n:=by
 cases o with
 |none=>exact hd
 |some v=>
  show(if v<0 then(v+(n:Int)).toNat else min v.toNat n)<=n;by_cases a:v<0
  ·rw[b8 a];lia
  ·rw[a8 a];exact Nat.min_le_right _ _
def clip_eq(v:Int)(n d:Nat):(if v<0 then max (v+(n:Int)) 0 else min v (n:Int))=((sIx n d (some v):Nat):Int):=by
 show(if v<0 then max (v+(n:Int)) 0 else min v (n:Int))=(((if v<0 then(v+(n:Int)).toNat else min v.toNat n):Nat):Int);by_cases a:v<0
 ·simp only[b8 a];lia
 ·simp only[a8 a];lia
def L7(lo hi:Option Int)(n:Nat):aa lo hi 1 (n:Int)=(((sIx n 0 lo:Nat):Int),((sIx n n hi:Nat):Int)):=by
 have a:¬((1:Int)<0):=by lia
 unfold aa;simp only[a,x8];refine Prod.ext ?_ ?_
 ·cases lo with
  |none=>rfl
  |some v=>exact clip_eq v n 0
 ·cases hi with
  |none=>rfl
  |some v=>exact clip_eq v n n
def K1(i j:Nat):u4 (i:Int) (j:Int) 1=j-i:=by
 unfold u4;have a:(1:Int)>0:=by lia
 simp only[a,v9,Int.ediv_one];split<;>lia
def BL{v o}{Q:Option Int->Shared->Prop}(p:IsPart v o)(h:Q o s):wpAny (model prog w) A (Builtin.Slice.slicePartIndex v) Q E s:=by
 cases p with
 |none=>exact slicePart_none h
 |int i t=>exact slicePart_int h
def rF{sl:Addr}{vl vu lo hi}{n:Nat}{Q:Int×Int×Nat->Shared->Prop}(hs:s.heap.IsSliceOf sl vl vu .none)(pl:IsPart vl lo)(c:IsPart vu hi)
  (h:Q (((sIx n 0 lo:Nat):Int),1,sIx n n hi-sIx n 0 lo) s):wpAny (model prog w) A (ef (.ref sl) (pure (n:Int))) Q E s:=by
 obtain⟨os,a,d,b⟩:=id hs;unfold ef Builtin.Slice.sliceFields;refine aE (aE (i9 a b (x:=vl) rfl (aE (i9 a b (x:=vu) rfl (aE (i9 a b (x:=.none) rfl (aV ?_)))))));refine aE (slicePart_none ?_);show wpAny _ _ (if((1:Int)==0)=true then _ else _) _ _ s;rw[a8 (by decide)];refine aE (BL pl (aE (BL c (aE (aV ?_)))));show wpAny _ _ (match aa lo hi 1 (n:Int)with | (lo,hi)=>pure (lo,(1:Int),u4 lo hi 1)) _ _ s;rw[L7 lo hi n];show wpAny _ _ (pure (((sIx n 0 lo:Nat):Int),(1:Int),u4 ((sIx n 0 lo:Nat):Int) ((sIx n n hi:Nat):Int) 1)) _ _ s;rw[K1];exact aV h
def TH(xs:Array Value)(i k:Nat):((fZ k).filterMap λ(m:Nat)=>xs[((i:Int)+(m:Int)*1).toNat]?).toArray=((xs.toList.drop i).take k).toArray:=by
 have e:(λ(m:Nat)=>xs[((i:Int)+(m:Int)*1).toNat]?)=λm=>xs[i+m]?:=by
  funext m;have:((i:Int)+(m:Int)*1).toNat=i+m:=by lia
  rw[this]
 rw[e];have:=pick_run xs i k;rw[RC]at this;have a:((λx=>xs[x]?)∘λx=>i+x)=λm=>xs[i+m]?:=rfl;rw[a]at this;rw[this]
def getItem_tuple_cut{t sl:Addr}{a:Array Value}{vl vu lo hi}{Q:Value->Shared->Prop}(b:Ej s.heap t a)(hs:s.heap.IsSliceOf sl vl vu .none)(pl:IsPart vl lo)(i:IsPart vu hi)
  (hw:¬(sIx a.size 0 lo=0/\sIx a.size a.size hi=a.size))
  (h:Q (.ref s.heap.objs.size) { s with heap:=s.heap.push { cls:=.type "tuple",data:=.seq ((a.toList.drop (sIx a.size 0 lo)).take (sIx a.size a.size hi-sIx a.size 0 lo)).toArray } })
  (hsz:a.size<=bE):wpAny (model prog w) A (bw (.ref t) (.ref sl)) Q E s:=by
 have c:sizeOk (.seq ((a.toList.drop (sIx a.size 0 lo)).take (sIx a.size a.size hi-sIx a.size 0 lo)).toArray):=by
  show((a.toList.drop (sIx a.size 0 lo)).take (sIx a.size a.size hi-sIx a.size 0 lo)).toArray.size<=bE;rw[bF,bL,eM,fG];lia
 have j:sIx a.size a.size hi<=a.size:=sIx_le _ _ (aN _) hi;obtain⟨os,d,e,n⟩:=id hs;have f:s.TypeIs (.ref sl) "slice":=⟨os,d,e⟩;unfold bw
 try with_reducible refine cm ?_
 first | refine aE (aV ?_) | skip
 refine aE (Fl b.typeIs (by decide) ?_)
 refine aE (m6 (name:=e8 "__getitem__") b.typeIs m8
  (lQ m8 b.typeIs Ca ?_ (Cv _ _)))
 show wpAny _ _ (eg (.ref t) >>= _) _ _ s;refine aE (tupleItemsOf_ b ?_);refine aE (dy f ?_);rw[b8 (by decide)];refine aE (rF hs pl i ?_)
 have g:¬((((sIx a.size 0 lo:Nat):Int)==0&&(1:Int)==1&&(sIx a.size a.size hi-sIx a.size 0 lo)==a.size)=true):=by
  intro q;rw[dG,dG]at q;have k:((sIx a.size 0 lo:Nat):Int)=0:=gj q.1.1;have l:sIx a.size a.size hi-sIx a.size 0 lo=a.size:=gj q.2;exact hw ⟨by lia,by lia⟩
 show wpAny _ _ (if(((sIx a.size 0 lo:Nat):Int)==0&&(1:Int)==1&&(sIx a.size a.size hi-sIx a.size 0 lo)==a.size)=true then _ else _) _ _ s;rw[a8 g,TH]
 first
  |exact aE (m:=u5 _) (iI (aV ⟨_,rfl,aV h⟩) c)
  |exact aE (m:=u5 _) (iI (aE (aV (aV ⟨_,rfl,aV h⟩))) c)
  |exact aE (aE (m:=u5 _) (iI (aV (aV ⟨_,rfl,aV h⟩)) c))
  |exact aE (aE (m:=u5 _) (iI (aV ⟨_,rfl,aV h⟩) c))
end
end HT
namespace L2
abbrev TO:=St->Hp->(Option Int->Hp->Prop)->Prop
def PO(X:Cx)(e:Option Expr)(t:TO):Prop:=
 ∀pins s σ H(Q:Option Int->Hp->Prop),dI X pins σ H s->t σ H Q ->
  wpAny (model X.prog X.w) X.A (evalPart e X.env) (λu s'=>∃o H',dI X pins σ H' s'/\IsPart u o/\Q o H') X.xe s
def XS:TO:=λ_ H Q=>Q none H
def aHf(t:TE):TO:=λσ H Q=>t σ H λx H1=>∃i,x=.int i/\Q (some i) H1
section
variable{X:Cx}{e:Expr}{te:TE}{lo hi:Option Expr}{tl th:TO}{pos p2:Pos}
def Y2:PO X none XS:=by
 intro pins s σ H Q I h;rw[evalPart_none];exact aV ⟨none,H,I,.none,h⟩
def Y1(h:PE X e te):PO X (some e) (aHf te):=by
 intro pins s σ H Q I hw;rw[evalPart_some];refine jM (h pins s σ H _ I hw) λu s1 d=>?_;obtain⟨x,H1,a,c,b⟩:=d;obtain⟨i,rfl,q⟩:=b;obtain⟨t,rfl⟩:=c;exact⟨some i,H1,a,.int i t,q⟩
def WR(X:Cx)(r:V->Option Int->Option Int->Hp->VK->Prop):Prop:=
 ∀pins(s:Shared)σ H(x:V)(v a b:Value)(lo hi:Option Int)(sl:Addr)Q,dI X pins σ H s->fU x v->s.heap.IsSliceOf sl a b .none->IsPart a lo->IsPart b hi->r x lo hi H Q ->
  ∃T id,typeLookup (.type T) "__getitem__"=pure (some (.builtin id))/\s.TypeIs v T/\wpAny (model X.prog X.w) X.A (bw v (.ref sl)) (EP X pins σ Q) X.xe s
def WR.or{r b:V->Option Int->Option Int->Hp->VK->Prop}(h:WR X r)(h':WR X b):WR X (λx lo hi H Q=>r x lo hi H Q\/b x lo hi H Q):=by
 intro pins s σ H x v d f lo hi sl Q I c hs pl a q;rcases q with q | q
 ·exact h pins s σ H x v d f lo hi sl Q I c hs pl a q
 ·exact h' pins s σ H x v d f lo hi sl Q I c hs pl a q
def tSl(r:V->Option Int->Option Int->Hp->VK->Prop)(te:TE)(tl th:TO):TE:=λσ H Q=>te σ H λx H1=>tl σ H1 λl a=>th σ a λu H3=>r x l u H3 Q
def TM{r:V->Option Int->Option Int->Hp->VK->Prop}(t:WR X r)(n:PE X e te)(p:PO X lo tl)(z:PO X hi th):PE X (.Subscript e (.Slice lo hi none p2) pos) (tSl r te tl th):=by
 intro pins s σ H Q I h;refine Cu (jM (n pins s σ H _ I h) λv s1 d=>?_);obtain⟨x,H1,g,G,C⟩:=d;refine wpAny_Slice (jM (p pins s1 σ H1 _ g C) λa s2 ⟨l,f,i,pl,E⟩=>jM (z pins s2 σ f _ i E) λc s3 d=>?_);obtain⟨u,H3,j,B,F⟩:=d;rw[evalPart_none];refine aV ?_;have k:dI X pins σ H3 { s3 with heap:=s3.heap.push { cls:=.type "slice",data:=.fields #[a,c,.none] } }:=j.kept (t':=s3.toks) λb ob q=>aG _ q;obtain⟨T,id,m,y,o⟩:=t pins { s3 with heap:=s3.heap.push { cls:=.type "slice",data:=.fields #[a,c,.none] } } σ H3 x v a c l u s3.heap.objs.size Q k G (Heap.IsSliceOf.new ..) pl B F;show wpAny (model X.prog X.w) X.A (tz e (.Slice lo hi none p2) v (.ref s3.heap.objs.size)) (EP X pins σ Q) X.xe { s3 with heap:=s3.heap.push { cls:=.type "slice",data:=.fields #[a,c,.none] } };exact tail_any (ops:=[.ref s3.heap.objs.size,v]) y m o (by with_unfolding_all rfl)
noncomputable def GN(xs:List V)(lo hi:Option Int):List V:=(xs.drop (HT.sIx xs.length 0 lo)).take (HT.sIx xs.length xs.length hi-HT.sIx xs.length 0 lo)
def zK(xs:List V)(lo hi:Option Int):(GN xs lo hi).length<=xs.length:=by
 unfold GN;rw[bL,eM];lia
def aOl(K:aI):V->Option Int->Option Int->Hp->VK->Prop:=λx lo hi H Q=>∃a xs,x=.ref a/\qG K H a xs /\
 ¬(HT.sIx xs.length 0 lo=0/\HT.sIx xs.length xs.length hi=xs.length)/\∀p,H p=none->Q (.ref p) (fS H p (.tup (GN xs lo hi)))
def aD4:WR X (aOl X.K):=by
 intro pins s σ H x v j k lo hi sl Q I i hs pl g h;obtain⟨a,xs,rfl,f,hw,q⟩:=h;cases i;obtain⟨i3,r,d,hz⟩:=I.tuple f;have c:i3.toArray.size=xs.length:=by rw[bF];exact r.length.symm
 refine⟨"tuple",_,PyProof.Rows.slot_tuple_getitem.lookup,d.typeIs,?_⟩;refine HT.getItem_tuple_cut d hs pl g (by rw[c];exact hw) ?_ (by rw[c];exact hz);rw[c];refine⟨.ref s.heap.objs.size,_,I.laid (t':=s.toks) (o:=.tup (GN xs lo hi)) (λb ob q=>aG _ q) (aN _) ?_,rfl,q _ (I.hok.fresh (aN _))⟩;exact⟨aX (zK xs lo hi) hz,_,(r.drop (HT.sIx xs.length 0 lo)).take (HT.sIx xs.length xs.length hi-HT.sIx xs.length 0 lo),DX.new _ _⟩
def aKd(K:aI):R2:=λx y H Q=>∃a b xs ys,x=.ref a/\y=.ref b/\qG K H a xs/\qG K H b ys/\xs≠[]/\xs.length+ys.length<=bE /\
 (ys=[]->Q (.ref a) H)/\(ys≠[]->∀p,H p=none->Q (.ref p) (fS H p (.tup (xs++ys))))
def fM.nil_iff{xs us}(r:fM xs us):us=[]↔xs=[]:=by
 cases r with
 |nil=>simp
 |cons _ _=>simp
def Y9:oG X (o9 .Add) (aKd X.K):=by
 intro pins s σ H x y v u Q I k l h;obtain⟨a,b,xs,ys,rfl,rfl,ha,hb,f,hz,i,j⟩:=h;cases k;cases l;obtain⟨i3,d,g,_⟩:=I.tuple ha;obtain⟨m,c,p2,_⟩:=I.tuple hb;refine HT.cat_tup g p2 (λz=>f (d.nil_iff.mp z)) (λz=>⟨.ref a,H,I,rfl,i (c.nil_iff.mp z)⟩) (λz=>?_) (by rw[<- d.length,<- c.length];exact hz);refine⟨.ref s.heap.objs.size,_,I.laid (t':=s.toks) (o:=.tup (xs++ys)) (λb ob q=>aG _ q) (aN _) ?_,rfl,j (λw=>z (c.nil_iff.mpr w)) _ (I.hok.fresh (aN _))⟩;exact⟨by rw[bO];exact hz,_,d.append c,DX.new _ _⟩
end
noncomputable def ixN(n:Nat)(i:Int):Option Nat:=if 0<=i then(if i<n then some i.toNat else none)else if -(n:Int)<=i then some (i+n).toNat else none
noncomputable def atI{a:Type}(xs:List a)(i:Int):Option a:=(ixN xs.length i).bind λj=>xs[j]?
def ZW{n:Nat}{i:Int}{j:Nat}(h:ixN n i=some j):seqIndex? i n=some j/\j<n/\-(n:Int)<=i/\i<n:=by
 unfold ixN at h;by_cases b:0<=i
 ·rw[b8 b]at h;by_cases a:i<n
  ·rw[b8 a]at h;have e:i.toNat=j:=d7 h;exact⟨by rw[seqIndex_of b a,e],by lia,by lia,a⟩
  ·rw[a8 a]at h;cases h
 ·rw[a8 b]at h;by_cases a:-(n:Int)<=i
  ·rw[b8 a]at h;have e:(i+n).toNat=j:=d7 h;exact⟨by rw[seqIndex_neg (by lia) a,e],by lia,a,by lia⟩
  ·rw[a8 a]at h;cases h
def G1{f:Type}{xs:List f}{i:Int}{v}(h:atI xs i=some v):∃j,seqIndex? i xs.length=some j/\xs[j]?=some v/\j<xs.length/\-(xs.length:Int)<=i/\i<xs.length:=by
 unfold atI at h
 cases e:ixN xs.length i with
 |none=>rw[e]at h;cases h
 |some j=>
  rw[e]at h;obtain⟨a,b,c,d⟩:=ZW e;exact⟨j,a,h,b,c,d⟩
def gH{a:Type}{xs:List a}{j:Nat}{v:a}(h:xs[j]?=some v):atI xs (j:Int)=some v:=by
 have b:j<xs.length:=(aF.mp h).1
 have e:ixN xs.length (j:Int)=some j:=by
  unfold ixN;rw[b8 (by lia),b8 (by lia)];simp
 unfold atI;rw[e];exact h
def N5(b:Expr):Prop:=∀o i,ma b false o i=operate [o,i] (bw o i)
def W9(X:Cx)(r:R2):Prop:=
 ∀(b a:Expr)pins s σ H(x y:V)(v u:Value)Q,dI X pins σ H s->fU x v->fU y u->r x y H Q ->
  ma a false v u=operate [v,u] (bw v u)->wpAny (model X.prog X.w) X.A (tz b a v u) (EP X pins σ Q) X.xe s
def Q5(X:Cx)(id:String)(r:V->List V->Hp->VK->Prop):Prop:=
 ∀pins s σ H(x:V)(xs:List V)(v:Value)(us:List Value)Q,dI X pins σ H s->fU x v->fM xs us->r x xs H Q ->
  wpAny (model X.prog X.w) X.A (call (.builtin id) (v::us)) (EP X pins σ Q) X.xe s
section
variable{X:Cx}{a b:Expr}{ta tb:TE}{pos:Pos}
def W9.or{r e:R2}(h:W9 X r)(h':W9 X e):W9 X (λx y H Q=>r x y H Q\/e x y H Q):=by
 intro d c pins s σ H x y v u Q I f g q hs;rcases q with q | q
 ·exact h d c pins s σ H x y v u Q I f g q hs
 ·exact h' d c pins s σ H x y v u Q I f g q hs
def ID{r}(e:W9 X r)(ha:PE X a ta)(hb:PE X b tb)(hs:N5 b):PE X (.Subscript a b pos) (tOp r ta tb):=by
 intro pins s σ H Q I h;exact Cu (aGb ha hb I h λv u s2 x y c d f g q=>e a b pins s2 σ c x y v u Q d f g q (hs _ _))
def aKb(K:aI):R2:=λx y H Q=>∃p xs i v,x=.ref p/\y=.int i/\nB K H p xs/\atI xs i=some v/\Q v H
def aJ9(K:aI):R2:=λx y H Q=>∃p xs i v,x=.ref p/\y=.int i/\qG K H p xs/\atI xs i=some v/\Q v H
def aKa:R2:=λx y H Q=>∃z i c,x=.str z/\y=.int i/\z.length<=bE/\atI z.cps.toList i=some c/\Q (.str ⟨#[c]⟩) H
def ZU:W9 X (aKb X.K):=by
 intro f e pins s σ H x y v u Q I E F h hs;obtain⟨p,xs,i,z,rfl,rfl,C,A,q⟩:=h;cases E;obtain⟨t,rfl⟩:=F;obtain⟨i3,r,pl,hz⟩:=I.list C;obtain⟨j,c,m,G,n,o⟩:=G1 A;obtain⟨w,g,l⟩:=r.get m;have B:=r.length;have hn:=yG;have fin:EP X pins σ Q w s:=⟨z,H,I,l,q⟩;by_cases k:0<=i
 ·have d:i.toNat=j:=by
   rw[seqIndex_of k o]at c;exact d7 c
  exact item_listR pl.isList k (by lia) (by rw[d];simpa using g) fin hs
 ·have d:(i+(i3.toArray.size:Int)).toNat=j:=by
   rw[seqIndex_neg (by lia) n]at c;rw[bF,<- B];exact d7 c
  exact wq (x:=w) pl.isList.typeIs slot_list_getitem.lookup
   (wpAny_getItem_list_neg (Q:=λr s'=>r=w/\EP X pins σ Q r s') pl.isList (by lia) (by rw[bF]<;>lia) (by lia) (by rw[d];simpa using g) ⟨rfl,fin⟩) hs
def aFc:W9 X (aJ9 X.K):=by
 intro d c pins s σ H x y v u Q I o A h hs;obtain⟨p,xs,i,z,rfl,rfl,n,l,q⟩:=h;cases o;obtain⟨t,rfl⟩:=A;obtain⟨i3,r,pl,hz⟩:=I.tuple n;obtain⟨j,g,k,B,C,E⟩:=G1 l;obtain⟨w,e,f⟩:=r.get k;have m:=r.length;have hn:=yG;have fin:EP X pins σ Q w s:=⟨z,H,I,f,q⟩
 exact wq (x:=w) pl.typeIs slot_tuple_getitem.lookup
  (getItem_tuple (j:=j) (Q:=λr s'=>r=w/\EP X pins σ Q r s') pl (by lia) (by lia) (by rw[bF,<- m];exact g) (by simpa using e) ⟨rfl,fin⟩) hs
def aFd:W9 X aKa:=by
 intro e d pins s σ H x y v u Q I r w h hs;obtain⟨z,i,c,rfl,rfl,hz,o,q⟩:=h;obtain⟨t,rfl⟩:=r;obtain⟨t',rfl⟩:=w;obtain⟨j,f,l,A,m,n⟩:=G1 o;have p:z.cps.toList.length=z.length:=by simp[bx]
 rw[p]at f m n;have hn:=yG
 exact tail_any (Eg s z t) slot_str_getitem.lookup (getItem_str (c:=c) (by
  have g:decide (i < -(2^63:Int))=false:=c9 (by lia);have k:decide (i>=2^63)=false:=c9 (by lia);rw[g,k,aGm]) (by rw[f];simpa using l) ⟨.str ⟨#[c]⟩,H,I.tok _,⟨_,rfl⟩,q⟩) hs
def rIx(K:aI):R2:=λx y H Q=>aKb K x y H Q\/aJ9 K x y H Q\/aKa x y H Q
def aU:W9 X (rIx X.K):=ZU.or (aFc.or aFd)
def FV(lo hi:Option Int)(n:Nat):(au lo hi none n).1=((HT.sIx n 0 lo:Nat):Int)/\(au lo hi none n).2.1=((HT.sIx n n hi:Nat):Int)/\(au lo hi none n).2.2=1:=by
 refine⟨?_,?_,rfl⟩
 ·cases lo with
  |none=>simp[au,HT.sIx]
  |some i=>
   simp only[au,HT.sIx,Q8,show(1:Int)>0 by decide,v9];by_cases h:i<0
   ·simp only[h,v9]<;>lia
   ·simp only[h,x8]<;>lia
 ·cases hi with
  |none=>simp[au,HT.sIx]
  |some i=>
   simp only[au,HT.sIx,Q8,show(1:Int)>0 by decide,v9];by_cases h:i<0
   ·simp only[h,v9]<;>lia
   ·simp only[h,x8]<;>lia
def DO(i3:List Value)(lo hi:Option Int):slicePick i3.toArray lo hi none=((i3.drop (HT.sIx i3.length 0 lo)).take (HT.sIx i3.length i3.length hi-HT.sIx i3.length 0 lo)).toArray:=by
 obtain⟨c,d,e⟩:=FV lo hi i3.toArray.size;unfold slicePick;rw[c,d,e];simp only[sliceRange_one,pick_run,bF]<;>rfl
def aJ8(K:aI):V->Option Int->Option Int->Hp->VK->Prop:=λx lo hi H Q=>∃a xs,x=.ref a/\nB K H a xs/\∀p,H p=none->Q (.ref p) (fS H p (.lst (GN xs lo hi)))
def YH:WR X (aJ8 X.K):=by
 intro pins s σ H x v i j lo hi sl Q I g hs pl f h;obtain⟨a,xs,rfl,d,q⟩:=h;cases g;obtain⟨i3,r,c,hz⟩:=I.list d;have e:=r.length;refine⟨"list",_,slot_list_getitem.lookup,c.isList.typeIs,?_⟩;refine wpAny_getItem_list_slice c.isList hs pl f .none (by simp) ?_ (by rw[bF]<;>lia);rw[DO,<- e];refine⟨.ref s.heap.objs.size,_,I.laid (t':=s.toks) (o:=.lst (GN xs lo hi)) (λb ob q=>aG _ q) (aN _) ?_,rfl,q _ (I.hok.fresh (aN _))⟩;exact⟨aX (zK xs lo hi) hz,_,0,(r.drop (HT.sIx xs.length 0 lo)).take (HT.sIx xs.length xs.length hi-HT.sIx xs.length 0 lo),aZ _ rfl⟩
def GV:kE X (.builtin "len") (λxs H Q=>∃p ys,xs=[.ref p]/\(nB X.K H p ys\/qG X.K H p ys)/\Q (.int ys.length) H):=by
 intro pins s σ H xs us Q I r h;obtain⟨p,ys,rfl,hq,q⟩:=h;obtain⟨u,rfl,e⟩:=nV r;cases e;have hn:=yG;rcases hq with hq | hq
 ·obtain⟨i3,d,pl,hz⟩:=I.list hq;have c:=d.length;exact Calls.call_len_list pl.isList (by simp only[bF]<;>lia) ⟨.int ys.length,H,I.tok _,⟨s.toks+1,by rw[bF,c]⟩,q⟩
 ·obtain⟨i3,d,pl,hz⟩:=I.tuple hq;have c:=d.length;exact len_tuple pl (by simp only[bF]<;>lia) ⟨.int ys.length,H,I.tok _,⟨s.toks+1,by rw[bF,c]⟩,q⟩
def GU:kE X (.builtin "len") (λxs H Q=>∃z,xs=[.str z]/\z.length<=bE/\Q (.int z.length) H):=by
 intro pins s σ H xs us Q I r h;obtain⟨z,rfl,hz,q⟩:=h;obtain⟨u,rfl,t,rfl⟩:=nV r;have hn:=yG;exact len_str (by lia) ⟨.int z.length,H,I.tok _,⟨_,rfl⟩,q⟩
def kE.or{f}{r c:List V->Hp->VK->Prop}(h:kE X f r)(h':kE X f c):kE X f (λxs H Q=>r xs H Q\/c xs H Q):=by
 intro pins s σ H xs us Q I d q;rcases q with q | q
 ·exact h pins s σ H xs us Q I d q
 ·exact h' pins s σ H xs us Q I d q
def GR:kE X (.type "list") (λxs H Q=>∃p ys,xs=[.ref p]/\(nB X.K H p ys\/qG X.K H p ys)/\∀l,H l=none->Q (.ref l) (fS H l (.lst ys))):=by
 intro pins s σ H xs us Q I r h;obtain⟨p,ys,rfl,hq,q⟩:=h;obtain⟨u,rfl,i⟩:=nV r;cases i
 have fin:∀(i3:List Value),fM ys i3->ys.length<=bE->∀(h':Heap)(c':Nat),(∀b o',s.heap.get? b=some o'->h'.get? b=some o') ->
   h'.get? s.heap.objs.size=some { cls:=.type "list",dict:=none,data:=.seq i3.toArray c',slots:=#[] }->EP X pins σ Q (.ref s.heap.objs.size) { s with heap:=h' }:=λi3 c hz h' c' kp e=>
  ⟨.ref s.heap.objs.size,_,I.laid (t':=s.toks) kp (aN _) (show iT X.prog X.w _ h' _ (.lst ys)from⟨hz,i3,c',c,e⟩),rfl,q _ (I.hok.fresh (aN _))⟩
 rcases hq with hq | hq
 ·obtain⟨i3,c,pl,hz⟩:=I.list hq;have g:=c.length;obtain⟨o,f,d,n,hd⟩:=pl.isList;exact call_list_seq p (.inl rfl) f d hd (λh' c' kp e=>fin i3 c hz h' c' kp e) (by simp only[bF]<;>lia)
 ·obtain⟨i3,c,pl,hz⟩:=I.tuple hq;have g:=c.length;obtain⟨o,f,d,n,hd⟩:=pl;exact call_list_seq p (.inr rfl) f d hd (λh' c' kp e=>fin i3 c hz h' c' kp e) (by simp only[bF]<;>lia)
def qR:kE X (.type "tuple") (λxs H Q=>∃p ys,xs=[.ref p]/\((nB X.K H p ys/\∀l,H l=none->Q (.ref l) (fS H l (.tup ys)))\/(qG X.K H p ys/\Q (.ref p) H))):=by
 intro pins s σ H xs us Q I r h;obtain⟨p,ys,rfl,h⟩:=h;obtain⟨u,rfl,i⟩:=nV r;cases i;rcases h with⟨c,q⟩ | ⟨c,q⟩
 ·obtain⟨i3,d,pl,hz⟩:=I.list c;have j:=d.length;refine call_tuple_list pl.isList (λh' kp=>?_) (by simp only[bF]<;>lia);have f:dI X pins σ H { s with heap:=h' }:=I.kept (t':=s.toks) kp
  have g:dI X pins σ (fS H h'.objs.size (.tup ys)) { s with heap:=h'.push { cls:=.type "tuple",data:=.seq i3.toArray } }:=
   f.laid (t':=s.toks) (λb o e=>aG _ e) (aN _) (show iT X.prog X.w _ _ _ (.tup ys)from⟨hz,i3,d,DX.new _ _⟩)
  exact⟨.ref h'.objs.size,_,g,rfl,q _ (f.hok.fresh (aN _))⟩
 ·obtain⟨i3,d,pl,hz⟩:=I.tuple c;exact call_tuple_same pl ⟨.ref p,H,I,rfl,q⟩
def tyV(K:aI)(T:String)(x:V)(H:Hp):Prop:=match x with
|.str _=>T="str"
|.int _=>T="int"
|.ref p=>(T="list"/\∃xs,nB K H p xs)\/(T="tuple"/\((∃o,K.lookup p=some o/\o.cls=.type "tuple"/\o.dict=none)\/∃xs,qG K H p xs)) \/
  (T="dict"/\((∃kvs,H p=some (.dK kvs))\/∃kvs,H p=some (.dT kvs)))\/(T="set"/\∃S n,H p=some (.set S n))
|_=>False
def RP{pins σ H}{s:Shared}{T x v}(I:dI X pins σ H s)(r:fU x v)(ty:tyV X.K T x H) :
  s.TypeIs v T/\∀a,v=.ref a->∃ob,s.heap.get? a=some ob/\ob.dict=none:=by
 cases x with
 |str z=>
  obtain⟨t,rfl⟩:=r;cases (show T="str" from ty);exact⟨Eg s z t,λ_ e=>nomatch e⟩
 |int i=>
  obtain⟨t,rfl⟩:=r;cases (show T="int" from ty);exact⟨Ef s i t,λ_ e=>nomatch e⟩
 |ref p=>
  cases r;rcases ty with⟨rfl,xs,g⟩ | ⟨rfl,⟨o,hk,f,hd⟩ | ⟨xs,g⟩⟩ | ⟨rfl,hk⟩ | ⟨rfl,S,n,hk⟩
  ·obtain⟨i3,_,pl,_⟩:=I.list g;refine⟨pl.isList.typeIs,λa e=>?_⟩;cases e;obtain⟨o,n,e,c,hd,_⟩:=pl;exact⟨o,e,hd⟩
  ·refine⟨⟨o,I.kIn p o hk,f⟩,λa e=>?_⟩;cases e;exact⟨o,I.kIn _ o hk,hd⟩
  ·obtain⟨o,e,f,hd⟩:=I.tupleN g;refine⟨⟨o,e,f⟩,λa d=>?_⟩;cases d;exact⟨o,e,hd⟩
  ·have z:∃o,s.heap.get? p=some o/\o.ExactDict:=by
    rcases hk with⟨kvs,hk⟩ | ⟨kvs,hk⟩
    ·obtain⟨_,_,_,_,o,_,_,e,ex,_⟩:=I.hok p _ hk;exact⟨o,e,ex⟩
    ·obtain⟨_,_,_,_,o,_,_,e,ex,_⟩:=I.hok p _ hk;exact⟨o,e,ex⟩
   obtain⟨o,e,ex⟩:=z;refine⟨⟨o,e,ex.1⟩,λa d=>?_⟩;cases d;exact⟨o,e,ex.2.1⟩
  ·obtain⟨o,_,_,_,e,ex,_⟩:=I.hok p _ hk;refine⟨⟨o,e,ex.1⟩,λa d=>?_⟩;cases d;exact⟨o,e,ex.2.1⟩
 |_=>exact j8 ty
def aDw(K:aI)(T:String)(r:V->List V->Hp->VK->Prop)(to:TE):TE:=λσ H Q=>to σ H λx H1=>tyV K T x H1/\r x [] H1 Q
def Q1(K:aI)(T:String)(r:V->List V->Hp->VK->Prop)(to:TE)(t:TA):TE:=λσ H Q=>to σ H λx H1=>tyV K T x H1/\t σ H1 λxs c=>r x xs c Q
variable{o e:Expr}{es:List Expr}{to:TE}{t:TA}{name:Str}{n9 ag:Pos}{T id:String}{r:V->List V->Hp->VK->Prop}
def TU(k:PlainAttrs T)(slot:Slot T name id)(f:typeOf (.builtin id)=pure (.type "method_descriptor"))(hm:Q5 X id r)(j:PE X o to)
  (m:k7 o name X.env (eval o X.env)=eval o X.env:=by rfl) (n:(n9.endLine==ag.line)=true:=by rfl):PE X (.Call (.Attribute o name n9) [] [] ag) (aDw X.K T r to):=by
 intro pins s σ H Q I h;refine wpAny_Call_method0_late m n (jM (j pins s σ H _ I h) λv s1 p=>?_);obtain⟨x,H1,c,d,ty,l⟩:=p;obtain⟨g,i⟩:=RP c d ty;exact⟨T,id,k,slot,f,g,i,me rfl (PySem.evalArgs_none (hm pins s1 σ H1 x [] v [] Q c d .nil l))⟩
def lF(q:PlainAttrs T)(slot:Slot T name id)(l:typeOf (.builtin id)=pure (.type "method_descriptor"))(hm:Q5 X id r)(p:PE X o to)(ha:PA X (e::es) t)
  (z:k7 o name X.env (eval o X.env)=eval o X.env:=by rfl)
  (i:((m9 ag (bI (e::es) X.env)).all (λx=>!x.1)&&(zc ag (lx [] X.env)).all (λx=>x.1.isSome)
  &&decide ((e::es).length+([]:List Keyword).length+(if([]:List Keyword).isEmpty then 0 else 1)<30))=true:=by rfl)
  (A:(n9.endLine==ag.line)=true:=by rfl) (hs:bI (e::es) X.env=(false,eval e X.env)::bI es X.env:=by rfl) (g:(m9 ag (bI es X.env)).any (·.1)=false:=by rfl) :
  PE X (.Call (.Attribute o name n9) (e::es) [] ag) (Q1 X.K T r to t):=by
 intro pins s σ H Q I h;refine wpAny_Call_method_late z i A rfl (jM (p pins s σ H _ I h) λv s1 B=>?_);obtain⟨x,H1,c,f,ty,u⟩:=B;obtain⟨m,n⟩:=RP c f ty;refine⟨T,id,q,slot,l,m,n,?_⟩;have d:=ha ag pins s1 σ H1 _ c u;rw[hs]at d |-
 refine me (by show(false||(m9 ag (bI es X.env)).any (·.1))=false;rw[g]<;>rfl) (nz ?_);exact jM d λus s2 ⟨vs,j,k,y,w⟩=>hm pins s2 σ j x vs v us Q k f y w
end
def MtM(X:Cx)(id:String)(r:V->List V->Hp->VK->Prop):Prop:=
 ∀pins s σ H(x:V)(xs:List V)(v:Value)(us:List Value)Q,dI X pins σ H s->fU x v->fM xs us->r x xs H Q ->
  wpAny (model X.prog X.w) X.A (call (.builtin id) (v::us)) (EP X pins σ Q) X.xe s
def fM.one:∀{x us},fM [x] us->∃u,us=[u]/\fU x u
|_,_,.cons r .nil=>⟨_,rfl,r⟩
theorem fM.rep{xs us}(h:fM xs us):∀k:Nat,fM (dW k xs).flatten (dW k us).flatten
|0=>.nil
|k+1=>by
 rw[jH,jH,iY,iY];exact fM.append h (fM.rep h k)
theorem E2(i3:List Value):∀(k:Nat)(a:List Value),
 RB (λc d=>c++d) a.toArray (dW k i3.toArray)=(a++(dW k i3).flatten).toArray
|0,a=>by simp
|k+1,a=>by
 have e:a.toArray++i3.toArray=(a++i3).toArray:=by simp
 have b:(a++i3)++(dW k i3).flatten=a++(dW (k+1) i3).flatten:=by
  rw[jH,iY,hV]
 rw[<- b,<- E2 i3 k (a++i3),<- e,jH,kC]
section
variable{X:Cx}{pins:List (Addr×Obj)}{σ:St}{H:Hp}{s:Shared}{l:Addr}{xs ys:List V}
def dI.lset{i3 its':List Value}{n:Nat}{f:Array Value->Array Value}{t':Nat}(I:dI X pins σ H s)(a:H l=some (.lst xs))
  (e:s.heap.get? l=some { cls:=.type "list",data:=.seq i3.toArray n }) (b:f i3.toArray=its'.toArray) (d:fM ys its') (hz:ys.length<=bE) :
  dI X pins σ (fS H l (.lst ys)) { s with heap:=s.heap.update l (i7 f),toks:=t' }:=by
 have q:=PySem.IsL.update e f;rw[b]at q;refine I.write (x:=l) (e:=l) (by rw[a];exact trivial) (.inl rfl) (λg u hb c=>(hX s.heap (i7 f) (n8 hb)).trans c) ⟨_,q⟩ ?_;exact⟨hz,its',_,d,q⟩
def dI.lnew{i3:List Value}{t':Nat}(I:dI X pins σ H s)(a:fM ys i3)(hz:ys.length<=bE) :
  dI X pins σ (fS H s.heap.objs.size (.lst ys)) { s with heap:=s.heap.push { cls:=.type "list",data:=.seq i3.toArray },toks:=t' }:=
 I.laid (λ_ _ q=>aG _ q) (aN _) ⟨hz,i3,0,a,aZ _ rfl⟩
theorem dI.fresh(I:dI X pins σ H s):H s.heap.objs.size=none:=I.hok.fresh (aN _)
def dI.lstM(I:dI X pins σ H s)(a:H l=some (.lst xs)):xs.length<=bE/\∃(i3:List Value)(n:Nat),fM xs i3/\xs.length=i3.length/\s.heap.get? l=some { cls:=.type "list",data:=.seq i3.toArray n }:=by
 obtain⟨z,i3,n,r,e⟩:=I.hok l _ a;exact⟨z,i3,n,r,r.length,e⟩
def IQ{n:Nat}(h:n<=bE):m7 n=false:=by
 unfold m7;exact c9 (by lia)
end
section
variable{X:Cx}
def AU:V->List V->Hp->VK->Prop:=λx vs H Q=>∃l xs y,x=.ref l/\vs=[y]/\H l=some (.lst xs)/\xs.length<bE/\Q .non (fS H l (.lst (xs++[y])))
def iR:MtM X "list.append" AU:=by
 intro pins s σ H x vs v us Q I d c h;obtain⟨l,xs,y,rfl,rfl,a,hz,q⟩:=h;cases d;obtain⟨u,rfl,b⟩:=c.one;obtain⟨z,i3,n,r,f,e⟩:=I.lstM a;refine bi F.slot_list_append ⟨_,e,rfl⟩ F.entry_list_append (F.args_list_append_2 _ _) (PySem.list_append l i3.toArray n u (by rw[bF];lia)) ⟨e,?_⟩;refine⟨.non,_,I.lset (its':=i3++[u]) a e (by simp) (r.append (.cons b .nil)) ?_,rfl,q⟩;rw[bO,oM];lia
def aOm:R2:=λx y H Q=>∃l k xs,x=.ref l/\y=.int k/\H l=some (.lst xs)/\-(2^63)<=k/\k<2^63/\xs.length*k.toNat<=bE /\
 ∀p,H p=none->Q (.ref p) (fS H p (.lst (dW k.toNat xs).flatten))
def ZN{b:Type}(xs:List b)(k:Nat):(dW k xs).flatten.length=k*xs.length:=by
 induction k with
 |zero=>simp
 |succ k a=>rw[jH,iY,bO,a,Nat.succ_mul,aMw]
def aEu:oG X (o9 .Mult) aOm:=by
 intro pins s σ H x y v u Q I B C h;obtain⟨l,k,xs,rfl,rfl,p,j,o,hz,q⟩:=h;cases B;obtain⟨t,rfl⟩:=C;obtain⟨z,i3,n,r,w,e⟩:=I.lstM p;have A:i3.toArray.size*k.toNat<=bE:=by rw[bF,<- w];exact hz
 have d:¬i3.toArray.size*k.toNat>(2^63-1) / 8:=by
  have:(bE:Nat)<=(2^63-1) / 8:=by decide
  lia
 have f:¬(!Builtin.List.listFitsIndex k)=true:=by
  rw[fitsIndex_both j o];exact bV
 have E:¬m7 (i3.toArray.size*k.toNat)=true:=by
  rw[IQ A];exact bV
 have i:RB (λb c=>b++c) #[] (dW (if i3.toArray.isEmpty=true then 0 else k.toNat) i3.toArray)=(dW k.toNat i3).flatten.toArray:=by
  have g:∀m:Nat,RB (λb c=>b++c) #[] (dW m i3.toArray)=(dW m i3).flatten.toArray:=λm=>by
   have:=E2 i3 m [];rw[DF]at this;exact this
  rw[g]
  cases i3 with
  |nil=>simp
  |cons a G=>rw[a8 (by simp)]
 refine wpAny_binaryOp_repeat_ref (T:="list") (U:="int") (by decide) ⟨_,e,rfl⟩ (λs'=>Ef s' k t) noFill_list_mul F.fills_int_mul F.slot_int_rmul repeat_list F.slot_int_index.lookup
  (bi F.slot_int_rmul (Ef s k t) F.entry_int_rmul (F.args_int_rmul_2 _ _) (int___rmul___int_list k t l i3.toArray n)
   ⟨e,rfl,⟨_,e,rfl⟩,bi F.slot_list_mul ⟨_,e,rfl⟩ F.entry_list_mul (F.args_list_mul_2 _ _) (AutoListH.list___mul___list_int_3 l i3.toArray n k t f d E) ⟨e,?_⟩⟩)
 rw[i];exact⟨.ref _,_,I.lnew (t':=s.toks) (r.rep k.toNat) (by rw[ZN,jK];exact hz),rfl,q _ I.fresh⟩
end
end L2
namespace Att
open PySem.W PySem.Calls
def zZ{P h}:∀(ns:List Int)(vs:List Value),WellAll P h vs (ns.map WData.int)->IntsAre vs ns:=by
 intro ns
 induction ns with
 |nil=>
  intro vs w;rw[jI]at w;cases w;exact .nil
 |cons n ns c=>
  intro vs w;rw[bR]at w
  cases w with
  |cons a b=>
   cases a;exact .cons _ _ (c _ b)
def OX{l:OpenLaw}{n:Nat}(hn:l.most=some n){P}{h:Heap}{args vals}
  (e:l.row.toRowW.claim.pre args=true) (g:WellAll P h vals args) :
  ∃a vs ns,vals=[e7 a]/\args=[WData.list (ns.map WData.int)]/\h.get? a=some { cls:=.type "list",data:=.seq vs.toArray }/\IntsAre vs ns/\ns.length<=n:=by
 have i:WShape.hasAll [] args [.list .int]=true:=(pre_splitW e).1;have f:l.pre.holds [] { args:=args }=true:=(pre_splitW e).2;obtain⟨d,r,rfl,j,k⟩:=hasAllW_cons i;obtain rfl:=hasAllW_nil k;obtain⟨xs,rfl,m⟩:=hasW_list j;obtain⟨ns,rfl⟩:=items_int m
 have p:ns.length<=n:=by
  unfold OpenLaw.pre at f
  have b:(WTm.not (.lt (.lit (.int (n:Int))) (.len (.arg 0)))).holds [] { args:=[.list (ns.map .int)] }=true:=by
   have b:=(holds_andW f).1;rw[hn]at b;exact b
  have c:=condW_of b (w_not (w_lt w_lit (w_len_list (w_arg rfl))));rw[aB]at c;refine Nat.le_of_not_lt λq=>?_;have s:(n:Int)<((ns.length:Nat):Int):=by lia
  first
   | (rw[c6 s]at c;exact c7 c (by decide))
   | (simp at c;lia)
 cases g with
 |cons u v=>
  cases v
  cases u with
  |list o t=>exact⟨_,_,ns,rfl,rfl,o,zZ ns _ t,p⟩
def O0(l:OpenLaw)(args:List WData):l.row.toRowW.claim.post args (.bool true) args=true:=
 postW_of (r:=l.row.toRowW) (X:=(true==true))
  (show WShape.has [] (.bool true) .bool=true by first | rfl | decide | simp[WShape.has,WShape.arms,WShape.armsAll])
  (show(WTm.eq .res (.lit (.bool true))).value [] { args:=args,res:=some (.bool true),after:=args }=some (.bool (true==true))from w_eq_bool (w_res rfl) w_lit) rfl
def attach_call{l:OpenLaw}{n:Nat}{q loose}{c:(Str->Option Value)->Heap->Prop}{e:j0->Heap->Prop}{d:DefRec}
  (hn:l.most=some n) (j:d.params.defaults=[])
  (call:∀(w:j0)(s₀ b:Shared)(mg mb:Str->Option Value)(fa:Addr)(o:Obj)(pm cd jt:Value)(a:Addr)(vs:List Value)(ns:List Int),
   Ground q loose [] c w s₀ mg mb b.heap->e w b.heap ->
   b.heap.get? fa=some o->o.data=.func (docDef d.name d.params d.body d.scope pm cd jt)->b.heap.CodeRec cd d.name->mg d.name=some (.ref fa) ->
   b.heap.get? a=some { cls:=.type "list",data:=.seq vs.toArray }->IntsAre vs ns->ns.length<=n->b.gens=#[] ->
   bb (model l.prog w) jf (.call (.ref fa) ⟨[.ref a],[]⟩) (λr s'=>r=.ok (.ret (.bool true))/\OldK b.heap s'.heap/\s'.os=b.os/\ba s'.gens) b) :
  WalkO q loose c e l.row.toRowW d [] (λf vs=>qy f vs):=by
 intro w s₀ b mg mb G Y fa o pm cd jt p kV y hd s g k x args vals as h E F m C;obtain rfl:p=.none:=Dflts.none g j;obtain rfl:kV=.none:=Dflts.noKw g;obtain⟨a,vs,ns,rfl,rfl,i,B,A⟩:=OX hn h m;refine enter_call (dt (call w s₀ b mg mb fa o pm cd jt a vs ns G Y y (fd_plain hd) s k i B A x) λr s' z=>?_);obtain⟨rfl,t,u,v⟩:=z;exact⟨.inl ⟨.bool true,.bool true,[],rfl,λ_=>rfl,.bool true,O0 l _,λ_=>⟨HJ.nil,λ_ hm=>(nomatch hm)⟩⟩,t,u,v⟩
end Att
namespace L2
theorem D8:∀{vs}{ns:List Int},IntsAre vs ns->fM (ns.map V.int) vs
|_,_,.nil=>.nil
|_,_,.cons n t h=>.cons ⟨t,rfl⟩ (D8 h)
def aGh(H:Hp):Prop:=∀b,H b=none\/(∃o xs,H b=some (.frz o (.lst xs)))\/(tabA=some b/\∃ps,H b=some (.tbl ps))
def UX{P w}{K:aI}{mg mb:Str->Option Value}{CX:WX}{k:Nat}{fa a:Addr}{fd}{x:Str}{sp:Sp}{f:Shared}{vs:List Value}{ns:List Int}
  (I:K.In f.heap) (R:f.heap.Ns fD mg) (hb:f.heap.Ns z5 mb) (Y:∀x:Str,x≠"__name__"->mb x=g6 x) (T:f.heap.NoLimit) (hg:f.gens=#[])
  (ha:f.heap.get? a=some { cls:=.type "list",data:=.seq vs.toArray }) (hi:IntsAre vs ns) (O:ns.length<=bE) (hr:gR k jf)
  (Z:∃bm o,mg "__builtins__"=some (.ref bm)/\bm≠z5/\f.heap.get? bm=some o/\o.cls=.type "module"/\o.dict=some z5/\o.data=.plain)
  (l:∀P,tabA=some P->f.heap.get? P=some { cls:=.none,data:=.fields #[] }/\K.lookup P=none/\fx f.heap P)
  (F:∀base:Heap,K.In base->base.Ns fD mg->dP P w K mg base CX k fa fd [x] sp) (vh:∀s(u:Value),BindsTo s fd ⟨[u],[]⟩ [(x,u)])
  (wz:∀H:Hp,aGh H->nB K H a (ns.map V.int)->sp [.ref a] H (λv _=>v=.bl true) λ_ _ _=>False)
  (U:∀H e s',CX [] H f (λ_ _ _=>False) e s'->False) :
  bb (model P w) jf (.call (.ref fa) ⟨[.ref a],[]⟩) (λr s'=>r=.ok (.ret (.bool true))/\OldK f.heap s'.heap/\s'.os=f.os/\ba s'.gens) f:=by
 have Q:=D8 hi;have W:=hi.length
 have L:∀P,tabA=some P->P≠a:=λP e z=>by
  have g:=(l P e).1;rw[z,ha]at g;cases g
 have G:∀H:Hp,aGh H->nB K H a (ns.map V.int)->pK P w H f.heap->(∀b,H b≠none->b=a\/tabA=some b)->(H a≠none->K.lookup a=none)->Tb H ->
   bb (model P w) jf (.call (.ref fa) ⟨[.ref a],[]⟩) (λr s'=>r=.ok (.ret (.bool true))/\OldK f.heap s'.heap/\s'.os=f.os/\ba s'.gens) f:=by
  intro H N hS hok C hK X;have E:∀{b:Addr}{o:Obj},f.heap.get? b=some o->H b=none->(GF f.heap H).get? b=some o:=λe n=>VD e n
  have noA:∀{b:Addr}{o:Obj}{es:Array ka}{ep:Nat},f.heap.get? b=some o->o.data=.dict es ep->H b=none:=λ{b o es ep} e d=>by
   cases q:H b with
   |none=>rfl
   |some u=>
    rcases C b (by rw[q];simp)with e' | e'
    ·subst e';rw[ha]at e;cases e;have d':Data.seq vs.toArray _=Data.dict es ep:=d;cases d'
    ·rw[(l b e').1]at e;cases e;have d':qt #[]=Data.dict es ep:=d;cases d'
  have Uz:∀{b:Addr}{o:Obj},f.heap.get? b=some o->o.data=.plain->H b=none:=λ{b o} e d=>by
   cases q:H b with
   |none=>rfl
   |some u=>
    rcases C b (by rw[q];simp)with e' | e'
    ·subst e';rw[ha]at e;cases e;have d':Data.seq vs.toArray _=Data.plain:=d;cases d'
    ·rw[(l b e').1]at e;cases e;have d':qt #[]=Data.plain:=d;cases d'
  have A:∀{b:Addr}{m:Str->Option Value},f.heap.Ns b m->(GF f.heap H).Ns b m:=λ{b m} ⟨o,es,ep,e,d,r⟩=>⟨o,es,ep,E e (noA e d),d,r⟩
  have J:K.In (GF f.heap H):=λb o e=>E (I b o e) (by
   cases q:H b with
   |none=>rfl
   |some u=>
    rcases C b (by rw[q];simp)with e' | e'
    ·subst e';rw[hK (by rw[q];simp)]at e;cases e
    ·rw[(l b e').2.1]at e;cases e)
  have hM:Mod K mg (GF f.heap H):=⟨J,A R,⟨mb,A hb,Y⟩,let ⟨mc,g,y⟩:=T;⟨mc,A g,y⟩,let ⟨bm,o,b1,b2,b3,b4,b5,b6⟩:=Z;⟨bm,o,b1,b2,E b3 (Uz b3 b6),b4,b5,b6⟩⟩;have e0:MB P w K mg (GF f.heap H) jf [] f H:=⟨rfl,hM,λb o e=>ZG e,lR (PU _ _),trivial,λb hb=>c7 (show b∈([]:List Addr)from hb) (by simp),hok,.of_eq hg,X⟩;refine dt ((F _ J (A R)).run jf [] f H ⟨[.ref a],[]⟩ [.ref a] [.ref a] _ _ hr e0 (vh f (.ref a)) (.cons rfl .nil) (wz H N hS)) λr s' h=>?_
  cases r with
  |error e=>exact(U H e s' h).elim
  |ok fl=>
   cases fl with
   |next=>exact j8 h
   |brk=>exact j8 h
   |cont=>exact j8 h
   |ret u=>
    obtain⟨v,H',os,bare,un,S,r',q⟩:=h;have q':v=.bl true:=q;subst q';obtain rfl:u=eh true:=r'
    have old:∀b o,f.heap.get? b=some o->s'.heap.get? b=some o\/(fx f.heap b/\o={ cls:=.none,data:=.fields #[] }/\∃qs:Array Value,s'.heap.get? b=some { cls:=.none,data:=.fields qs }):=λb o e=>by
     cases q:H b with
     |none=>exact .inl (un.keep b o e q (by intro z;exact c7 (show b∈([]:List Addr)from z) (by simp)) (by simp))
     |some u=>
      rcases N b with z | ⟨ob,xs,z⟩ | ⟨t,ps,z⟩
      ·rw[q]at z;cases z
      ·have z2:=un.frzs b ob _ z;obtain⟨M,_⟩:=hok b _ z;obtain⟨B,_⟩:=S b _ z2;rw[e]at M;cases M;exact .inl B
      ·obtain⟨g,y,h3⟩:=l b t;obtain⟨m,z2⟩:=un.tbls b ps z;obtain⟨qs,B,_⟩:=S b _ z2;rw[e]at g;cases g;exact .inr ⟨h3,rfl,qs,B⟩
    refine⟨rfl,⟨λb o e=>?_,λb o e=>?_⟩,os,bare⟩
    ·rcases old b o e with g | ⟨g,rfl,qs,y⟩
     ·exact .inl g
     ·exact .inr (.inl ⟨g,rfl,#[],qs,rfl,by rw[y];simp⟩)
    ·rcases old b o e with g | ⟨g,rfl,qs,y⟩
     ·exact⟨_,g⟩
     ·exact⟨_,y⟩
 have dT:∀b,Decidable (tabA=some b):=λb=>inferInstance
 cases hk:K.lookup a with
 |some o=>
  have e:=I a o hk;rw[ha]at e;cases e;refine G (λb=>if tabA=some b then some (.tbl #[])else none) (λb=>?_) (.inr ⟨_,vs.toArray,_,hk,rfl,rfl,rfl,by rw[bF,W];exact O,by simpa using Q⟩) (λb u z=>?_) (λb z=>?_) (λz=>?_) λP e=>⟨#[],b8 e⟩
  ·by_cases hb:tabA=some b
   ·exact .inr (.inr ⟨hb,#[],b8 hb⟩)
   ·exact .inl (a8 hb)
  ·by_cases hb:tabA=some b
   ·have j:=(b8 hb).symm.trans z;cases j;exact⟨#[],(l b hb).1,trivial,λp c q=>by cases q⟩
   ·have j:=(a8 hb).symm.trans z;cases j
  ·by_cases hb:tabA=some b
   ·exact .inr hb
   ·exact c7 (a8 hb) z
  ·exact c7 (a8 λe=>L a e rfl) z
 |none=>
  refine G (λb=>if tabA=some b then some (.tbl #[])else if b=a then some (.frz { cls:=.type "list",data:=.seq vs.toArray } (.lst (ns.map V.int)))else none) (λb=>?_) (.inl (.inr ⟨{ cls:=.type "list",data:=.seq vs.toArray },(a8 λe=>L a e rfl).trans (b8 rfl)⟩)) (λb u z=>?_) (λb z=>?_) (λ_=>hk) λP e=>⟨#[],b8 e⟩
  ·by_cases i:tabA=some b
   ·exact .inr (.inr ⟨i,#[],b8 i⟩)
   ·by_cases hb:b=a
    ·exact .inr (.inl ⟨_,_,(a8 i).trans (b8 hb)⟩)
    ·exact .inl ((a8 i).trans (a8 hb))
  ·by_cases i:tabA=some b
   ·have j:=(b8 i).symm.trans z;cases j;exact⟨#[],(l b i).1,trivial,λp c q=>by cases q⟩
   ·by_cases hb:b=a
    ·have j:=((a8 i).trans (b8 hb)).symm.trans z;cases j;subst hb;exact⟨ha,by rw[aB];exact O,vs,_,Q,ha⟩
    ·have j:=((a8 i).trans (a8 hb)).symm.trans z;cases j
  ·by_cases i:tabA=some b
   ·exact .inr i
   ·by_cases hb:b=a
    ·exact .inl hb
    ·exact c7 ((a8 i).trans (a8 hb)) z
def XM{l:gn}{n k:Nat}{q loose}{A:(Str->Option Value)->Heap->Prop}{i:j0->Heap->Prop}{d:DefRec}{K:Params->aI}{CX:j0->WX}{sp:j0->Sp}{x}
  (hn:l.most=some n) (y:n<=bE) (r:d.params.defaults=[]) (M:gR k jf)
  (J:∀(w:j0)(h:Heap),i w h->(K w.params).In h) (I:∀(w:j0)(h:Heap),i w h->∀P,tabA=some P->h.get? P=some { cls:=.none,data:=.fields #[] }/\(K w.params).lookup P=none/\fx h P)
  (F:∀(w:j0)(mg:Str->Option Value)(fa:Addr)(h:Heap),(K w.params).In h->h.Ns fD mg->mg d.name=some (.ref fa) ->
   ∃fd:iK,(∀s(u:Value),BindsTo s fd ⟨[u],[]⟩ [(x,u)]) /\
    ∀base:Heap,(K w.params).In base->base.Ns fD mg->dP l.prog w (K w.params) mg base (CX w) k fa fd [x] (sp w))
  (O:∀(w:j0)H(a:Addr)(ns:List Int),ns.length<=n->aGh H->nB (K w.params) H a (ns.map V.int)->sp w [.ref a] H (λv _=>v=.bl true) λ_ _ _=>False)
  (z:∀(w:j0)H s(e:Value)s',CX w [] H s (λ_ _ _=>False) e s'->False) :
  XC q loose A i l.row.toRowW d [] (λf vs=>qy f vs):=by
 refine Att.attach_call hn r λw s₀ c mg mb fa o pm cd jt a vs ns G Y R hd Q t p N m L=>?_;have j:=J w _ Y;obtain⟨fd,hb,B⟩:=F w mg fa _ j G.T.g t;exact UX j G.T.g G.T.b G.T.builtins G.T.nolimit L p N (aX m y) M G.T.bmain (I w _ Y) B hb (λH C E=>O w H a ns m C E) λH e s'=>z w H c e s'
noncomputable def xO(s:Stmt):Arguments:=match s with
|.FunctionDef _ a _ _ _ _ _ _ _ _=>a
|_=>{ posonlyargs:=[],args:=[],vararg:=none,kwonlyargs:=[],kw_defaults:=[],kwarg:=none,defaults:=[] }
noncomputable def lD(s:Stmt):List Stmt:=match s with
|.FunctionDef _ _ b _ _ _ _ _ _ _=>b
|_=>[]
noncomputable def bB(s:Stmt):Scope:=match s with
|.FunctionDef _ _ _ _ _ _ sc _ _ _=>sc
|_=>{ kind:=.function,names:=[],isGenerator:=false,isCoroutine:=false }
abbrev iL:WX:=λ_ _ _ _ _ _=>False
abbrev E0:XK:=λ_ _ _=>False
def jE{X}:uC iL X E0:=λ_ _ _ _ _ _ _ h=>h.elim
structure J6(K:aI)(x qual:Str)(st:Stmt)(f:Addr)(fd:iK):Prop where
 ex:∃(oc:Value)(od:Option Addr)(kV jt pm:Value)(an:Option Addr)(t6 ct:Value)(ly:Array (Option Value)),
  fd=nS x qual (xO st) (lD st) (bB st) .none kV jt pm an t6 ct/\K.lookup f=some ⟨oc,od,.func fd,ly⟩/\pT K t6 qual=true
 kp:gD K (.ref f)=true
section
variable{P:dD}{w:j0}{K:aI}{mg:Str->Option Value}{base:Heap}
def J6.ok{x qual st}{f:Addr}{fd}{N ps:List Str}{k:Nat}{sp:Sp}(F:J6 K x qual st f fd)(S:bW N ps (bB st))(len:∀vs H Q E,sp vs H Q E->vs.length=ps.length)
  (d:∀(t6:Value)(A:g9)outer(s:Shared)H(vs:List V)Q E,gR k (A.deeper (l3 qual (bB st) s.heap.objs.size f t6))->sp vs H Q E ->
   ∃t,AG (qP iL P w K mg base N qual (bB st) f t6 A outer s H E).nox (lD st) t/\t { nx:=λ_ H'=>Q .non H',rt:=Q } (lZ N vs) H):dP P w K mg base iL (k+1) f fd ps sp:=by
 obtain⟨oc,od,kV,jt,pm,an,t6,ct,ly,rfl,c,a⟩:=F.ex;refine VO c a S len λA outer s H vs Q E b e=>?_;obtain⟨t,h,q⟩:=d t6 A outer s H vs Q E b e;exact⟨t,h.nox,q⟩
def J6.binds{x qual st}{f:Addr}{fd}{ps:List Str}(F:J6 K x qual st f fd)
  (h:∀(kV jt pm:Value)(an:Option Addr)(t6 ct:Value)(us:List Value),us.length=ps.length->bindArgs (nS x qual (xO st) (lD st) (bB st) .none kV jt pm an t6 ct) ⟨us,[]⟩=pure (ps.zip us)):pS K fd ps []:=by
 obtain⟨oc,od,kV,jt,pm,an,t6,ct,ly,rfl,b,a⟩:=F.ex;exact .all (h kV jt pm an t6 ct)
def VH{x qual st}{f:Addr}{oc od an ly kV jt pm t6 ct}(l:K.lookup f=some ⟨oc,od,.func (nS x qual (xO st) (lD st) (bB st) .none kV jt pm an t6 ct),ly⟩)
  (c:pT K t6 qual=true) (k:gD K (.ref f)=true):J6 K x qual st f (nS x qual (xO st) (lD st) (bB st) .none kV jt pm an t6 ct):=⟨⟨oc,od,kV,jt,pm,an,t6,ct,ly,rfl,l,c⟩,k⟩
end
def OU{n:Nat}(h:n<=1000):n<bE:=qY h (by decide)
section
variable{X:Cx}
def pv(i:Nat){x:Str}{pos}(b:X.N[i]?=some x:=by rfl)(c:Vis X.env.scope x:=by first | exact y9 rfl | exact v8 (y9 rfl) | exact v8 (v8 rfl))(hd:(x==("__debug__":Str))=false:=by decide)
  (a:(x==("__classdict__":Str))=false:=by decide):PE X (.Name x pos) (qM i):=TJ b c hd a
end
def bA(H H':Hp):Prop:=∀b o,H b=some o->H' b=some o
def bA.refl(H:Hp):bA H H:=λ_ _ h=>h
def bA.trans{H H1 H2}(a:bA H H1)(b:bA H1 H2):bA H H2:=λc o h=>b c o (a c o h)
def bA.seq{K H H'}{a:Addr}{xs}(e:bA H H')(h:nB K H a xs):nB K H' a xs:=by
 rcases h with(h | ⟨o,h⟩) | h
 ·exact .inl (.inl (e _ _ h))
 ·exact .inl (.inr ⟨o,e _ _ h⟩)
 ·exact .inr h
def Z5{M A}{E:Value->Shared->Prop}{s tg it z t}{Q:Unit->Shared->Prop}(a:Q () s) :
  wpAny M A (z4 tg it (.str z t)) Q E s:=by
 unfold z4
 cases tg<;>first
  |exact aV a
  | (cases it<;>exact aV a)
noncomputable def Its(z:Str):It:=⟨λi _=>i<z.cps.size,λi H x H'=>H'=H/\∃c,z.cps[i]?=some c/\x=.str ⟨#[c]⟩,λi _=>z.cps.size<=i⟩
def OI{P w K tg ty}(it:Addr)(z:Str)(t:Tok)
  (W:∀A:g9,A.handled=none->Walks P w A it [it] [it] z.cps.size (SignAt z) (λi h=>h.IsStrIter it ty z t i))
  (S:∀A(i:Nat)(s:Shared)Q E,s.heap.IsStrIter it ty z t i->Q (.ref it) s->wpAny (model P w) A (Eb (.ref it)) Q E s) :
  JV P w K tg (Its z) [it] it (λi h=>i<=z.cps.size/\h.IsStrIter it ty z t i) where
 mem:=by simp
 obj:=λi h st b hb=>by
  obtain rfl:b=it:=by simpa using hb
  obtain⟨_,o,e,c,d⟩:=st;exact⟨o,e,λv q=>by rw[d]at q;cases q⟩
 keep:=λi h h' st k=>by
  obtain⟨l,o,e,r⟩:=st;exact⟨l,o,k it (by simp) o e,r⟩
 item:=by
  intro X x hw p y i pins s σ H E I a st f;subst x hw p;obtain⟨g,f1,f2,j,m,n⟩:=a it (by simp);refine(W X.A (I.ok.hd y)).item i s _ _ f st.2 λv h' tk G F B=>?_;obtain⟨c,u,J,rfl⟩:=G;have C:dI X pins σ H { s with heap:=h',toks:=tk }:=I.turned (λb o hb e=>B b o (by simpa using hb) e) g f1 j m n;exact⟨_,rfl,Z5 ⟨.str ⟨#[c]⟩,H,C,⟨u,rfl⟩,⟨rfl,c,J,rfl⟩,⟨f,F⟩,λb hb=>(a b hb).1⟩⟩
 done:=by
  intro X x hw p y i pins s σ H E I a st f;subst x hw p;obtain⟨g,f1,f2,j,m,n⟩:=a it (by simp);have e:i=z.cps.size:=Nat.le_antisymm st.1 f;subst e;exact(W X.A (I.ok.hd y)).done s _ _ st.2 λh' tk B=>⟨rfl,I.turned (λb o hb e=>B b o (by simpa using hb) e) g f1 j m n⟩
 self:=λA i s Q E st h=>S A i s Q E st.2 h
def aO3(K:aI)(b:TE):TI:=λσ H R=>b σ H λx H1=>(∃a,x=.ref a/\(∃xs,nB K H1 a xs)/\R (Itl K a) H1)\/(∃a,x=.ref a/\(∃xs,qG K H1 a xs)/\R (Itt K a) H1)\/∃z,x=.str z/\R (Its z) H1
def aEn{X:Cx}{tg l tl}(j:PE X l tl):PI X tg l (aO3 X.K tl):=by
 intro pins s σ H R I h;refine jM (j pins s σ H _ I h) λv s1 n=>?_;obtain⟨x,H1,c,g,k⟩:=n;rcases k with⟨a,rfl,⟨xs,f⟩,q⟩ | ⟨a,rfl,⟨xs,f⟩,q⟩ | ⟨z,rfl,q⟩
 ·cases g;obtain⟨i3,m,p,hz⟩:=c.list f;refine t8 p.isList ⟨s1.heap.objs.size,[s1.heap.objs.size],_,_,H1,rfl,c.kept (t':=s1.toks) λb o e=>aG _ e,OJ a _,⟨_,aZ _ rfl,rfl,rfl⟩,λb hb=>?_,q⟩;obtain rfl:b=s1.heap.objs.size:=by simpa using hb
  exact c.fpOk (aN _) (c.hok.fresh (aN _))
 ·cases g;obtain⟨i3,m,p,hz⟩:=c.tuple f;refine jb (show s1.heap.IsTuple a i3.toArray from p) ⟨s1.heap.objs.size,[s1.heap.objs.size],_,_,H1,rfl,c.kept (t':=s1.toks) λb o e=>aG _ e,KH a _,⟨_,aZ _ rfl,rfl,rfl⟩,λb hb=>?_,q⟩;obtain rfl:b=s1.heap.objs.size:=by simpa using hb
  exact c.fpOk (aN _) (c.hok.fresh (aN _))
 ·obtain⟨t,rfl⟩:=g
  have fin:∀(o:Obj)(ty:String),(∀A:g9,A.handled=none->Walks X.prog X.w A s1.heap.objs.size [s1.heap.objs.size] [s1.heap.objs.size] z.cps.size (SignAt z) (λi h=>h.IsStrIter s1.heap.objs.size ty z t i)) ->
    (∀A(i:Nat)(s:Shared)Q E,s.heap.IsStrIter s1.heap.objs.size ty z t i->Q (.ref s1.heap.objs.size) s->wpAny (model X.prog X.w) A (Eb (.ref s1.heap.objs.size)) Q E s) ->
    (s1.heap.push o).IsStrIter s1.heap.objs.size ty z t 0->PIE X pins σ tg R (.ref s1.heap.objs.size) { s1 with heap:=s1.heap.push o }:=λo ty W S st=>by
   refine⟨s1.heap.objs.size,[s1.heap.objs.size],_,Its z,H1,rfl,c.kept (t':=s1.toks) λb o e=>aG _ e,OI _ z t W S,⟨cU _,st⟩,λb hb=>?_,q⟩;obtain rfl:b=s1.heap.objs.size:=by simpa using hb
   exact c.fpOk (aN _) (c.hok.fresh (aN _))
  cases ha:z.cps.all (·<128)
  ·exact wpAny_pyIter_wide ha (fin _ "str_iterator" (λA d=>Walks.strWide d _ z t) (λ_ _ _ _ _ st h=>wpAny_pyIter_striter_wide st h) ⟨_,aZ _ rfl,rfl,rfl⟩)
  ·exact wpAny_pyIter_ascii ha (fin _ "str_ascii_iterator" (λA d=>Walks.strAscii d _ z t) (λ_ _ _ _ _ st h=>wpAny_pyIter_striter_ascii st h) ⟨_,aZ _ rfl,rfl,rfl⟩)
structure BP where
 cl:List (Str×Addr)
 C:Addr
 s3:Shared
 H3:Hp
 ex:List Addr
 pn:List (Addr×Obj)
noncomputable def blk(X:Cx)(scope:Scope)(N':List Str)(b:BP):Cx where
 prog:=X.prog
 w:=X.w
 K:=X.K
 mg:=X.mg
 base:=X.base
 A:=X.A
 N:=N'
 s₀:=b.s3
 H₀:=b.H3
 env:=compEnvC scope b.cl b.C X.env
 outer:=X.stack
 stack:=X.stack
 ex:=b.ex
 fn:=λx=>scope.names.lookup x==some .cell
 calm:=X.calm
 pn:=b.pn
 xe:=λ_ _=>False
theorem wI{env:Env}:∀(names:List (Str×u9))(b:List (Str×Addr)),(∀x∈names,x.2=.free->∃c,env.cells.lookup x.1=some c) ->
 (∀n c,b.lookup n=some c->env.cells.lookup n=some c) ->
 ∃cl:List (Str×Addr),(Es names b (λx cs=>match x with | (name,kind)=>if kind==.free then do let a <- cellOf env name;pure (j6 ((name,a)::cs))else pure (j6 cs)):Sem (List (Str×Addr)))=pure cl /\
  (∀n c,cl.lookup n=some c->env.cells.lookup n=some c)/\(∀n,((∃c,b.lookup n=some c)\/(n,j1)∈names)->∃c,cl.lookup n=some c)
|[],b,_,ha=>⟨b,rfl,ha,λn h=>h.elim id λz=>c7 z (by simp)⟩
| (n,k)::r,b,h,ha=>by
 by_cases hk:k=.free
 ·subst hk;obtain⟨c,j⟩:=h (n,.free) (aO ..) rfl
  obtain⟨cl,e,f,g⟩:=wI r ((n,c)::b) (λx i=>h x (aJ _ i)) (λm d hm=>by
   rw[dX]at hm
   cases hb:m==n with
   |true=>
    rw[hb]at hm;obtain rfl:m=n:=by simpa using hb
    cases hm;exact j
   |false=>rw[hb]at hm;exact ha m d hm)
  refine⟨cl,?_,f,λm hm=>g m ?_⟩
  ·rw[uH];have o:cellOf env n=pure c:=by unfold cellOf;rw[j]
   simp only[beq_self_eq_true,v9,o];exact e
  ·rcases hm with⟨d,hd⟩ | hm
   ·left
    rw[dX]
    cases hb:m==n with
    |true=>exact⟨c,rfl⟩
    |false=>exact⟨d,hd⟩
   ·rcases aP.mp hm with z | z
    ·left
     cases z;exact⟨c,by simp[dX]⟩
    ·exact .inr z
 ·obtain⟨cl,e,f,g⟩:=wI r b (λx i=>h x (aJ _ i)) ha;refine⟨cl,?_,f,λm hm=>g m (hm.imp id λz=>?_)⟩
  ·rw[uH];have l:(k==j1)=false:=by simpa using hk
   simp only[l,fC,x8];exact e
  ·rcases aP.mp z with z | z
   ·cases z;exact c7 rfl hk
   ·exact z
def wH{env:Env}{scope:Scope}(h:∀x∈scope.names,x.2=.free->∃c,env.cells.lookup x.1=some c) :
  ∃cl,closureFor scope env=pure cl/\(∀n c,cl.lookup n=some c->env.cells.lookup n=some c)/\∀n,(n,j1)∈scope.names->∃c,cl.lookup n=some c:=by
 obtain⟨cl,e,a,b⟩:=wI (env:=env) scope.names [] h (λn c z=>by simp at z);refine⟨cl,?_,a,λn z=>b n (.inr z)⟩;unfold closureFor;refine Eq.trans ?_ (j5 (λm=>m >>= λr=>(pure r:Sem (List (Str×Addr)))) e)
 rfl
theorem rZ{env:Env}{x k}:∀{names:List (Str×u9)},
 (names.map λ(n,k)=>if(k==j1&&env.scope.kind==.function&&env.kindOf n==some .cell)then(n,h8)else(n,k)).lookup x=some k ->
 ∃k0,(x,k0)∈names/\(k0=k\/(k0=.free/\k=.cell))
|[],h=>by simp at h
| (n,j)::r,h=>by
 rw[bR,dX]at h;dsimp only at h;by_cases a:(j==j1&&env.scope.kind==.function&&env.kindOf n==some .cell)=true
 ·rw[b8 a]at h;dsimp only at h
  cases hb:x==n with
  |true=>
   rw[hb]at h;obtain rfl:x=n:=by simpa using hb
   cases h;have d:j=.free:=by simp only[dG,lr]at a;exact a.1.1
   exact⟨j,aO ..,.inr ⟨d,rfl⟩⟩
  |false=>
   rw[hb]at h;obtain⟨k0,b,c⟩:=rZ (names:=r) h;exact⟨k0,aJ _ b,c⟩
 ·rw[a8 a]at h;dsimp only at h
  cases hb:x==n with
  |true=>
   rw[hb]at h;obtain rfl:x=n:=by simpa using hb
   cases h;exact⟨_,aO ..,.inl rfl⟩
  |false=>
   rw[hb]at h;obtain⟨k0,b,c⟩:=rZ (names:=r) h;exact⟨k0,aJ _ b,c⟩
theorem wY{env:Env}{x}:∀{names:List (Str×u9)},names.lookup x=some .free ->
 (names.map λ(n,k)=>if(k==j1&&env.scope.kind==.function&&env.kindOf n==some .cell)then(n,h8)else(n,k)).lookup x=some .cell \/
 (names.map λ(n,k)=>if(k==j1&&env.scope.kind==.function&&env.kindOf n==some .cell)then(n,h8)else(n,k)).lookup x=some .free
|[],h=>by simp at h
| (n,j)::r,h=>by
 rw[dX]at h;rw[bR,dX];dsimp only
 cases hb:x==n with
 |true=>
  rw[hb]at h;cases h;by_cases a:(j1==j1&&env.scope.kind==.function&&env.kindOf n==some .cell)=true
  ·rw[b8 a];dsimp only;rw[hb];exact .inl rfl
  ·rw[a8 a];dsimp only;rw[hb];exact .inr rfl
 |false=>
  rw[hb]at h;have b:=wY (env:=env) (names:=r) h;by_cases a:(j==j1&&env.scope.kind==.function&&env.kindOf n==some .cell)=true
  ·rw[b8 a];dsimp only;rw[hb];exact b
  ·rw[a8 a];dsimp only;rw[hb];exact b
noncomputable def tW(names outer:List (Str×u9))(a:List Str):List Str->List (Option Nat)->Bool
|[],[]=>true
|x::r,none::f=>tW names outer a r f
|x::r,some j::f=>(names.lookup x==some .free)&&(a[j]?==some x)&&(outer.lookup x==some .cell)&&tW names outer a r f
|_,_=>false
theorem yJ{names outer:List (Str×u9)}{Nx}:∀{N':List Str}{fr:List (Option Nat)},tW names outer Nx N' fr=true ->
 N'.length=fr.length/\∀(i:Nat)(x:Str)(j:Nat),N'[i]?=some x->fr[i]?=some (some j)->names.lookup x=some .free/\Nx[j]?=some x/\outer.lookup x=some .cell
|[],[],_=>⟨rfl,λi x j h=>by simp at h⟩
|x::r,none::f,h=>by
 obtain⟨c,d⟩:=yJ (N':=r) (fr:=f) h;refine⟨by simp[c],λi y j b a=>?_⟩
 cases i with
 |zero=>simp at a
 |succ i=>exact d i y j (by simpa using b) (by simpa using a)
|x::r,some k::f,h=>by
 simp only[tW,dG,lr]at h;obtain⟨⟨⟨e,a2⟩,g⟩,h⟩:=h;obtain⟨c,d⟩:=yJ (N':=r) (fr:=f) h;refine⟨by simp[c],λi y j b a=>?_⟩
 cases i with
 |zero=>
  simp at b a;subst b;subst a;exact⟨e,a2,g⟩
 |succ i=>exact d i y j (by simpa using b) (by simpa using a)
|[],_::_,h=>by simp[tW]at h
|_::_,[],h=>by simp[tW]at h
noncomputable def xI(fr:List (Option Nat))(σ:St):St:=fr.map λo=>o.bind λj=>(σ[j]?).join
def pK.but{P w H h h'}{a:Addr}(ok:pK P w H h)(n:H a=none)(sb:fL a h h'):pK P w H h':=λb ob e=>by
 refine(ok b ob e).stay (λc u hc q=>(sb.2 c ?_).trans q) (λ_ q=>q) λ_ _ q=>q;rintro rfl;rcases hc with rfl | hc
 ·rw[n]at e;cases e
 ·rw[n]at hc;cases hc
def QM(X:Cx)(a:List Expr)(tt:TT):Prop:=
 ∀pins s σ H(Q:Bool->Hp->Prop),dI X pins σ H s->tt σ H Q ->
  wpAny (model X.prog X.w) X.A (Es a true λc r=>if r=true then do let ok <- isTrue c X.env (eval c X.env);pure (j6 ok)else pure (j6 r)) (TP X pins σ Q) X.xe s
def XU:TT:=λ_ H Q=>Q true H
def Y4{X}:QM X [] XU:=λ_ _ _ H _ I h=>wpAny_tests_nil ⟨H,I,h⟩
def Y3{X c tt}(h:PT X c tt):QM X [c] tt:=λpins s σ H Q I q=>wpAny_tests_one (h pins s σ H Q I q)
def R1(fr:List (Option Nat))(j:TI)(g:BP->TG)(tt:BP->TT)(te:BP->TE):TE:=λσ H Q=>j σ H λJ H1=>∀(d:BP)(a:Addr),H1 a=none->∃W:Nat->Nat->St->Hp->Prop,
 (∃m,W 0 m (xI fr σ) (fS H1 a (.lst [])))/\∀i m d8 H',W i m d8 H' ->
  (J.stop i H'/\Q (.ref a) H')\/(J.go i H'/\∀x e,J.yld i H' x e->g d x d8 e λc H3=>tt d c H3 λb f=>
   if b=true then te d c f λy h=>∃ys,h a=some (.lst ys)/\ys.length<bE/\∃m',m'<m/\W (i+1) m' c (fS h a (.lst (ys++[y])))
   else∃m',m'<m/\W (i+1) m' c f)
theorem sK:∀{names:List (Str×u9)},names.filter (λy=>y.2==h8)=[]->∀(n:Nat)(a:List (Str×Addr))h,bh n names a=a/\lg h names=h
|[],_,_,_,_=>⟨rfl,rfl⟩
| (x,k)::r,e,n,a,h=>by
 rw[dM]at e
 cases hk:(k==h8)with
 |true=>dsimp only at e;rw[hk,b8 rfl]at e;cases e
 |false=>
  dsimp only at e;rw[hk,a8 bV]at e;unfold bh lg;rw[hk,a8 bV,a8 bV];exact sK e n a h
theorem yM{z:Str}:∀{names:List (Str×u9)},names.filter (λy=>y.2==h8)=[(z,.cell)]->∀(n:Nat)(a:List (Str×Addr))(h:Heap),bh n names a=(z,n)::a/\lg h names=h.push { cls:=.type "cell",data:=.cell none }
|[],e,_,_,_=>by cases e
| (x,k)::r,e,n,a,h=>by
 rw[dM]at e
 cases hk:(k==h8)with
 |true=>
  dsimp only at e;rw[hk,b8 rfl]at e;injection e with b c
  injection b with b _
  subst b;unfold bh lg;rw[hk,b8 rfl,b8 rfl];exact sK c (n+1) ((x,n)::a) _
 |false=>
  dsimp only at e;rw[hk,a8 bV]at e;unfold bh lg;rw[hk,a8 bV,a8 bV];exact yM e n a h
def vF(names:List (Str×u9)):Prop:=names.filter (λy=>y.2==h8)=[]\/∃z,names.filter (λy=>y.2==h8)=[(z,.cell)]/\names.lookup z=some .cell
structure aPk(names:List (Str×u9))(cl ij:List (Str×Addr))(h:Heap)(C:Addr):Prop where
 get:∀x c,ij.lookup x=some c->(C<c/\(x,h8)∈names/\h.IsCell c none)\/(cl.lookup x=some c/\(x,h8)∉names)
 old:∀x c,names.lookup x=some .free->cl.lookup x=some c->ij.lookup x=some c
 has:∀x,(x,h8)∈names->∃c,ij.lookup x=some c
 keep:∀x c,cl.lookup x=some c->∃c',ij.lookup x=some c'
 inj:∀x y c,ij.lookup x=some c->ij.lookup y=some c->C<c->x=y
def ZL{M A}{E:Value->Shared->Prop}{s:Shared}{scope:Scope}{globals:Addr}{a:List (Str×Addr)}{qual outer}{Q:Env->Shared->Prop}(hz:vF scope.names)(f:∀x c,a.lookup x=some c->c<s.heap.objs.size)
  (p:∀h' ij,h'.Ns s.heap.objs.size (λ_=>none)->(∀b o,s.heap.get? b=some o->h'.get? b=some o)->aPk scope.names a ij h' s.heap.objs.size->Q (newEnv scope s.heap.objs.size globals ij qual none .none (some outer) z5) { s with heap:=h' }) :
  wpAny M A (qk scope globals a [] qual none .none (some outer)) Q E s:=by
 simp only[qk,OD,v9];refine aE (wpAny_alloc ?_);refine aE (wpAny_layCells _ (λname kind cells=>by cases r:kind==h8<;>simp[r]) _ _ _ _ ?_);have mem:∀x,(x,h8)∈scope.names->(x,h8)∈scope.names.filter (λy=>y.2==h8):=λx d=>cC.mpr ⟨d,rfl⟩;rcases hz with hz | ⟨z,hz,j⟩
 ·rw[(sK hz _ _ s.heap).1,(sK hz 0 [] _).2]
  have q:∀x,(x,h8)∉scope.names:=λx d=>by
   have:=mem x d;rw[hz]at this;cases this
  exact aE (aV (aV (p _ _ (W2.new s.heap (.type "dict")) (λb o e=>aG _ e) ⟨λx c h=>.inr ⟨h,q x⟩,λx c _ h=>h,λx h=>c7 h (q x),λx c h=>⟨c,h⟩,λx y c h _ l=>c7 (f x c h) (uG l)⟩)))
 ·rw[(yM hz _ _ s.heap).1,(yM hz 0 [] _).2,show({ s with heap:=s.heap.push { cls:=.type "dict",data:=.dict #[] } }:Shared).heap.objs.size=s.heap.objs.size+1 from fE ..]
  have k:∀x,(x,h8)∈scope.names->x=z:=λx d=>by
   have:=mem x d;rw[hz]at this;exact j5 Prod.fst (bM.mp this)
  have i:∀x c,((z,s.heap.objs.size+1)::a).lookup x=some c->(x=z/\c=s.heap.objs.size+1)\/(x≠z/\a.lookup x=some c):=λx c h=>by
   rw[dX]at h
   cases hb:x==z with
   |true=>rw[hb]at h;cases h;exact .inl ⟨gj hb,rfl⟩
   |false=>rw[hb]at h;exact .inr ⟨ne_of_beq_false hb,h⟩
  have m:∀x c,x≠z->a.lookup x=some c->((z,s.heap.objs.size+1)::a).lookup x=some c:=λx c d h=>by
   rw[dX,beq_eq_false_iff_ne.mpr d];exact h
  have g:((s.heap.push { cls:=.type "dict",data:=.dict #[] }).push { cls:=.type "cell",data:=.cell none }).get? (s.heap.objs.size+1)=some { cls:=.type "cell",data:=.cell none }:=by
   have:=aZ (s.heap.push { cls:=.type "dict",data:=.dict #[] }) (o:={ cls:=.type "cell",data:=.cell none }) rfl
   rwa [fE]at this
  refine aE (aV (aV (p _ _ ((W2.new s.heap (.type "dict")).keeps λb o e=>aG _ e) (λb o e=>aG _ (aG _ e)) ⟨λx c h=>?_,λx c d h=>m x c (λe=>by rw[e,j]at d;cases d) h,λx d=>⟨s.heap.objs.size+1,by rw[k x d];simp⟩,λx c h=>?_,λx y c B C l=>?_⟩)))
  ·rcases i x c h with⟨rfl,rfl⟩ | ⟨n,h⟩
   ·exact .inl ⟨mR _,l0 j,_,g,rfl⟩
   ·exact .inr ⟨h,λd=>n (k x d)⟩
  ·by_cases e:x=z
   ·exact⟨s.heap.objs.size+1,by rw[e];simp⟩
   ·exact⟨c,m x c e h⟩
  ·rcases i x c B with⟨t,_⟩ | ⟨_,v⟩
   ·rcases i y c C with⟨u,_⟩ | ⟨_,w⟩
    ·exact t.trans u.symm
    ·exact c7 (f y c w) (uG l)
   ·exact c7 (f x c v) (uG l)
section
variable{X:Cx}
def P7{prog w A}{R:Result->Shared->Prop}{s aj gb iter ae scope pos it acc env}(I:Nat->Shared->Prop)
  (turn:∀n s,I n s->wpAny (model prog w) A (ql it) (λr a=>match r with
   |none=>R (.ok .next) a
   |some v=>wpAny (model prog w) A (z4 gb it v) (λ_ s1=>wpAny (model prog w) A (ki gb env v) (λ_ j=>
     wpAny (model prog w) A (Es ae true λc r=>if r=true then do let ok <- isTrue c env (eval c env);pure (j6 ok)else pure (j6 r)) (λok d=>
      if ok=true then wpAny (model prog w) A (eval aj env) (λx g=>wpAny (model prog w) A (call (.builtin "list.append") [acc,x]) (λ_ i=>∃m,m<n/\I m i) (λ_ _=>False) g) (λ_ _=>False) d
      else∃m,m<n/\I m d) (λ_ _=>False) j) (λ_ _=>False) s1) (λ_ _=>False) a) (λ_ _=>False) s)
  (n:Nat) (h:I n s):bb (model prog w) A (.compLoop (.ListComp aj [⟨gb,iter,ae,0⟩] scope pos) 0 it acc env) R s:=by
 refine codeAny_loop rfl I (λn s q=>?_) n h;show wpAny _ A ((compTurn (.ListComp aj [⟨gb,iter,ae,0⟩] scope pos) 0 it acc env).onRaise (λx=>do lf x env;theTreesLotGoes x)) _ _ s;refine wpAny_noted ?_;rw[compTurn_list];have b:∀{E:Value->Shared->Prop}(e:Value)(s:Shared),False->E e s:=λ_ _ z=>z.elim;refine aE (wpAny_standAt (aE (eF (turn n s q) (λr a k=>?_) b)))
 cases r with
 |none=>exact aV k
 |some v=>
  refine aE (eF k (λ_ s1 p=>aE (eF p (λ_ j t=>aE (eF t (λok d f=>?_) b)) b)) b)
  cases ok with
  |false=>exact aV ⟨rfl,f⟩
  |true=>exact aE (aE (eF f (λx g l=>aE (eF l (λ_ i o=>aV (aV ⟨rfl,o⟩)) b)) b))
variable{aj iter tg:Expr}{ae:List Expr}{scope:Scope}{pos:Pos}{N':List Str}{fr:List (Option Nat)}{wi:TI}{g:BP->TG}{tt:BP->TT}{te:BP->TE}
def IZ{pins σ}{F:Hp}{s2:Shared}{it:Addr}{fp}{tn:Nat->Heap->Prop}{J:It}{Q:VK}{RR:Value->Addr->Result->Shared->Prop}{cl:List (Str×Addr)}{E:Value->Shared->Prop}
  (cf:X.calm=true) (fc:scope.kind=.function) (hz:vF scope.names) (Bc:tW scope.names X.env.scope.names X.N N' fr=true)
  (H:∀n c,cl.lookup n=some c->X.env.cells.lookup n=some c) (sr:∀n,(n,j1)∈scope.names->∃c,cl.lookup n=some c)
  (hY:∀b:BP,PG (blk X scope N' b) tg (g b)/\QM (blk X scope N' b) ae (tt b)/\PE (blk X scope N' b) aj (te b))
  (I2:dI X pins σ F s2) (T:JV X.prog X.w X.K tg J fp it tn) (S:tn 0 s2.heap) (f2:∀b∈fp,AI X pins F b)
  (q:∀(bp:BP)(f:Addr),F f=none->∃W:Nat->Nat->St->Hp->Prop,(∃m,W 0 m (xI fr σ) (fS F f (.lst [])))/\∀i m d8 H',W i m d8 H' ->
   (J.stop i H'/\Q (.ref f) H')\/(J.go i H'/\∀x F,J.yld i H' x F->g bp x d8 F λx6 H3=>tt bp x6 H3 λb M=>
    if b=true then te bp x6 M λy H5=>∃ys,H5 f=some (.lst ys)/\ys.length<bE/\∃m',m'<m/\W (i+1) m' x6 (fS H5 f (.lst (ys++[y])))
    else∃m',m'<m/\W (i+1) m' x6 M))
  (Re:∀f C s' HY m,dI X pins σ HY s'->AI X pins HY C->s'.heap.Ns C m->Q (.ref f) HY->RR (.ref f) C (.ok .next) s') :
  wpAny (model X.prog X.w) X.A (newList []) (λf my=>wpAny (model X.prog X.w) X.A (qk scope X.env.globals cl [] X.env.qual none .none (some X.env)) (λFy Bt=>
   bb (model X.prog X.w) X.A (.compStart (.ListComp aj [⟨tg,iter,ae,0⟩] scope pos) 0 (.ref it) f { Fy with scope:=relabel scope X.env }) (RR f Fy.locals) Bt) E my) E s2:=by
 obtain⟨Ip,Si⟩:=yJ Bc;have ar:F s2.heap.objs.size=none:=I2.hok.fresh (aN _);refine iI ?_ (by show 0<=bE;exact cU _)
 generalize Lv:({ s2 with heap:=s2.heap.push { cls:=.type "list",dict:=none,data:=.seq ([]:List Value).toArray } }:Shared)=s3
 have a:dI X pins σ (fS F s2.heap.objs.size (.lst [])) s3:=by
  rw[<- Lv];exact I2.laid (t':=s2.toks) (λb u e=>aG _ e) (aN _) ⟨cU _,[],0,.nil,aZ _ rfl⟩
 have Kw:∀b∈fp,b<s3.heap.objs.size:=λb hb=>by
  obtain⟨o,e,_⟩:=T.obj 0 _ S b hb;rw[<- Lv];exact aY (aG _ e)
 have Hv:tn 0 s3.heap:=T.keep 0 _ _ S λb _ o e=>by rw[<- Lv];exact aG _ e
 have s:∀b∈fp,AI X pins (fS F s2.heap.objs.size (.lst [])) b:=λb hb=>⟨by
  obtain⟨o,e,_⟩:=T.obj 0 _ S b hb;rw[bZ (cI (aY e))];exact(f2 b hb).1,(f2 b hb).2⟩
 refine ZL hz (λx c e=>by obtain⟨v,o,L,_⟩:=a.cell x c (H x c e);exact aY L) λqj ij uh keep G=>?_
 generalize Ra:fS F s2.heap.objs.size (.lst [])=H3 at *
 generalize Wl:s2.heap.objs.size=ac at *
 generalize I:s3.heap.objs.size=C at *
 obtain⟨W,⟨m0,w0⟩,turn⟩:=q ⟨ij,C,s3,H3,fp,X.pn++pins⟩ ac ar;rw[Ra]at w0
 have uv:∀x c,X.env.cells.lookup x=some c->c<C:=λx c e=>by
  obtain⟨v,o,L,_⟩:=a.cell x c e;rw[<- I];exact aY L
 have Gh:∀b∈fp,b≠C:=λb hb=>by exact cI (Kw b hb)
 have Nn:X.env.locals<C:=by rw[<- I];exact a.lt
 have Dx:∀b∈qO X.stack,b≠C/\H3 b=none:=λb hb=>⟨by
  rintro rfl;rcases aP.mp (a.stkSub b hb)with z | z
  ·rw[z]at Nn;exact c7 Nn (eT _)
  ·exact a.nofs (by rw[I];exact aN _) z,a.stkFree b hb⟩
 have Js:∀x c,X.env.cells.lookup x=some c->c≠C:=λx c e z=>by
  obtain⟨v,o,L,_⟩:=a.cell x c e;have:=aY L;rw[z,I]at this;exact c7 this (eT _)
 -- the block's context
 have Vf:(blk X scope N' ⟨ij,C,s3,H3,fp,X.pn++pins⟩).Ok:=by
  refine⟨a.ok.mod,fc,a.ok.glob,a.ok.blt,lR I,λx y c P B=>by
   rcases G.get x c P with⟨l1,_⟩ | ⟨g1,_⟩<;>rcases G.get y c B with⟨l2,_⟩ | ⟨g2,_⟩
   ·exact G.inj x y c P B l1
   ·exact c7 (uv y _ (H y _ g2)) (uG l1)
   ·exact c7 (uv x _ (H x _ g1)) (uG l2)
   ·exact a.ok.inj x y c (H x c g1) (H y c g2),λx hx=>?_,λx c hf h=>by
   rcases G.get x c h with⟨l,_⟩ | ⟨_,n⟩
   ·exact aX (lR I) (iE l)
   ·exact c7 (l0 (beq_iff_eq.mp hf)) n,λ_=>a.ok.hd cf,a.ok.frames,.inl rfl,
   λb hb=>⟨Gh b hb,λx c h=>by
    rcases G.get x c h with⟨l,_⟩ | ⟨h,_⟩
    ·exact gS (MG (Kw b hb) l)
    ·exact(s b hb).2.2.2.2.1 x c (H x c h)⟩,λb o e=>a.bs b o e,?_,λb o e hb=>?_,λb hb hs=>?_,a.stack,λb hb=>(Dx b hb).2,a.env0.tab⟩
  ·have bz:∀k,(relabel scope X.env).names.lookup x=some k->(k=.cell\/k=.free)->∃c,(ij).lookup x=some c:=λk h hk=>by
    obtain⟨k0,P,B⟩:=rZ h;rcases(show k0=.cell\/k0=.free from B.elim (λe=>by rw[e];exact hk) λe=>.inr e.1)with rfl | rfl
    ·exact G.has x P
    ·obtain⟨c,hc⟩:=sr x P;exact G.keep x c hc
   rcases hx with hx | hx
   ·exact bz _ hx (.inl rfl)
   ·exact bz _ hx (.inr rfl)
  ·exact aX a.ok.bsz (aX a.sz (aN _))
  ·rcases(s b hb).2.2.2.1 with z | z
   ·exact a.ok.noex b o e z
   ·exact c7 (bP (aY (a.ok.bs b o e).1) z) (eT _)
  ·rcases aP.mp (a.stkSub b hs)with z | z
   ·exact(s b hb).2.1 z
   ·exact(s b hb).2.2.1 z
 have Kc:H3 C=none:=a.hok.fresh (lR I)
 have IY:dI (blk X scope N' ⟨ij,C,s3,H3,fp,X.pn++pins⟩) [] (xI fr σ) H3 { s3 with heap:=qj }:=by
  refine⟨Vf,rfl,a.bare,Un.kept keep,⟨_,uh,λi x v P B _=>?_⟩,λx c e=>?_,Kc,λx c e=>(by
   rcases G.get x c e with⟨l,_⟩ | ⟨e,_⟩
   ·exact a.hok.fresh (by rw[I];exact iE l)
   ·exact a.freeC x c (H x c e)),λp hp=>?_,a.hok.kept keep,?_⟩
  ·have e:∃j,fr[i]?=some (some j)/\σ[j]?=some (some v):=by
    unfold xI at B;rw[aL]at B
    cases hf:fr[i]? with
    |none=>rw[hf]at B;cases B
    |some o=>
     rw[hf]at B
     cases o with
     |none=>cases B
     |some j=>
      refine⟨j,rfl,?_⟩;have ko:(σ[j]?).join=some v:=by simpa using B
      cases hj:σ[j]? with
      |none=>rw[hj]at ko;cases ko
      |some o=>rw[hj]at ko;rw[show o=some v from ko]
   obtain⟨j,e1,e2⟩:=e;obtain⟨a1,a2,a3⟩:=Si i x j P e1;obtain⟨m,hn,hl⟩:=a.loc;obtain⟨u,r,l⟩:=hl j x v a2 e2 (.inr (.inl a3));refine⟨u,r,.inr ⟨wY a1,?_⟩⟩;rcases l with⟨k,_⟩ | ⟨_,c,hc,o,L,hd⟩
   ·have k':X.env.scope.names.lookup x=some .local:=k;rw[a3]at k';cases k'
   ·obtain⟨c',br⟩:=sr x (l0 a1);have z:=H x c' br;rw[hc]at z;cases z;exact⟨c,G.old x c a1 br,o,keep c o L,hd⟩
  ·rcases G.get x c e with⟨_,_,Td⟩ | ⟨e,_⟩
   ·exact⟨none,Td⟩
   ·obtain⟨v,o,L,hd⟩:=a.cell x c (H x c e);exact⟨v,o,keep c o L,hd⟩
  ·obtain⟨e,n,ne,nf,d⟩:=a.pin p (by have R:p∈(X.pn++pins)++[]:=hp;simpa using R);refine⟨keep _ _ e,n,?_,λz=>?_,d⟩
   ·have:=aY e;rw[I]at this;exact cI this
   ·rcases aP.mp (a.stkSub p.1 z)with z | z
    ·exact ne z
    ·exact nf z
  ·unfold xI;rw[aB];exact Ip.symm
 have qo:∀{H':Hp},(∀b∈fp,H' b=none)->∀b∈fp,AI (blk X scope N' ⟨ij,C,s3,H3,fp,X.pn++pins⟩) [] H' b:=λ{H'} hn b hb=>
  ⟨hn b hb,Gh b hb,λz=>by
   rcases aP.mp (a.stkSub b z)with z | z
   ·exact(s b hb).2.1 z
   ·exact(s b hb).2.2.1 z,  .inl hb,λx c e=>(by
   rcases G.get x c e with⟨l,_⟩ | ⟨e,_⟩
   ·exact gS (MG (Kw b hb) l)
   ·exact(s b hb).2.2.2.2.1 x c (H x c e)),λp hp=>(s b hb).2.2.2.2.2 p (by have R:p∈(X.pn++pins)++[]:=hp;simpa using R)⟩
 obtain⟨hg,ht,he⟩:=hY ⟨ij,C,s3,H3,fp,X.pn++pins⟩
 have Bq:bb (model X.prog X.w) X.A (.compLoop (.ListComp aj [⟨tg,iter,ae,0⟩] scope pos) 0 (.ref it) (.ref ac) (compEnvC scope ij C X.env)) (RR (.ref ac) C) { s3 with heap:=qj }:=by
  refine P7 (λn s'=>∃i d8 H',dI (blk X scope N' ⟨ij,C,s3,H3,fp,X.pn++pins⟩) [] d8 H' s'/\tn i s'.heap/\(∀b∈fp,H' b=none)/\W i n d8 H') ?_ m0
   ⟨0,xI fr σ,H3,IY,T.keep 0 _ _ Hv λb _ o e=>keep b o e,λb hb=>(s b hb).1,w0⟩
  rintro n s4 ⟨i,ny,M,I4,Pp,Nk,w4⟩;rcases turn i n ny M w4 with⟨stop,qn⟩ | ⟨go,step⟩
  ·refine jM (T.done (blk X scope N' ⟨ij,C,s3,H3,fp,X.pn++pins⟩) rfl rfl rfl cf i [] s4 ny M _ I4 (qo Nk) Pp stop) λr s5 t=>?_;obtain⟨hr,U⟩:=t;subst hr;obtain⟨m,hn,_⟩:=U.loc;have IX:dI X pins σ M s5:=a.call' U.os U.base U.hok U.bare λb hb=>⟨(s b hb).2.2.2.1,(s b hb).2.1,(s b hb).2.2.2.2.1,(s b hb).2.2.2.2.2⟩;exact Re ac C s5 M m IX (a.fpOk (lR I) U.free) hn qn
  ·refine jM (T.item (blk X scope N' ⟨ij,C,s3,H3,fp,X.pn++pins⟩) rfl rfl rfl cf i [] s4 ny M (λ_ _=>False) I4 (qo Nk) Pp go) λr s5 t=>?_;obtain⟨u,hr,h5⟩:=t;subst hr;refine jM h5 λ_ s6 t=>?_;obtain⟨x,H6,I6,r6,y6,Nb,Qk⟩:=t;have Pv:=I6.pinned (qo Qk) (T.obj _ _ Nb);refine jM (hg _ s6 ny H6 x u _ Pv r6 (step x H6 y6)) λ_ s7 t=>?_;obtain⟨qr,H7,I7,q7⟩:=t;refine jM (ht _ s7 qr H7 _ I7 q7) λok s8 t=>?_;obtain⟨H8,I8,q8⟩:=t
   have zb:∀{Y:Shared}{Jp:St}{O:Hp}{m':Nat},dI (blk X scope N' ⟨ij,C,s3,H3,fp,X.pn++pins⟩) ([]++BX fp s6.heap) Jp O Y->m'<n->W (i+1) m' Jp O ->
     ∃m,m<n/\∃i d8 H',dI (blk X scope N' ⟨ij,C,s3,H3,fp,X.pn++pins⟩) [] d8 H' Y/\tn i Y.heap/\(∀b∈fp,H' b=none)/\W i m d8 H':=λ{Y Jp O m'} Z hm w9=>by
    refine⟨m',hm,i+1,Jp,O,Z.unpinned,T.keep _ _ _ Nb λb hb o e=>(Z.pin (b,o) (cZ _ (cZ _ (sD hb e)))).1,λb hb=>?_,w9⟩;obtain⟨o,e,d⟩:=T.obj _ _ Nb b hb;exact(Z.pin (b,o) (cZ _ (cZ _ (sD hb e)))).2.1
   cases ok with
   |false=>
    obtain⟨m',hm,w8⟩:=q8;exact zb I8 hm w8
   |true=>
    refine jM (he _ s8 qr H8 _ I8 q8) λy Y t=>?_;obtain⟨yv,O,Z,r9,ys,Ul,hz,m',hm,w9⟩:=t;refine jM (iR (X:=blk X scope N' ⟨ij,C,s3,H3,fp,X.pn++pins⟩) _ Y qr O (.ref ac) [yv] (.ref ac) [y] (λ_ H'=>H'=fS O ac (.lst (ys++[yv]))) Z rfl (.cons r9 .nil) ⟨ac,ys,yv,rfl,rfl,Ul,hz,rfl⟩) λ_ nu t=>?_;obtain⟨_,Vx,Ps,_,Qg⟩:=t;subst Qg;exact zb Ps hm w9
 exact codeAny_compStart_list Bq (T.self _ 0 _ _ _ (T.keep 0 _ _ Hv λb _ o e=>keep b o e) Bq)
def aKg(n:X.calm=true)(f:scope.kind=.function)(hz:vF scope.names)(i:tW scope.names X.env.scope.names X.N N' fr=true)
  (r:∀y∈scope.names,y.2=.free->X.env.scope.names.lookup y.1=some .cell) (F:∀x∈scope.names,x.2=.local->scope.names.lookup x.1=some .local) (hi:PI X tg iter wi)
  (z:∀b:BP,PG (blk X scope N' b) tg (g b)/\QM (blk X scope N' b) ae (tt b)/\PE (blk X scope N' b) aj (te b))
  (hs:∀x,m4 iter X.env x=pure x:=by intro _;rfl):PE X (.ListComp aj [⟨tg,iter,ae,0⟩] scope pos) (R1 fr wi g tt te):=by
 intro pins s σ H Q I h;obtain⟨cl,K,p,G⟩:=wH (env:=X.env) (scope:=scope) λy B hk=>I.ok.has y.1 (.inl (r y B hk));rw[eval_ListComp];refine uc (use:=none) rfl hs K f F (jM (hi pins s σ H _ I h) λv s1 t=>jM t λM s2 u=>?_);obtain⟨it,fp,tn,J,L,rfl,l,T,d,f2,q⟩:=u;refine IZ (RR:=λa C=>compPost (model X.prog X.w) X.A X.xe none (EP X pins σ Q) a C) n f hz i p G z l T d f2 q λa C s' j m k c hn E=>?_;exact⟨m,hn,λh' sb=>⟨.ref a,j,k.turned (t':=s'.toks) (λb o hb e=>(sb.2 b hb).trans e) c.1 c.2.1 c.2.2.2.1 c.2.2.2.2.1 c.2.2.2.2.2,rfl,E⟩⟩
def TB{i:Nat}{x:Str}{f l:Pos}(S:X.N.Nodup)(p:X.N[i]?=some x)(Z:W8 X.env.scope x)(L:X.calm=true)(k:scope.kind=.function)(hz:vF scope.names)(n:tW scope.names X.env.scope.names X.N N' fr=true)
  (O:∀y∈scope.names,y.2=.free->X.env.scope.names.lookup y.1=some .cell) (qg:∀x∈scope.names,x.2=.local->scope.names.lookup x.1=some .local) (hi:PI X tg iter wi)
  (U:∀b:BP,PG (blk X scope N' b) tg (g b)/\QM (blk X scope N' b) ae (tt b)/\PE (blk X scope N' b) aj (te b))
  (B:mJ (.ListComp aj [⟨tg,iter,ae,0⟩] scope pos) (some (.Name x f)) l.line X.env=pure true)
  (hs:∀x,m4 iter X.env x=pure x:=by intro _;rfl) (W:X.fn x=true\/X.env.scope.names.lookup x=some .local:=by first | exact .inl rfl | exact .inr rfl | assumption) :
  PS X (.Assign [.Name x f] (.ListComp aj [⟨tg,iter,ae,0⟩] scope pos) l) (tF (R1 fr wi g tt te) (kP i)):=by
 intro pins s σ H D I h;obtain⟨cl,vj,M,sr⟩:=wH (env:=X.env) (scope:=scope) λy hy hk=>I.ok.has y.1 (.inl (O y hy hk));rw[exec_Assign_Name_used _ _ _ _ B];refine aE (wpAny_standAt (aE ?_));show wpAny _ _ (do let _ <- comprehension (.ListComp aj [⟨tg,iter,ae,0⟩] scope pos) scope X.env _ (newList []) false (eval iter X.env) (some (ki (.Name x f) X.env))) _ _ s
 refine aE (eF (uc (use:=some (ki (.Name x f) X.env)) (Q:=λ_ s'=>SP X pins D .next s') rfl hs vj k qg
  (jM (hi pins s σ H _ I h) λv s1 P=>jM P λIz s2 R=>?_)) (λ_ s' Y=>aV (aV Y)) λ_ _ e=>e)
 obtain⟨it,fp,tn,J,H2,rfl,u,T,j,f2,q⟩:=R;refine IZ (RR:=λc C=>compPost (model X.prog X.w) X.A X.xe (some (ki (.Name x f) X.env)) (λ_ s'=>SP X pins D .next s') c C) (Q:=λx H1=>kP i x σ H1 D.nx) L k hz n M sr U u T j f2 q λc C s' r m t d hn q'=>?_;show wpAny _ _ (ki (.Name x f) X.env (.ref c)) _ _ _;refine Fj (EC t S p Z (v:=.ref c) rfl (λG E qe=>?_) W);obtain⟨a,sb,ha⟩:=qe
 have F:C≠a:=by
  rcases ha with z | z
  ·rw[z];exact d.2.1
  ·exactλe=>d.2.2.2.2.1 x a z e.symm
 exact⟨m,hn.sameBut sb F,λh' K=>⟨_,r,E.turned (t':=G.toks) (λb o hb e=>(K.2 b hb).trans e) d.1 d.2.1 d.2.2.2.1 d.2.2.2.2.1 d.2.2.2.2.2,q'⟩⟩
end
section
variable{prog:dD}{w:j0}{A:g9}{E:Value->Shared->Prop}{h:Heap}{g:Array GenState}{d:Drawn}{t:Nat}{os:OsState}{a C:Addr}{ox:Obj}{od:Option Obj}{K:aI}
structure DW(K:aI)(C:Addr):Prop where
 ga:dU K (.ref C) "__getattribute__"=some (some (.builtin "BaseException.__getattribute__"))
 gt:dU K (.ref C) "__getattr__"=some none
 cl:dU K (.ref C) "__class__"=some (some (.builtin "object.__class__"))
 ob:bT K C (.type "object")=some true
 be:bT K C (.type "BaseException")=some true
def XOk(K:aI)(C:Addr):Prop:=DW K C/\∀T∈["int","str","list","tuple","bool"],cV K (.ref C) (.type T)=some false
def P9{M nameV}{Q:Unit->Shared->Prop}(X:K.In h)(c:DW K C)(I:mB h a ox C od)(i:Q () ⟨h,g,d,t,os⟩):wpAny M A (checkBuiltinCall "BaseException.__getattribute__" ⟨[.ref a,nameV],[]⟩) Q E ⟨h,g,d,t,os⟩:=by
 have hk:builtinKind "BaseException.__getattribute__"=some .slot:=by decide +kernel
 have b:splitId "BaseException.__getattribute__"=some ("BaseException","__getattribute__"):=by decide +kernel
 have ha:=F.args_bexc_ga (.ref a) nameV;have e:=I.type (M:=M);have f:=PySem.W.looks_mroIn (M:=M) X c.be;simp only[checkBuiltinCall,hk,b];refine aE ?_;unfold isInstance;refine aE (e.at (f.at ?_))
 repeat (first | exact i | wp_step)
def GO{tk}{Q:Fin->Shared->Prop}(X:K.In h)(c:DW K C)(I:mB h a ox C od)(l:Q (.done (.ret (.ref C))) ⟨h,g,d,t,os⟩) :
  wpAny (model prog w) A (am.«object.__getattribute__» ⟨[.ref a,.str "__class__" tk],[]⟩) Q E ⟨h,g,d,t,os⟩:=by
 have f:(⟨h,g,d,t,os⟩:Shared).TypeIs (.builtin "object.__class__") "getset_descriptor":=uf;have i:=uf;have j:=F.slot_gs_get.lookup;have k:=F.slot_gs_set.lookup;have b:=I.type (M:=model prog w);have e:=oK (M:=model prog w) X c.cl
 repeat (any_goals (first | assumption | with_reducible refine b.at ?_ | with_reducible refine e.at ?_ | wp_step))
 refine PySem.W.class_get (s:=⟨h,g,d,t,os⟩) X I c.ob ?_
 repeat (any_goals (first | assumption | wp_step))
def JN{tk}{R:Result->Shared->Prop}(X:K.In h)(c:DW K C)(I:mB h a ox C od)(b:R (.ok (.ret (.ref C))) ⟨h,g,d,t,os⟩) :
  bb (model prog w) A (.call (.builtin "BaseException.__getattribute__") ⟨[.ref a,.str "__class__" tk],[]⟩) R ⟨h,g,d,t,os⟩:=
 codeAny_call_builtin F.excAttr_ValueError.ga.plain F.entry_bexc_ga (P9 X c I (GO X c I b))
def P8{tk}{Q:Value->Shared->Prop}(X:K.In h)(c:DW K C)(I:mB h a ox C od)(l:Q (.ref C) ⟨h,g,d,t,os⟩):wpAny (model prog w) A (getAttrBy (.ref a) (.str "__class__" tk) false) Q E ⟨h,g,d,t,os⟩:=by
 have k:=F.excAttr_ValueError.ga.bind (.ref a);have b:(ed "BaseException.__getattribute__"==ed "object.__getattribute__")=false:=by decide +kernel
 have j:(onTheHeap (e7 C)&&ed "BaseException.__getattribute__"==ed "object.__getattribute__")=false:=by rw[b];rfl
 have e:=I.type (M:=model prog w);have f:=oK (M:=model prog w) X c.ga;have i:=oK (M:=model prog w) X c.gt
 repeat (any_goals (first | assumption | with_reducible refine e.at ?_ | with_reducible refine f.at ?_ | with_reducible refine i.at ?_ | wp_step))
 refine JN X c I ?_
 repeat (any_goals (first | assumption | wp_step))
def JO{Q:Option Value->Shared->Prop}(X:K.In h)(c:DW K C)(I:mB h a ox C od)(b:Q (some (.ref C)) ⟨h,g,d,t+1,os⟩):wpAny (model prog w) A (getAttr? (.ref a) "__class__") Q E ⟨h,g,d,t,os⟩:=by
 unfold getAttr? getAttrBy?
 repeat (any_goals (first | assumption | with_reducible apply P8 X c I | wp_step))
def U3(c:DW K C):PySem.W.KitX K (.ref a) (.ref C) (λh=>∃ox od,mB h a ox C od) where
 ty:=λ_ _ _ ⟨_,_,I⟩=>I.type
 it:=λ_ _ X _=>by
  obtain⟨cd,b,_⟩:=G9.mp c.ob;unfold kB at b;split at b
  ·rename_i c' d' j i f;intro A' o m s' k q;unfold isType loadHead;exact aE (wpAny_loadPart (k _ _ (X _ _ f)) (aV q))
  ·cases b
 ne:=λh tp dd i3 n sl X l=>by
  obtain⟨cd,b,_⟩:=G9.mp c.ob;refine W3.mpr λq=>?_;have e:C=tp:=Value.ref.inj (beq_iff_eq.mp q);subst e;unfold kB at b;split at b
  ·rename_i c' d' j i f;have z:=(X _ _ f).symm.trans l;cases z
  ·cases b
 ca:=λ{_ _ _ _ _ s} X ⟨_,_,I⟩ k=>by
  obtain⟨p,g,d,t,os⟩:=s;exact JO X c I k
end
structure aMj(k:Nat)(A:g9):Prop where
 dp:A.depth+3*k+5<fz
 un:A.units+16*k+200<aq
 gd:A.guards=some []
def gR.h{k:Nat}{A}(r:gR k A):aMj k A:=⟨r.dp,r.un,r.gd⟩
end L2
namespace TL
open L2
abbrev D:=bt
def aE3(p:Addr)(h:Heap):Prop:=∃(i3:List Value)(n:Nat),h.get? p=some { cls:=.type "list",data:=.seq i3.toArray n }/\i3.length<=1000/\∀v∈i3,∃(i:Int)(t:Tok),v=.int i t/\0<=i/\i<4096
def rL(p C:Addr)(dx:Option Addr)(h:Heap):Prop:=∃o vs,h.get? p=some o/\o.cls=.ref C/\o.dict=dx/\o.data=.fields vs
def aDs(p q:Addr)(h:Heap):Prop:=∃(a b c:Int)(d e f:Tok)(n:Nat),h.get? p=some { cls:=.type "list",data:=.seq [e7 q,.int a d,.int b e,.int c f].toArray n }/\0<=a/\(c=0\/c=1)
noncomputable def kD:jN->bt
|.inl i=>.int i
|.inr x=>.str x
mutual
inductive gW(K:aI)(H:Hp):D->V->Prop
|none:gW K H .none .non
|bool (b:Bool):gW K H (.bool b) (.bl b)
|int (i:Int):gW K H (.int i) (.int i)
|str (x:Str):gW K H (.str x) (.str x)
|list {p:Addr} {xs:List V} {ts:List D}:nB K H p xs->Reps K H ts xs->gW K H (.list ts) (.ref p)
|tuple {p:Addr} {xs:List V} {ts:List D}:qG K H p xs->Reps K H ts xs->gW K H (.tuple ts) (.ref p)
|wild {p:Addr}:H p=some (.ext (aE3 p))->gW K H (.dict []) (.ref p)
|exc {p C:Addr}:XOk K C->H p=some (.ext (rL p C Option.none))->gW K H (.dict [(.int (C:Nat),.none)]) (.ref p)
|excA {p C dx:Addr} {n:Int}:XOk K C->H p=some (.ext (rL p C (some dx)))->H dx=some (.xd [("at",.int n)])->gW K H (.dict [(.int (C:Nat),.int n)]) (.ref p)
|excD {p C dx:Addr} {v:V} {cs:List D}:XOk K C->H p=some (.ext (rL p C (some dx)))->H dx=some (.xd [("case",v)])->gW K H (.tuple cs) v->gW K H (.dict [(.int (C:Nat),.tuple cs)]) (.ref p)
|tape {p q:Addr} {ns:List Int}:H p=some (.ext (aDs p q))->nB K H q (ns.map V.int)->gW K H (.dict [(.none,.list (ns.map aW))]) (.ref p)
|dct {p:Addr} {es:List (jN×V)} {kvs:List (D×D)}:H p=some (.dK es)->kvs.map (·.1)=es.map (λe=>kD e.1)->Reps K H (kvs.map (·.2)) (es.map (·.2))->gW K H (.dict ((.str "{}",.list [])::kvs)) (.ref p)
|addr {p:Addr} (z:List D):gW K H (.dict [(.str "@",.list (.int (p:Nat)::z))]) (.ref p)
|ins {p C dx:Addr} {fs:List (Str×V)} {ds:List D}:H p=some (.ins C dx fs)->Reps K H ds (fs.map (·.2))->gW K H (.dict [(.str "obj",.tuple [.int (C:Nat),.list ((fs.map (·.1)).map aS),.list ds])]) (.ref p)
inductive Reps(K:aI)(H:Hp):List D->List V->Prop
|nil:Reps K H [] []
|cons {t:D} {ts:List D} {x:V} {xs:List V}:gW K H t x->Reps K H ts xs->Reps K H (t::ts) (x::xs)
end
variable{K:aI}{H H' H1 H2:Hp}
def bA.seqT{a:Addr}{xs}(e:bA H H')(h:qG K H a xs):qG K H' a xs:=by
 rcases h with(h | ⟨o,h⟩) | h
 ·exact .inl (.inl (e _ _ h))
 ·exact .inl (.inr ⟨o,e _ _ h⟩)
 ·exact .inr h
def gW.same(e:bA H H'){d:D}{v:V}(r:gW K H d v):gW K H' d v:=
 gW.rec (motive_1:=λd v _=>gW K H' d v) (motive_2:=λds vs _=>Reps K H' ds vs) .none .bool .int .str (λq _ a=>.list (L2.bA.seq e q) a) (λq _ a=>.tuple (bA.seqT e q) a) (λh=>.wild (e _ _ h)) (λx h=>.exc x (e _ _ h)) (λx h g=>.excA x (e _ _ h) (e _ _ g))
  (λx h g _ a=>.excD x (e _ _ h) (e _ _ g) a) (λh g=>.tape (e _ _ h) (L2.bA.seq e g)) (λh n _ a=>.dct (e _ _ h) n a) .addr (λh _ a=>.ins (e _ _ h) a) .nil (λ_ _ a b=>.cons a b) r
theorem Reps.same(e:bA H H'){ds:List D}:∀{vs:List V},Reps K H ds vs->Reps K H' ds vs:=by
 induction ds with
 |nil=>intro vs r;cases r;exact .nil
 |cons d ds c=>
  intro vs r
  cases r with
  |cons a b=>exact .cons (a.same e) (c b)
theorem Reps.length:∀{ds:List D}{vs:List V},Reps K H ds vs->ds.length=vs.length
|_,_,.nil=>rfl
|_,_,.cons _ s=>by simp[Reps.length s]
theorem Reps.get:∀{ds vs}{i:Nat}{d},Reps K H ds vs->ds[i]?=some d->∃v,vs[i]?=some v/\gW K H d v
|_,_,_,_,.nil,e=>by simp at e
|_,_,0,_,.cons r _,e=>by simp at e;subst e;exact⟨_,rfl,r⟩
|_,_,i+1,d,.cons _ s,e=>by
 obtain⟨v,a,b⟩:=Reps.get (i:=i) (d:=d) s (by simpa using e);exact⟨v,by simpa using a,b⟩
theorem Reps.get':∀{ds vs}{i:Nat}{v},Reps K H ds vs->vs[i]?=some v->∃d,ds[i]?=some d/\gW K H d v
|_,_,_,_,.nil,e=>by simp at e
|_,_,0,_,.cons r _,e=>by simp at e;subst e;exact⟨_,rfl,r⟩
|_,_,i+1,d,.cons _ s,e=>by
 obtain⟨v,a,b⟩:=Reps.get' (i:=i) (v:=d) s (by simpa using e);exact⟨v,by simpa using a,b⟩
theorem Reps.append:∀{ds es vs us},Reps K H ds vs->Reps K H es us->Reps K H (ds++es) (vs++us)
|_,_,_,_,.nil,s=>s
|_,_,_,_,.cons r t,s=>.cons r (Reps.append t s)
theorem Reps.take:∀{ds:List D}{vs:List V}(n:Nat),Reps K H ds vs->Reps K H (ds.take n) (vs.take n)
|_,_,0,_=>.nil
|_,_,_+1,.nil=>.nil
|_,_,n+1,.cons r t=>.cons r (Reps.take n t)
theorem Reps.drop:∀{ds:List D}{vs:List V}(n:Nat),Reps K H ds vs->Reps K H (ds.drop n) (vs.drop n)
|_,_,0,r=>r
|_,_,_+1,.nil=>.nil
|_,_,n+1,.cons _ t=>Reps.drop n t
noncomputable def mask(H:Hp)(ps:List Addr):Hp:=λb=>if b∈ps then none else H b
def bG{ps}(e:bA H H'):bA (mask H ps) (mask H' ps):=λb o h=>by
 unfold mask at h |-
 by_cases hb:b∈ps
 ·rw[b8 hb]at h;cases h
 ·rw[a8 hb]at h |-;exact e b o h
def fJ{ps l6}(h:∀p∈l6,p∈ps):bA (mask H ps) (mask H l6):=λb o e=>by
 unfold mask at e |-
 by_cases hb:b∈ps
 ·rw[b8 hb]at e;cases e
 ·rw[a8 hb]at e;rw[a8 λz=>hb (h b z)];exact e
def bU{ps}:bA (mask H ps) H:=λb o e=>by
 unfold mask at e;by_cases hb:b∈ps
 ·rw[b8 hb]at e;cases e
 ·rw[a8 hb]at e;exact e
def lG{ps}{p:Addr}{o}(h:H p=none):mask (fS H p o) (p::ps)=mask H ps:=by
 funext b;unfold mask;by_cases hb:b=p
 ·subst hb;rw[b8 (aO ..),h];by_cases z:b∈ps<;>simp[z]
 ·rw[bZ hb];by_cases z:b∈ps
  ·rw[b8 (aJ _ z),b8 z]
  ·rw[a8 (λq=>(aP.mp q).elim hb z),a8 z]
def eQ{ps}{p:Addr}{o}(h:p∈ps):mask (fS H p o) ps=mask H ps:=by
 funext b;unfold mask;by_cases hb:b=p
 ·subst hb;rw[b8 h,b8 h]
 ·rw[bZ hb]
def dH{p:Addr}{o}(h:H p=none):bA H (fS H p o):=λb u q=>by rw[bZ (eP q h)];exact q
def kI{ps}{p:Addr}{o}(h:p∉ps)(e:H p=some o):mask H ps p=some o:=by
 unfold mask;rw[a8 h];exact e
noncomputable def U5:HO->Bool
|.tup _=>true
|.frz _ (.tup _)=>true
|_=>false
def yQ(u:Option HO):Prop:=∃v,u=some v/\U5 v=false
def yQ.ne{u}(h:yQ u):u≠none:=λz=>by obtain⟨v,e,_⟩:=h;rw[z]at e;cases e
theorem yQ.lst{xs}:yQ (some (.lst xs)):=⟨_,rfl,rfl⟩
def hU{ps:List Addr}{p:Addr}(live:∀q∈ps,yQ (H q))(h:H p=none):p∉ps:=λz=>(live p z).ne h
inductive Sl where
|un | val (d:D) | own (ts:List D) | dic (hs:List Int) (kvs:List (D×D))
def qH(K:aI)(B:Hp)(p0:List Addr)(H:Hp)(ps:List Addr)(σT:List Sl)(σ:L2.St):Prop:=∀(i:Nat)(hs:List Int)(kvs:List (D×D)),σT[i]?=some (.dic hs kvs) ->
 (∃(p:Addr)(es:List (jN×V)),σ[i]?=some (some (.ref p))/\p∈ps/\B p=none/\p∉p0/\H p=some (.dK es)/\hs=[]/\kvs.map (·.1)=es.map (λe=>kD e.1)/\Reps K (mask H ps) (kvs.map (·.2)) (es.map (·.2))) /\
 ∀(j:Nat)(a:List Int)(b:List (D×D)),σT[j]?=some (.dic a b)->i=j
def qH.to{B b:Hp}{p0 p0' ps l6 σT h9 σ d8}(o:qH K B p0 H ps σT σ)(c:∀(i:Nat)(hs:List Int)(kvs:List (D×D)),h9[i]?=some (.dic hs kvs)->σT[i]?=some (.dic hs kvs)/\d8[i]?=σ[i]?)
  (x:∀(p:Addr)(φ:List (jN×V)),p∈ps->H p=some (.dK φ)->p∉p0->p∈l6/\H' p=H p) (v:∀(p:Addr)(φ:List (jN×V)),p∈ps->H p=some (.dK φ)->B p=none->p∉p0->b p=none/\p∉p0') (hm:bA (mask H ps) (mask H' l6)):qH K b p0' H' l6 h9 d8:=λi hs kvs h=>by
 obtain⟨s,t⟩:=c i hs kvs h;obtain⟨⟨p,es,f,a2,g,a4,a,k,l,m⟩,u⟩:=o i hs kvs s;obtain⟨n,q⟩:=x p _ a2 a a4;obtain⟨c1,r⟩:=v p _ a2 a g a4;exact⟨⟨p,es,t.trans f,n,c1,r,q.trans a,k,l,m.same hm⟩,λj d e w=>u j d e (c j d e w).1⟩
def uX{σT:List Sl}{i j:Nat}{s hs kvs}(hn:∀hs kvs,s≠.dic hs kvs)(h:(σT.set i s)[j]?=some (.dic hs kvs)):i≠j/\σT[j]?=some (.dic hs kvs):=by
 by_cases e:i=j
 ·subst e;have hi:i<σT.length:=by simpa using(aF.mp h).1
  rw[aR hi]at h;exact c7 (d7 h) (hn hs kvs)
 ·rw[aQ e]at h;exact⟨e,h⟩
def qH.setS{B p0 ps}{σT:List Sl}{σ:L2.St}(o:qH K B p0 H ps σT σ){i:Nat}{s v}(hn:∀hs kvs,s≠.dic hs kvs):qH K B p0 H ps (σT.set i s) (σ.set i v):=
 o.to (λj hs kvs h=>let ⟨e,h'⟩:=uX hn h;⟨h',aQ e⟩) (λp φ a b _=>⟨a,rfl⟩) (λp φ _ _ a b=>⟨a,b⟩) (L2.bA.refl _)
def qH.setT{B p0 ps}{σT:List Sl}{σ}(o:qH K B p0 H ps σT σ){i:Nat}{s}(hn:∀hs kvs,s≠.dic hs kvs):qH K B p0 H ps (σT.set i s) σ:=
 o.to (λj hs kvs h=>⟨(uX hn h).2,rfl⟩) (λp φ a b _=>⟨a,rfl⟩) (λp φ _ _ a b=>⟨a,b⟩) (L2.bA.refl _)
def qH.grow{B p0 ps σT σ}(o:qH K B p0 H ps σT σ)(e:bA H H'):qH K B p0 H' ps σT σ:=
 o.to (λj hs kvs h=>⟨h,rfl⟩) (λp φ a b _=>⟨a,(e p _ b).trans b.symm⟩) (λp φ _ _ a b=>⟨a,b⟩) (bG e)
structure Ok(K:aI)(B:Hp)(p0:List Addr)(H:Hp)(ps:List Addr)(σT:List Sl)(σ:L2.St):Prop where
 base:bA B H
 sub:∀p∈p0,p∈ps
 live:∀p∈ps,yQ (H p)
 len:σT.length=σ.length
 val:∀(i:Nat)(d:D),σT[i]?=some (.val d)->∃v,σ[i]?=some (some v)/\gW K (mask H ps) d v
 own:∀(i:Nat)(ts:List D),σT[i]?=some (.own ts)->∃p xs,σ[i]?=some (some (.ref p))/\p∈ps/\B p=none/\p∉p0/\H p=some (.lst xs)/\Reps K (mask H ps) ts xs
 dis:∀(i j:Nat)(ts us:List D)(p:Addr),σT[i]?=some (.own ts)->σT[j]?=some (.own us)->σ[i]?=some (some (.ref p))->σ[j]?=some (some (.ref p))->i=j
 dc:qH K B p0 H ps σT σ
variable{B:Hp}{p0 ps:List Addr}{σT:List Sl}{σ:L2.St}
theorem Ok.grow(o:Ok K B p0 H ps σT σ)(e:bA H H'):Ok K B p0 H' ps σT σ where
 base:=o.base.trans e
 sub:=o.sub
 live:=λp a=>let ⟨u,h1,h2⟩:=o.live p a;⟨u,e p u h1,h2⟩
 len:=o.len
 val:=λi d h=>let ⟨v,h1,h2⟩:=o.val i d h;⟨v,h1,h2.same (bG e)⟩
 own:=λi ts h=>let ⟨p,xs,h1,h2,h3,h4,h5,h6⟩:=o.own i ts h;⟨p,xs,h1,h2,h3,h4,e _ _ h5,h6.same (bG e)⟩
 dis:=o.dis
 dc:=o.dc.grow e
theorem Ok.set(o:Ok K B p0 H ps σT σ){i:Nat}{d v}(r:gW K (mask H ps) d v):Ok K B p0 H ps (σT.set i (.val d)) (σ.set i (some v)) where
 base:=o.base
 sub:=o.sub
 live:=o.live
 len:=by simpa using o.len
 val:=λj d' h=>by
  by_cases e:i=j
  ·subst e
   have hi:i<σT.length:=by
    have:=(aF.mp h).1;simpa using this
   rw[aR hi]at h;cases h;exact⟨v,by rw[aR (by rw[<- o.len];exact hi)],r⟩
  ·rw[aQ e]at h |-
   exact o.val j d' h
 own:=λj ts h=>by
  by_cases e:i=j
  ·subst e
   have hi:i<σT.length:=by
    have:=(aF.mp h).1;simpa using this
   rw[aR hi]at h;cases h
  ·rw[aQ e]at h |-
   exact o.own j ts h
 dis:=λj k ts us p a b c f=>by
  have ne:∀{l:Nat}{ts:List D},(σT.set i (.val d))[l]?=some (.own ts)->i≠l:=λ{l ts} h e=>by
   subst e
   have hi:i<σT.length:=by
    have:=(aF.mp h).1;simpa using this
   rw[aR hi]at h;cases h
  have g:=ne a;have m:=ne b;rw[aQ g]at a c;rw[aQ m]at b f;exact o.dis j k ts us p a b c f
 dc:=o.dc.setS λ_ _ z=>nomatch z
def Ok.setOwn(o:Ok K B p0 H ps σT σ){i:Nat}{ts:List D}{xs:List V}{p:Addr}(t:H p=none)(r:Reps K (mask H ps) ts xs):Ok K B p0 (fS H p (.lst xs)) (p::ps) (σT.set i (.own ts)) (σ.set i (some (.ref p))):=by
 have hm:mask (fS H p (.lst xs)) (p::ps)=mask H ps:=lG t;have x:p∉ps:=hU o.live t
 have hn:∀{l:Nat}{us:List D},i≠l->σT[l]?=some (.own us)->σ[l]?≠some (some (.ref p)):=λ{l us} _ h z=>by
  obtain⟨q,_,c,f,_⟩:=o.own l us h;rw[z]at c;cases c;exact x f
 refine⟨o.base.trans (dH t),λq y=>aJ _ (o.sub q y),λq y=>?_,by simpa using o.len,λj d h=>?_,λj us h=>?_,λj k us E q c f g m=>?_,?_⟩
 ·by_cases e:q=p
  ·subst e;rw[cE];exact .lst
  ·rw[bZ e];rcases aP.mp y with z | z
   ·exact c7 z e
   ·exact o.live q z
 ·rw[hm];by_cases e:i=j
  ·subst e;have hi:i<σT.length:=by simpa using(aF.mp h).1
   rw[aR hi]at h;cases h
  ·rw[aQ e]at h |-
   exact o.val j d h
 ·rw[hm];by_cases e:i=j
  ·subst e;have hi:i<σT.length:=by simpa using(aF.mp h).1
   rw[aR hi]at h;cases h;refine⟨p,xs,by rw[aR (by rw[<- o.len];exact hi)],aO ..,?_,λz=>x (o.sub p z),cE,r⟩
   cases q:B p with
   |none=>rfl
   |some u=>rw[o.base p u q]at t;cases t
  ·rw[aQ e]at h |-
   obtain⟨q,ys,c,f,g,m,A,C⟩:=o.own j us h;refine⟨q,ys,c,aJ _ f,g,m,?_,C⟩;rw[bZ (λz:q=p=>x (z▸f))];exact A
 ·by_cases w:i=j
  ·by_cases n:i=k
   ·exact w.symm.trans n
   ·subst w;have hi:i<σT.length:=by simpa using(aF.mp c).1
    rw[aR (by rw[<- o.len];exact hi)]at g;cases g;rw[aQ n]at f m;exact c7 m (hn n f)
  ·by_cases n:i=k
   ·subst n;have hi:i<σT.length:=by simpa using(aF.mp f).1
    rw[aR (by rw[<- o.len];exact hi)]at m;cases m;rw[aQ w]at c g;exact c7 g (hn w c)
   ·rw[aQ w]at c g;rw[aQ n]at f m;exact o.dis j k us E q c f g m
 ·exact(o.dc.setS (i:=i) (s:=.own ts) (v:=some (.ref p)) λ_ _ z=>nomatch z).to (λj hs kvs h=>⟨h,rfl⟩) (λq φ a b _=>⟨aJ _ a,bZ λz=>by rw[z,t]at b;cases b⟩) (λq φ _ _ a b=>⟨a,b⟩) (by rw[hm];exact L2.bA.refl _)
def Ok.write(o:Ok K B p0 H ps σT σ){i:Nat}{ts us ys}{p:Addr}(hi:σT[i]?=some (.own ts))(f:σ[i]?=some (some (.ref p)))(r:Reps K (mask H ps) us ys) :
  Ok K B p0 (fS H p (.lst ys)) ps (σT.set i (.own us)) σ:=by
 obtain⟨q,I,t,v,w,A,C,G⟩:=o.own i ts hi;rw[f]at t;cases t;have hm:mask (fS H p (.lst ys)) ps=mask H ps:=eQ v;have x:i<σT.length:=(aF.mp hi).1;refine⟨λb u e=>?_,o.sub,λq E=>?_,by simpa using o.len,λj d h=>?_,λj m h=>?_,λj k vs m q k1 k2 k3 g=>?_,?_⟩
 ·have ne:b≠p:=λz=>by rw[z,w]at e;cases e
  rw[bZ ne];exact o.base b u e
 ·by_cases e:q=p
  ·subst e;rw[cE];exact .lst
  ·rw[bZ e];exact o.live q E
 ·rw[hm];by_cases e:i=j
  ·subst e;rw[aR x]at h;cases h
  ·rw[aQ e]at h;exact o.val j d h
 ·rw[hm];by_cases e:i=j
  ·subst e;rw[aR x]at h;cases h;exact⟨p,ys,f,v,w,A,cE,r⟩
  ·rw[aQ e]at h;obtain⟨q,vs,k1,k2,k3,g,k5,F⟩:=o.own j m h;refine⟨q,vs,k1,k2,k3,g,?_,F⟩;rw[bZ (λz:q=p=>e (o.dis i j ts m p hi h f (z▸k1)))];exact k5
 ·have n:∀{l:Nat}{vs:List D},(σT.set i (.own us))[l]?=some (.own vs)->∃c,σT[l]?=some (.own c):=λ{l vs} h=>by
   by_cases e:i=l
   ·subst e;exact⟨ts,hi⟩
   ·rw[aQ e]at h;exact⟨vs,h⟩
  obtain⟨c,k1⟩:=n k1;obtain⟨y,k2⟩:=n k2;exact o.dis j k c y q k1 k2 k3 g
 ·exact(o.dc.setT (i:=i) (s:=.own us) λ_ _ z=>nomatch z).to (λj hs kvs h=>⟨h,rfl⟩) (λq φ a b _=>⟨a,bZ λz=>by rw[z,C]at b;cases b⟩) (λq φ _ _ a b=>⟨a,b⟩) (by rw[hm];exact L2.bA.refl _)
def Ok.share(o:Ok K B p0 H ps σT σ){i:Nat}{ts}(hi:σT[i]?=some (.own ts)):∃l6,Ok K B p0 H l6 (σT.set i (.val (.list ts))) σ/\bA (mask H ps) (mask H l6):=by
 obtain⟨p,xs,r,C,E,w,t,x⟩:=o.own i ts hi;have m:i<σT.length:=(aF.mp hi).1;have f:bA (mask H ps) (mask H (ps.filter λq=>decide (q≠p))):=fJ λq c=>(cC.mp c).1;have u:p∉ps.filter λq=>decide (q≠p):=λz=>(c8 (cC.mp z).2) rfl;refine⟨ps.filter λq=>decide (q≠p),⟨o.base,λq c=>cC.mpr ⟨o.sub q c,c6 λz=>w (z▸c)⟩,λq c=>o.live q (cC.mp c).1,by simpa using o.len,λj d h=>?_,λj us h=>?_,λj k us A q k1 k2 k3 g=>?_,?_⟩,f⟩
 ·by_cases e:i=j
  ·subst e;rw[aR m]at h;cases h;exact⟨_,r,.list (nB.of (kI u t)) (x.same f)⟩
  ·rw[aQ e]at h;obtain⟨v,k1,k2⟩:=o.val j d h;exact⟨v,k1,k2.same f⟩
 ·by_cases e:i=j
  ·subst e;rw[aR m]at h;cases h
  ·rw[aQ e]at h;obtain⟨q,ys,k1,k2,k3,g,k5,y⟩:=o.own j us h;exact⟨q,ys,k1,cC.mpr ⟨k2,c6 λz=>e (o.dis i j ts us p hi h r (z▸k1))⟩,k3,g,k5,y.same f⟩
 ·have n:∀{l:Nat}{vs:List D},(σT.set i (.val (.list ts)))[l]?=some (.own vs)->σT[l]?=some (.own vs):=λ{l vs} h=>by
   by_cases e:i=l
   ·subst e;rw[aR m]at h;cases h
   ·rw[aQ e]at h;exact h
  exact o.dis j k us A q (n k1) (n k2) k3 g
 ·exact(o.dc.setT (i:=i) (s:=.val (.list ts)) λ_ _ z=>nomatch z).to (λj hs kvs h=>⟨h,rfl⟩) (λq φ a b _=>⟨cC.mpr ⟨a,c6 λz=>by rw[z,t]at b;cases b⟩,rfl⟩) (λq φ _ _ a b=>⟨a,b⟩) f
abbrev ET:=List Sl->(D->Prop)->Prop
abbrev vD:=List Sl->(Bool->Prop)->Prop
abbrev AT:=List Sl->(List D->Prop)->Prop
def fY(X:Cx)(e:Expr)(t:ET):Prop:=∃te:TE,PE X e te/\∀B p0 H ps σT σ (Q:D->Prop)(a:VK),Ok X.K B p0 H ps σT σ->t σT Q ->
 (∀d v H',bA H H'->gW X.K (mask H' ps) d v->Q d->a v H')->te σ H a
def C5(X:Cx)(e:Expr)(t:vD):Prop:=∃tt:TT,PT X e tt/\∀B p0 H ps σT σ (Q:Bool->Prop)(a:Bool->Hp->Prop),Ok X.K B p0 H ps σT σ->t σT Q ->
 (∀b H',bA H H'->Q b->a b H')->tt σ H a
def PWt(X:Cx)(e:Expr)(t:vD):Prop:=∃tt:TT,PW X e tt/\∀B p0 H ps σT σ (Q:Bool->Prop)(a:Bool->Hp->Prop),Ok X.K B p0 H ps σT σ->t σT Q ->
 (∀b H',bA H H'->Q b->a b H')->tt σ H a
def wQ(X:Cx)(es:List Expr)(t:AT):Prop:=∃b:TA,PA X es b/\∀B p0 H ps σT σ (Q:List D->Prop)(a:List V->Hp->Prop),Ok X.K B p0 H ps σT σ->t σT Q ->
 (∀ds vs H',bA H H'->Reps X.K (mask H' ps) ds vs->Q ds->a vs H')->b σ H a
structure zQ where
 nx:List Sl->Prop
 rt:D->Prop
 bk:List Sl->Prop:=λ_=>False
 ct:List Sl->Prop:=λ_=>False
 ro:List D->Prop:=λ_=>False
 rp:List D->List D->Prop:=λ_ _=>False
 rq:D->List D->Prop:=λ_ _=>False
 xB:Hp->Prop:=λ_=>True
abbrev vE:=zQ->List Sl->Prop
structure JZ(K:aI)(B:Hp)(p0:List Addr)(H:Hp)(ps:List Addr)(DT:zQ)(DV:AJ):Prop where
 nx:∀H' l6 h9 d8,Ok K B p0 H' l6 h9 d8->bA (mask H ps) (mask H' l6)->DT.nx h9->DV.nx d8 H'
 bk:∀H' l6 h9 d8,Ok K B p0 H' l6 h9 d8->bA (mask H ps) (mask H' l6)->DT.bk h9->DV.bk d8 H'
 ct:∀H' l6 h9 d8,Ok K B p0 H' l6 h9 d8->bA (mask H ps) (mask H' l6)->DT.ct h9->DV.ct d8 H'
 rt:∀d v H',bA B H'->gW K (mask H' p0) d v->DT.rt d->DV.rt v H'
 ro:∀ts p xs H',bA B H'->B p=none->p∉p0->H' p=some (.lst xs)->Reps K (mask H' (p::p0)) ts xs->DT.ro ts->DV.rt (.ref p) H'
 rp:∀as bs r p q xs ys H',bA B H'->B r=none->B p=none->B q=none->p≠q->H' r=some (.tup [.ref p,.ref q])->H' p=some (.lst xs)->H' q=some (.lst ys)->Reps K (mask H' (p::q::p0)) as xs->Reps K (mask H' (p::q::p0)) bs ys->DT.rp as bs->DV.rt (.ref r) H'
 rq:∀a ts r p x xs H',bA B H'->B r=none->B p=none->H' r=some (.tup [x,.ref p])->H' p=some (.lst xs)->gW K (mask H' (p::p0)) a x->Reps K (mask H' (p::p0)) ts xs->DT.rq a ts->DV.rt (.ref r) H'
 xb:DT.xB B
def JZ.later{DT DV l6}(f:JZ K B p0 H ps DT DV)(e:bA (mask H ps) (mask H' l6)):JZ K B p0 H' l6 DT DV:=
 ⟨λ_ _ _ _ o s q=>f.nx _ _ _ _ o (e.trans s) q,λ_ _ _ _ o s q=>f.bk _ _ _ _ o (e.trans s) q,λ_ _ _ _ o s q=>f.ct _ _ _ _ o (e.trans s) q,f.rt,f.ro,f.rp,f.rq,f.xb⟩
def A8(X:Cx)(st:Stmt)(t:vE):Prop:=∃ts:TS,PS X st ts/\∀B p0 H ps σT σ (DT:zQ)(DV:AJ),Ok X.K B p0 H ps σT σ->t DT σT->JZ X.K B p0 H ps DT DV->ts DV σ H
def sV(X:Cx)(st:List Stmt)(t:vE):Prop:=∃ts:TS,AG X st ts/\∀B p0 H ps σT σ (DT:zQ)(DV:AJ),Ok X.K B p0 H ps σT σ->t DT σT->JZ X.K B p0 H ps DT DV->ts DV σ H
def zO(X:Cx)(r:R2)(f:D->D->(D->Prop)->Prop):Prop:=∀H ps(a b:D)(x y:V)(Q:D->Prop)QV,(∀p∈ps,yQ (H p))->gW X.K (mask H ps) a x->gW X.K (mask H ps) b y->f a b Q ->
 (∀d v H',bA H H'->gW X.K (mask H' ps) d v->Q d->QV v H')->r x y H QV
def pQ(X:Cx)(r:List V->Hp->VK->Prop)(f:List D->(D->Prop)->Prop):Prop:=∀H ps(ds:List D)(xs:List V)(Q:D->Prop)QV,(∀p∈ps,yQ (H p))->Reps X.K (mask H ps) ds xs->f ds Q ->
 (∀d v H',bA H H'->gW X.K (mask H' ps) d v->Q d->QV v H')->r xs H QV
section
variable{X:Cx}{a b e:Expr}{es:List Expr}{ta tb te:ET}{pos:Pos}
inductive WQ(σ:List Sl)(i:Nat)(Q:D->Prop):Prop
|mk (d:D) (h:σ[i]?=some (.val d)) (k:Q d):WQ σ i Q
def QI{σ}{i:Nat}{Q:D->Prop}:WQ σ i Q↔∃d,σ[i]?=some (.val d)/\Q d:=⟨λ⟨d,h,k⟩=>⟨d,h,k⟩,λ⟨d,h,k⟩=>⟨d,h,k⟩⟩
def rN(i:Nat):ET:=λσ Q=>WQ σ i Q
def eC(d:D):ET:=λ_ Q=>Q d
def aH(i:Nat){x:Str}{pos}(g:X.N[i]?=some x:=by rfl)(j:Vis X.env.scope x:=by first | exact y9 rfl | exact v8 (y9 rfl) | exact v8 (v8 rfl))(hd:(x==("__debug__":Str))=false:=by decide)
  (f:(x==("__classdict__":Str))=false:=by decide):fY X (.Name x pos) (rN i):=
 ⟨_,TJ g j hd f,λB p0 H ps σT σ Q l o h k=>by
  obtain⟨d,e,q⟩:=h;obtain⟨v,c,r⟩:=o.val i d e;exact⟨v,c,k d v H (L2.bA.refl H) r q⟩⟩
def aK{i j pos}:fY X (.Constant (.int i) j pos) (eC (.int i)):=⟨_,yE,λ_ _ H _ _ _ _ _ _ h k=>k _ _ H (L2.bA.refl H) (.int i) h⟩
def tY{b j pos}:fY X (.Constant (.bool b) j pos) (eC (.bool b)):=⟨_,aKh,λ_ _ H _ _ _ _ _ _ h k=>k _ _ H (L2.bA.refl H) (.bool b) h⟩
def kQ{j pos}:fY X (.Constant .none j pos) (eC .none):=⟨_,aEq,λ_ _ H _ _ _ _ _ _ h k=>k _ _ H (L2.bA.refl H) .none h⟩
def eA{x j pos}:fY X (.Constant (.str x) j pos) (eC (.str x)):=⟨_,aEo,λ_ _ H _ _ _ _ _ _ h k=>k _ _ H (L2.bA.refl H) (.str x) h⟩
def aAj{x:Str}{i:Int}{t pos}(c:Gl X x)(hm:X.mg x=some (.int i t))(hd:(x==("__debug__":Str))=false:=by decide):fY X (.Name x pos) (eC (.int i)):=⟨_,uP (v:=.int i) c hm ⟨t,rfl⟩ hd,λ_ _ H _ _ _ _ _ _ h k=>k _ _ H (L2.bA.refl H) (.int i) h⟩
def P1(f:D->D->(D->Prop)->Prop)(ta tb:ET):ET:=λσ Q=>ta σ λx=>tb σ λy=>f x y Q
def AX{r}{f:D->D->(D->Prop)->Prop}(m:zO X r f){g i:TE}
  (ha:∀B p0 H ps σT σ (Q:D->Prop)(c:VK),Ok X.K B p0 H ps σT σ->ta σT Q->(∀d v H',bA H H'->gW X.K (mask H' ps) d v->Q d->c v H')->g σ H c)
  (hb:∀B p0 H ps σT σ (Q:D->Prop)(c:VK),Ok X.K B p0 H ps σT σ->tb σT Q->(∀d v H',bA H H'->gW X.K (mask H' ps) d v->Q d->c v H')->i σ H c)
  (B:Hp) (p0:List Addr) (H:Hp) (ps:List Addr) (σT:List Sl) (σ:L2.St) (Q:D->Prop) (c:VK) (o:Ok X.K B p0 H ps σT σ) (h:P1 f ta tb σT Q) (k:∀d v H',bA H H'->gW X.K (mask H' ps) d v->Q d->c v H'):tOp r g i σ H c:=by
 refine ha B p0 H ps σT σ _ _ o h λj x H1 s1 t p=>?_;refine hb B p0 H1 ps σT σ _ _ (o.grow s1) p λl y H2 s2 u q=>?_;exact m H2 ps j l x y Q c ((o.grow s1).grow s2).live (t.same (bG s2)) u q λd v H' s' s n=>k d v H' (s1.trans (s2.trans s')) s n
def cA{op r}{f:D->D->(D->Prop)->Prop}(d:oG X (o9 op) r)(c:zO X r f)(ha:fY X a ta)(hb:fY X b tb):fY X (.BinOp a op b pos) (P1 f ta tb):=by
 obtain⟨j,g,h⟩:=ha;obtain⟨k,pb,i⟩:=hb;exact⟨_,IC d g pb,AX c h i⟩
def nN{op r}{f:D->D->(D->Prop)->Prop}(d:oG X (g8 op) r)(c:zO X r f)(ha:fY X a ta)(hb:fY X b tb)(hm:k8 op b=false:=by first | exact B5 _ | rfl):fY X (.Compare a [op] [b] pos) (P1 f ta tb):=by
 obtain⟨j,g,h⟩:=ha;obtain⟨k,pb,i⟩:=hb;exact⟨_,M4 d g pb hm,AX c h i⟩
def bJ{r}{f:D->D->(D->Prop)->Prop}(d:W9 X r)(c:zO X r f)(ha:fY X a ta)(hb:fY X b tb)(hs:N5 b:=by intro _ _;rfl):fY X (.Subscript a b pos) (P1 f ta tb):=by
 obtain⟨j,g,h⟩:=ha;obtain⟨k,pb,i⟩:=hb;exact⟨_,ID d g pb hs,AX c h i⟩
def aL5(ta:ET):ET:=λσ Q=>ta σ λx=>match x with | .int i=>Q (.int (-i)) | _=>False
def aFw(ha:fY X a ta):fY X (.UnaryOp .USub a pos) (aL5 ta):=by
 obtain⟨m,f,j⟩:=ha;refine⟨_,aKf aDi f,λB p0 H ps σT σ Q l o h k=>j B p0 H ps σT σ _ _ o h λd x H1 s1 g c=>?_⟩
 cases g with
 |int i=>exact⟨i,rfl,k _ _ H1 s1 (.int _) c⟩
 |_=>exact c.elim
def G2:AT:=λ_ Q=>Q []
def sS(t:ET)(r:AT):AT:=λσ Q=>t σ λx=>r σ λxs=>Q (x::xs)
def aM:wQ X [] G2:=⟨_,jX,λ_ _ H _ _ _ _ _ _ h k=>k _ _ H (L2.bA.refl H) .nil h⟩
def aA{tr}(ha:fY X e te)(c:wQ X es tr)(hs:bI (e::es) X.env=(false,eval e X.env)::bI es X.env:=by rfl):wQ X (e::es) (sS te tr):=by
 obtain⟨r,f,n⟩:=ha;obtain⟨s,g,p⟩:=c;refine⟨_,fP f g hs,λB p0 H ps σT σ Q q o h k=>n B p0 H ps σT σ _ _ o h λd x H1 s1 l i=>?_⟩;refine p B p0 H1 ps σT σ _ _ (o.grow s1) i λds xs H2 s2 m j=>?_;exact k _ _ H2 (s1.trans s2) (.cons (l.same (bG s2)) m) j
def aF0(t:AT):ET:=λσ Q=>t σ λds=>ds.length<=1000/\Q (.tuple ds)
def aF2(t:AT):ET:=λσ Q=>t σ λds=>ds.length<=1000/\Q (.list ds)
def uO{ps:List Addr}{p:Addr}{ds:List D}{xs:List V}(live:∀q∈ps,yQ (H q))(c:H p=none)(r:Reps K (mask H ps) ds xs):gW K (mask (fS H p (.tup xs)) ps) (.tuple ds) (.ref p):=
 .tuple (qG.of (kI (hU live c) cE)) (r.same (bG (dH c)))
def rY{ps:List Addr}{p:Addr}{ds:List D}{xs:List V}(live:∀q∈ps,yQ (H q))(c:H p=none)(r:Reps K (mask H ps) ds xs):gW K (mask (fS H p (.lst xs)) ps) (.list ds) (.ref p):=
 .list (nB.of (kI (hU live c) cE)) (r.same (bG (dH c)))
def uT{n:Nat}(h:n<=1000):n<=bE:=iE (OU h)
def eR{x1 t}(h:wQ X es t):fY X (.Tuple es x1 pos) (aF0 t):=by
 obtain⟨v,p,r⟩:=h;refine⟨_,K3 p,λB p0 H ps σT σ Q g o h k=>r B p0 H ps σT σ _ _ o h λds xs H1 s1 f d=>⟨uT (by rw[<- f.length];exact d.1),λq c=>?_⟩⟩;exact k _ _ _ (s1.trans (dH c)) (uO (o.grow s1).live c f) d.2
def oU{t}(h:wQ X es t):fY X (.List es pos) (aF2 t):=by
 obtain⟨v,p,r⟩:=h;refine⟨_,F4 p,λB p0 H ps σT σ Q g o h k=>r B p0 H ps σT σ _ _ o h λds xs H1 s1 f d=>⟨uT (by rw[<- f.length];exact d.1),λq c=>?_⟩⟩;exact k _ _ _ (s1.trans (dH c)) (rY (o.grow s1).live c f) d.2
def pO(f:List D->(D->Prop)->Prop)(t:AT):ET:=λσ Q=>t σ λds=>f ds Q
abbrev oX:=List D->(D->Prop)->Prop
def dB(K:aI)(sp:oX):Sp:=λvs H Q _=>∃(ps:List Addr)(ds:List D)(c:D->Prop),(∀p∈ps,yQ (H p))/\Reps K (mask H ps) ds vs/\sp ds c/\∀d v H',bA H H'->gW K (mask H' ps) d v->c d->Q v H'
def aAk{k:Nat}{f:Addr}{fd pn sp x p t}(F:dP X.prog X.w X.K X.mg X.base iL k f fd pn (dB X.K sp))(hm:X.mg x=some (.ref f))(hk:gD X.K (.ref f)=true)(hb:pS X.K fd pn [])
  (q:gR k X.A) (ha:wQ X (e::es) t) (pc:∀{ta},PA X (e::es) ta->PE X (.Call (.Name x p) (e::es) [] pos) (yV (dB X.K sp) [] E0 ta)):fY X (.Call (.Name x p) (e::es) [] pos) (pO sp t):=by
 obtain⟨v,g,n⟩:=ha;refine⟨_,pc g,λB p0 H ps σT σ Q c o h k=>n B p0 H ps σT σ _ _ o h λds xs H1 s1 m j=>?_⟩;show dB X.K sp (xs++[]) H1 c E0;rw[cJ];exact⟨ps,ds,Q,(o.grow s1).live,m,j,λd v H' s' l i=>k d v H' (s1.trans s') l i⟩
def JR(t:ET):vD:=λσ Q=>t σ λx=>match x with | .bool b=>Q b | _=>False
def aDl(h:fY X e te)(pt:∀{t},PE X e t->PT X e (tB t)):C5 X e (JR te):=by
 obtain⟨v,p,r⟩:=h;refine⟨_,pt p,λB p0 H ps σT σ Q i o h k=>r B p0 H ps σT σ _ _ o h λd x H1 s1 g f=>?_⟩
 cases g with
 |bool c=>exact⟨c,rfl,k c H1 s1 f⟩
 |_=>exact f.elim
def dZ{op r}{f:D->D->(D->Prop)->Prop}(j:oG X (g8 op) r)(i:zO X r f)(ha:fY X a ta)(hb:fY X b tb)(hm:k8 op b=false:=by first | exact B5 _ | rfl):C5 X (.Compare a [op] [b] pos) (JR (P1 f ta tb)):=by
 obtain⟨s,l,n⟩:=ha;obtain⟨t,pb,p⟩:=hb;refine⟨_,MZ j l pb hm,λB p0 H ps σT σ Q q o h k=>?_⟩;refine AX i n p B p0 H ps σT σ (λx=>match x with | .bool b=>Q b | _=>False) _ o h λd v H' s' m g=>?_
 cases m with
 |bool c=>exact⟨c,rfl,k c H' s' g⟩
 |_=>exact g.elim
def aMf(t:vD):vD:=λσ Q=>t σ λb=>Q (!b)
def aMg(t u:vD):vD:=λσ Q=>t σ λb=>if b=true then u σ Q else Q false
def cOr(t u:vD):vD:=λσ Q=>t σ λb=>if b=true then Q true else u σ Q
variable{tA uo:vD}{jW:List Expr}
def xY(h:C5 X a tA):C5 X (.UnaryOp .Not a pos) (aMf tA):=by
 obtain⟨v,p,r⟩:=h;exact⟨_,S5 p,λB p0 H ps σT σ Q d o h k=>r B p0 H ps σT σ _ _ o h λb H' s' c=>k _ H' s' c⟩
def vM(h:PWt X e tA):C5 X e tA:=by
 obtain⟨v,p,r⟩:=h;exact⟨_,p.pt,r⟩
def uJ(h:C5 X a tA):PWt X (.BoolOp .And [a] pos) tA:=by
 obtain⟨v,p,r⟩:=h;exact⟨_,YX p,r⟩
def FR(h:C5 X a tA):PWt X (.BoolOp .Or [a] pos) tA:=by
 obtain⟨v,p,r⟩:=h;exact⟨_,S0 p,r⟩
def xX(ha:C5 X a tA)(hb:PWt X (.BoolOp .And (b::jW) pos) uo):PWt X (.BoolOp .And (a::b::jW) pos) (aMg tA uo):=by
 obtain⟨m,f,i⟩:=ha;obtain⟨n,pb,j⟩:=hb;refine⟨_,aEi f pb,λB p0 H ps σT σ Q l o h k=>i B p0 H ps σT σ _ _ o h λc H1 s1 d=>?_⟩
 cases c with
 |true=>exact j B p0 H1 ps σT σ Q _ (o.grow s1) d λb H' s' g=>k b H' (s1.trans s') g
 |false=>exact k _ H1 s1 d
def D9(ha:C5 X a tA)(hb:PWt X (.BoolOp .Or (b::jW) pos) uo):PWt X (.BoolOp .Or (a::b::jW) pos) (cOr tA uo):=by
 obtain⟨m,f,i⟩:=ha;obtain⟨n,pb,j⟩:=hb;refine⟨_,aBz f pb,λB p0 H ps σT σ Q l o h k=>i B p0 H ps σT σ _ _ o h λc H1 s1 d=>?_⟩
 cases c with
 |true=>exact k _ H1 s1 d
 |false=>exact j B p0 H1 ps σT σ Q _ (o.grow s1) d λb H' s' g=>k b H' (s1.trans s') g
def aL8(ta tb:ET):ET:=λσ Q=>ta σ λx=>match x with | .bool c=>if c=true then tb σ Q else Q (.bool false) | _=>False
def eOr(ta tb:ET):ET:=λσ Q=>ta σ λx=>match x with | .bool c=>if c=true then Q (.bool true)else tb σ Q | _=>False
def LU{op}(h:fY X a ta):fY X (.BoolOp op [a] pos) ta:=by
 obtain⟨v,p,r⟩:=h;exact⟨_,aEp p,r⟩
def LV(ha:fY X a ta)(hb:fY X (.BoolOp .And (b::jW) pos) tb):fY X (.BoolOp .And (a::b::jW) pos) (aL8 ta tb):=by
 obtain⟨q,g,m⟩:=ha;obtain⟨r,pb,n⟩:=hb;refine⟨_,aEs g pb,λB p0 H ps σT σ Q p o h k=>m B p0 H ps σT σ _ _ o h λd x H1 s1 l f=>?_⟩
 cases l with
 |bool c=>
  refine⟨c,rfl,?_⟩
  cases c with
  |true=>exact n B p0 H1 ps σT σ Q _ (o.grow s1) f λd v H' s' j i=>k d v H' (s1.trans s') j i
  |false=>exact k _ _ H1 s1 (.bool false) f
 |_=>exact f.elim
def GK(f g:D->D->(D->Prop)->Prop)(ta tb d:ET):ET:=λσ Q=>ta σ λx=>tb σ λy=>f x y λz=>match z with | .bool c=>if c=true then d σ λw=>g y w Q else Q (.bool false) | _=>False
end
end TL
set_option maxHeartbeats 1000000
namespace L2
def L6{p}{a b:Int}{x}:∀(l:List Value),TriplesOk l->∀y,codeAmong p (l++[y8 a,y8 b,x])=some y->codeAmong p l=some y\/y=x:=by
 intro l h
 fun_induction TriplesOk l with
 |case1=>
  intro y e;have c:(if(a==p.line&&b==p.col)=true then some x else codeAmong p [])=some y:=e;split at c
  ·exact .inr (d7 c).symm
  ·cases c
 |case2 u t v w z r f=>
  intro y e;simp only[XG,codeAmong]at e |-
  split at e
  ·rename_i d;rw[b8 d];exact .inl e
  ·rename_i d;rw[a8 d];exact f h y e
 |case3=>exact h.elim
section
variable{X:Cx}{pins:List (Addr×Obj)}{σ:St}{H:Hp}{s:Shared}
structure Lam(X:Cx)(H:Hp)(h:Heap)(f c:Addr)(fd:iK):Prop where
 obj:h.get? f=some { cls:=.type "function",data:=.func fd }
 free:H f=none
 code:fd.code=.ref c
 trk:∃oc P,H c=some (.frz oc (.own P))/\WW oc
 nfr:f∉qO X.stack
def dI.builtinsAt(I:dI X pins σ H s){P:Addr}{qs}(e:s.heap.get? P=some { cls:=.none,data:=.fields qs }):s.heap.BuiltinsAt X.mg P/\fD≠P:=by
 obtain⟨bm,o,f,g,a,h,i,b⟩:=I.mod.bmod;have j:=I.mod.glob;obtain⟨k,es,ep,c,d,_⟩:=j;refine⟨⟨bm,o,f,g,λz=>?_,λz=>?_,I.bk _ _ a,h,i,b⟩,λz=>?_⟩
 ·rw[z,c]at a;cases a;rw[d]at b;cases b
 ·have:=I.bk _ _ a;rw[z,e]at this;cases this;cases b
 ·have:=I.bk _ _ c;rw[z,e]at this;cases this;cases d
def UY{params body}{scope:Scope}{pos}{c P:Addr}{Q:Value->Shared->Prop}{E:Value->Shared->Prop}{name qual}{i:Nat}(I:dI X pins σ H s)(hT:tabA=some P)(R:X.env.code=.ref c)(C:WZ X.base c P)(Bc:∀x∈scope.names,x.2=.free->∃c,X.env.cells.lookup x.1=some c)
  (h:∀H'(s':Shared)(f c':Addr)(cl:List (Str×Addr))(pm d:Value),dI X pins σ H' s'->(∀b u,H b=some u->H' b=some u)->Lam X H' s'.heap f c' (PySem.W.kla_fn name qual params body scope cl pm (.ref c') d)->(∀n c,cl.lookup n=some c->X.env.cells.lookup n=some c)->(∀n,(n,j1)∈scope.names->∃c,cl.lookup n=some c)->Q (.ref f) s') :
  wpAny (model X.prog X.w) X.A (makeFunction name qual params (.expr body) scope X.env [] [] [] pos i) Q E s:=by
 obtain⟨cl,O,L,T⟩:=wH Bc;obtain⟨ps,g⟩:=I.env0.tab P hT;obtain⟨qs,q,k,N⟩:=I.hok P _ g;obtain⟨hb,Sk⟩:=I.builtinsAt q;have S:=I.mod.glob.keeps I.bk;have K:=C.keeps I.bk
 have nofr:∀b,s.heap.objs.size<=b->b∉qO X.stack:=λb hb z=>by
  rcases aP.mp (I.stkSub b z)with y | y
  ·rw[y]at hb;exact c7 I.lt (HA.mpr hb)
  ·exact I.nofs hb y
 cases hm:codeAmong pos qs.toList with
 |none=>
  refine PySem.W.kla_makeFunction (mg:=X.mg) O I.ok.glob S R K q k hm Sk hb λc' d h' tk B j m Lu M=>?_;obtain⟨c2,oc,vs,t,q1,Y,Z,q4⟩:=Lu;cases q1;have l:H c'=none:=I.hok.fresh j;have nq:H h'.objs.size=none:=I.hok.fresh (aX j (iE m));have cP:c'≠P:=λz=>by rw[z,g]at l;cases l
  have kp:∀b o,b≠P->s.heap.get? b=some o->(h'.push (AN name qual params body scope cl ((X.mg "__name__").getD .none) c' d)).get? b=some o:=λb o z e=>aG _ (B b o z e);have U:∀b,H b=none->b≠P:=λb e z=>by rw[z,g]at e;cases e
  have a:∀b u,H b=some u->fS H c' (.frz oc (.own P)) b=some u:=λb u e=>by rw[bZ (eP e l)];exact e
  have un:Un X.fs [] H (fS H c' (.frz oc (.own P))) s.heap (h'.push (AN name qual params body scope cl ((X.mg "__name__").getD .none) c' d)):=
   ⟨λb o e n _ _=>kp b o (U b n) e,λb o e n _ _=>⟨o.slots,kp b o (U b n) e⟩,λb o e n _=>by rw[bZ (cI (bP (aY e) j))];exact n,λb o e _=>by
    by_cases z:b=P
    ·exact⟨_,by rw[z];exact aG _ M⟩
    ·exact⟨o,kp b o z e⟩,λb xs e=>a _ _ e,λb o u e=>a _ _ e,λb ps e=>⟨#[],by rw[a _ _ e];simp⟩⟩
  have hok:pK X.prog X.w (fS H c' (.frz oc (.own P))) (h'.push (AN name qual params body scope cl ((X.mg "__name__").getD .none) c' d)):=λb u e=>by
   by_cases z:b=c'
   ·subst z;rw[cE]at e;cases e;exact⟨aG _ Y,_,aG _ Y⟩
   ·rw[bZ z]at e;by_cases z2:b=P
    ·subst z2;rw[g]at e;cases e;refine⟨_,aG _ M,?_,λp x hp=>?_⟩
     ·rw[OG];exact TriplesOk_snoc _ _ _ _ k
     ·rw[OG]at hp;rcases L6 _ k _ hp with hp | hp
      ·obtain⟨c3,o3,F,G,J⟩:=N p x hp;exact⟨c3,o3,F,a _ _ G,J⟩
      ·exact⟨c',oc,hp,cE,vs,_,t,Z,q4⟩
    ·refine(I.hok b u e).stay (λy v hy r=>kp y v ?_ r) (λy r=>a _ _ r) (λy xs r=>a _ _ r) λy o v r=>a _ _ r;rcases hy with rfl | hy
     ·exact z2
     ·intro z3;rw[z3,g]at hy;cases hy
  refine h _ _ h'.objs.size c' cl _ d (I.un (t':=tk) un hok) a ⟨aZ _ rfl,by rw[bZ (gS m)];exact nq,rfl,⟨oc,P,cE,vs,_,t,Z,q4⟩,nofr _ (aX j (iE m))⟩ L T
 |some cv=>
  obtain⟨c',oc,F,G,J⟩:=N pos cv hm;subst F;refine PySem.W.kla_makeFunctionHit (mg:=X.mg) O I.ok.glob S R K q k hm hb λd h' tk B hsz=>?_;exact h H _ h'.objs.size c' cl _ d (I.kept (t':=tk) λb o e=>aG _ (B b o e)) (λ_ _ e=>e) ⟨aZ _ rfl,I.hok.fresh hsz,rfl,⟨oc,P,G,J⟩,nofr _ hsz⟩ L T
end
def QB{prog w}{A:g9}{R:Result->Shared->Prop}{s:Shared}{f c:Addr}{args}{fd:iK}{body oc}{binds:List (Str×Value)}(i:A.depth<fz)(g:s.heap.NoLimit)
  (C:s.heap.get? f=some { cls:=.type "function",data:=.func fd }) (p:fd.scope.isCoroutine=false) (j:fd.scope.isGenerator=false) (hb:fd.body=.expr body) (d:fd.code=.ref c) (z:s.heap.get? c=some oc) (B:WW oc)
  (H:bindArgs fd args=pure binds) (F:∀x∈fd.scope.names,x.2≠.cell) (l:∀x∈binds,fd.scope.names.lookup x.1=some .local) (hk:fd.scope.kind=.function) (k:fd.globals=fD) (n:fd.builtins=z5)
  (h:∀(q:Str)(a:Heap),a.Ns s.heap.objs.size (λy=>binds.reverse.lookup y)->(∀b o,s.heap.get? b=some o->a.get? b=some o) ->
   wpAny (model prog w) (A.deeper (sO q fd.scope s.heap.objs.size f fd.code fd.closure)) (eval body (sO q fd.scope s.heap.objs.size f fd.code fd.closure)) (λv s'=>R (.ok (.ret v)) s') (λ_ _=>False) { s with heap:=a,toks:=s.toks+binds.length }) :
  bb (model prog w) A (.call (.ref f) args) R s:=by
 obtain⟨vs,q,t,hd,E⟩:=B;refine codeAny_of_tree ?_;show wpAny _ A.in1 (callAny (.ref f) args) _ _ s;simp only[callAny];refine aE (Ei C ?_);simp only[callFunction,p,j,hb,d];refine aE (m:=qd (.ref c) 1) (i9 z hd E (aE (aV ?_)));rw[H,k,n];refine aE (aV (aE (wpAny_newFunctionEnv F l (λa G u=>?_) hk)));have kp:∀b o,s.heap.get? b=some o->a.get? b=some o:=λb o e=>u.extBut b o (cI (aY e)) (aG _ e);refine aE (wpAny_enterFrame (g.keeps kp) i (aV ⟨rfl,?_⟩));have:=h q a G kp;rw[d]at this;exact PySem.W.kla_codeExpr (eF this (λ_ _ r=>r) λ_ _ r=>r.elim)
noncomputable abbrev xF:Scope:={ kind:=.function,names:=[(e8 "entry",.local),(e8 "bottom",.free)],isGenerator:=false,isCoroutine:=false,more:=[] }
noncomputable def JA(X:Cx)(A':g9)(q:Str)(f:Addr)(cd:Value)(cl:List (Str×Addr))(s:Shared)(H:Hp):Cx where
 prog:=X.prog
 w:=X.w
 K:=X.K
 mg:=X.mg
 base:=X.base
 A:=A'.deeper (sO q xF s.heap.objs.size f cd cl)
 N:=["entry","bottom"]
 s₀:=s
 H₀:=H
 env:=sO q xF s.heap.objs.size f cd cl
 outer:=X.stack
 stack:=sO q xF s.heap.objs.size f cd cl::X.stack
 ex:=[]
 fn:=λ_=>false
 calm:=true
 pn:=[]
 xe:=λ_ _=>False
def Z1{X:Cx}{pins σ}{A':g9}{q:Str}{f j:Addr}{cd}{cl:List (Str×Addr)}{s:Shared}{H}{h:Heap}{tk:Nat}{u x}{b:Int}{t}(I:dI X pins σ H s)(C:A'.frames=some X.stack)(B:A'.handled=none)
  (k:∀n c,cl.lookup n=some c->X.env.cells.lookup n=some c) (l:cl.lookup ("bottom":Str)=some j) (G:s.heap.IsCell j (some (.int b t))) (r:fU x u)
  (K:h.Ns s.heap.objs.size (λy=>[((e8 "entry":Str),u)].reverse.lookup y)) (kp:∀b o,s.heap.get? b=some o->h.get? b=some o) :
  dI (JA X A' q f cd cl s H) [] [some x,some (.int b)] H { s with heap:=h,toks:=tk }:=by
 have d:=I.env0;have noA:∀b:Addr,b∉(JA X A' q f cd cl s H).ex:=λb z=>c7 (show b∈([]:List Addr)from z) (by simp)
 have J:∀y:Str,xF.names.lookup y=some .cell\/xF.names.lookup y=some .free->y="bottom":=λy g=>by
  have e:xF.names.lookup y=if y==(e8 "entry")then some .local else if y==(e8 "bottom")then some .free else none:=by
   show kF y [(e8 "entry",NameKind.local),(e8 "bottom",j1)]=_;rw[dX,dX];cases (y==e8 "entry")<;>cases (y==e8 "bottom")<;>rfl
  rw[e]at g;split at g
  ·rcases g with z | z<;>cases z
  ·split at g
   ·rename_i z;exact gj z
   ·rcases g with z | z<;>cases z
 obtain⟨oc,E,w⟩:=G;have m:h.IsCell j (some (.int b t)):=⟨oc,kp _ _ E,w⟩
 refine⟨⟨d.mod,rfl,rfl,rfl,aN _,λy z c a a2=>I.ok.inj y z c (k y c a) (k z c a2),λy g=>?_,λy c z=>(nomatch (show false=true from z)),λ_=>B,ni C,.inr ⟨rfl,rfl⟩,λb z=>c7 z (noA b),d.bs,d.bsz,λb _ _=>noA b,λb z=>c7 z (noA b),d.funs,d.frf,d.tab⟩,
  rfl,d.bare,Un.kept kp,⟨_,K,λi y v a a2 L=>?_⟩,λy c a=>?_,d.hok.fresh (aN _),λy c a=>I.freeC y c (k y c a),λp F=>c7 (show p∈([]:List (Addr×Obj))from F) (by simp),d.hok.kept kp,rfl⟩
 ·have:=J y g;rw[this];exact⟨j,l⟩
 ·match i,a,a2 with
  |0,a,a2=>
   cases a;cases a2;exact⟨u,r,.inl ⟨rfl,rfl⟩⟩
  |1,a,a2=>
   cases a;cases a2;exact⟨.int b t,⟨t,rfl⟩,.inr ⟨.inr rfl,j,l,m⟩⟩
  |i+2,a,a2=>cases a
 ·obtain⟨v,o,h,A⟩:=I.cell y c (k y c a);exact⟨v,o,kp _ _ h,A⟩
def Un.butA{fs ex H H1}{h c h':Heap}{a:Addr}(u:Un fs ex H H1 h c)(hs:fL a c h')(ha:h.objs.size<=a):Un fs ex H H1 h h':=by
 have ne:∀b o,h.get? b=some o->b≠a:=λb o e=>cI (bP (aY e) ha);refine⟨λb o e n c d=>(hs.2 b (ne b o e)).trans (u.keep b o e n c d),λb o e n c d=>?_,u.free,λb o e d=>?_,u.tups,u.frzs,u.tbls⟩
 ·obtain⟨sl,z⟩:=u.slot b o e n c d;exact⟨sl,(hs.2 b (ne b o e)).trans z⟩
 ·obtain⟨o',z⟩:=u.there b o e d;exact⟨o',(hs.2 b (ne b o e)).trans z⟩
def Un.new{fs ex H H1}{h c:Heap}{a:Addr}{o}(u:Un fs ex H H1 h c)(hn:H1 a=none)(ha:h.objs.size<=a):Un fs ex H (fS H1 a o) h c where
 keep:=u.keep
 slot:=u.slot
 free:=λb ob e n d=>by rw[bZ (cI (bP (aY e) ha))];exact u.free b ob e n d
 there:=u.there
 tups:=λb xs e=>by have z:=u.tups b xs e;rw[bZ (eP z hn)];exact z
 frzs:=λb ob v e=>by have z:=u.frzs b ob v e;rw[bZ (eP z hn)];exact z
 tbls:=λb ps e=>by
  obtain⟨m,z⟩:=u.tbls b ps e;exact⟨m,by rw[bZ (eP z hn)];exact z⟩
theorem pK.new{P w H h}{a:Addr}{o}(x:pK P w H h)(hn:H a=none)(new:iT P w (fS H a o) h a o):pK P w (fS H a o) h:=λb u e=>by
 by_cases hb:b=a
 ·subst hb;rw[cE]at e;cases e;exact new
 ·rw[bZ hb]at e;have st:∀c v,H c=some v->fS H a o c=some v:=λc v q=>by rw[bZ (eP q hn)];exact q
  exact(x b u e).stay (λc v _ q=>q) (λc q=>st _ _ q) (λc xs q=>st _ _ q) λc ob v q=>st _ _ q
noncomputable abbrev aCm(p:Pos):Arguments:={ posonlyargs:=[],args:=[{ arg:="entry",annotation:=none,pos:=p }],vararg:=none,kwonlyargs:=[],kw_defaults:=[],kwarg:=none,defaults:=[] }
def DY(K:aI)(H:Hp)(b:Int)(x:V)(k:Int):Prop:=∃(q:Addr)(a c:V)(d:Addr)(top bot:Int),x=.ref q/\qG K H q [a,c,.ref d]/\qG K H d [.int top,.int bot]/\aGk b bot/\J0 top (b / bot)/\k=top*(b / bot)
def DY.same{K}{H H':Hp}{b:Int}{x}{k:Int}(h:DY K H b x k)(s:∀c u,H c=some u->H' c=some u):DY K H' b x k:=by
 obtain⟨q,i,j,d,top,bot,a,e,f,g⟩:=h;exact⟨q,i,j,d,top,bot,a,TL.bA.seqT s e,TL.bA.seqT s f,g⟩
section
variable{p1 p2 p3 p4 p5 p6 p7 p8 p9 q1 q2 q3 q4:Pos}
def aEr{X:Cx}{A'}{q:Str}{f:Addr}{cd cl s H}{pins:List (Addr×Obj)}{s1 x}{b k:Int}(I:dI (JA X A' q f cd cl s H) [] [some x,some (.int b)] H s1)(h:DY X.K H b x k) :
  wpAny (model X.prog X.w) (JA X A' q f cd cl s H).A (eval (.BinOp (.Subscript (.Subscript (.Name "entry" p1) (.Constant (.int 2) 0 p2) p3) (.Constant (.int 0) 0 p4) p5) .Mult (.BinOp (.Name "bottom" p6) .FloorDiv (.Subscript (.Subscript (.Name "entry" p7) (.Constant (.int 2) 0 p8) p9) (.Constant (.int 1) 0 q1) q2) q3) q4) (JA X A' q f cd cl s H).env)
   (EP (JA X A' q f cd cl s H) [] [some x,some (.int b)] λv H'=>v=.int k/\H'=H) (λ_ _=>False) s1:=by
 have j:PE (JA X A' q f cd cl s H) (.BinOp (.Subscript (.Subscript (.Name "entry" p1) (.Constant (.int 2) 0 p2) p3) (.Constant (.int 0) 0 p4) p5) .Mult (.BinOp (.Name "bottom" p6) .FloorDiv (.Subscript (.Subscript (.Name "entry" p7) (.Constant (.int 2) 0 p8) p9) (.Constant (.int 1) 0 q1) q2) q3) q4) _:=
  IC TV (ID aU (ID aU (pv 0) yE (by intro _ _;rfl)) yE (by intro _ _;rfl)) (IC pF (pv 1) (ID aU (ID aU (pv 0) yE (by intro _ _;rfl)) yE (by intro _ _;rfl)))
 obtain⟨e,l,m,d,top,bot,rfl,a,c,g,i,rfl⟩:=h;refine j [] s1 _ H _ I ?_;refine⟨_,rfl,.inr (.inl ⟨e,_,2,.ref d,rfl,rfl,a,rfl,.inr (.inl ⟨d,_,0,.int top,rfl,rfl,c,rfl,?_⟩)⟩)⟩;refine⟨_,rfl,_,rfl,.inr (.inl ⟨e,_,2,.ref d,rfl,rfl,a,rfl,.inr (.inl ⟨d,_,1,.int bot,rfl,rfl,c,rfl,?_⟩)⟩)⟩;exact⟨b,bot,rfl,rfl,g,top,b / bot,rfl,rfl,i,rfl,rfl⟩
def aDu(K:aI)(ib:Nat)(e:TA):TE:=λσ H Q=>e σ H λvs H1=>∃(p:Addr)(xs:List V)(b:Int)(d:List Int),vs=[.ref p]/\nB K H1 p xs/\xs.length<64/\σ[ib]?=some (some (.int b))/\d.length=xs.length/\(∀(i:Nat) x k,xs[i]?=some x->d[i]?=some k->DY K H1 b x k) /\
 ∀a,(∀c u,H1 c=some u->a c=some u)->∀(J:List Nat) r,SS.HG xs.length (λi=>d.getD i 0) J->a r=none->Q (.ref r) (fS a r (.lst (J.map λi=>xs.getD i .non)))
def TK{X:Cx}{ib:Nat}{e ta}{k:Nat}{c P:Addr}{np lp ap kp pos}(hr:gR (k+3) X.A)(hT:tabA=some P)(hc:X.env.code=.ref c)(C:yT X.K c P=true)(Lb:X.N[ib]?=some "bottom")(hk:X.env.kindOf "bottom"=some .cell)
  (hg:Gl X "sorted") (hm:X.mg "sorted"=none) (B:g6 "sorted"=some (.builtin "sorted")) (ha:PA X [e] ta)
  (he:m9 pos (bI [e] X.env)=(false,eval e X.env)::m9 pos (bI [] X.env):=by rfl)
  (G:(m9 pos (bI [e] X.env)).any (·.1)=false:=by rfl) :
  PE X (.Call (.Name "sorted" np) [e] [⟨some (e8 "key"),.Lambda (aCm ap) (.BinOp (.Subscript (.Subscript (.Name "entry" p1) (.Constant (.int 2) 0 p2) p3) (.Constant (.int 0) 0 p4) p5) .Mult (.BinOp (.Name "bottom" p6) .FloorDiv (.Subscript (.Subscript (.Name "entry" p7) (.Constant (.int 2) 0 p8) p9) (.Constant (.int 1) 0 q1) q2) q3) q4) xF lp,kp⟩] pos) (aDu X.K ib ta):=by
 intro pins s σ H Q I h;refine z7 (wF I hg hm B ?_ (by decide) (by decide));refine callWith_kw (jM (ha pos pins s σ H _ I h) λus s1 zq=>?_) he G;obtain⟨vs,H1,I1,r1,q1⟩:=zq;obtain⟨p,xs,b,kz,rfl,hS,fk,cr,Lf,Dm,q⟩:=q1;obtain⟨u,rfl,ru⟩:=nV r1;cases ru
 have Dh:∀x∈xF.names,x.2=.free->∃c,X.env.cells.lookup x.1=some c:=λx g hf=>by
  have Mh:x=(e8 "entry",NameKind.local)\/x=(e8 "bottom",j1):=by simpa using g
  rcases Mh with rfl | rfl
  ·cases hf
  ·exact I.ok.has "bottom" (.inl hk)
 refine kws_cons (PySem.W.kla_eval rfl (UY I1 hT hc (PySem.W.codeHd_of_K I.mod.kin C) Dh λd s2 f c' cl pm ze a S L Z ml=>kws_nil ?_));obtain⟨cb,U⟩:=ml "bottom" (aJ _ (aO ..));have Rf:nB X.K d p xs:=L2.bA.seq S hS;obtain⟨i3,R,G,hz⟩:=a.list Rf;have E:=R.length;have hA:=a.ok.frames;have Y:gR (k+1) X.A.in1.in1:=(gR.in1 (k:=k+2) hr).in1
 have nofr:∀b,s2.heap.objs.size<=b->b∉qO X.stack:=λb hb z=>by
  rcases aP.mp (a.stkSub b z)with y | y
  ·rw[y]at hb;exact c7 a.lt (HA.mpr hb)
  ·exact a.nofs hb y
 let Tp:Shared->Prop:=λs'=>s'.os=s2.os/\ba s'.gens/\Un (qO X.stack) [] d d s2.heap s'.heap/\pK X.prog X.w d s'.heap
 have Vr:∀s',Tp s'->dI X pins σ d s':=λs' t=>a.call' (ch:=[]) t.1 t.2.2.1 t.2.2.2 t.2.1 (λb z=>c7 z (by simp))
 have T:SS.QJ Tp s2.heap.objs.size:=by
  refine⟨λs' x h' tk t g hs=>⟨t.1,t.2.1,t.2.2.1.butA hs g,t.2.2.2.but (a.hok.fresh g) hs⟩,λs' o t=>⟨t.1,t.2.1,t.2.2.1.trans (Un.kept λb u e=>aG _ e),t.2.2.2.kept λb u e=>aG _ e⟩⟩
 have t0:Tp s2:=⟨rfl,a.bare,Un.refl,a.hok⟩;have Uy:f∉qO X.stack:=L.nfr
 have turn:SS.jN X.prog X.w X.A.in1.in1 Tp s2.heap.objs.size f i3 kz:=λi v k0 s' B Gx t=>by
  have r:=Vr s' t
  obtain⟨x,g,rx⟩:∃x,xs[i]?=some x/\fU x v:=by
   have hi:i<xs.length:=by rw[E];exact(aF.mp B).1
   obtain⟨u,n,M⟩:=R.get (aD hi);rw[B]at n;cases n;exact⟨_,aD hi,M⟩
  have Qi:=(Dm i x k0 g Gx).same S;obtain⟨m,hn,hl⟩:=r.loc;obtain⟨ub,Vk,lb⟩:=hl ib "bottom" (.int b) Lb cr (.inr (.inl hk));obtain⟨tb,rfl⟩:=Vk
  have cell:s'.heap.IsCell cb (some (.int b tb)):=by
   rcases lb with⟨z,_⟩ | ⟨_,c0,z1,z2⟩
   ·rw[hk]at z;cases z
   ·have:=Z _ _ U;rw[this]at z1;cases z1;exact z2
  obtain⟨oc,P',w1,w2⟩:=L.trk;obtain⟨Vd,_⟩:=r.hok c' _ w1;refine qp (QB Y.depth r.nolimit (t.2.2.1.keep f _ L.obj L.free Uy (by simp)) rfl rfl rfl rfl Vd w2 (binds:=[(e8 "entry",v)]) rfl (λy O=>?_) (λy O=>?_) rfl rfl rfl λqn n uh kp=>?_)
  ·have Bi:y=(e8 "entry",NameKind.local)\/y=(e8 "bottom",j1):=by simpa using O
   rcases Bi with rfl | rfl<;>simp
  ·rw[bM.mp O];rfl
  ·have J:=Z1 (q:=qn) (f:=f) (cd:=.ref c') (tk:=s'.toks+1) (A':=X.A.in1.in1) r hA Y.hd Z U cell rx uh kp;refine eF (aEr (pins:=pins) J Qi) (λu s3 hu=>?_) λ_ _ z=>z;obtain⟨v3,H3,l,r3,rfl,rfl⟩:=hu;obtain⟨t3,rfl⟩:=r3;exact⟨t3,rfl,⟨l.os.trans t.1,l.bare,t.2.2.1.trans l.base,l.hok⟩,λb o hb e=>l.base.keep b o e (a.hok.fresh hb) (nofr b hb) (by simp[JA])⟩
 show wpAny (model X.prog X.w) X.A (call (.builtin "sorted") [.ref p] [(e8 "key",.ref f)]) _ _ s2;refine SS.OS T t0 G.isList (aN _) (by rw[Lf,E]) (by rw[<- E];exact fk) turn λs' D out cc J t hD ho sb kr=>?_;have F:d D=none:=a.hok.fresh hD;rw[<- E]at sb;have hL:(2:Nat)^24=bE:=rfl
 have vals:fM (J.map λi=>xs.getD i .non) out.toList:=by
  rw[kr]
  have:∀J:List Nat,(∀i∈J,i<xs.length)->fM (J.map λi=>xs.getD i .non) (J.map λi=>i3.getD i .none):=by
   intro J hJ
   induction J with
   |nil=>exact .nil
   |cons j J ih=>
    refine .cons ?_ (ih λi hi=>hJ i (aJ _ hi));have hj:=hJ j (aO ..);obtain⟨u,n,M⟩:=R.get (aD hj);show fU (xs.getD j .non) (i3.getD j .none);rw[cL,cL,n,aD hj];exact M
  exact this J sb.lt
 refine⟨.ref D,_,a.call' (ch:=[]) (s':=s') (H':=fS d D (.lst (J.map λi=>xs.getD i .non))) t.1 (t.2.2.1.new F hD) (t.2.2.2.new F ⟨?_,out.toList,cc,vals,?_⟩) t.2.1 (λb z=>c7 z (by simp)),rfl,q d S J D sb F⟩
 ·rw[aB,sb.len,<- hL];lia
 ·simpa[j2]using ho
end
end L2
namespace TL
open L2
variable{K:aI}{H H' H1 H2:Hp}{B:Hp}{p0 ps:List Addr}{σT:List Sl}{σ:L2.St}
section
variable{X:Cx}{a b c e:Expr}{es:List Expr}{ta tb tc te:ET}{pos:Pos}
def CY{r j}{f g:D->D->(D->Prop)->Prop}(E:zO X r f)(G:zO X j g){q s t:TE}
  (ha:∀B p0 H ps σT σ (Q:D->Prop)(i:VK),Ok X.K B p0 H ps σT σ->ta σT Q->(∀d v H',bA H H'->gW X.K (mask H' ps) d v->Q d->i v H')->q σ H i)
  (hb:∀B p0 H ps σT σ (Q:D->Prop)(i:VK),Ok X.K B p0 H ps σT σ->tb σT Q->(∀d v H',bA H H'->gW X.K (mask H' ps) d v->Q d->i v H')->s σ H i)
  (F:∀B p0 H ps σT σ (Q:D->Prop)(i:VK),Ok X.K B p0 H ps σT σ->tc σT Q->(∀d v H',bA H H'->gW X.K (mask H' ps) d v->Q d->i v H')->t σ H i)
  (B:Hp) (p0:List Addr) (H:Hp) (ps:List Addr) (σT:List Sl) (σ:L2.St) (Q:D->Prop) (i:VK) (o:Ok X.K B p0 H ps σT σ) (h:GK f g ta tb tc σT Q) (k:∀d v H',bA H H'->gW X.K (mask H' ps) d v->Q d->i v H'):KO r j q s t σ H i:=by
 refine ha B p0 H ps σT σ _ _ o h λA x H1 s1 N J=>?_;refine hb B p0 H1 ps σT σ _ _ (o.grow s1) J λn y H2 s2 p L=>?_;refine E H2 ps A n x y _ _ ((o.grow s1).grow s2).live (N.same (bG s2)) p L λR z H3 s3 O l=>?_
 cases O with
 |bool c=>
  refine⟨c,rfl,?_⟩
  cases c with
  |false=>exact k _ _ H3 (s1.trans (s2.trans s3)) (.bool false) l
  |true=>
   refine F B p0 H3 ps σT σ _ _ (((o.grow s1).grow s2).grow s3) l λC w u m P M=>?_;exact G u ps n C y w Q i ((((o.grow s1).grow s2).grow s3).grow m).live ((p.same (bG s3)).same (bG m)) P M λd v H' s' j I=>k d v H' (s1.trans (s2.trans (s3.trans (m.trans s')))) j I
 |_=>exact l.elim
def VY{op op' r r'}{f g:D->D->(D->Prop)->Prop}(i:oG X (g8 op) r)(l:oG X (g8 op') r')(d:zO X r f)(j:zO X r' g)(ha:fY X a ta)(hb:fY X b tb)(h:fY X c tc)
  (hm:ul [op,op'] [b,c]=false:=by with_unfolding_all rfl):fY X (.Compare a [op,op'] [b,c] pos) (GK f g ta tb tc):=by
 obtain⟨p,k,m⟩:=ha;obtain⟨q,pb,n⟩:=hb;obtain⟨s,pc,o⟩:=h;exact⟨_,TR i l k pb pc hm,CY d j m n o⟩
def RU{op op' r i}{f g:D->D->(D->Prop)->Prop}(n:oG X (g8 op) r)(s:oG X (g8 op') i)(l:zO X r f)(p:zO X i g)(ha:fY X a ta)(hb:fY X b tb)(m:fY X c tc)
  (hm:ul [op,op'] [b,c]=false:=by with_unfolding_all rfl):C5 X (.Compare a [op,op'] [b,c] pos) (JR (GK f g ta tb tc)):=by
 obtain⟨z,q,t⟩:=ha;obtain⟨A,pb,u⟩:=hb;obtain⟨C,pc,w⟩:=m;refine⟨_,S7 n s q pb pc hm,λB p0 H ps σT σ Q y o h k=>?_⟩;refine CY l p t u w B p0 H ps σT σ (λx=>match x with | .bool b=>Q b | _=>False) _ o h λd v H' s' i j=>?_
 cases i with
 |bool c=>exact⟨c,rfl,k c H' s' j⟩
 |_=>exact j.elim
abbrev OT:=List Sl->(Option Int->Prop)->Prop
def POt(X:Cx)(e:Option Expr)(t:OT):Prop:=∃to:TO,PO X e to/\∀B p0 H ps σT σ (Q:Option Int->Prop)(d:Option Int->Hp->Prop),Ok X.K B p0 H ps σT σ->t σT Q ->
 (∀i H',bA H H'->Q i->d i H')->to σ H d
def IN:OT:=λ_ Q=>Q none
def IM(t:ET):OT:=λσ Q=>t σ λx=>match x with | .int i=>Q (some i) | _=>False
def mS:POt X none IN:=⟨_,Y2,λ_ _ H _ _ _ _ _ _ h k=>k _ H (L2.bA.refl H) h⟩
def kH(h:fY X e te):POt X (some e) (IM te):=by
 obtain⟨v,p,r⟩:=h;refine⟨_,Y1 p,λB p0 H ps σT σ Q j o h k=>r B p0 H ps σT σ _ _ o h λd x H1 s1 g f=>?_⟩
 cases g with
 |int i=>exact⟨i,rfl,k _ H1 s1 f⟩
 |_=>exact f.elim
def SlT(X:Cx)(r:V->Option Int->Option Int->Hp->VK->Prop)(f:D->Option Int->Option Int->(D->Prop)->Prop):Prop:=∀H ps(d:D)(x:V)(lo hi:Option Int)(Q:D->Prop)QV,(∀p∈ps,yQ (H p))->gW X.K (mask H ps) d x->f d lo hi Q ->
 (∀d v H',bA H H'->gW X.K (mask H' ps) d v->Q d->QV v H')->r x lo hi H QV
def eSl(f:D->Option Int->Option Int->(D->Prop)->Prop)(t:ET)(g d:OT):ET:=λσ Q=>t σ λx=>g σ λl=>d σ λu=>f x l u Q
def jU{r:V->Option Int->Option Int->Hp->VK->Prop}{f:D->Option Int->Option Int->(D->Prop)->Prop}{lo hi tl th p2}(n:WR X r)(i:SlT X r f)(j:fY X e te)(m:POt X lo tl)(p:POt X hi th) :
  fY X (.Subscript e (.Slice lo hi none p2) pos) (eSl f te tl th):=by
 obtain⟨ve,q,re⟩:=j;obtain⟨G,pl,E⟩:=m;obtain⟨I,s,F⟩:=p;refine⟨_,TM n q pl s,λB p0 H ps σT σ Q g o h k=>re B p0 H ps σT σ _ _ o h λd x H1 s1 C w=>?_⟩;refine E B p0 H1 ps σT σ _ _ (o.grow s1) w λl H2 s2 y=>?_;refine F B p0 H2 ps σT σ _ _ ((o.grow s1).grow s2) y λu H3 s3 z=>?_;exact i H3 ps d x l u Q g (((o.grow s1).grow s2).grow s3).live ((C.same (bG s2)).same (bG s3)) z λd v H' s' A t=>k d v H' (s1.trans (s2.trans (s3.trans s'))) A t
variable{st:Stmt}{jW:List Stmt}{t u:vE}
def mY:vE:=λDT σ=>DT.nx σ
def hZ(t u:vE):vE:=λDT σ=>t { DT with nx:=u DT } σ
def fW:sV X [] mY:=⟨_,M0,λB p0 H ps σT σ DT DV o h f=>f.nx H ps σT σ o (L2.bA.refl _) h⟩
def bD(d:A8 X st t)(g:sV X jW u):sV X (st::jW) (hZ t u):=by
 obtain⟨p,i,l⟩:=d;obtain⟨n,j,m⟩:=g;refine⟨_,lE i j,λB p0 H ps σT σ DT DV o h f=>l B p0 H ps σT σ { DT with nx:=u DT } { DV with nx:=n DV } o h ⟨λH' l6 h9 d8 o' s' k=>?_,f.bk,f.ct,f.rt,f.ro,f.rp,f.rq,f.xb⟩⟩;exact m B p0 H' l6 h9 d8 DT DV o' k (f.later s')
def bS(d:A8 X st t):sV X [st] t:=by
 obtain⟨h,f,g⟩:=d;exact⟨_,sA f,g⟩
def SH(i:Nat)(t:vE):vE:=λDT σ=>∃ts,σ[i]?=some (.own ts)/\t DT (σ.set i (.val (.list ts)))
def nG{um}(i:Nat)(h:sV X um t):sV X um (SH i t):=by
 obtain⟨v,p,r⟩:=h;refine⟨_,p,λB p0 H ps σT σ DT DV o h f=>?_⟩;obtain⟨ts,e,h⟩:=h;obtain⟨l6,o',s'⟩:=o.share e;exact r B p0 H l6 _ σ DT DV o' h (f.later s')
def zX(te:ET):vE:=λDT σ=>te σ DT.rt
def dS(h:fY X e te):A8 X (.Return (some e) pos) (zX te):=by
 obtain⟨v,p,r⟩:=h;refine⟨_,yD p,λB p0 H ps σT σ DT DV o h f=>r B p0 H ps σT σ _ _ o h λd x H' s' i g=>?_⟩;exact f.rt d x H' (o.base.trans s') (i.same (fJ o.sub)) g
def YT(c:vD)(t u:vE):vE:=λDT σ=>c σ λb=>if b=true then t DT σ else u DT σ
def iO{c a b tc}(i:C5 X c tc)(ha:sV X a t)(hb:sV X b u):A8 X (.If c a b pos) (YT tc t u):=by
 obtain⟨q,pc,m⟩:=i;obtain⟨n,j,k⟩:=ha;obtain⟨p,pb,l⟩:=hb;refine⟨_,TC pc j pb,λB p0 H ps σT σ DT DV o h f=>m B p0 H ps σT σ _ _ o h λd H1 s1 g=>?_⟩
 cases d with
 |true=>exact k B p0 H1 ps σT σ DT DV (o.grow s1) g (f.later (bG s1))
 |false=>exact l B p0 H1 ps σT σ DT DV (o.grow s1) g (f.later (bG s1))
def KQ(i:Nat)(te:ET):vE:=λDT σ=>te σ λd=>DT.nx (σ.set i (.val d))
def aDz{i:Nat}{x q9}(h:fY X e te)(l6:∀{v},PE X e v->PS X (.Assign [.Name x q9] e pos) (tF v (kP i))):A8 X (.Assign [.Name x q9] e pos) (KQ i te):=by
 obtain⟨v,p,r⟩:=h;refine⟨_,l6 p,λB p0 H ps σT σ DT DV o h f=>r B p0 H ps σT σ _ _ o h λd x H' s' j g=>?_⟩;exact f.nx H' ps _ _ ((o.grow s').set j) (bG s') g
def YS(i:Nat)(t:AT):vE:=λDT σ=>t σ λds=>ds.length<=1000/\DT.nx (σ.set i (.own ds))
def aD0{i:Nat}{x q9 p2 t}(h:wQ X es t)(l6:∀{v},PE X (.List es p2) v->PS X (.Assign [.Name x q9] (.List es p2) pos) (tF v (kP i))):A8 X (.Assign [.Name x q9] (.List es p2) pos) (YS i t):=by
 obtain⟨v,p,r⟩:=h;refine⟨_,l6 (F4 p),λB p0 H ps σT σ DT DV o h f=>r B p0 H ps σT σ _ _ o h λds xs H1 s1 j g=>⟨uT (by rw[<- j.length];exact g.1),λq d=>?_⟩⟩;exact f.nx _ (q::ps) _ _ ((o.grow s1).setOwn d j) ((bG s1).trans (by rw[lG d];exact L2.bA.refl _)) g.2
def aEb(i:Nat)(te:ET):vE:=λDT σ=>∃ts,σ[i]?=some (.own ts)/\te σ λd=>ts.length<=100000/\DT.nx (σ.set i (.own (ts++[d])))
def pM{i:Nat}{n e te ap cp}(hn:PE X n (qM i))(m:fY X e te)(hs:bI [e] X.env=(false,eval e X.env)::bI [] X.env:=by rfl)
  (pb:∀{ta},PA X [e] ta->PS X (.Expr (.Call (.Attribute n "append" ap) [e] [] cp) pos) (yU (Q1 X.K "list" AU (qM i) ta))):A8 X (.Expr (.Call (.Attribute n "append" ap) [e] [] cp) pos) (aEb i te):=by
 obtain⟨v,p,r⟩:=m;refine⟨_,pb (fP p jX hs),λB p0 H ps σT σ DT DV o h f=>?_⟩;obtain⟨ts,e,h⟩:=h;obtain⟨q,xs,g,l,A,C,j,k⟩:=o.own i ts e;refine⟨.ref q,g,.inl ⟨rfl,xs,nB.of j⟩,r B p0 H ps σT σ _ _ o h λd x H1 s1 z y=>?_⟩;refine⟨q,xs,x,rfl,rfl,s1 _ _ j,?_,?_⟩
 ·rw[<- k.length];have:bE=2^24:=rfl;lia
 ·have w:=o.grow s1;have s:Reps X.K (mask H1 ps) (ts++[d]) (xs++[x]):=(k.same (bG s1)).append (.cons z .nil);exact f.nx _ ps _ σ (w.write (ys:=xs++[x]) e g s) ((bG s1).trans (by rw[eQ l];exact L2.bA.refl _)) y.2
noncomputable def HW(x:Str):List D:=x.cps.toList.map λc=>.str ⟨#[c]⟩
noncomputable def NP:D->Option (List D)
|.list ts=>some ts
|.tuple ts=>some ts
|.str x=>some (HW x)
|_=>none
def pA(σ:List Sl):Prop:=∀(i:Nat)(s:Sl),(∀d,s≠.val d)->s≠.un->σ[i]?≠some s
def lL{σ:List Sl}(h:pA σ)(i:Nat)(d:D):pA (σ.set i (.val d)):=λj s f g e=>by
 by_cases z:i=j
 ·subst z;have hi:i<σ.length:=by simpa using(aF.mp e).1
  rw[aR hi]at e;exact f d (d7 e).symm
 ·rw[aQ z]at e;exact h j s f g e
theorem pA.own{σ}(h:pA σ)(i:Nat)(ts:List D):σ[i]?≠some (.own ts):=h i _ (λ_ z=>nomatch z) λz=>nomatch z
theorem pA.dic{σ}(h:pA σ)(i:Nat)(hs:List Int)(kvs:List (D×D)):σ[i]?≠some (.dic hs kvs):=h i _ (λ_ z=>nomatch z) λz=>nomatch z
abbrev GT:=D->List Sl->(List Sl->Prop)->Prop
def JX(X:Cx)(tg:Expr)(g:GT):Prop:=∃gv:TG,PG X tg gv/\∀B p0 H ps σT σ (d:D)(v:V)(Q:List Sl->Prop)(f:L2.St->Hp->Prop),Ok X.K B p0 H ps σT σ->gW X.K (mask H ps) d v->g d σT Q ->
 (∀h9 d8,Ok X.K B p0 H ps h9 d8->(pA σT->pA h9)->Q h9->f d8 H)->gv v σ H f
def gN(i:Nat):GT:=λd σ Q=>Q (σ.set i (.val d))
def eB{i:Nat}{x p}(h:PG X (.Name x p) (kP i)):JX X (.Name x p) (gN i):=
 ⟨_,h,λB p0 H ps σT σ d v Q f o r h k=>k _ _ (o.set r) (λn=>lL n _ _) h⟩
def gP(i j:Nat):GT:=λd σ Q=>∃a b,d=.tuple [a,b]/\Q ((σ.set i (.val a)).set j (.val b))
def qC{i j:Nat}{t}(h:PG X t (Z8 X.K 2 (vR (kP i) (vR (kP j) Z9)))):JX X t (gP i j):=
 ⟨_,h,λB p0 H ps σT σ d v Q l o r h k=>by
  obtain⟨a,b,rfl,h⟩:=h
  cases r with
  |@tuple p xs _ hq r=>
   cases r with
   |cons f r=>
    cases r with
    |cons g r=>
     cases r;exact⟨_,_,rfl,bA.seqT bU hq,rfl,_,_,rfl,_,_,rfl,rfl,k _ _ ((o.set f).set g) (λn=>lL (lL n _ _) _ _) h⟩⟩
structure aA4(K:aI)(Hs:Hp)(ts:List D)(J:It):Prop where
 stop:∀(i:Nat)H,bA Hs H->ts.length<=i->J.stop i H
 go:∀(i:Nat)H,bA Hs H->i<ts.length->J.go i H
 yld:∀(i:Nat)H ps(y:V)H',(∀p∈ps,yQ (H p))->bA Hs (mask H ps)->i<ts.length->J.yld i H y H'->bA H H'/\∃dx,ts[i]?=some dx/\gW K (mask H' ps) dx y
abbrev IT:=List Sl->(List D->Prop)->Prop
def N7(X:Cx)(tg iter:Expr)(t:IT):Prop:=∃d:TI,PI X tg iter d/\∀B p0 H ps σT σ (Q:List D->Prop)(R:It->Hp->Prop),Ok X.K B p0 H ps σT σ->t σT Q ->
 (∀ts J H',bA H H'->aA4 X.K (mask H' ps) ts J->Q ts->R J H')->d σ H R
def aLr(te:ET):IT:=λσ Q=>te σ λd=>∃ts,NP d=some ts/\Q ts
def YW{x d ts Hs}(r:gW K Hs d x)(hi:NP d=some ts){R:It->Hp->Prop}(hs:bA Hs H1)(h:∀J:It,aA4 K Hs ts J->R J H1) :
  (∃a,x=.ref a/\(∃xs,nB K H1 a xs)/\R (Itl K a) H1)\/(∃a,x=.ref a/\(∃xs,qG K H1 a xs)/\R (Itt K a) H1)\/∃z,x=.str z/\R (Its z) H1:=by
 cases r with
 |@list p xs us q rs=>
  obtain rfl:us=ts:=d7 hi;refine .inl ⟨p,rfl,⟨xs,L2.bA.seq hs q⟩,h _ ⟨λi H e f=>⟨xs,L2.bA.seq e q,by rw[<- rs.length];exact f⟩,λi H e f=>?_,λi H ps y H' _ e f g=>?_⟩⟩
  ·obtain⟨v,l,_⟩:=rs.get (aD f);exact⟨xs,v,L2.bA.seq e q,l⟩
  ·obtain⟨rfl,g⟩:=g;obtain⟨dx,k,j⟩:=rs.get' (g xs (L2.bA.seq (e.trans bU) q));exact⟨L2.bA.refl _,dx,k,j.same e⟩
 |@tuple p xs us q rs=>
  obtain rfl:us=ts:=d7 hi;refine .inr (.inl ⟨p,rfl,⟨xs,bA.seqT hs q⟩,h _ ⟨λi H e f=>⟨xs,bA.seqT e q,by rw[<- rs.length];exact f⟩,λi H e f=>?_,λi H ps y H' _ e f g=>?_⟩⟩)
  ·obtain⟨v,l,_⟩:=rs.get (aD f);exact⟨xs,v,bA.seqT e q,l⟩
  ·obtain⟨rfl,g⟩:=g;obtain⟨dx,k,j⟩:=rs.get' (g xs (bA.seqT (e.trans bU) q));exact⟨L2.bA.refl _,dx,k,j.same e⟩
 |str z=>
  obtain rfl:HW z=ts:=d7 hi;have f:(HW z).length=z.cps.size:=by unfold HW;simp
  refine .inr (.inr ⟨z,rfl,h _ ⟨λi H _ e=>by rw[f]at e;exact e,λi H _ e=>by rw[f]at e;exact e,λi H ps y H' _ _ e g=>?_⟩⟩);obtain⟨rfl,c,j,rfl⟩:=g;refine⟨L2.bA.refl _,.str ⟨#[c]⟩,?_,.str _⟩;unfold HW;rw[aL];have:z.cps.toList[i]?=some c:=by simpa using j
  rw[this];rfl
 |_=>cases hi
def gU{tg}(f:fY X e te):N7 X tg e (aLr te):=by
 obtain⟨ve,g,re⟩:=f;refine⟨_,aEn g,λB p0 H ps σT σ Q R o h k=>re B p0 H ps σT σ _ _ o h λd x H1 s1 j i=>?_⟩;obtain⟨ts,hi,q⟩:=i;exact YW j hi bU λJ l=>k ts J H1 s1 l q
noncomputable def eI(n:Nat):List D:=(fZ n).map λ(k:Nat)=>aW (k:Int)
def aFi(t:AT):IT:=λσ Q=>t σ λds=>∃n:Int,ds=[.int n]/\-(2^62)<=n/\n<2^62/\Q (eI n.toNat)
def lH{tg e t p p'}(ha:wQ X [e] t)(s:∀{ta},PA X [e] ta->PI X tg (.Call (.Name "range" p) [e] [] p') (aCq ta)):N7 X tg (.Call (.Name "range" p) [e] [] p') (aFi t):=by
 obtain⟨z,r,x⟩:=ha;refine⟨_,s r,λB p0 H ps σT σ Q R o h k=>x B p0 H ps σT σ _ _ o h λds xs H1 s1 f v=>?_⟩;obtain⟨n,rfl,j,l,q⟩:=v
 cases f with
 |cons f w=>
  cases w;cases f;refine⟨n,rfl,j,l,k (eI n.toNat) _ H1 s1 ?_ q⟩;have d:(eI n.toNat).length=n.toNat:=by unfold eI;simp
  refine⟨λi H _ e=>by rw[d]at e;exact e,λi H _ e=>by rw[d]at e;exact e,λi H ps y H' _ _ e m=>?_⟩;obtain⟨rfl,rfl⟩:=m;have g:(0:Int)+(i:Int)=(i:Int):=by lia
  rw[g];rw[d]at e;refine⟨L2.bA.refl _,.int i,?_,.int _⟩;unfold eI;rw[aL,kT e];rfl
def YU(d:IT)(g:GT)(tb:vE):vE:=λDT σ=>d σ λts=>∃P:Nat->List Sl->Prop,P 0 σ /\
 (∀(k:Nat)(x:D)d8,ts[k]?=some x->P k d8->g x d8 λf=>tb { DT with nx:=P (k+1),ct:=P (k+1),bk:=DT.nx } f)/\∀d8,P ts.length d8->DT.nx d8
def aD1{tg iter body g tb ti}(M:N7 X tg iter ti)(N:JX X tg g)(hb:sV X body tb)
  (T:∀{wi gv bv},PI X tg iter wi->PG X tg gv->AG X body bv->PS X (.For tg iter body [] pos) (aDv wi gv bv)):A8 X (.For tg iter body [] pos) (YU ti g tb):=by
 obtain⟨ve,S,re⟩:=M;obtain⟨gv,pg,Z⟩:=N;obtain⟨vb,pb,Y⟩:=hb;refine⟨_,T S pg pb,λB p0 H ps σT σ DT DV o h f=>re B p0 H ps σT σ _ _ o h λts J H1 s1 s U=>?_⟩;obtain⟨P,L,hs,hd⟩:=U;refine⟨λi m d8 H'=>m=ts.length-i/\i<=ts.length/\∃l6 h9,Ok X.K B p0 H' l6 h9 d8/\bA (mask H1 ps) (mask H' l6)/\P i h9,⟨_,rfl,cU _,ps,σT,o.grow s1,L2.bA.refl _,L⟩,?_⟩;rintro i m d8 H' ⟨rfl,Fd,l6,h9,o',s',A⟩;have E:bA (mask H1 ps) H':=s'.trans bU;have w:JZ X.K B p0 H' l6 DT DV:=f.later ((bG s1).trans s');by_cases q:i<ts.length
 ·refine .inr ⟨s.go i H' E q,λF H2=>∃v x,Ok X.K B p0 H2 v x F/\bA (mask H1 ps) (mask H2 v)/\P (i+1) x,λF H2 z=>⟨ts.length-(i+1),by lia,rfl,q,z⟩,λy H2 G=>?_⟩;obtain⟨s2,dx,O,rx⟩:=s.yld i H' l6 y H2 o'.live s' q G;have f2:=w.later (bG (ps:=l6) s2);have C:bA (mask H1 ps) (mask H2 l6):=s'.trans (bG s2);refine Z B p0 H2 l6 h9 d8 dx y _ _ (o'.grow s2) rx (hs i dx h9 O A) λI Q R _ W=>?_;exact Y B p0 H2 l6 I Q _ _ R W ⟨λp j d r k n l=>⟨j,d,k,C.trans n,l⟩,λp j d r k n l=>f2.nx p j d r k n l,λp j d r k n l=>⟨j,d,k,C.trans n,l⟩,f2.rt,f2.ro,f2.rp,f2.rq,f2.xb⟩
 ·obtain rfl:i=ts.length:=by lia
  exact .inl ⟨s.stop _ H' E (aN _),w.nx H' l6 h9 d8 o' (L2.bA.refl _) (hd h9 A)⟩
noncomputable def FC(σ:List Sl):Option Nat->Sl
|none=>.un
|some j=>match σ[j]? with | some (.val d)=>.val d | _=>.un
noncomputable def jQ(fr:List (Option Nat))(σ:List Sl):List Sl:=fr.map (FC σ)
def QE{σ q d}(h:FC σ q=.val d):∃j,q=some j/\σ[j]?=some (.val d):=by
 cases q with
 |none=>cases h
 |some j=>
  refine⟨j,rfl,?_⟩;unfold FC at h;dsimp only at h;split at h
  ·next e=>cases h;exact e
  ·cases h
def QF{σ q s}(g:∀d,s≠.val d)(f:s≠.un):FC σ q≠s:=λh=>by
 cases q with
 |none=>exact f h.symm
 |some j=>
  unfold FC at h;dsimp only at h;split at h
  ·exact g _ h.symm
  ·exact f h.symm
def rJ(fr:List (Option Nat))(σ:List Sl):pA (jQ fr σ):=λi s g f h=>by
 unfold jQ at h;rw[aL]at h
 cases d:fr[i]? with
 |none=>rw[d]at h;cases h
 |some q=>
  rw[d]at h;exact QF g f (d7 h)
def Ok.blk(o:Ok K B p0 H ps σT σ)(fr:List (Option Nat)):Ok K B p0 H ps (jQ fr σT) (xI fr σ) where
 base:=o.base
 sub:=o.sub
 live:=o.live
 len:=by unfold jQ xI;simp
 val:=λi d h=>by
  unfold jQ at h;rw[aL]at h
  cases f:fr[i]? with
  |none=>rw[f]at h;cases h
  |some q=>
   rw[f]at h;obtain⟨j,rfl,e⟩:=QE (d7 h);obtain⟨v,g,k⟩:=o.val j d e;refine⟨v,?_,k⟩;unfold xI;rw[aL,f];simp[g]
 own:=λi ts h=>c7 h ((rJ fr σT).own i ts)
 dis:=λi j ts us p h=>c7 h ((rJ fr σT).own i ts)
 dc:=λi hs kvs h=>c7 h ((rJ fr σT).dic i hs kvs)
def Ok.adopt(o:Ok K B p0 H ps σT σ){p:Addr}{u}(f:H p=none)(v:U5 u=false:=by rfl):Ok K B p0 (fS H p u) (p::ps) σT σ:=by
 have hm:mask (fS H p u) (p::ps)=mask H ps:=lG f;refine⟨o.base.trans (dH f),λq k=>aJ _ (o.sub q k),λq k=>?_,o.len,λi d h=>by rw[hm];exact o.val i d h,λi ts h=>?_,o.dis,o.dc.to (λj hs kvs h=>⟨h,rfl⟩) (λq φ a b _=>⟨aJ _ a,bZ λz=>by rw[z,f]at b;cases b⟩) (λq φ _ _ a b=>⟨a,b⟩) (by rw[hm];exact L2.bA.refl _)⟩
 ·by_cases e:q=p
  ·subst e;rw[cE];exact⟨_,rfl,v⟩
  ·rw[bZ e];rcases aP.mp k with z | z
   ·exact c7 z e
   ·exact o.live q z
 ·rw[hm];obtain⟨q,xs,l,m,n,r,g,s⟩:=o.own i ts h;exact⟨q,xs,l,aJ _ m,n,r,by rw[bZ λz=>by rw[z,f]at g;cases g];exact g,s⟩
def Ok.aside(o:Ok K B p0 H ps σT σ){q:Addr}{u}(k:q∈ps)(g:B q=none)(hn:pA σT)(l:U5 u=false:=by rfl):Ok K B p0 (fS H q u) ps σT σ where
 base:=λb w e=>by
  rw[bZ λz=>by rw[z,g]at e;cases e];exact o.base b w e
 sub:=o.sub
 live:=λp f=>by
  by_cases e:p=q
  ·subst e;rw[cE];exact⟨_,rfl,l⟩
  ·rw[bZ e];exact o.live p f
 len:=o.len
 val:=λi d h=>by rw[eQ k];exact o.val i d h
 own:=λi ts h=>c7 h (hn.own i ts)
 dis:=λi j ts us p h=>c7 h (hn.own i ts)
 dc:=λi hs kvs h=>c7 h (hn.dic i hs kvs)
def G3(X:Cx)(f:List Expr)(t:vD):Prop:=∃tt:TT,QM X f tt/\∀B p0 H ps σT σ (Q:Bool->Prop)(d:Bool->Hp->Prop),Ok X.K B p0 H ps σT σ->t σT Q ->
 (∀b H',bA H H'->Q b->d b H')->tt σ H d
def zL:vD:=λ_ Q=>Q true
def jY:G3 X [] zL:=⟨_,Y4,λ_ _ H _ _ _ _ _ _ h k=>k _ H (L2.bA.refl H) h⟩
def GE{t}(h:C5 X e t):G3 X [e] t:=by
 obtain⟨v,p,r⟩:=h;exact⟨_,Y3 p,r⟩
def P2(fr:List (Option Nat))(f:IT)(g:GT)(tt:vD)(te:ET):ET:=λσ Q=>f σ λts=>ts.length<=100000/\∃P:Nat->List Sl->List D->Prop,P 0 (jQ fr σ) [] /\
 (∀(k:Nat)(x:D)d8(ds:List D),ts[k]?=some x->P k d8 ds->g x d8 λd=>tt d λb=>if b=true then te d λy=>P (k+1) d (ds++[y])else P (k+1) d ds)/\∀d8 ds,P ts.length d8 ds->Q (.list ds)
def ZQ{fr}{T:IT}{g:GT}{tt:vD}{te:ET}{U:TI}{gv:BP->TG}{vt:BP->TT}{ve:BP->TE}
  (ri:∀B p0 H ps σT σ (Q:List D->Prop)(R:It->Hp->Prop),Ok X.K B p0 H ps σT σ->T σT Q->(∀ts J H',bA H H'->aA4 X.K (mask H' ps) ts J->Q ts->R J H')->U σ H R)
  (rg:∀(l:BP)B p0 H ps σT σ(d:D)(v:V)(Q:List Sl->Prop)(j:L2.St->Hp->Prop),Ok X.K B p0 H ps σT σ->gW X.K (mask H ps) d v->g d σT Q->(∀h9 d8,Ok X.K B p0 H ps h9 d8->(pA σT->pA h9)->Q h9->j d8 H)->gv l v σ H j)
  (rt:∀(l:BP)B p0 H ps σT σ(Q:Bool->Prop)(j:Bool->Hp->Prop),Ok X.K B p0 H ps σT σ->tt σT Q->(∀b H',bA H H'->Q b->j b H')->vt l σ H j)
  (re:∀(l:BP)B p0 H ps σT σ(Q:D->Prop)j,Ok X.K B p0 H ps σT σ->te σT Q->(∀d v H',bA H H'->gW X.K (mask H' ps) d v->Q d->j v H')->ve l σ H j)
  (B:Hp) (p0:List Addr) (H:Hp) (ps:List Addr) (σT:List Sl) (σ:L2.St) (Q:D->Prop) (j:VK) (o:Ok X.K B p0 H ps σT σ) (h:P2 fr T g tt te σT Q) (k:∀d v H',bA H H'->gW X.K (mask H' ps) d v->Q d->j v H'):R1 fr U gv vt ve σ H j:=by
 refine ri B p0 H ps σT σ _ _ o h λts J H1 s1 G q1=>?_;obtain⟨hz,P,Z,hs,hd⟩:=q1;intro l f n
 have uz:B f=none:=by
  cases q:B f with
  |none=>rfl
  |some u=>rw[(o.grow s1).base f u q]at n;cases n
 have Y:f∉ps:=hU (o.grow s1).live n
 refine⟨λi m d8 H'=>m=ts.length-i/\i<=ts.length/\∃h9 ds ys,Ok X.K B p0 H' (f::ps) h9 d8/\pA h9/\H' f=some (.lst ys)/\ds.length<=i/\Reps X.K (mask H' (f::ps)) ds ys/\bA (mask H1 ps) (mask H' (f::ps))/\bA H1 H'/\P i h9 ds,
  ⟨_,rfl,cU _,jQ fr σT,[],[],((o.grow s1).blk fr).adopt n,rJ fr σT,cE,aN _,.nil,by rw[lG n];exact L2.bA.refl _,dH n,Z⟩,?_⟩
 rintro i m d8 H' ⟨rfl,Fd,h9,ds,ys,o',n',ha,hl,A,s',I,N⟩;have hL:bE=2^24:=rfl;by_cases w:i<ts.length
 ·refine .inr ⟨G.go i H' (s'.trans bU) w,λy H2 hy=>?_⟩;obtain⟨s2,dx,hx,rx⟩:=G.yld i H' (f::ps) y H2 o'.live s' w hy;refine rg l B p0 H2 (f::ps) h9 d8 dx y _ _ (o'.grow s2) rx (hs i dx h9 ds hx N) λx M C F q3=>?_;refine rt l B p0 H2 (f::ps) x M _ _ C q3 λb W E O=>?_;have r:=s2.trans E
  cases b with
  |false=>
   exact⟨ts.length-(i+1),by lia,rfl,w,x,ds,ys,C.grow E,F n',r _ _ ha,by lia,A.same (bG r),s'.trans (bG r),I.trans r,O⟩
  |true=>
   refine re l B p0 W (f::ps) x M _ _ (C.grow E) O λd v L S r5 q5=>?_;have s:=r.trans S;have hm:mask (fS L f (.lst (ys++[v]))) (f::ps)=mask L (f::ps):=eQ (aO ..);refine⟨ys,s _ _ ha,by rw[<- A.length];lia,ts.length-(i+1),by lia,rfl,w,x,ds++[d],ys++[v],((C.grow E).grow S).aside (aO ..) uz (F n'),F n',cE,by rw[bO,oM];lia,?_,?_,?_,q5⟩
   ·rw[hm];exact(A.same (bG s)).append (.cons r5 .nil)
   ·rw[hm];exact s'.trans (bG s)
   ·intro b u e;have ne:b≠f:=λz=>by rw[z,n]at e;cases e
    rw[bZ ne];exact(I.trans s) b u e
 ·obtain rfl:i=ts.length:=by lia
  refine .inl ⟨G.stop _ H' (s'.trans bU) (aN _),k (.list ds) _ H' (s1.trans I) (.list (nB.of (kI Y ha)) (A.same (fJ λp hp=>aJ _ hp))) (hd h9 ds N)⟩
def UV{aj iter tg ae scope fr N' ti g tt te}(hi:N7 X tg iter ti)
  (f:∀b:BP,JX (blk X scope N' b) tg g/\G3 (blk X scope N' b) ae tt/\fY (blk X scope N' b) aj te) {M:(TE)->Prop}
  (fin:∀{h}{gv:BP->TG}{vt:BP->TT}{ve:BP->TE},PI X tg iter h->(∀b:BP,PG (blk X scope N' b) tg (gv b)/\QM (blk X scope N' b) ae (vt b)/\PE (blk X scope N' b) aj (ve b))->M (R1 fr h gv vt ve)) :
  ∃v:TE,M v/\∀B p0 H ps σT σ (Q:D->Prop)(i:VK),Ok X.K B p0 H ps σT σ->P2 fr ti g tt te σT Q ->
   (∀d v H',bA H H'->gW X.K (mask H' ps) d v->Q d->i v H')->v σ H i:=by
 obtain⟨h,j,k⟩:=hi;refine⟨_,fin (gv:=λb=>i0 (f b).1) (vt:=λb=>i0 (f b).2.1) (ve:=λb=>i0 (f b).2.2) j λb=>⟨(d9 (f b).1).1,(d9 (f b).2.1).1,(d9 (f b).2.2).1⟩,?_⟩;exact ZQ k (λb=>(d9 (f b).1).2) (λb=>(d9 (f b).2.1).2) λb=>(d9 (f b).2.2).2
def aL2{aj iter tg ae scope fr N' ti g tt te}(hi:N7 X tg iter ti)
  (d:∀b:BP,JX (blk X scope N' b) tg g/\G3 (blk X scope N' b) ae tt/\fY (blk X scope N' b) aj te)
  (pl:∀{wi}{gv:BP->TG}{vt:BP->TT}{ve:BP->TE},PI X tg iter wi->(∀b:BP,PG (blk X scope N' b) tg (gv b)/\QM (blk X scope N' b) ae (vt b)/\PE (blk X scope N' b) aj (ve b))->PE X (.ListComp aj [⟨tg,iter,ae,0⟩] scope pos) (R1 fr wi gv vt ve)) :
  fY X (.ListComp aj [⟨tg,iter,ae,0⟩] scope pos) (P2 fr ti g tt te):=UV hi d pl
def rD{i:Nat}{x px gy aj iter tg ae scope fr N' ti g tt te}(hi:N7 X tg iter ti)
  (j:∀b:BP,JX (blk X scope N' b) tg g/\G3 (blk X scope N' b) ae tt/\fY (blk X scope N' b) aj te)
  (pl:∀{wi}{gv:BP->TG}{vt:BP->TT}{ve:BP->TE},PI X tg iter wi->(∀b:BP,PG (blk X scope N' b) tg (gv b)/\QM (blk X scope N' b) ae (vt b)/\PE (blk X scope N' b) aj (ve b)) ->
   PS X (.Assign [.Name x px] (.ListComp aj [⟨tg,iter,ae,0⟩] scope pos) gy) (tF (R1 fr wi gv vt ve) (kP i))) :
  A8 X (.Assign [.Name x px] (.ListComp aj [⟨tg,iter,ae,0⟩] scope pos) gy) (KQ i (P2 fr ti g tt te)):=by
 obtain⟨v,p,r⟩:=UV (M:=λv=>PS X (.Assign [.Name x px] (.ListComp aj [⟨tg,iter,ae,0⟩] scope pos) gy) (tF v (kP i))) (fr:=fr) hi j pl;refine⟨_,p,λB p0 H ps σT σ DT DV o h f=>r B p0 H ps σT σ _ _ o h λd x H' s' l k=>?_⟩;exact f.nx H' ps _ _ ((o.grow s').set l) (bG s') k
noncomputable def iH(N:List Str)(ds:List D):List Sl:=ds.map Sl.val++dW (N.length-ds.length) .un
def oJ{N ds vs}(live:∀p∈ps,yQ (H p))(r:Reps K (mask H ps) ds vs):Ok K H ps H ps (iH N ds) (L2.lZ N vs):=by
 have f:=r.length;refine⟨L2.bA.refl _,λ_ h=>h,live,?_,λi d h=>?_,λi ts h=>?_,λi j ts us p h=>?_,λi hs kvs h=>?_⟩
 ·unfold iH L2.lZ;simp[f]
 ·unfold iH at h;by_cases hi:i<ds.length
  ·rw[eK (by simpa using hi),aL]at h
   cases hd:ds[i]? with
   |none=>rw[hd]at h;cases h
   |some d'=>
    rw[hd]at h;cases h;obtain⟨v,g,k⟩:=r.get hd;refine⟨v,?_,k⟩;unfold L2.lZ;rw[eK (by rw[aB,<- f];exact hi),aL,g];rfl
  ·rw[eX (by simpa using hi),kY]at h;split at h<;>cases h
 ·unfold iH at h;by_cases hi:i<ds.length
  ·rw[eK (by simpa using hi),aL]at h
   cases hd:ds[i]? with
   |none=>rw[hd]at h;cases h
   |some d'=>rw[hd]at h;cases h
  ·rw[eX (by simpa using hi),kY]at h;split at h<;>cases h
 ·unfold iH at h;by_cases hi:i<ds.length
  ·rw[eK (by simpa using hi),aL]at h
   cases hd:ds[i]? with
   |none=>rw[hd]at h;cases h
   |some d'=>rw[hd]at h;cases h
  ·rw[eX (by simpa using hi),kY]at h;split at h<;>cases h
 ·unfold iH at h;by_cases hi:i<ds.length
  ·rw[eK (by simpa using hi),aL]at h
   cases hd:ds[i]? with
   |none=>rw[hd]at h;cases h
   |some d'=>rw[hd]at h;cases h
  ·rw[eX (by simpa using hi),kY]at h;split at h<;>cases h
def rS{P w}{mg:Str->Option Value}{base x qual st}{f:Addr}{fd}{N pn:List Str}{k:Nat}{sp:oX}(F:J6 K x qual st f fd)(S:bW N pn (bB st))
  (n:∀{t6}{A:g9}{outer}{s:Shared}{H E},gR k (A.deeper (l3 qual (bB st) s.heap.objs.size f t6))->N.Nodup->∀(ds:List D)(Q:D->Prop),sp ds Q ->
   ∃t,sV (qP iL P w K mg base N qual (bB st) f t6 A outer s H E).nox (lD st) t/\t { nx:=λ_=>Q .none,rt:=Q } (iH N ds)) (len:∀ds Q,sp ds Q->ds.length=pn.length:=by intro ds Q h;(repeat obtain⟨_,h⟩:=h)<;>subst_vars<;>rfl):dP P w K mg base iL (k+1) f fd pn (dB K sp):=by
 refine F.ok S (λvs H Q E h=>?_) λt6 A outer s H vs Q E j h=>?_
 ·obtain⟨ps,ds,i,_,r,q,_⟩:=h;rw[<- r.length];exact len ds i q
 ·obtain⟨ps,ds,i,live,r,q,k⟩:=h;obtain⟨t,⟨ts,p,m⟩,h⟩:=n j S.nd ds i q;refine⟨ts,p,m H ps H ps _ _ _ _ (oJ live r) h ⟨λH' l6 h9 d8 o' s' g=>?_,λ_ _ _ _ _ _ g=>g.elim,λ_ _ _ _ _ _ g=>g.elim,λd v H' s' l g=>k d v H' s' l g,λ_ _ _ _ _ _ _ _ _ g=>g.elim,λ_ _ _ _ _ _ _ _ _ _ _ _ _ _ _ _ _ _ g=>g.elim,λ_ _ _ _ _ _ _ _ _ _ _ _ _ _ g=>g.elim,i8⟩⟩;exact k _ _ H' o'.base .none g
end
end TL
namespace HT
section
variable{prog:dD}{w:j0}{A:g9}{E:Value->Shared->Prop}{s:Shared}
def getItem_tuple_all{t sl:Addr}{a:Array Value}{vl vu lo hi}{Q:Value->Shared->Prop}(b:Ej s.heap t a)(hs:s.heap.IsSliceOf sl vl vu .none)(pl:IsPart vl lo)(g:IsPart vu hi)
  (hw:sIx a.size 0 lo=0/\sIx a.size a.size hi=a.size) (h:Q (.ref t) s):wpAny (model prog w) A (bw (.ref t) (.ref sl)) Q E s:=by
 obtain⟨os,c,d,i⟩:=id hs;have e:s.TypeIs (.ref sl) "slice":=⟨os,c,d⟩;unfold bw
 try with_reducible refine cm ?_
 first | refine aE (aV ?_) | skip
 refine aE (Fl b.typeIs (by decide) ?_)
 refine aE (m6 (name:=e8 "__getitem__") b.typeIs m8
  (lQ m8 b.typeIs Ca ?_ (Cv _ _)))
 show wpAny _ _ (eg (.ref t) >>= _) _ _ s;refine aE (tupleItemsOf_ b ?_);refine aE (dy e ?_);rw[b8 (by decide)];refine aE (rF hs pl g ?_)
 have f:(((sIx a.size 0 lo:Nat):Int)==0&&(1:Int)==1&&(sIx a.size a.size hi-sIx a.size 0 lo)==a.size)=true:=by
  rw[hw.1,hw.2];simp
 show wpAny _ _ (if(((sIx a.size 0 lo:Nat):Int)==0&&(1:Int)==1&&(sIx a.size a.size hi-sIx a.size 0 lo)==a.size)=true then _ else _) _ _ s;rw[b8 f];unfold Builtin.Tuple.tupleIsExact;refine aE (aE (dy b.typeIs (aV ?_)));rw[b8 (by decide)]
 first
  |exact aE (z8 (aE (aV (aV ⟨_,rfl,aV h⟩))))
  |exact aE (z8 (aV ⟨_,rfl,aV h⟩))
  |exact aE (z8 (aE (aV ⟨_,rfl,aV h⟩)))
end
end HT
namespace L2
section
variable{X:Cx}
def aJ7:V->Option Int->Option Int->Hp->VK->Prop:=λx lo hi H Q=>∃z,x=.str z/\z.length<=bE/\Q (.str (Txt.slice z lo hi)) H
def aD5:WR X aJ7:=by
 intro pins s σ H x v e f lo hi sl Q I d hs pl b h;obtain⟨z,rfl,hz,q⟩:=h;obtain⟨t,rfl⟩:=d;refine⟨"str",_,PySem.F.slot_str_getitem.lookup,Eg _ _ _,?_⟩
 have fin:∀lo hi:Option Int,Q (.str (Txt.slice z lo hi)) H->(Txt.slice z lo hi).length<=bE/\∀(t':Tok)(k:Nat),EP X pins σ Q (.str (Txt.slice z lo hi) t') { s with toks:=k }:=λlo hi q=>
  ⟨aX (Txt.slice_le z _ _) hz,λt' k=>⟨.str _,H,I.tok k,⟨t',rfl⟩,q⟩⟩
 cases pl with
 |none=>
  cases b with
  |none=>exact z9 (l:=none) (u:=none) (st:=none) hs rfl (ee (fin none none q))
  |int j a=>exact z9 (l:=none) (u:=some (j,a)) (st:=none) hs rfl (ee (fin none (some j) q))
 |int i c=>
  cases b with
  |none=>exact z9 (l:=some (i,c)) (u:=none) (st:=none) hs rfl (ee (fin (some i) none q))
  |int j a=>exact z9 (l:=some (i,c)) (u:=some (j,a)) (st:=none) hs rfl (ee (fin (some i) (some j) q))
def aBw(K:aI):V->Option Int->Option Int->Hp->VK->Prop:=λx lo hi H Q=>∃a xs,x=.ref a/\qG K H a xs /\
 ((HT.sIx xs.length 0 lo=0/\HT.sIx xs.length xs.length hi=xs.length)->Q (.ref a) H)/\(¬(HT.sIx xs.length 0 lo=0/\HT.sIx xs.length xs.length hi=xs.length)->∀p,H p=none->Q (.ref p) (fS H p (.tup (GN xs lo hi))))
def YG:WR X (aBw X.K):=by
 intro pins s σ H x v j k lo hi sl Q I e hs pl d h;obtain⟨a,xs,rfl,c,g,i⟩:=h;by_cases hw:HT.sIx xs.length 0 lo=0/\HT.sIx xs.length xs.length hi=xs.length
 ·cases e;obtain⟨i3,r,b,hz⟩:=I.tuple c;have f:i3.toArray.size=xs.length:=by rw[bF];exact r.length.symm
  exact⟨"tuple",_,PyProof.Rows.slot_tuple_getitem.lookup,b.typeIs,HT.getItem_tuple_all b hs pl d (by rw[f];exact hw) ⟨.ref a,H,I,rfl,g hw⟩⟩
 ·exact aD4 pins s σ H (.ref a) v j k lo hi sl Q I e hs pl d ⟨a,xs,rfl,c,hw,i hw⟩
def SV(K:aI):V->Option Int->Option Int->Hp->VK->Prop:=λx lo hi H Q=>aJ8 K x lo hi H Q\/aBw K x lo hi H Q\/aJ7 x lo hi H Q
def nH:WR X (SV X.K):=YH.or (YG.or aD5)
def SY(K:aI):R2:=λx y H Q=>∃a b xs ys,x=.ref a/\y=.ref b/\qG K H a xs/\qG K H b ys/\xs.length+ys.length<=bE /\
 (xs=[]->Q (.ref b) H)/\(xs≠[]->ys=[]->Q (.ref a) H)/\(xs≠[]->ys≠[]->∀p,H p=none->Q (.ref p) (fS H p (.tup (xs++ys))))
def TX:oG X (o9 .Add) (SY X.K):=by
 intro pins s σ H x y v u Q I i j h;obtain⟨a,b,xs,ys,rfl,rfl,ha,hb,hz,t,w,z⟩:=h;by_cases c:xs=[]
 ·cases i;cases j;obtain⟨i3,A,q,_⟩:=I.tuple ha;obtain⟨m,E,r,_⟩:=I.tuple hb;obtain⟨⟨cls,dd,data,sl⟩,f,e,n,hd⟩:=id q;obtain⟨⟨C,l,data2,B⟩,k,g,p,d⟩:=id r;simp only at e hd g d;subst e hd g d;have o:i3=[]:=A.nil_iff.mpr c;exact jg ⟨_,f,rfl⟩ ⟨_,k,rfl⟩ kx tx sP rP (qV _ _) (tuple_addW0 a b i3.toArray m.toArray n p dd l sl B (by simp[o])) ⟨f,k,⟨.ref b,H,I,rfl,t c⟩⟩
 ·exact Y9 pins s σ H (.ref a) (.ref b) v u Q I i j ⟨a,b,xs,ys,rfl,rfl,ha,hb,c,hz,w c,z c⟩
def aBy(K:aI):R2:=λx y H Q=>∃l b xs a,x=.ref l/\y=.ref b/\nB K H l xs/\nB K H b a/\xs.length+a.length<=bE/\∀p,H p=none->Q (.ref p) (fS H p (.lst (xs++a)))
def M6:oG X (o9 .Add) (aBy X.K):=by
 intro pins s σ H x y v u Q I r t h;obtain⟨l,b,xs,C,rfl,rfl,ha,hb,hz,q⟩:=h;cases r;cases t;obtain⟨i3,g,⟨⟨cls,dd,data,sl⟩,n,e,d,B,hd⟩,_⟩:=I.list ha;obtain⟨a,i,⟨⟨z,k,data2,w⟩,p,j,f,A,c⟩,_⟩:=I.list hb;simp only at d hd f c;subst d hd f c;have m:i3.toArray.size+a.toArray.size<=bE:=by rw[bF,bF,<- g.length,<- i.length];exact hz
 refine jg ⟨_,e,rfl⟩ ⟨_,j,rfl⟩ noFill_list_add seq_list_add PySem.F.slot_list_add PySem.F.entry_list_add (PySem.F.args_list_add_2 _ _) (list_addW l b i3.toArray a.toArray n p dd k sl w m) ⟨e,j,?_⟩;have o:i3.toArray++a.toArray=(i3++a).toArray:=by simp
 rw[o];exact⟨.ref _,_,I.lnew (t':=s.toks) (g.append i) (by rw[bO];exact hz),rfl,q _ I.fresh⟩
def MX(K:aI):R2:=λx y H Q=>(SX λi j=>.int (i+j)) x y H Q\/(∃i j,x=.str i/\y=.str j/\i.length+j.length<=bE/\Q (.str (i++j)) H)\/SY K x y H Q\/aBy K x y H Q
def dE:oG X (o9 .Add) (MX X.K):=aEy.or (K6.or (TX.or M6))
def MW:R2:=λx y H Q=>(rI J0 λi j=>.int (i*j)) x y H Q\/∃z n,x=.str z/\y=.int n/\z.length<=1000/\0<=n/\n<=1000/\Q (.str (Txt.mul z n)) H
def K4:oG X (o9 .Mult) (λx y H Q=>∃z n,x=.str z/\y=.int n/\z.length<=1000/\0<=n/\n<=1000/\Q (.str (Txt.mul z n)) H):=by
 intro pins s σ H x y v u Q I c d h;obtain⟨z,n,rfl,rfl,hz,e,f,q⟩:=h;obtain⟨t,rfl⟩:=c;obtain⟨t',rfl⟩:=d;refine SB.mul ⟨by simp;lia,λa _=>?_,λ_ _=>?_⟩ λb k=>⟨.str _,H,I.tok k,⟨b,rfl⟩,q⟩
 ·have hn:1<=n:=by lia
  have:(1000:Int)<=(2^63-1) / n:=by
   rw[Int.le_ediv_iff_mul_le (by lia)];lia
  lia
 ·have:z.length*n.toNat<=1000*1000:=iD hz (by lia);unfold Builtin.Str.tooLong;have g:bE=2^24:=rfl;simp only[decide_eq_false_iff_not];lia
def eG:oG X (o9 .Mult) MW:=TV.or K4
def GW(t:X.calm=true):kE X (.builtin "all") (λxs H Q=>∃(p:Addr)(bs:List Bool),xs=[.ref p]/\nB X.K H p (bs.map V.bl)/\Q (.bl (bs.all id)) H):=by
 intro pins s σ H xs us Q I r h;obtain⟨p,bs,rfl,y,q⟩:=h;obtain⟨u,rfl,B⟩:=nV r;cases B;obtain⟨i3,d,pl,hz⟩:=I.list y
 have l:p≠s.heap.objs.size:=by
  obtain⟨o,w,_⟩:=pl.isList;exact cI (aY w)
 have f:=pl.isList;refine call_all_walk (t8 f ?_);refine⟨_,_,_,_,_,_,λi=>(bs[i]?).getD true,rfl,qz (A:=X.A.in1) (I.ok.hd t) _ p l i3.toArray,⟨⟨_,aZ _ rfl,rfl,rfl⟩,f.push _⟩,λi v s' F C n c=>?_,λh' tk hk=>?_⟩
 ·have j:i3[i]?=some v:=by simpa using n
  have a:=d.length;have hi:i<i3.length:=(aF.mp j).1;have hb:i<bs.length:=by rw[aB]at a;lia
  obtain⟨G,g,m⟩:=d.get (i:=i) (x:=.bl bs[i]) (by rw[aL,aD hb];rfl);rw[j]at g;cases g;cases m;refine l5 ?_;dsimp only at c;rw[aD hb]at c;exact c
 ·have e:(fZ i3.toArray.size).all (λi=>(bs[i]?).getD true)=bs.all id:=by
   have a:=d.length;rw[aB]at a;rw[bF,<- a];rw[eN,fV,fV];constructor
   ·intro h b hb;obtain⟨i,hi,rfl⟩:=vX.mp hb;have:=h i (qJ.mpr hi);rw[aD hi]at this;exact this
   ·intro h i hi;have k:=qJ.mp hi;rw[aD k];exact h _ (fF k)
  rw[e];have E:dI X pins σ H { s with heap:=s.heap.push { cls:=.type "list_iterator",data:=.fields #[.ref p,.int 0 0] } }:=I.kept (t':=s.toks) λb o e=>aG _ e;refine⟨.bl _,H,I.kept λb o e=>hk b o ?_ (aG _ e),rfl,q⟩;intro z;have:b=s.heap.objs.size:=by simpa using z
  exact c7 (aY e) (by rw[this];exact eT _)
def aEh:R2:=λx y H Q=>∃b,y=.bl b/\Q (.bl (decide (x=.bl b))) H
def F2:R2:=λx y H Q=>∃b,y=.bl b/\Q (.bl (!decide (x=.bl b))) H
def aCn{x v}{b:Bool}(r:fU x v):plainIs v (.bool b)=true/\(v==eh b)=decide (x=.bl b):=by
 cases x with
 |non=>cases r;exact⟨rfl,rfl⟩
 |bl c=>cases r;cases b<;>cases c<;>exact⟨rfl,rfl⟩
 |int _=>obtain⟨t,rfl⟩:=r;exact⟨rfl,rfl⟩
 |str _=>obtain⟨t,rfl⟩:=r;exact⟨rfl,rfl⟩
 |byt _=>obtain⟨t,rfl⟩:=r;exact⟨rfl,rfl⟩
 |flt _=>obtain⟨t,rfl⟩:=r;exact⟨rfl,rfl⟩
 |ref _=>cases r;exact⟨rfl,rfl⟩
 |ty _=>cases r;exact⟨rfl,rfl⟩
def O2:oG X (g8 .IsNot) F2:=by
 intro pins s σ H x y v u Q I d e h;obtain⟨b,rfl,q⟩:=h;cases e;obtain⟨a,c⟩:=aCn (b:=b) d;refine wpAny_isNot_plain a ?_;rw[c];exact⟨.bl _,H,I,rfl,q⟩
def aEw:oG X (g8 .Is) aEh:=by
 intro pins s σ H x y v u Q I d e h;obtain⟨b,rfl,q⟩:=h;cases e;obtain⟨a,c⟩:=aCn (b:=b) d;refine wpAny_is_plain a ?_;rw[c];exact⟨.bl _,H,I,rfl,q⟩
theorem MN:∀{ys:List Str}{us},fM (ys.map V.str) us->StrsAre us ys
|[],_,r=>by rw[jI]at r;cases r;exact .nil
|y::ys,us,r=>by
 rw[bR]at r
 cases r with
 |cons a b=>
  obtain⟨t,rfl⟩:=a;exact .cons y t (MN b)
def ZM:Q5 X "str.join" (λx xs H Q=>∃z p ys,x=.str z/\xs=[.ref p]/\nB X.K H p (ys.map V.str)/\(ys.map (·.length)).sum+ys.length*z.length<=16777216/\Q (.str (Txt.join z ys)) H):=by
 intro pins s σ H x xs v us Q I d r h;obtain⟨z,p,ys,rfl,rfl,a,hz,q⟩:=h;obtain⟨t,rfl⟩:=d;obtain⟨u,rfl,b⟩:=nV r;cases b;obtain⟨i3,c,pl,_⟩:=I.list a;exact PyProof.Rows.join_list pl.isList (by simpa using MN c) hz λt' k=>⟨.str _,H,I.tok k,⟨t',rfl⟩,q⟩
def KG(K:aI)(H:Hp):V->String->Prop
|.non,T=>T="NoneType"
|.bl _,T=>T="bool"
|.int _,T=>T="int"
|.str _,T=>T="str"
|.ref p,T=>(T="list"/\∃xs,nB K H p xs)\/(T="tuple"/\∃xs,qG K H p xs)\/(T="list"/\∃P,H p=some (.ext P)/\∀h:Heap,P h->∃o,h.get? p=some o/\o.cls=.type "list")
|_,_=>False
def ZY{pins σ H s A}{E:Value->Shared->Prop}{Q:Value->Shared->Prop}{x u c T}{b:Bool}(I:dI X pins σ H s)(g:fU x u)(ty:KG X.K H x T)
  (e:cV X.K (.type T) c=some b) (h:∀tk,Q (.bool b) { s with toks:=tk }):wpAny (model X.prog X.w) A (call (.builtin "isinstance") [u,c]) Q E s:=by
 cases x with
 |non=>cases (show T="NoneType" from ty);exact uU I g .non e h
 |bl y=>cases (show T="bool" from ty);exact uU I g (.bl y) e h
 |int i=>cases (show T="int" from ty);exact uU I g (.int i) e h
 |str y=>cases (show T="str" from ty);exact uU I g (.str y) e h
 |ref p=>
  cases g;rcases ty with⟨rfl,xs,f⟩ | ⟨rfl,xs,f⟩ | ⟨rfl,P,f,j⟩
  ·obtain⟨i3,_,pl,_⟩:=I.list f;obtain⟨o,n,d,a,_⟩:=pl;exact eJ qI I.kIn ⟨o,d,a⟩ e (λz=>nomatch z) h
  ·obtain⟨i3,_,pl,_⟩:=I.tuple f;obtain⟨o,d,a,_⟩:=pl;exact eJ MC I.kIn ⟨o,d,a⟩ e (λz=>nomatch z) h
  ·obtain⟨o,d,a⟩:=j _ (I.hok p _ f).1;exact eJ qI I.kIn ⟨o,d,a⟩ e (λz=>nomatch z) h
 |_=>exact j8 ty
def SW(K:aI)(R:Hp->bt->V->Prop):List V->Hp->VK->Prop:=λxs H Q=>∃(x:V)(d:bt),xs=[x]/\R H d x/\d.showable=true/\d.hasDict=false/\d.depth<=60/\d.shown.length<=bE/\Q (.str d.shown) H
def QA{k:Nat}{R:Hp->bt->V->Prop}(j:gR k X.A)
  (m:∀{pins σ H}{s:Shared}{d x u},dI X pins σ H s->R H d x->fU x u->∃as,Reads s.heap u d as):kE X (.builtin "repr") (SW X.K R):=by
 intro pins s σ H xs us Q I r h;obtain⟨x,d,rfl,p,hs,hd,v,hz,q⟩:=h;obtain⟨u,rfl,o⟩:=nV r;obtain⟨as,n⟩:=m I p o;have w:=j.un
 cases n with
 |none=>exact PySem.P.repr_of_none ⟨.str _,H,I.tok _,⟨_,rfl⟩,q⟩
 |bool b=>exact PySem.P.repr_of_bool ⟨.str _,H,I.tok _,⟨_,rfl⟩,q⟩
 |int i t=>exact PySem.P.repr_of_int (by simpa[PyData.showable]using hs) ⟨.str _,H,I.tok _,⟨_,rfl⟩,q⟩
 |str z t=>exact PySem.P.repr_of_str ⟨.str _,H,I.tok _,⟨_,rfl⟩,q⟩ hz
 |list a c f g=>
  exact repr_of_reads' (.list a c f g) hs (λz=>by rw[hd]at z;cases z) j.gd (by lia) (λ_ _ e=>e) (λh' l tk hk=>⟨.str _,H,I.kept hk,⟨l,rfl⟩,q⟩) hz
 |tuple a c f g=>
  exact repr_of_reads' (.tuple a c f g) hs (λz=>by rw[hd]at z;cases z) j.gd (by lia) (λ_ _ e=>e) (λh' l tk hk=>⟨.str _,H,I.kept hk,⟨l,rfl⟩,q⟩) hz
 |dict=>simp[PyData.hasDict]at hd
end
end L2
namespace TL
open L2
variable{K:aI}{H H' H1 H2:Hp}{B:Hp}{p0 ps:List Addr}{σT:List Sl}{σ:L2.St}
section
variable{X:Cx}{a b c e:Expr}{es:List Expr}{ta te:ET}{pos p:Pos}
def fI(C:Int->Int->Prop)(g:Int->Int->Int):D->D->(D->Prop)->Prop
|.int i,.int j,Q=>C i j/\Q (.int (g i j))
|_,_,_=>False
def fI0(g:Int->Int->Int):D->D->(D->Prop)->Prop
|.int i,.int j,Q=>Q (.int (g i j))
|_,_,_=>False
def fB0(g:Int->Int->Bool):D->D->(D->Prop)->Prop
|.int i,.int j,Q=>Q (.bool (g i j))
|_,_,_=>False
def qZ{C:Int->Int->Prop}{g:Int->Int->Int}:zO X (rI C λi j=>.int (g i j)) (fI C g):=by
 intro H ps m n x y Q l live d f h k
 cases d with
 |int i=>
  cases f with
  |int j=>exact⟨i,j,rfl,rfl,h.1,k _ _ H (L2.bA.refl H) (.int _) h.2⟩
  |_=>exact h.elim
 |_=>exact h.elim
def F8{g:Int->Int->Int}:zO X (SX λi j=>.int (g i j)) (fI0 g):=by
 intro H ps m n x y Q l live d f h k
 cases d with
 |int i=>
  cases f with
  |int j=>exact⟨i,j,rfl,rfl,k _ _ H (L2.bA.refl H) (.int _) h⟩
  |_=>exact h.elim
 |_=>exact h.elim
def rH{g:Int->Int->Bool}:zO X (SX λi j=>.bl (g i j)) (fB0 g):=by
 intro H ps m n x y Q l live d f h k
 cases d with
 |int i=>
  cases f with
  |int j=>exact⟨i,j,rfl,rfl,k _ _ H (L2.bA.refl H) (.bool _) h⟩
  |_=>exact h.elim
 |_=>exact h.elim
def VU:D->D->(D->Prop)->Prop
|.int i,.int j,Q=>Q (.int (i+j))
|.str x,.str y,Q=>x.length+y.length<=100000/\Q (.str (x++y))
|.tuple x,.tuple y,Q=>x.length+y.length<=100000/\Q (.tuple (x++y))
|.list x,.list y,Q=>x.length+y.length<=100000/\Q (.list (x++y))
|_,_,_=>False
def zC{n:Nat}(h:n<=100000):n<=bE:=by have:bE=2^24:=rfl;lia
def iP:zO X (MX X.K) VU:=by
 intro H ps o q x y Q n live m l h k
 cases m with
 |int i=>
  cases l with
  |int j=>exact .inl ⟨i,j,rfl,rfl,k _ _ H (L2.bA.refl H) (.int _) h⟩
  |_=>exact h.elim
 |str i=>
  cases l with
  |str j=>exact .inr (.inl ⟨i,j,rfl,rfl,zC h.1,k _ _ H (L2.bA.refl H) (.str _) h.2⟩)
  |_=>exact h.elim
 |tuple f s1=>
  cases l with
  |tuple g s2=>
   refine .inr (.inr (.inl ⟨_,_,_,_,rfl,rfl,bA.seqT bU f,bA.seqT bU g,zC (by rw[<- s1.length,<- s2.length];exact h.1),λz=>?_,λz1 z2=>?_,λz1 z2 p d=>?_⟩))
   ·subst z;cases s1;exact k _ _ H (L2.bA.refl H) (.tuple g s2) h.2
   ·subst z2;cases s2;have e:=h.2;rw[cJ]at e;exact k _ _ H (L2.bA.refl H) (.tuple f s1) e
   ·exact k _ _ _ (dH d) (uO live d (s1.append s2)) h.2
  |_=>exact h.elim
 |list f s1=>
  cases l with
  |list g s2=>
   exact .inr (.inr (.inr ⟨_,_,_,_,rfl,rfl,L2.bA.seq bU f,L2.bA.seq bU g,zC (by rw[<- s1.length,<- s2.length];exact h.1),λp d=>k _ _ _ (dH d) (rY live d (s1.append s2)) h.2⟩))
  |_=>exact h.elim
 |_=>exact h.elim
def aFq:D->D->(D->Prop)->Prop
|.int i,.int j,Q=>J0 i j/\Q (.int (i*j))
|.str z,.int n,Q=>z.length<=1000/\0<=n/\n<=1000/\Q (.str (Txt.mul z n))
|_,_,_=>False
def kW:zO X MW aFq:=by
 intro H ps l m x y Q g live f d h k
 cases f with
 |int i=>
  cases d with
  |int j=>exact .inl ⟨i,j,rfl,rfl,h.1,k _ _ H (L2.bA.refl H) (.int _) h.2⟩
  |_=>exact h.elim
 |str z=>
  cases d with
  |int n=>exact .inr ⟨z,n,rfl,rfl,h.1,h.2.1,h.2.2.1,k _ _ H (L2.bA.refl H) (.str _) h.2.2.2⟩
  |_=>exact h.elim
 |_=>exact h.elim
noncomputable def eqF:D->D->Option Bool
|.none,.none=>some true
|.bool x,.bool y=>some (decide (x=y))
|.int x,.int y=>some (decide (x=y))
|.str x,.str y=>some (decide (x=y))
|.str _,.none | .none,.str _=>some false
|_,_=>none
def fEq(x y:D)(Q:D->Prop):Prop:=match eqF x y with | some c=>Q (.bool c) | none=>False
def fNe(x y:D)(Q:D->Prop):Prop:=match eqF x y with | some c=>Q (.bool (!c)) | none=>False
def JI{x y:D}{u v:V}{c:Bool}(d:gW K H x u)(f:gW K H y v)(h:eqF x y=some c):aD6 u v=true/\decide (u=v)=c:=by
 unfold eqF at h;split at h<;>cases h<;>cases d<;>cases f<;>exact⟨rfl,by simp⟩
def mL:zO X rEq fEq:=by
 intro H ps d f x y Q m live j l h k;unfold fEq at h
 cases e:eqF d f with
 |none=>rw[e]at h;exact h.elim
 |some c=>
  rw[e]at h;obtain⟨g,i⟩:=JI j l e;refine⟨g,?_⟩;rw[i];exact k _ _ H (L2.bA.refl H) (.bool c) h
def K8:zO X rNe fNe:=by
 intro H ps d f x y Q m live j l h k;unfold fNe at h
 cases e:eqF d f with
 |none=>rw[e]at h;exact h.elim
 |some c=>
  rw[e]at h;obtain⟨g,i⟩:=JI j l e;refine⟨g,?_⟩;rw[i];exact k _ _ H (L2.bA.refl H) (.bool (!c)) h
noncomputable def sE(b:Bool):D->Bool
|.bool c=>decide (c=b)
|_=>false
def aFr(x y:D)(Q:D->Prop):Prop:=match y with | .bool b=>Q (.bool (!sE b x)) | _=>False
theorem Reps.atI{ds vs}{i:Int}{d}(r:Reps K H ds vs)(h:atI ds i=some d):∃v,atI vs i=some v/\gW K H d v:=by
 unfold L2.atI at h |-
 rw[<- r.length]
 cases e:ixN ds.length i with
 |none=>rw[e]at h;cases h
 |some j=>
  rw[e]at h;exact r.get h
inductive G5(ts:List D)(i:Int)(Q:D->Prop):Prop
|mk (d:D) (h:atI ts i=some d) (k:Q d):G5 ts i Q
def MA{ts}{i:Int}{Q:D->Prop}:G5 ts i Q↔∃d,atI ts i=some d/\Q d:=⟨λ⟨d,h,k⟩=>⟨d,h,k⟩,λ⟨d,h,k⟩=>⟨d,h,k⟩⟩
def fIx(x y:D)(Q:D->Prop):Prop:=match x,y with
|.list ts,.int i=>G5 ts i Q
|.tuple ts,.int i=>G5 ts i Q
|.str z,.int i=>z.length<=100000/\∃c,atI z.cps.toList i=some c/\Q (.str ⟨#[c]⟩)
|_,_=>False
def cD:zO X (rIx X.K) fIx:=by
 intro H ps g n x y Q m live j l h k
 cases l with
 |int i=>
  cases j with
  |list q s=>
   obtain⟨d,e,h⟩:=h;obtain⟨v,f,r⟩:=s.atI e;exact .inl ⟨_,_,i,v,rfl,rfl,L2.bA.seq bU q,f,k _ _ H (L2.bA.refl H) r h⟩
  |tuple q s=>
   obtain⟨d,e,h⟩:=h;obtain⟨v,f,r⟩:=s.atI e;exact .inr (.inl ⟨_,_,i,v,rfl,rfl,bA.seqT bU q,f,k _ _ H (L2.bA.refl H) r h⟩)
  |str z=>
   obtain⟨hz,c,e,h⟩:=h;exact .inr (.inr ⟨z,i,c,rfl,rfl,zC hz,e,k _ _ H (L2.bA.refl H) (.str _) h⟩)
  |_=>exact h.elim
 |_=>cases g<;>exact h.elim
noncomputable def mW{d:Type}(xs:List d)(lo hi:Option Int):List d:=(xs.drop (HT.sIx xs.length 0 lo)).take (HT.sIx xs.length xs.length hi-HT.sIx xs.length 0 lo)
def fSl(x:D)(lo hi:Option Int)(Q:D->Prop):Prop:=match x with
|.list ts=>Q (.list (mW ts lo hi))
|.tuple ts=>Q (.tuple (mW ts lo hi))
|.str z=>z.length<=100000/\Q (.str (Txt.slice z lo hi))
|_=>False
def Reps.cut{ds vs}(r:Reps K H ds vs)(lo hi:Option Int):Reps K H (mW ds lo hi) (GN vs lo hi):=by
 unfold mW GN;rw[r.length];exact(r.drop _).take _
def xC:SlT X (SV X.K) fSl:=by
 intro H ps d x lo hi Q g live r h k
 cases r with
 |list q s=>exact .inl ⟨_,_,rfl,L2.bA.seq bU q,λp f=>k _ _ _ (dH f) (rY live f (s.cut lo hi)) h⟩
 |@tuple p xs ts q s=>
  refine .inr (.inl ⟨_,_,rfl,bA.seqT bU q,λz=>?_,λ_ p f=>k _ _ _ (dH f) (uO live f (s.cut lo hi)) h⟩)
  have e:mW ts lo hi=ts:=by
   unfold mW;rw[s.length,z.1,z.2,MF,FO,<- s.length,dF]
  have h':Q (.tuple (mW ts lo hi)):=h;rw[e]at h';exact k _ _ H (L2.bA.refl H) (.tuple q s) h'
 |str z=>exact .inr (.inr ⟨z,rfl,zC h.1,k _ _ H (L2.bA.refl H) (.str _) h.2⟩)
 |_=>exact h.elim
def fIn(x y:D)(Q:D->Prop):Prop:=match x,y with
|.str z,.str y=>Q (.bool (Txt.contains y z))
|.str z,.list ts=>∃ys:List Str,ts=ys.map .str/\Q (.bool (decide (z∈ys)))
|.str z,.tuple ts=>∃ys:List Str,ts=ys.map .str/\Q (.bool (decide (z∈ys)))
|_,_=>False
theorem EI:∀{ys:List Str}{vs},Reps K H (ys.map aS) vs->vs=ys.map V.str
|[],_,r=>by rw[jI]at r;cases r;rfl
|y::ys,vs,r=>by
 rw[bR]at r
 cases r with
 |cons d f=>
  cases d;rw[bR,EI f]
def aFp(x y:D)(Q:D->Prop):Prop:=match x,y with
|.str z,.list ts=>∃ys:List Str,ts=ys.map .str/\Q (.bool (!decide (z∈ys)))
|.str z,.tuple ts=>∃ys:List Str,ts=ys.map .str/\Q (.bool (!decide (z∈ys)))
|_,_=>False
def aC0{r:List V->Hp->VK->Prop}{f:List D->(D->Prop)->Prop}{t g}(j:pQ X r f)(ha:wQ X (e::es) t)(pc:∀{ta},PA X (e::es) ta->PE X (.Call g (e::es) [] pos) (Q0 r ta)):fY X (.Call g (e::es) [] pos) (pO f t):=by
 obtain⟨v,l,u⟩:=ha;refine⟨_,pc l,λB p0 H ps σT σ Q i o h k=>u B p0 H ps σT σ _ _ o h λds xs H1 s1 s n=>?_⟩;exact j H1 ps ds xs Q i (o.grow s1).live s n λd v H' s' q m=>k d v H' (s1.trans s') q m
def f1(f:D->(D->Prop)->Prop):List D->(D->Prop)->Prop
|[d],Q=>f d Q
|_,_=>False
def c1{r:List V->Hp->VK->Prop}{f:D->(D->Prop)->Prop}(h:∀H ps(d:D)(x:V)(Q:D->Prop)g,(∀p∈ps,yQ (H p))->gW X.K (mask H ps) d x->f d Q ->
  (∀d v H',bA H H'->gW X.K (mask H' ps) d v->Q d->g v H')->r [x] H g):pQ X r (f1 f):=by
 intro H ps ds xs Q g live m i k
 cases m with
 |nil=>exact i.elim
 |cons j l=>
  cases l with
  |nil=>exact h H ps _ _ Q g live j i k
  |cons _ _=>exact i.elim
def aFl(d:D)(Q:D->Prop):Prop:=match d with
|.list ts=>Q (.int ts.length)
|.tuple ts=>Q (.int ts.length)
|.str z=>z.length<=100000/\Q (.int z.length)
|_=>False
def cG:kE X (.builtin "len") (λxs H Q=>(∃p ys,xs=[.ref p]/\(nB X.K H p ys\/qG X.K H p ys)/\Q (.int ys.length) H)\/∃z,xs=[.str z]/\z.length<=bE/\Q (.int z.length) H):=GV.or GU
def iX:pQ X (λxs H Q=>(∃p ys,xs=[.ref p]/\(nB X.K H p ys\/qG X.K H p ys)/\Q (.int ys.length) H)\/∃z,xs=[.str z]/\z.length<=bE/\Q (.int z.length) H) (f1 aFl):=c1 λH ps d x Q f live r h k=>by
 cases r with
 |list q s=>
  refine .inl ⟨_,_,rfl,.inl (L2.bA.seq bU q),?_⟩;rw[<- s.length];exact k _ _ H (L2.bA.refl H) (.int _) h
 |tuple q s=>
  refine .inl ⟨_,_,rfl,.inr (bA.seqT bU q),?_⟩;rw[<- s.length];exact k _ _ H (L2.bA.refl H) (.int _) h
 |str z=>exact .inr ⟨z,rfl,zC h.1,k _ _ H (L2.bA.refl H) (.int _) h.2⟩
 |_=>exact h.elim
def LP(d:D)(Q:D->Prop):Prop:=match d with
|.list ts=>Q (.tuple ts)
|.tuple ts=>Q (.tuple ts)
|_=>False
def GX:pQ X (λxs H Q=>∃p ys,xs=[.ref p]/\((nB X.K H p ys/\∀l,H l=none->Q (.ref l) (fS H l (.tup ys)))\/(qG X.K H p ys/\Q (.ref p) H))) (f1 LP):=c1 λH ps d x Q g live r h k=>by
 cases r with
 |list q s=>exact⟨_,_,rfl,.inl ⟨L2.bA.seq bU q,λl f=>k _ _ _ (dH f) (uO live f s) h⟩⟩
 |tuple q s=>exact⟨_,_,rfl,.inr ⟨bA.seqT bU q,k _ _ H (L2.bA.refl H) (.tuple q s) h⟩⟩
 |_=>exact h.elim
def aCu(d:D)(Q:D->Prop):Prop:=match d with
|.list ts=>Q (.list ts)
|.tuple ts=>Q (.list ts)
|_=>False
def aF8:pQ X (λxs H Q=>∃p ys,xs=[.ref p]/\(nB X.K H p ys\/qG X.K H p ys)/\∀l,H l=none->Q (.ref l) (fS H l (.lst ys))) (f1 aCu):=c1 λH ps d x Q g live r h k=>by
 cases r with
 |list q s=>exact⟨_,_,rfl,.inl (L2.bA.seq bU q),λl f=>k _ _ _ (dH f) (rY live f s) h⟩
 |tuple q s=>exact⟨_,_,rfl,.inr (bA.seqT bU q),λl f=>k _ _ _ (dH f) (rY live f s) h⟩
 |_=>exact h.elim
theorem IA:∀{ys:List Bool}{vs},Reps K H (ys.map J8) vs->vs=ys.map V.bl
|[],_,r=>by rw[jI]at r;cases r;rfl
|y::ys,vs,r=>by
 rw[bR]at r
 cases r with
 |cons d f=>
  cases d;rw[bR,IA f]
theorem yA:∀{ys:List Int}{vs},Reps K H (ys.map aW) vs->vs=ys.map V.int
|[],_,r=>by rw[jI]at r;cases r;rfl
|y::ys,vs,r=>by
 rw[bR]at r
 cases r with
 |cons d f=>
  cases d;rw[bR,yA f]
def aFm(d:D)(Q:D->Prop):Prop:=∃bs:List Bool,d=.list (bs.map J8)/\Q (.bool (bs.all id))
def aMe:pQ X (λxs H Q=>∃(p:Addr)(bs:List Bool),xs=[.ref p]/\nB X.K H p (bs.map V.bl)/\Q (.bl (bs.all id)) H) (f1 aFm):=c1 λH ps d x Q f live r h k=>by
 obtain⟨bs,rfl,h⟩:=h
 cases r with
 |list q s=>
  have e:=IA s;subst e;exact⟨_,bs,rfl,L2.bA.seq bU q,k _ _ H (L2.bA.refl H) (.bool _) h⟩
def aO5(d:D)(Q:D->Prop):Prop:=∃ns:List Int,d=.list (ns.map aW)/\ns≠[]/\∀m,m∈ns->(∀n∈ns,m<=n)->Q (.int m)
def f2(f:D->D->(D->Prop)->Prop):List D->(D->Prop)->Prop
|[d,d'],Q=>f d d' Q
|_,_=>False
def aCt(x y:D)(Q:D->Prop):Prop:=match x,y with | .int i,.int j=>Q (.int (if j<i then j else i)) | _,_=>False
def WF:pQ X (λxs H Q=>∃i j,xs=[.int i,.int j]/\Q (.int (if j<i then j else i)) H) (f2 aCt):=by
 intro H ps ds xs Q n live m d k
 cases m with
 |nil=>exact d.elim
 |cons f g=>
  cases g with
  |nil=>exact d.elim
  |cons h l=>
   cases l with
   |cons _ _=>exact d.elim
   |nil=>
    cases f with
    |int i=>
     cases h with
     |int j=>exact⟨i,j,rfl,k _ _ H (L2.bA.refl H) (.int _) d⟩
     |_=>exact d.elim
    |_=>exact d.elim
noncomputable def tyD:D->String
|.none=>"NoneType"
|.bool _=>"bool"
|.int _=>"int"
|.str _=>"str"
|.list _=>"list"
|.tuple _=>"tuple"
|.dict []=>"list"
|.dict [(.none,_)]=>"list"
|.dict _=>"dict"
noncomputable def isT(T:String)(d:D):Bool:=(tyD d==T)||(T=="int"&&tyD d=="bool")
def GD{T}{i:Int}{x}(h:T∈["int","str","list","tuple","bool"]):isT T (.dict [(.int i,x)])=false:=by
 simp only[aP,cO,l9]at h;rcases h with rfl | rfl | rfl | rfl | rfl<;>rfl
def aFg(T:String)(d:D)(Q:D->Prop):Prop:=match d with | .dict ((.str _,_)::_)=>False | d=>Q (.bool (isT T d))
def ZZ{T d}{Q:D->Prop}(h:∀x y r,d≠.dict ((.str x,y)::r))(q:aFg T d Q):Q (.bool (isT T d)):=by
 unfold aFg at q;split at q
 ·exact q.elim
 ·exact q
def aPb(T:String)(te:ET):ET:=λσ Q=>te σ λd=>aFg T d Q
def aC7(K:aI)(T:String):Prop:=∀tn∈["NoneType","bool","int","str","list","tuple"],cV K (.type tn) (.type T)=some ((tn==T)||(T=="int"&&tn=="bool"))
def aEg(K:aI)(T:String):List V->Hp->VK->Prop:=λxs H Q=>∃x b,xs=[x,.ty T]/\((∃f,KG K H x f/\cV K (.type f) (.type T)=some b)\/(∃p C dx,x=.ref p/\H p=some (.ext (rL p C dx))/\(∀d,dx=some d->∃fs,H d=some (.xd fs))/\DW K C/\cV K (.ref C) (.type T)=some b))/\Q (.bl b) H
def CG{pins s σ}{H:Hp}{A}{E:Value->Shared->Prop}{Q:Value->Shared->Prop}{p C:Addr}{dx c}{b:Bool}(I:dI X pins σ H s)(m:H p=some (.ext (rL p C dx)))(hd:∀d,dx=some d->∃fs,H d=some (.xd fs))(x:DW X.K C)
  (e:cV X.K (.ref C) c=some b) (h:∀tk,Q (.bool b) { s with toks:=tk }):wpAny (model X.prog X.w) A (call (.builtin "isinstance") [.ref p,c]) Q E s:=by
 refine eJ (U3 x) I.kIn ?_ e (λz=>nomatch z) h;obtain⟨⟨o,vs,f,g,i,j⟩,_⟩:=I.hok p _ m;have hn:WY o=true:=by unfold WY;rw[j]
 cases dx with
 |none=>exact⟨o,none,f,g,hn,by rw[i];trivial⟩
 |some d=>
  obtain⟨fs,l⟩:=hd d rfl;obtain⟨mA,⟨od,es,ep,k,_⟩,_⟩:=I.hok d _ l;exact⟨o,some od,f,g,hn,by rw[i];exact k⟩
def WE{T}:kE X (.builtin "isinstance") (aEg X.K T):=by
 intro pins s σ H xs us Q I r h;obtain⟨x,b,rfl,⟨k,i,hk⟩ | ⟨p,C,dx,rfl,g,hd,j,hk⟩,q⟩:=h
 ·obtain⟨u,w,rfl,f,d⟩:=HN r;cases d;exact ZY I f i hk λtk=>⟨.bl b,H,I.tok tk,rfl,q⟩
 ·obtain⟨u,w,rfl,f,d⟩:=HN r;cases d;cases f;exact CG I g hd j hk λtk=>⟨.bl b,H,I.tok tk,rfl,q⟩
def aFy{T g1 g2}(hk:aC7 X.K T)(t:fY X e te)
  (pc:∀{v},PE X e v->PE X (.Call g1 [e,g2] [] pos) (Q0 (aEg X.K T) (wU v (wU (tC (.ty T)) DM))))
  (l:T∈["int","str","list","tuple","bool"]:=by decide):fY X (.Call g1 [e,g2] [] pos) (aPb T te):=by
 obtain⟨v,u,re⟩:=t;refine⟨_,pc u,λB p0 H ps σT σ Q n o h k=>re B p0 H ps σT σ _ _ o h λd x H1 s1 w j=>?_⟩
 have fin:∀tn,tn∈["NoneType","bool","int","str","list","tuple"]->tyD d=tn->KG X.K H1 x tn->aEg X.K T [x,V.ty T] H1 n:=λtn hm m hn=>by
  refine⟨x,_,rfl,.inl ⟨tn,hn,hk tn hm⟩,?_⟩;have q:Q (.bool (isT T d)):=ZZ (λx y r z=>by subst z;have z2:("dict":String)=tn:=m;subst z2;exact c7 hm (by decide)) j;unfold isT at q;rw[m]at q;exact k _ _ H1 s1 (.bool _) q
 cases w with
 |none=>exact fin "NoneType" (by simp) rfl rfl
 |bool b=>exact fin "bool" (by simp) rfl rfl
 |int i=>exact fin "int" (by simp) rfl rfl
 |str z=>exact fin "str" (by simp) rfl rfl
 |list q s=>exact fin "list" (by simp) rfl (.inl ⟨rfl,_,L2.bA.seq bU q⟩)
 |tuple q s=>exact fin "tuple" (by simp) rfl (.inr (.inl ⟨rfl,_,bA.seqT bU q⟩))
 |wild h=>exact fin "list" (by simp) rfl (.inr (.inr ⟨rfl,_,bU _ _ h,λ_ ⟨_,_,e,_⟩=>⟨_,e,rfl⟩⟩))
 |tape h _=>exact fin "list" (by simp) rfl (.inr (.inr ⟨rfl,_,bU _ _ h,λ_ ⟨_,_,_,_,_,_,_,e,_⟩=>⟨_,e,rfl⟩⟩))
 |exc x h=>
  refine⟨_,false,rfl,.inr ⟨_,_,_,rfl,bU _ _ h,(λ_ z=>nomatch z),x.1,x.2 T l⟩,?_⟩;have f:Q (.bool (isT T (.dict _))):=j;rw[GD l]at f;exact k _ _ H1 s1 (.bool _) f
 |excA x h g=>
  refine⟨_,false,rfl,.inr ⟨_,_,_,rfl,bU _ _ h,λ_ z=>by cases z;exact⟨_,bU _ _ g⟩,x.1,x.2 T l⟩,?_⟩;have f:Q (.bool (isT T (.dict _))):=j;rw[GD l]at f;exact k _ _ H1 s1 (.bool _) f
 |excD x h g _=>
  refine⟨_,false,rfl,.inr ⟨_,_,_,rfl,bU _ _ h,λ_ z=>by cases z;exact⟨_,bU _ _ g⟩,x.1,x.2 T l⟩,?_⟩;have f:Q (.bool (isT T (.dict _))):=j;rw[GD l]at f;exact k _ _ H1 s1 (.bool _) f
 |dct _ _ _=>exact(show False from j).elim
 |addr z=>exact(show False from j).elim
 |ins _ _=>exact(show False from j).elim
def V2(f:Str->List D->(D->Prop)->Prop)(te:ET)(t:AT):ET:=λσ Q=>te σ λd=>∃z,d=.str z/\t σ λds=>f z ds Q
def aLt(z:Str)(ds:List D)(Q:D->Prop):Prop:=match ds with | [.str y]=>Q (.int (Txt.find z y)) | _=>False
def aCv(z:Str)(ds:List D)(Q:D->Prop):Prop:=match ds with | [.list ts]=>∃ys:List Str,ts=ys.map aS/\(ys.map (·.length)).sum+ys.length*z.length<=16777216/\Q (.str (Txt.join z ys)) | _=>False
def PH{f:Str->List D->(D->Prop)->Prop}{r:V->List V->Hp->VK->Prop}{n g t}(hn:fY X n te)(ha:wQ X (e::es) t)
  (l:∀H ps(z:Str)(ds:List D)(xs:List V)(Q:D->Prop)i,Reps X.K (mask H ps) ds xs->f z ds Q->(∀d v H',bA H H'->gW X.K (mask H' ps) d v->Q d->i v H')->r (.str z) xs H i)
  (pc:∀{v ta},PE X n v->PA X (e::es) ta->PE X (.Call g (e::es) [] pos) (Q1 X.K "str" r v ta)):fY X (.Call g (e::es) [] pos) (V2 f te t):=by
 obtain⟨v,q,re⟩:=hn;obtain⟨E,m,C⟩:=ha;refine⟨_,pc q m,λB p0 H ps σT σ Q i o h k=>re B p0 H ps σT σ _ _ o h λd x H1 s1 y j=>?_⟩;obtain⟨z,rfl,j⟩:=j;cases y;refine⟨rfl,C B p0 H1 ps σT σ _ _ (o.grow s1) j λds xs H2 s2 A u=>?_⟩;exact l H2 ps z ds xs Q i A u λd v H' s' w s=>k d v H' (s1.trans (s2.trans s')) w s
def aAh{n ap t}(hn:fY X n te)(ha:wQ X (e::es) t)
  (pc:∀{v ta},PE X n v->PA X (e::es) ta->PE X (.Call (.Attribute n "join" ap) (e::es) [] pos) (Q1 X.K "str" (λx xs H Q=>∃z p ys,x=.str z/\xs=[.ref p]/\nB X.K H p (ys.map V.str)/\(ys.map (·.length)).sum+ys.length*z.length<=16777216/\Q (.str (Txt.join z ys)) H) v ta)):fY X (.Call (.Attribute n "join" ap) (e::es) [] pos) (V2 aCv te t):=
 PH hn ha (λH ps z ds xs Q g r h k=>by
  cases r with
  |nil=>exact h.elim
  |cons d f=>
   cases f with
   |cons _ _=>cases d<;>exact h.elim
   |nil=>
    cases d with
    |list q s=>
     obtain⟨ys,rfl,hz,h⟩:=h;have e:=EI s;subst e;exact⟨z,_,ys,rfl,rfl,L2.bA.seq bU q,hz,k _ _ H (L2.bA.refl H) (.str _) h⟩
    |_=>exact h.elim) pc
def aEa(i j:Nat)(te:ET):vE:=λDT σ=>te σ λd=>gP i j d σ DT.nx
def gW.reads{pins:List (Addr×Obj)}{s:Shared}{σ:L2.St}(I:dI X pins σ H s){d:D}{x:V}{u:Value}(hd:d.hasDict=false)(r:gW X.K H d x)(h:fU x u):∃as,Reads s.heap u d as:=by
 refine gW.rec (motive_1:=λd x _=>∀u,d.hasDict=false->fU x u->∃as,Reads s.heap u d as) (motive_2:=λds xs _=>∀us,lX ds=false->fM xs us->∃as,ReadsAll s.heap us ds as)
  (λu _ r=>by cases r;exact⟨_,.none⟩) (λb u _ r=>by cases r;exact⟨_,.bool b⟩) (λi u _ r=>by obtain⟨t,rfl⟩:=r;exact⟨_,.int i t⟩) (λz u _ r=>by obtain⟨t,rfl⟩:=r;exact⟨_,.str z t⟩)
  (λq _ a u hd r=>?_) (λq _ a u hd r=>?_) ?_ ?_ ?_ ?_ ?_ ?_ ?_ ?_ (λus _ r=>by cases r;exact⟨_,.nil⟩) (λ{d ds x xs} _ _ a b us hd r=>?_) r u hd h
 ·cases r;obtain⟨i3,h,⟨o,n,f,g,_,k⟩,_⟩:=I.list q;obtain⟨as,l⟩:=a _ hd h;exact⟨_,.list f g k (by simpa using l)⟩
 ·cases r;obtain⟨i3,h,⟨o,f,g,n,k⟩,_⟩:=I.tuple q;obtain⟨as,l⟩:=a _ hd h;exact⟨_,.tuple f g k (by simpa using l)⟩
 case refine_11=>
  have j:(d.hasDict||lX ds)=false:=hd;rw[Bool.or_eq_false_iff]at j
  cases r with
  |cons m v=>
   obtain⟨as,f⟩:=a _ j.1 m;obtain⟨bs,g⟩:=b _ j.2 v;exact⟨_,.cons f g⟩
 all_goals intros;rename_i hd _;cases hd
def jZ{k:Nat}(f:gR k X.A):kE X (.builtin "repr") (SW X.K λH d x=>gW X.K H d x/\d.hasDict=false):=QA f λI r g=>gW.reads I r.2 r.1 g
def aCs(d:D)(Q:D->Prop):Prop:=d.showable=true/\d.hasDict=false/\d.depth<=60/\d.shown.length<=bE/\Q (.str d.shown)
def qS:pQ X (SW X.K λH d x=>gW X.K H d x/\d.hasDict=false) (f1 aCs):=c1 λH ps d x Q l live r h k=>by
 obtain⟨g,f,i,j,h⟩:=h;exact⟨x,d,rfl,⟨r.same bU,f⟩,g,f,i,j,k _ _ H (L2.bA.refl H) (.str _) h⟩
end
end TL
namespace TL
open L2
noncomputable def aEz(names:List (Str×u9)):Bool:=match names.filter (λy=>y.2==h8)with
|[]=>true
|[x]=>names.lookup x.1==some .cell
|_=>false
def ZB{names}(h:aEz names=true):vF names:=by
 unfold aEz at h;split at h
 ·rename_i e;exact .inl e
 ·rename_i x e;have a:x∈names.filter (λy=>y.2==h8):=by rw[e];exact bM.mpr rfl
  have hk:x.2=.cell:=gj (cC.mp a).2;exact .inr ⟨x.1,by rw[e,<- hk],beq_iff_eq.mp h⟩
 ·cases h
noncomputable def sR(sc out:Scope)(a N':List Str)(fr:List (Option Nat)):Bool:=
 decide (sc.kind=.function)&&aEz sc.names&&sc.names.all (λy=>decide (y.2≠.free)||decide (out.names.lookup y.1=some .cell))&&sc.names.all (λy=>decide (y.2≠.local)||decide (sc.names.lookup y.1=some .local))&&tW sc.names out.names a N' fr
section
variable{X:Cx}{aj iter tg:Expr}{ae:List Expr}{scope:Scope}{pos:Pos}{N':List Str}{fr:List (Option Nat)}{wi:TI}{g:BP->TG}{tt:BP->TT}{te:BP->TE}
def EV{out:Scope}{Nx}(h:sR scope out Nx N' fr=true):scope.kind=.function/\vF scope.names/\(∀y∈scope.names,y.2=.free->out.names.lookup y.1=some .cell)/\(∀y∈scope.names,y.2=.local->scope.names.lookup y.1=some .local)/\tW scope.names out.names Nx N' fr=true:=by
 unfold sR at h;simp only[dG,fV,DJ,f9]at h;obtain⟨⟨⟨⟨b,c⟩,d⟩,f⟩,i⟩:=h;exact⟨b,ZB c,λy a e=>(d y a).elim (λz=>c7 e z) id,λy a e=>(f y a).elim (λz=>c7 e z) id,i⟩
def TN(h:sR scope X.env.scope X.N N' fr=true)(a:X.calm=true)(hi:PI X tg iter wi)
  (j:∀b:BP,PG (blk X scope N' b) tg (g b)/\QM (blk X scope N' b) ae (tt b)/\PE (blk X scope N' b) aj (te b)) (hs:∀x,m4 iter X.env x=pure x:=by intro _;rfl):PE X (.ListComp aj [⟨tg,iter,ae,0⟩] scope pos) (R1 fr wi g tt te):=by
 obtain⟨c,d,e,f,i⟩:=EV h;exact aKg a c d i e f hi j hs
def pJ{i:Nat}{x}{c a:Pos}(h:sR scope X.env.scope X.N N' fr=true)(o:X.N.Nodup)(d:X.N[i]?=some x)(r:W8 X.env.scope x)(f:X.calm=true)(hi:PI X tg iter wi)
  (p:∀b:BP,PG (blk X scope N' b) tg (g b)/\QM (blk X scope N' b) ae (tt b)/\PE (blk X scope N' b) aj (te b))
  (e:mJ (.ListComp aj [⟨tg,iter,ae,0⟩] scope pos) (some (.Name x c)) a.line X.env=pure true) (hs:∀x,m4 iter X.env x=pure x:=by intro _;rfl) (q:X.fn x=true\/X.env.scope.names.lookup x=some .local:=by first | exact .inl rfl | exact .inr rfl) :
  PS X (.Assign [.Name x c] (.ListComp aj [⟨tg,iter,ae,0⟩] scope pos) a) (tF (R1 fr wi g tt te) (kP i)):=by
 obtain⟨j,k,l,m,n⟩:=EV h;exact TB o d r f j k n l m hi p e hs q
end
def aGa:g6 "all"=some (.builtin "all"):=by decide +kernel
def WK:g6 "min"=some (.builtin "min"):=by decide +kernel
def GY:g6 "max"=some (.builtin "max"):=by decide +kernel
def oE:g6 "repr"=some (.builtin "repr"):=by decide +kernel
def mM:g6 "isinstance"=some (.builtin "isinstance"):=by decide +kernel
def fQ:g6 "len"=some (.builtin "len"):=by decide +kernel
def xR:g6 "tuple"=some (.type "tuple"):=by decide +kernel
def GZ:g6 "list"=some (.type "list"):=by decide +kernel
def wL:g6 "int"=some (.type "int"):=by decide +kernel
def PL(K:aI):aC7 K "tuple":=by
 intro tn h;simp only[aP,cO,l9]at h;rcases h with rfl | rfl | rfl | rfl | rfl | rfl<;>first | rfl | (with_unfolding_all rfl) | decide +kernel
def set_set{d:Type}(l:List d)(i:Nat)(a b:d):(l.set i a).set i b=l.set i b:=by
 apply mC;intro j;by_cases h:i=j
 ·subst h;by_cases c:i<l.length
  ·rw[aR (by simpa using c),aR c]
  ·rw[eW (by simpa using c),eW (by simpa using c)]
 ·rw[aQ h,aQ h,aQ h]
def aCl{ts:List D}{f:List Sl}{te:ET}{Q:D->Prop}(R:Nat->D->D->Prop)(hz:ts.length<=100000)
  (p:∀(k:Nat)(x:D)(q:D->Prop),ts[k]?=some x->(∀y,R k x y->q y)->te (f.set 0 (.val x)) q)
  (o:∀ys:List D,ys.length=ts.length->(∀(k:Nat)(x y:D),ts[k]?=some x->ys[k]?=some y->R k x y)->Q (.list ys)) :
  ts.length<=100000/\∃P:Nat->List Sl->List D->Prop,P 0 f [] /\
   (∀(k:Nat)(x:D)(d8:List Sl)(ds:List D),ts[k]?=some x->P k d8 ds->gN 0 x d8 λc=>zL c λb=>if b=true then te c λy=>P (k+1) c (ds++[y])else P (k+1) c ds)/\∀d8 ds,P ts.length d8 ds->Q (.list ds):=by
 refine⟨hz,λk d8 ds=>(∀x,d8.set 0 (.val x)=f.set 0 (.val x))/\ds.length=k/\∀(j:Nat)(x y:D),ts[j]?=some x->ds[j]?=some y->R j x y,⟨λ_=>rfl,rfl,λj x y _ h=>by simp at h⟩,λk x d8 ds i h=>?_,λd8 ds h=>o ds h.2.1 h.2.2⟩;obtain⟨l,g,m⟩:=h;show te (d8.set 0 (.val x)) _;rw[l x];refine p k x _ i λy r=>⟨λz=>set_set _ _ _ _,by simp[g],λj s t d a=>?_⟩;by_cases u:j<k
 ·rw[eK (by lia)]at a;exact m j s t d a
 ·rw[eX (by lia)]at a
  have:j=k:=by
   by_cases e:j=k
   ·exact e
   ·have:j-ds.length≠0:=by lia
    cases q:j-ds.length with
    |zero=>exact c7 q this
    |succ n=>rw[q]at a;simp at a
  subst this;rw[i]at d;cases d;simp[g]at a;subst a;exact r
def aE5{ts:List D}{g:List Sl}{te:ET}{Q:D->Prop}(f:D->D)(hz:ts.length<=100000)(l:∀(x:D)(q:D->Prop),x∈ts->q (f x)->te (g.set 0 (.val x)) q)(j:Q (.list (ts.map f))) :
  ts.length<=100000/\∃P:Nat->List Sl->List D->Prop,P 0 g [] /\
   (∀(k:Nat)(x:D)d8(ds:List D),ts[k]?=some x->P k d8 ds->gN 0 x d8 λc=>zL c λb=>if b=true then te c λy=>P (k+1) c (ds++[y])else P (k+1) c ds)/\∀d8 ds,P ts.length d8 ds->Q (.list ds):=by
 refine aCl (λk x y=>y=f x) hz (λk x q a h=>l x q (bH a) (h _ rfl)) λys d h=>?_
 have e:ys=ts.map f:=by
  apply mC;intro i;rw[aL]
  cases a:ts[i]? with
  |none=>
   rw[eW (by rw[d];exact HD.mp a)];rfl
  |some x=>
   have hi:i<ys.length:=by rw[d];exact(aF.mp a).1
   have:=h i x ys[i] a (aD hi);rw[aD hi,this];rfl
 rw[e];exact j
def ZR{ts:List D}{a:List Sl}{tt:vD}{te:ET}{Q:D->Prop}(p:D->Bool)(f:D->D)(hz:ts.length<=100000)(i:∀(x:D)(q:Bool->Prop),x∈ts->q (p x)->tt (a.set 0 (.val x)) q)
  (l:∀(x:D)(q:D->Prop),x∈ts->q (f x)->te (a.set 0 (.val x)) q) (j:Q (.list ((ts.filter p).map f))) :
  ts.length<=100000/\∃P:Nat->List Sl->List D->Prop,P 0 a [] /\
   (∀(k:Nat)(x:D)(d8:List Sl)(ds:List D),ts[k]?=some x->P k d8 ds->gN 0 x d8 λc=>tt c λb=>if b=true then te c λy=>P (k+1) c (ds++[y])else P (k+1) c ds)/\∀d8 ds,P ts.length d8 ds->Q (.list ds):=by
 refine⟨hz,λk d8 ds=>(∀x,d8.set 0 (.val x)=a.set 0 (.val x))/\ds=((ts.take k).filter p).map f,⟨λ_=>rfl,rfl⟩,λk x d8 ds d h=>?_,λd8 ds h=>?_⟩
 ·obtain⟨g,rfl⟩:=h;have hm:x∈ts:=bH d;show tt (d8.set 0 (.val x)) _;rw[g x];refine i x _ hm ?_;have e:ts.take (k+1)=ts.take k++[x]:=by rw[cM,d];rfl
  cases hb:p x with
  |true=>
   rw[b8 rfl];refine l x _ hm ⟨λz=>set_set _ _ _ _,?_⟩;rw[e,fB,bQ];simp[hb]
  |false=>
   rw[a8 (by decide)];refine⟨λz=>set_set _ _ _ _,?_⟩;rw[e,fB,bQ];simp[hb]
 ·obtain⟨_,rfl⟩:=h;rw[dF];exact j
section
variable{fr:List (Option Nat)}{ti:IT}{tt:vD}{te:ET}{σ:List Sl}{Q:D->Prop}{ts:List D}
abbrev sM(ti:IT)(σ:List Sl)(ts:List D):Prop:=∀R:List D->Prop,R ts->ti σ R
def lA(c:sM ti σ ts)(f:D->D)(hz:ts.length<=100000)(b:∀(x:D)(q:D->Prop),x∈ts->q (f x)->te ((jQ fr σ).set 0 (.val x)) q)(a:Q (.list (ts.map f))):P2 fr ti (gN 0) zL te σ Q:=
 c _ (aE5 (te:=te) (Q:=Q) f hz b a)
def LJ(c:sM ti σ ts)(R:Nat->D->D->Prop)(hz:ts.length<=100000)
  (b:∀(k:Nat)(x:D)(q:D->Prop),ts[k]?=some x->(∀y,R k x y->q y)->te ((jQ fr σ).set 0 (.val x)) q)
  (a:∀ys:List D,ys.length=ts.length->(∀(k:Nat)(x y:D),ts[k]?=some x->ys[k]?=some y->R k x y)->Q (.list ys)):P2 fr ti (gN 0) zL te σ Q:=
 c _ (aCl (te:=te) (Q:=Q) R hz b a)
def CA(d:sM ti σ ts)(p:D->Bool)(f:D->D)(hz:ts.length<=100000)(a:∀(x:D)(q:Bool->Prop),x∈ts->q (p x)->tt ((jQ fr σ).set 0 (.val x)) q)
  (c:∀(x:D)(q:D->Prop),x∈ts->q (f x)->te ((jQ fr σ).set 0 (.val x)) q) (b:Q (.list ((ts.filter p).map f))):P2 fr ti (gN 0) tt te σ Q:=
 d _ (ZR (tt:=tt) (te:=te) (Q:=Q) p f hz a c b)
def VM{g:GT}{tb}{DT:zQ}(b:sM ti σ ts)(P:Nat->List Sl->Prop)(a:P 0 σ)
  (hs:∀(k:Nat)(x:D)d8,ts[k]?=some x->P k d8->g x d8 λc=>tb { DT with nx:=P (k+1),ct:=P (k+1),bk:=DT.nx } c) (hd:∀d8,P ts.length d8->DT.nx d8):YU ti g tb DT σ:=b _ ⟨P,a,hs,hd⟩
end
def vB(x y:Str):(x++y).cps.toList=x.cps.toList++y.cps.toList:=by
 show(x.cps++y.cps).toList=_;simp
def K2(xs:Array Nat)(a k:Nat):(fZ k).filterMap (λm=>xs[a+m]?)=(xs.toList.drop a).take k:=by
 induction k with
 |zero=>simp
 |succ k b=>
  rw[DD,List.filterMap_append,b,cM,nE];congr 1;simp only[kU,List.filterMap_nil];rw[jO];cases xs[a+k]?<;>rfl
def N1(v:Option Int)(n d:Nat)(hd:d<=n):(match v with | none=>(d:Int) | some i=>max 0 (min (if i<0 then i+(n:Int)else i) (n:Int)))=((HT.sIx n d v:Nat):Int):=by
 cases v with
 |none=>rfl
 |some i=>
  have:=HT.clip_eq i n d;rw[<- this];dsimp only;split<;>lia
def WB(v:Option Int)(n:Nat):(match v with | none=>(0:Int) | some i=>max 0 (min (if i<0 then i+(n:Int)else i) (n:Int)))=((HT.sIx n 0 v:Nat):Int):=N1 v n 0 (cU _)
def SD{a c b d:Int}(e:a=c)(f:b=d):Ed a b 1=Ed c d 1:=by rw[e,f]
def oI(z:Str)(lo hi:Option Int):(Txt.slice z lo hi).cps.toList=mW z.cps.toList lo hi:=by
 have hn:z.cps.toList.length=z.length:=by simp[bx]
 have ha:=HT.sIx_le z.length 0 (cU _) lo;have hb:=HT.sIx_le z.length z.length (aN _) hi
 have f:fg lo hi 1 z.length=(fZ (HT.sIx z.length z.length hi-HT.sIx z.length 0 lo)).map (λk=>HT.sIx z.length 0 lo+k):=by
  unfold fg;simp only[show(1:Int)>0 by decide,v9];refine(SD (WB lo z.length) (N1 hi z.length z.length (aN _))).trans ?_;unfold Ed;simp only[show(1:Int)>0 by decide,v9]
  generalize HT.sIx z.length 0 lo=a
  generalize HT.sIx z.length z.length hi=b
  have c:(if(a:Int)<(b:Int)then((b:Int)-a+1-1) / 1 else 0).toNat=b-a:=by split<;>lia
  rw[c];apply fK;intro k _;lia
 unfold Txt.slice mW;rw[hn,f]
 generalize HT.sIx z.length 0 lo=a at *
 generalize HT.sIx z.length z.length hi=b at *
 split
 ·next h=>
  simp only[beq_self_eq_true,xW,lr,aB,rQ]at h;have d:a=0:=by lia
  have e:b-a=z.cps.toList.length:=by rw[hn];exact h
  rw[e,d,FO,dF]
 ·rw[RC];exact K2 z.cps a (b-a)
def LM:∀ys:List Str,(Txt.join ⟨#[]⟩ ys).cps.toList=(ys.map (·.cps.toList)).flatten:=by
 intro ys;show(Builtin.Str.glued ⟨#[]⟩ ys).cps.toList=_;rw[StrLaws.glued_eq_join]
 induction ys with
 |nil=>rfl
 |cons x ys a=>
  cases ys with
  |nil=>simp[Str.join]
  |cons y r=>
   show(x++⟨#[]⟩++Str.join ⟨#[]⟩ (y::r)).cps.toList=_;rw[vB,vB,a];simp
def VB(x:Str)(c:Nat):Txt.contains x ⟨#[c]⟩=decide (c∈x.cps.toList):=StrLaws.found_one x c
section
variable{te:ET}{u t e:vE}{c:vD}{DT:zQ}{σ:List Sl}{i:Nat}
def cK(v:D)(h:∀q:D->Prop,q v->te σ q)(k:u DT (σ.set i (.val v))):hZ (KQ i te) u DT σ:=h _ k
def iG(R:D->Prop)(h:∀q:D->Prop,(∀v,R v->q v)->te σ q)(k:∀v,R v->u DT (σ.set i (.val v))):hZ (KQ i te) u DT σ:=h _ k
def lN(R:Bool->Prop)(h:∀q:Bool->Prop,(∀b,R b->q b)->c σ q)(k1:R true->t { DT with nx:=u DT } σ)(k0:R false->e { DT with nx:=u DT } σ):hZ (YT c t e) u DT σ:=by
 refine h _ λb hb=>?_
 cases b with
 |true=>rw[b8 rfl];exact k1 hb
 |false=>rw[a8 (by decide)];exact k0 hb
def pN(R:Bool->Prop)(h:∀q:Bool->Prop,(∀b,R b->q b)->c σ q)(k1:R true->t DT σ)(k0:R false->e DT σ):YT c t e DT σ:=by
 refine h _ λb hb=>?_
 cases b with
 |true=>rw[b8 rfl];exact k1 hb
 |false=>rw[a8 (by decide)];exact k0 hb
def mE{ti}{ts:List D}{g:GT}{tb}(b:sM ti σ ts)(P:Nat->List Sl->Prop)(a:P 0 σ)
  (hs:∀(k:Nat)(x:D)d8,ts[k]?=some x->P k d8->g x d8 λd=>tb { DT with nx:=P (k+1),ct:=P (k+1),bk:=u DT } d) (hd:∀d8,P ts.length d8->u DT d8):hZ (YU ti g tb) u DT σ:=
 VM (DT:={ DT with nx:=u DT }) b P a hs hd
def pE{t:AT}(ds:List D)(hz:ds.length<=1000)(h:∀q:List D->Prop,q ds->t σ q)(k:u DT (σ.set i (.own ds))):hZ (YS i t) u DT σ:=h _ ⟨hz,k⟩
def qA{ts:List D}(v:D)(a:σ[i]?=some (.own ts))(hz:ts.length<=100000)(h:∀q:D->Prop,q v->te σ q)(k:DT.nx (σ.set i (.own (ts++[v])))):aEb i te DT σ:=⟨ts,a,h _ ⟨hz,k⟩⟩
def mT(v:D)(h:∀q:D->Prop,q v->te σ q)(k:DT.nx (σ.set i (.val v))):KQ i te DT σ:=h _ k
end
mutual
theorem nZ:∀{d:D},d.canLay0=true->d.hasDict=false
|.none,_=>rfl
|.bool _,_=>rfl
|.int _,_=>rfl
|.str _,_=>rfl
|.list _,h=>noDictAll h
|.tuple _,h=>noDictAll h
|.dict _,h=>by cases h
theorem noDictAll:∀{ds:List D},eL ds=true->lX ds=false
|[],_=>rfl
|d::ds,h=>by
 have h':(d.canLay0&&eL ds)=true:=h;rw[dG]at h';show(d.hasDict||lX ds)=false;rw[nZ h'.1,noDictAll h'.2];rfl
end
section
variable{X:Cx}{b e:Expr}
def BT(K:aI)(ok:D->D->Prop)(f:D->D->Bool):R2:=λx y H Q=>∃a c,gW K H a x/\gW K H c y/\ok a c/\Q (.bl (f a c)) H
def aL0(ok:D->D->Prop)(f:D->D->Bool)(x y:D)(Q:D->Prop):Prop:=ok x y/\Q (.bool (f x y))
def yF{ok:D->D->Prop}{f:D->D->Bool}:zO X (BT X.K ok f) (aL0 ok f):=by
 intro H ps a c x y Q i live d g h k;exact⟨a,c,d.same bU,g.same bU,h.1,k _ _ H (L2.bA.refl H) (.bool _) h.2⟩
def ZE(a c:D):Prop:=a.canLay0=true/\c.canLay0=true/\min a.depth c.depth<=60
def aEx{k:Nat}(f:gR k X.A):oG X (g8 .Eq) (BT X.K ZE bX):=by
 intro pins s σ H x y v u Q I j l h;obtain⟨m,n,g,i,⟨c1,a,hm⟩,q⟩:=h;obtain⟨as,c⟩:=gW.reads I (nZ c1) g j;obtain⟨bs,d⟩:=gW.reads I (nZ a) i l;exact SeqAt.compareEq_reads c d c1 a (by have:=f.un;lia) ⟨.bl _,H,I,rfl,q⟩
def BZ{k:Nat}(f:gR k X.A):oG X (g8 .NotEq) (BT X.K ZE λx y=>!bX x y):=by
 intro pins s σ H x y v u Q I j l h;obtain⟨m,n,g,i,⟨c1,a,hm⟩,q⟩:=h;obtain⟨as,c⟩:=gW.reads I (nZ c1) g j;obtain⟨bs,d⟩:=gW.reads I (nZ a) i l;exact SeqAt.compareNe_reads c d c1 a (by have:=f.un;lia) ⟨.bl _,H,I,rfl,q⟩
def DQ(x y:D):Prop:=match y with
|.list ts=>eL ts=true/\x.canLay0=true/\min (eV ts) x.depth<=60
|.tuple ts=>eL ts=true/\x.canLay0=true/\min (eV ts) x.depth<=60
|_=>False
noncomputable def PR(x y:D):Bool:=match y with
|.list ts=>ts.any λz=>bX z x
|.tuple ts=>ts.any λz=>bX z x
|_=>false
def O5{k:Nat}(g:gR k X.A):oG X (g8 .In) (BT X.K DQ PR):=by
 intro pins s σ H x y v u Q I m n h;obtain⟨i,c,j,l,a,q⟩:=h
 have hd:i.hasDict=false/\c.hasDict=false:=by
  cases c with
  |list ts=>exact⟨nZ a.2.1,noDictAll a.1⟩
  |tuple ts=>exact⟨nZ a.2.1,noDictAll a.1⟩
  |_=>exact a.elim
 obtain⟨as,d⟩:=gW.reads I hd.1 j m;obtain⟨bs,f⟩:=gW.reads I hd.2 l n
 cases c with
 |list ts=>exact SeqAt.in_list_reads f d a.1 a.2.1 (by have:=g.un;have:=a.2.2;lia) ⟨.bl _,H,I,rfl,q⟩
 |tuple ts=>exact SeqAt.in_tuple_reads f d a.1 a.2.1 (by have:=g.un;have:=a.2.2;lia) ⟨.bl _,H,I,rfl,q⟩
 |_=>exact a.elim
def aLz(x y:D)(Q:D->Prop):Prop:=match x,y with
|.str z,.str y=>Q (.bool (Txt.contains y z))
|x,y=>DQ x y/\Q (.bool (PR x y))
def K5{k:Nat}(a:gR k X.A):oG X (g8 .In) (λx y H Q=>(∃i j,x=.str i/\y=.str j/\Q (.bl (!(v7 j i 0 j.length 1).isEmpty)) H)\/BT X.K DQ PR x y H Q):=O4.or (O5 a)
def T6:zO X (λx y H Q=>(∃i j,x=.str i/\y=.str j/\Q (.bl (!(v7 j i 0 j.length 1).isEmpty)) H)\/BT X.K DQ PR x y H Q) aLz:=by
 intro H ps a c x y Q d live f g h k;have gen:DQ a c/\Q (.bool (PR a c))->_:=λh=>(.inr ⟨a,c,f.same bU,g.same bU,h.1,k _ _ H (L2.bA.refl H) (.bool _) h.2⟩:(∃i j,x=.str i/\y=.str j/\d (.bl (!(v7 j i 0 j.length 1).isEmpty)) H)\/BT X.K DQ PR x y H d)
 cases f with
 |str z=>
  cases g with
  |str w=>exact .inl ⟨z,w,rfl,rfl,k _ _ H (L2.bA.refl H) (.bool _) h⟩
  |_=>exact gen h
 |_=>exact gen h
noncomputable def qB:D->Bool
|.none=>true
|_=>false
def fIs(x y:D)(Q:D->Prop):Prop:=match y with | .bool b=>Q (.bool (sE b x)) | .none=>Q (.bool (qB x)) | _=>False
def aAd(x y:D)(Q:D->Prop):Prop:=match y with | .bool b=>Q (.bool (!sE b x)) | .none=>Q (.bool (!qB x)) | _=>False
def B1:oG X (g8 .Is) (λx y H Q=>aEh x y H Q\/(y=.non/\Q (.bl (decide (x=.non))) H)):=aEw.or aEv
def O3:oG X (g8 .IsNot) (λx y H Q=>F2 x y H Q\/(y=.non/\Q (.bl (!decide (x=.non))) H)):=O2.or Y8
def IL:zO X (λx y H Q=>aEh x y H Q\/(y=.non/\Q (.bl (decide (x=.non))) H)) fIs:=by
 intro H ps a g x y Q f live c d h k
 cases d with
 |bool b=>
  refine .inl ⟨b,rfl,?_⟩;have e:(decide (x=V.bl b))=sE b a:=by cases c<;>simp[sE]
  rw[e];exact k _ _ H (L2.bA.refl H) (.bool _) h
 |none=>
  refine .inr ⟨rfl,?_⟩;have e:(decide (x=V.non))=qB a:=by cases c<;>simp[qB]
  rw[e];exact k _ _ H (L2.bA.refl H) (.bool _) h
 |_=>exact h.elim
def T5:zO X (λx y H Q=>F2 x y H Q\/(y=.non/\Q (.bl (!decide (x=.non))) H)) aAd:=by
 intro H ps a g x y Q f live c d h k
 cases d with
 |bool b=>
  refine .inl ⟨b,rfl,?_⟩;have e:(!decide (x=V.bl b))=!sE b a:=by cases c<;>simp[sE]
  rw[e];exact k _ _ H (L2.bA.refl H) (.bool _) h
 |none=>
  refine .inr ⟨rfl,?_⟩;have e:(!decide (x=V.non))=!qB a:=by cases c<;>simp[qB]
  rw[e];exact k _ _ H (L2.bA.refl H) (.bool _) h
 |_=>exact h.elim
def aLs(x y:D)(Q:D->Prop):Prop:=match x,y with | .int i,.int j=>Q (.int (if j>i then j else i)) | _,_=>False
def WG:pQ X (λxs H Q=>∃i j,xs=[.int i,.int j]/\Q (.int (if j>i then j else i)) H) (f2 aLs):=by
 intro H ps ds xs Q l live h a k
 cases h with
 |nil=>exact a.elim
 |cons c d=>
  cases d with
  |nil=>exact a.elim
  |cons f g=>
   cases g with
   |cons _ _=>exact a.elim
   |nil=>
    cases c with
    |int i=>
     cases f with
     |int j=>exact⟨i,j,rfl,k _ _ H (L2.bA.refl H) (.int _) a⟩
     |_=>exact a.elim
    |_=>exact a.elim
end
end TL
namespace L2
section
variable{P:dD}{w:j0}{A:g9}{E:Value->Shared->Prop}{s:Shared}
def LB{i t:Addr}{k:Nat}{xs x}{Q:Value->Shared->Prop}(b:s.heap.IsTupleIter i t k)(g:s.heap.IsTuple t xs)(h:xs[k]?=some x)
  (e:∀h',h'.IsTupleIter i t (k+1)->fL i s.heap h'->Q x { s with heap:=h' }):wpAny (model P w) A (g7 (.ref i)) Q E s:=by
 obtain⟨o,a,f,hd⟩:=id b;obtain⟨l,d,_,j,c⟩:=g;unfold g7;refine aE (m6 (name:=e8 "__next__") b.typeIs w5 (lQ w5 b.typeIs lq ?_ (kg _)));show wpAny _ _ (qd (.ref i) 0 >>= _) _ _ s;refine aE (i9 a hd (x:=.ref t) rfl ?_);show wpAny _ _ (if(e7 t==j9)=true then _ else _) _ _ s;rw[a8 (show¬((e7 t==j9)=true)from bV)];show wpAny _ _ (qd (.ref i) 1 >>= _) _ _ s;refine aE (i9 a hd (x:=.int k 0) rfl ?_);show wpAny _ _ (seqItems? (.ref t) >>= _) _ _ s;refine aE (u3 d c ?_);simp only[iF,h];refine aE (bq a hd (by simp) (aV ⟨x,rfl,aV (e _ ?_ (fL.update ..))⟩));exact⟨_,vI _ a (cu (y7 hd _)),(wt ..).trans f,by rw[y7 hd];simp[y8]⟩
def B7{i t:Addr}{k:Nat}{xs}{Q:Value->Shared->Prop}(d:A.handled=none)(b:s.heap.IsTupleIter i t k)(j:s.heap.IsTuple t xs)(l:xs[k]?=none)
  (h:∀h' e,aM0 i s.heap h'->(∃o,h'.get? e=some o/\o.cls=.type "StopIteration")->E (.ref e) { s with heap:=h' }):wpAny (model P w) A (g7 (.ref i)) Q E s:=by
 obtain⟨o,c,n,hd⟩:=id b;obtain⟨q,g,_,p,f⟩:=j;unfold g7;refine aE (m6 (name:=e8 "__next__") b.typeIs w5 (lQ w5 b.typeIs lq ?_ (kg _)));show wpAny _ _ (qd (.ref i) 0 >>= _) _ _ s;refine aE (i9 c hd (x:=.ref t) rfl ?_);show wpAny _ _ (if(e7 t==j9)=true then _ else _) _ _ s;rw[a8 (show¬((e7 t==j9)=true)from bV)];show wpAny _ _ (qd (.ref i) 1 >>= _) _ _ s;refine aE (i9 c hd (x:=.int k 0) rfl ?_);show wpAny _ _ (seqItems? (.ref t) >>= _) _ _ s;refine aE (u3 g f ?_);simp only[iF,l];refine aE (z8 (aE (bq c hd (by simp) ?_)));show wpAny _ _ (newExc (.type "StopIteration") [] >>= _) _ _ _;refine aE ?_;simp only[newExc,newTuple];refine aE (iI ?_ (by size_fits));refine aE (m:=firstArgMember _ _) (wpAny_of_eq (a:=j9) (by first | rfl | (simp only[firstArgMember];rfl)) ?_);refine iI ?_ (by size_fits);simp only[raiseNew];refine aE (wpAny_handled ?_)
 first | rw[show A.in1.handled=none from d] | rw[d]
 refine aE (aV (wpAny_throw ?_));exact h _ _ (((fL.update ..).extBut.push _).push _) ⟨_,aZ _ rfl,rfl⟩
end
structure pP(P:dD)(w:j0)(i l:Addr)(st:Nat->Heap->Prop)(src:Array Value->Heap->Prop):Prop where
 stAt:∀k h h',st k h->(∀o,h.get? i=some o->h'.get? i=some o)->st k h'
 srcAt:∀xs h h',src xs h->(∀o,h.get? l=some o->h'.get? l=some o)->src xs h'
 has:∀k h,st k h->∃o,h.get? i=some o/\∀v,o.data≠.cell v
 item:∀(A:g9)E(s:Shared)(k:Nat)(xs:Array Value)(x:Value)Q,st k s.heap->src xs s.heap->xs[k]?=some x ->
  (∀h',st (k+1) h'->fL i s.heap h'->Q x { s with heap:=h' })->wpAny (model P w) A (g7 (.ref i)) Q E s
 fin:∀(A:g9)E(s:Shared)(k:Nat)(xs:Array Value)Q,A.handled=none->st k s.heap->src xs s.heap->xs[k]?=none ->
  (∀h' e,aM0 i s.heap h'->(∃o,h'.get? e=some o/\o.cls=.type "StopIteration")->E (.ref e) { s with heap:=h' })->wpAny (model P w) A (g7 (.ref i)) Q E s
def E7{P w}(i l:Addr):pP P w i l (λk h=>h.IsTupleIter i l k) (λxs h=>h.IsTuple l xs) where
 stAt:=λ_ _ _ x e=>x.at e
 srcAt:=λ_ _ _ x e=>x.at e
 has:=λk h x=>by obtain⟨o,e,c,d⟩:=x;exact⟨o,e,λv q=>by rw[d]at q;cases q⟩
 item:=λ_ _ _ _ _ _ _ a b f j=>LB a b f j
 fin:=λ_ _ _ _ _ _ m a b f g=>B7 m a b f g
section
variable{P:dD}{w:j0}{A:g9}{E:Value->Shared->Prop}{s:Shared}{z TI TO i1 i2 l1 l2:Addr}{st1 st2:Nat->Heap->Prop}{gz ix:Array Value->Heap->Prop}{k:Nat}{xs ys:Array Value}{a b:Value}
def RJ{x y}{Q:Value->Shared->Prop}(f:pP P w i1 l1 st1 gz)(g:pP P w i2 l2 st2 ix)(D:oi z TI TO i1 i2 l1 l2)(hz:bu s.heap z TI TO .none)(Z:IsPair s.heap TI (.ref i1) (.ref i2))(lu:IsPair s.heap TO a b)
  (O:st1 k s.heap) (R:st2 k s.heap) (N:gz xs s.heap) (ug:ix ys s.heap) (W:xs[k]?=some x) (X:ys[k]?=some y)
  (S:∀h',bu h' z TI TO (y8 s.heap.objs.size)->IsPair h' TO x y->st1 (k+1) h'->st2 (k+1) h'->IsPair h' s.heap.objs.size x y->h'.objs.size=s.heap.objs.size+1 ->
   (∀c o,c≠z->c≠TO->c≠i1->c≠i2->s.heap.get? c=some o->h'.get? c=some o)->Q (.ref s.heap.objs.size) { s with heap:=h' }) :
  wpAny (model P w) A (am.«zip.__next__» ⟨[.ref z],[]⟩) (λfin s'=>∃v,fin=.done (.ret v)/\Q v s') E s:=by
 show wpAny _ _ (qd (.ref z) 2 >>= _) _ _ _;refine aE (i9 hz rfl (x:=.bool false) rfl ?_);show wpAny _ _ (qd (.ref z) 3 >>= _) _ _ _;refine aE (i9 hz rfl (x:=.ref TI) rfl ?_);refine aE (u3 Z rfl ?_);show wpAny _ _ (l7 (.ref z) >>= _) _ _ _;refine aE ?_;unfold l7;refine aE (i9 hz rfl (x:=.none) rfl (aV ?_));simp only[v9];refine aE (z8 ?_);refine aE (i9 hz rfl (x:=.ref TO) rfl ?_);refine aE (u6 hz (by simp) λha m sa=>?_)
 replace m:bu ha z TI TO .ellipsis:=m
 refine aE ?_;simp only[XE,aA8,uH,FN];refine aE (aE (ig ?_));show wpAny _ _ (g7 (.ref i1) >>= _) _ _ _;refine aE (f.item _ _ _ k xs x _ (f.stAt _ _ _ O λo e=>sa.extBut _ _ D.i1z e) (f.srcAt _ _ _ N λo e=>sa.extBut _ _ D.l1z e) W λhb I sb=>aV ?_);have B:IsPair hb TO a b:=sb.extBut _ _ D.TOi1 (sa.extBut _ _ D.TOz lu);refine aE (u3 B rfl ?_);refine aE (gf B λT n sc=>?_)
 replace n:IsPair T TO x b:=n
 refine aE (md (aV ?_));refine aE (aE (ig ?_));show wpAny _ _ (g7 (.ref i2) >>= _) _ _ _
 refine aE (g.item _ _ _ k ys y _ (g.stAt _ _ _ R λo e=>sc.extBut _ _ D.TOi2.symm (sb.extBut _ _ D.i12.symm (sa.extBut _ _ D.i2z e)))
  (g.srcAt _ _ _ ug λo e=>sc.extBut _ _ D.l2TO (sb.extBut _ _ D.l2i1 (sa.extBut _ _ D.l2z e))) X λhd K sd=>aV ?_)
 have G:IsPair hd TO x b:=sd.extBut _ _ D.TOi2 n;refine aE (u3 G rfl ?_);refine aE (gf G λd i h=>?_)
 replace i:IsPair d TO x y:=i
 refine aE (md (aV (aV ?_)));refine aE (u3 i rfl ?_);refine aE (wpAny_newTuple ?_);have hsz:d.objs.size=s.heap.objs.size:=by rw[h.1,sd.1,sc.1,sb.1,sa.1]
 have F:bu d z TI TO .ellipsis:=h.extBut _ _ D.TOz.symm (sd.extBut _ _ D.i2z.symm (sc.extBut _ _ D.TOz.symm (sb.extBut _ _ D.i1z.symm m)))
 have Y:∀c o,c≠z->c≠TO->c≠i1->c≠i2->s.heap.get? c=some o->d.get? c=some o:=λc o c1 j q r e=>
  h.extBut _ _ j (sd.extBut _ _ r (sc.extBut _ _ j (sb.extBut _ _ q (sa.extBut _ _ c1 e))))
 have J:st1 (k+1) d:=f.stAt _ _ _ I λo e=>h.extBut _ _ D.TOi1.symm (sd.extBut _ _ D.i12 (sc.extBut _ _ D.TOi1.symm e));have L:st2 (k+1) d:=g.stAt _ _ _ K λo e=>h.extBut _ _ D.TOi2.symm e;have u:z<d.objs.size:=aY F;show wpAny _ _ (av (.ref z) (.ref d.objs.size) >>= _) _ _ _;refine aE ?_;unfold av;have M:bu (d.push { cls:=.type "tuple",data:=.seq #[x,y] }) z TI TO .ellipsis:=aG _ F;refine aE (u6 M (by simp) λU p sg=>?_)
 replace p:bu U z TI TO (y8 d.objs.size):=p
 refine u6 p (by simp) λhi l t=>?_
 replace l:bu hi z TI TO (y8 d.objs.size):=l
 have up:∀c o,c≠z->d.get? c=some o->hi.get? c=some o:=λc o c1 e=>t.extBut _ _ c1 (sg.extBut _ _ c1 (aG _ e));have H:IsPair hi d.objs.size x y:=t.extBut _ _ (gS u) (sg.extBut _ _ (gS u) (aZ _ rfl));have C:hi.objs.size=d.objs.size+1:=by rw[t.1,sg.1,fE]
 rw[hsz]at l H C;refine aV ⟨_,rfl,?_⟩;show Q (.ref d.objs.size) _;rw[hsz];exact S hi l (up _ _ D.TOz i) (f.stAt _ _ _ J λo e=>up _ o D.i1z e) (g.stAt _ _ _ L λo e=>up _ o D.i2z e) H C λc o c1 j q r e=>up c o c1 (Y c o c1 j q r e)
def RG{Q:Fin->Shared->Prop}(C:A.handled=none)(i:pP P w i1 l1 st1 gz)(m:pP P w i2 l2 st2 ix)(D:oi z TI TO i1 i2 l1 l2)(hz:bu s.heap z TI TO .none)(O:IsPair s.heap TI (.ref i1) (.ref i2))(R:IsPair s.heap TO a b)
  (J:st1 k s.heap) (K:st2 k s.heap) (I:gz xs s.heap) (S:ix ys s.heap) (N:xs[k]?=none\/ys[k]?=none)
  (y:∀h' e,(∀c o,c≠z->c≠TO->c≠i1->c≠i2->s.heap.get? c=some o->h'.get? c=some o)->(∃o,h'.get? e=some o/\o.cls=.type "StopIteration")->E (.ref e) { s with heap:=h' }) :
  wpAny (model P w) A (am.«zip.__next__» ⟨[.ref z],[]⟩) Q E s:=by
 show wpAny _ _ (qd (.ref z) 2 >>= _) _ _ _;refine aE (i9 hz rfl (x:=.bool false) rfl ?_);show wpAny _ _ (qd (.ref z) 3 >>= _) _ _ _;refine aE (i9 hz rfl (x:=.ref TI) rfl ?_);refine aE (u3 O rfl ?_);show wpAny _ _ (l7 (.ref z) >>= _) _ _ _;refine aE ?_;unfold l7;refine aE (i9 hz rfl (x:=.none) rfl (aV ?_));simp only[v9];refine aE (z8 ?_);refine aE (i9 hz rfl (x:=.ref TO) rfl ?_);refine aE (u6 hz (by simp) λha g sa=>?_)
 replace g:bu ha z TI TO .ellipsis:=g
 refine aE ?_;simp only[XE,aA8,uH,FN];refine aE (aE (ig ?_));show wpAny _ _ (g7 (.ref i1) >>= _) _ _ _;have v:st1 k ha:=i.stAt _ _ _ J λo e=>sa.extBut _ _ D.i1z e;have F:gz xs ha:=i.srcAt _ _ _ I λo e=>sa.extBut _ _ D.l1z e
 cases p:xs[k]? with
 |none=>
  refine aE (i.fin _ _ _ k xs _ C v F p λhb e sb n=>?_);obtain⟨q,d,f⟩:=n;have t:bu hb z TI TO .ellipsis:=sb _ _ D.i1z.symm g;have j:e≠z:=λx=>by subst x;rw[t]at d;cases d;simp at f
  refine u6 t (by simp) λB _ sc=>y B e (λc o c1 _ l _ x=>sc.extBut _ _ c1 (sb _ _ l (sa.extBut _ _ c1 x))) ⟨q,sc.extBut _ _ j d,f⟩
 |some x=>
  have M:ys[k]?=none:=by rcases N with h | h;rw[p]at h;cases h;exact h
  refine aE (i.item _ _ _ k xs x _ v F p λhb U sb=>aV ?_);have r:IsPair hb TO a b:=sb.extBut _ _ D.TOi1 (sa.extBut _ _ D.TOz R);refine aE (u3 r rfl ?_);refine aE (gf r λB T sc=>?_);refine aE (md (aV ?_));refine aE (aE (ig ?_));show wpAny _ _ (g7 (.ref i2) >>= _) _ _ _
  refine aE (m.fin _ _ _ k ys _ C (m.stAt _ _ _ K λo e=>sc.extBut _ _ D.TOi2.symm (sb.extBut _ _ D.i12.symm (sa.extBut _ _ D.i2z e)))
   (m.srcAt _ _ _ S λo e=>sc.extBut _ _ D.l2TO (sb.extBut _ _ D.l2i1 (sa.extBut _ _ D.l2z e))) M λhd e sd n=>?_)
  obtain⟨q,d,f⟩:=n;have u:bu hd z TI TO .ellipsis:=sd _ _ D.i2z.symm (sc.extBut _ _ D.TOz.symm (sb.extBut _ _ D.i1z.symm g));have j:e≠z:=λx=>by subst x;rw[u]at d;cases d;simp at f
  refine u6 u (by simp) λL _ sf=>y L e (λc o c1 G l H x=>sf.extBut _ _ c1 (sd _ _ H (sc.extBut _ _ G (sb.extBut _ _ l (sa.extBut _ _ c1 x))))) ⟨q,sf.extBut _ _ j d,f⟩
def RI{x y}{Q:Option Value->Shared->Prop}(j:pP P w i1 l1 st1 gz)(l:pP P w i2 l2 st2 ix)(D:oi z TI TO i1 i2 l1 l2)(hz:bu s.heap z TI TO .none)(u:IsPair s.heap TI (.ref i1) (.ref i2))(v:IsPair s.heap TO a b)
  (n:st1 k s.heap) (p:st2 k s.heap) (m:gz xs s.heap) (B:ix ys s.heap) (r:xs[k]?=some x) (t:ys[k]?=some y)
  (q:∀h',bu h' z TI TO (y8 s.heap.objs.size)->IsPair h' TO x y->st1 (k+1) h'->st2 (k+1) h'->IsPair h' s.heap.objs.size x y->h'.objs.size=s.heap.objs.size+1 ->
   (∀c o,c≠z->c≠TO->c≠i1->c≠i2->s.heap.get? c=some o->h'.get? c=some o)->Q (some (.ref s.heap.objs.size)) { s with heap:=h' }):wpAny (model P w) A (ql (.ref z)) Q E s:=by
 have d:s.TypeIs (.ref z) "zip":=⟨_,hz,rfl⟩;unfold ql
 exact aE (ua (m6 (name:=e8 "__next__") d dh (lQ dh d F.entry_zip_next
  (RJ j l D hz u v n p m B r t λh' e a2 f a4 g h i=>aV (q h' e a2 f a4 g h i)) (Bv _))))
def XJ{Q:Option Value->Shared->Prop}(p:A.handled=none)(f:pP P w i1 l1 st1 gz)(g:pP P w i2 l2 st2 ix)(D:oi z TI TO i1 i2 l1 l2)(hz:bu s.heap z TI TO .none)(t:IsPair s.heap TI (.ref i1) (.ref i2))(u:IsPair s.heap TO a b)
  (i:st1 k s.heap) (j:st2 k s.heap) (h:gz xs s.heap) (v:ix ys s.heap) (r:xs[k]?=none\/ys[k]?=none)
  (l:∀h',(∀c o,c≠z->c≠TO->c≠i1->c≠i2->s.heap.get? c=some o->h'.get? c=some o)->Q none { s with heap:=h' }):wpAny (model P w) A (ql (.ref z)) Q E s:=by
 have d:s.TypeIs (.ref z) "zip":=⟨_,hz,rfl⟩;unfold ql;refine aE (ua (m6 (name:=e8 "__next__") d dh (lQ dh d F.entry_zip_next (RG p f g D hz t u i j h v r λh' e hk n=>?_) (Bv _))));obtain⟨o,q,m⟩:=n;refine aE (wpAny_isInstance (T:="StopIteration") (b:=true) ⟨o,q,m⟩ isSubtype_stop ?_);exact aV (l _ hk)
end
section
variable{X:Cx}{pins:List (Addr×Obj)}{σ:St}{H:Hp}{s:Shared}{h':Heap}
def dI.turnedL{t':Nat}{ch:List Addr}(I:dI X pins σ H s)(d:∀b∈ch,AI X pins H b)(k:∀b o,b∉ch->s.heap.get? b=some o->h'.get? b=some o):dI X pins σ H { s with heap:=h',toks:=t' }:=by
 have f:∀b u,H b=some u->b∉ch:=λb u e z=>by rw[(d b z).1]at e;cases e
 have j:X.env.locals∉ch:=λz=>(d _ z).2.1 rfl
 refine I.step (g':=s.gens) (d':=s.drawn) (ch:=ch) (λb hb=>?_) (λb o _ _ a e _=>k b o a e) (λb o _ _ a e _=>⟨o.slots,k b o a e⟩) (λ_ _ _ _ n=>n)
  (λb o a e=>⟨o,k b o a e⟩) (λ_ _ e=>e) (λ_ _ _ e=>e) (λb ps e=>⟨#[],by rw[e];simp⟩) (λm hm=>?_) (λb u e=>?_) I.bare
 ·obtain⟨p,f1,f2,g,h,i⟩:=d b hb;exact⟨g,f1,h,i⟩
 ·obtain⟨o,es,ep,l,r⟩:=hm;exact⟨o,es,ep,k _ o j l,r⟩
 ·refine(I.hok b u e).stay (λc v a q=>k c v ?_ q) (λ_ q=>q) λ_ _ q=>q;rcases a with z | z
  ·rw[z];exact f b u e
  ·exact f c _ z
def dI.turnedNew{t':Nat}{ch:List Addr}{T:Addr}{o:HO}(I:dI X pins σ H s)(d:∀b∈ch,AI X pins H b)(k:∀b u,b∉ch->s.heap.get? b=some u->h'.get? b=some u)(g:s.heap.objs.size<=T)(new:iT X.prog X.w (fS H T o) h' T o) :
  dI X pins σ (fS H T o) { s with heap:=h',toks:=t' }:=by
 have f:∀b u,H b=some u->b∉ch:=λb u e z=>by rw[(d b z).1]at e;cases e
 have p:X.env.locals∉ch:=λz=>(d _ z).2.1 rfl;have hn:H T=none:=I.hok.fresh g;have ne:∀b u,H b=some u->(fS H T o) b=some u:=λb u e=>by rw[bZ (eP e hn)];exact e
 have h:∀b u,s.heap.get? b=some u->b≠T:=λb u e z=>by
  exact c7 (bP (aY e) g) (by rw[z];exact eT _)
 refine I.step (g':=s.gens) (d':=s.drawn) (ch:=ch) (λb hb=>?_) (λb o _ _ a e _=>k b o a e) (λb o _ _ a e _=>⟨o.slots,k b o a e⟩) (λb u _ e n=>by rw[bZ (h b u e)];exact n)
  (λb o a e=>⟨o,k b o a e⟩) (λb xs e=>ne _ _ e) (λb u v e=>ne _ _ e) (λb ps e=>⟨#[],by rw[ne _ _ e];simp⟩) (λm hm=>?_) (λb u e=>?_) I.bare
 ·obtain⟨x,f1,f2,i,j,l⟩:=d b hb;exact⟨i,f1,j,l⟩
 ·obtain⟨o,es,ep,t,r⟩:=hm;exact⟨o,es,ep,k _ o p t,r⟩
 ·by_cases hb:b=T
  ·subst hb;rw[cE]at e;cases e;exact new
  ·rw[bZ hb]at e;refine(I.hok b u e).stay (λc v a q=>k c v ?_ q) (λc q=>ne _ _ q) (λc xs q=>ne _ _ q) λc ob v q=>ne _ _ q;rcases a with z | z
   ·rw[z];exact f b u e
   ·exact f c _ z
end
noncomputable def Itz(a b:Hp->List V->Prop):It:=
 ⟨λi H=>∃xs ys x y,a H xs/\b H ys/\xs[i]?=some x/\ys[i]?=some y,
  λi H v H'=>∃p x y,H p=none/\v=.ref p/\H'=fS H p (.tup [x,y])/\(∀xs,a H xs->xs[i]?=some x)/\∀ys,b H ys->ys[i]?=some y,
  λi H=>∃xs ys,a H xs/\b H ys/\(xs.length<=i\/ys.length<=i)⟩
structure Src(P:dD)(w:j0)(K:aI)(S:Hp->List V->Prop)(src:Array Value->Heap->Prop):Prop where
 vals:∀(X:Cx),X.prog=P->X.w=w->X.K=K->∀{pins:List (Addr×Obj)}{σ:St}{H:Hp}{s:Shared}{xs:List V},dI X pins σ H s->S H xs->∃i3:List Value,fM xs i3/\src i3.toArray s.heap
 inj:∀(X:Cx),X.prog=P->X.w=w->X.K=K->∀{pins:List (Addr×Obj)}{σ:St}{H:Hp}{s:Shared}{xs ys:List V},dI X pins σ H s->S H xs->S H ys->xs=ys
def MQ{P w K}(a:Addr):Src P w K (λH xs=>qG K H a xs) (λi3 h=>h.IsTuple a i3) where
 vals:=λX c hw b _ _ _ _ _ I h=>by subst b;obtain⟨i3,r,p,_⟩:=I.tuple h;exact⟨i3,r,p⟩
 inj:=λX c hw b _ _ _ _ _ _ I h h'=>by subst b;exact I.tuple_inj h h'
def RQ{P:dD}{w:j0}{K:aI}{fi:List Expr}{x1:Nat}{pos:Pos}{z TI TO t B l1 l2:Addr}{C F:Nat->Heap->Prop}{Z ix:Array Value->Heap->Prop}{W Y:Hp->List V->Prop}
  (p:pP P w t l1 C Z) (r:pP P w B l2 F ix) (L:Src P w K W Z) (M:Src P w K Y ix) (D:oi z TI TO t B l1 l2) :
  JV P w K (.Tuple fi x1 pos) (Itz W Y) [z,TI,TO,t,B] z (λi h=>bu h z TI TO .none/\IsPair h TI (.ref t) (.ref B)/\(∃a b,IsPair h TO a b)/\C i h/\F i h) where
 mem:=by simp
 obj:=λi h st b hb=>by
  obtain⟨hz,f,⟨a,c,l⟩,g,j⟩:=st;simp only[aP,cO,l9]at hb;rcases hb with rfl | rfl | rfl | rfl | rfl
  ·exact⟨_,hz,λv q=>by cases q⟩
  ·exact⟨_,f,λv q=>by cases q⟩
  ·exact⟨_,l,λv q=>by cases q⟩
  ·exact p.has i h g
  ·exact r.has i h j
 keep:=λi h h' st k=>by
  obtain⟨hz,f,⟨a,b,l⟩,g,j⟩:=st;exact⟨k z (by simp) _ hz,k TI (by simp) _ f,⟨a,b,k TO (by simp) _ l⟩,p.stAt _ _ _ g λo e=>k t (by simp) o e,r.stAt _ _ _ j λo e=>k B (by simp) o e⟩
 item:=by
  intro X n hw m hc i pins s σ H E I J st N;obtain⟨hz,f,⟨a,b,l⟩,g,j⟩:=st;obtain⟨xs,ys,x,y,s1,s2,hx,hy⟩:=N;obtain⟨us,T,R⟩:=L.vals X n hw m I s1;obtain⟨vs,U,S⟩:=M.vals X n hw m I s2;obtain⟨u,hu,ru⟩:=T.get hx;obtain⟨v,hv,rv⟩:=U.get hy;refine RI p r D hz f l g j R S (x:=u) (y:=v) (by simpa using hu) (by simpa using hv) λh' a1 a2 a3 a4 a5 a6 G=>⟨_,rfl,?_⟩;refine wpAny_letOwnedTupleGo_zip (s:={ s with heap:=h' }) a1 λO Ot sb=>?_;have Bl:=aY hz;have neT:∀c o,s.heap.get? c=some o->c≠s.heap.objs.size:=λc o e=>cI (aY e)
  have kk:∀c o,c∉[z,TI,TO,t,B]->s.heap.get? c=some o->O.get? c=some o:=λc o d e=>by
   simp only[aP,cO,l9,not_or]at d;exact sb.extBut _ _ d.1 (G c o d.1 d.2.2.1 d.2.2.2.1 d.2.2.2.2 e)
  have hT:IsPair O s.heap.objs.size u v:=sb.extBut _ _ (gS Bl) a5;have I1:dI X pins σ (fS H s.heap.objs.size (.tup [x,y])) { s with heap:=O }:=I.turnedNew (t':=s.toks) J kk (aN _) ⟨(by show 2<=bE;decide),[u,v],.cons ru (.cons rv .nil),⟨_,hT,rfl,_,rfl,rfl⟩⟩;refine⟨.ref s.heap.objs.size,_,I1,rfl,⟨_,x,y,I.hok.fresh (aN _),rfl,rfl,λJo h'=>by rw[L.inj X n hw m I h' s1];exact hx,λXr h'=>by rw[M.inj X n hw m I h' s2];exact hy⟩,?_,λc d=>?_⟩
  ·exact⟨Ot,sb.extBut _ _ D.TIz (G _ _ D.TIz D.TITO D.TIi1 D.TIi2 f),⟨_,_,sb.extBut _ _ D.TOz a2⟩,p.stAt _ _ _ a3 λo e=>sb.extBut _ _ D.i1z e,r.stAt _ _ _ a4 λo e=>sb.extBut _ _ D.i2z e⟩
  ·have ai:c≠s.heap.objs.size:=by
    simp only[aP,cO,l9]at d;rcases d with rfl | rfl | rfl | rfl | rfl
    ·exact neT _ _ hz
    ·exact neT _ _ f
    ·exact neT _ _ l
    ·obtain⟨o,e,_⟩:=p.has _ _ g;exact neT _ _ e
    ·obtain⟨o,e,_⟩:=r.has _ _ j;exact neT _ _ e
   rw[bZ ai];exact(J c d).1
 done:=by
  intro X n hw m hc i pins s σ H E I J st N;obtain⟨hz,f,⟨a,b,l⟩,g,j⟩:=st;obtain⟨xs,ys,s1,s2,Fd⟩:=N;obtain⟨us,T,R⟩:=L.vals X n hw m I s1;obtain⟨vs,U,S⟩:=M.vals X n hw m I s2;have n1:=T.length;have n2:=U.length;refine XJ (I.ok.hd hc) p r D hz f l g j R S ?_ λh' G=>⟨rfl,I.turnedL (t':=s.toks) J λc o d e=>?_⟩
  ·rcases Fd with q | q
   ·exact .inl (nU (by rw[bF];lia))
   ·exact .inr (nU (by rw[bF];lia))
  ·simp only[aP,cO,l9,not_or]at d;exact G c o d.1 d.2.2.1 d.2.2.2.1 d.2.2.2.2 e
 self:=λA i s Q E st h=>wpAny_pyIter_zip st.1 h
noncomputable abbrev zH1(c1:String)(h:Heap)(a:Addr):Heap:=h.push { cls:=.type c1,data:=.fields #[.ref a,.int 0 0] }
noncomputable abbrev zH2(c1 a:String)(h:Heap)(b c:Addr):Heap:=(zH1 c1 h b).push { cls:=.type a,data:=.fields #[.ref c,.int 0 0] }
noncomputable abbrev zH3(c1 b:String)(h:Heap)(a c:Addr):Heap:=(zH2 c1 b h a c).push { cls:=.type "tuple",data:=.seq #[.ref h.objs.size,.ref (zH1 c1 h a).objs.size] }
noncomputable abbrev zH4(c1 a:String)(h:Heap)(b c:Addr):Heap:=(zH3 c1 a h b c).push { cls:=.type "tuple",data:=.seq #[.none,.none] }
noncomputable abbrev zH5(c1 a:String)(h:Heap)(b c:Addr):Heap:=(zH4 c1 a h b c).push { cls:=.type "zip",data:=.fields #[.none,.bool false,.bool false,.ref (zH2 c1 a h b c).objs.size,.ref (zH3 c1 a h b c).objs.size] }
def KE(a b:Addr)(xs ys:Array Value) :
  Meets (am.«zip.__new__» ⟨[.type "zip",.ref a,.ref b],[]⟩) (λ_ R s=>s.heap.IsTuple a xs/\s.heap.IsTuple b ys /\
   R (.ok (.ret (.ref (zH4 "tuple_iterator" "tuple_iterator" s.heap a b).objs.size))) { s with heap:=zH5 "tuple_iterator" "tuple_iterator" s.heap a b }):=
 .of_wp λprog w A R s h=>by
  obtain⟨c,g,d,tk,os⟩:=s;obtain⟨i,j,h⟩:=h;have k:=sub_zip;have e:KC (nn ⟨c,g,d,tk,os⟩) a xs:=i;have f:KC (nn ⟨c.push { cls:=.type "tuple_iterator",data:=.fields #[.ref a,.int 0 0] },g,d,tk,os⟩) b ys:=KC.push j _
  wp_walk using jb e,jb f
  exact⟨_,rfl,h⟩
section
variable{P:dD}{w:j0}{A:g9}{E:Value->Shared->Prop}{s:Shared}
def JQ{a b:Addr}{xs ys}{Q:Value->Shared->Prop}(k:s.heap.IsTuple a xs)(m:s.heap.IsTuple b ys)
  (h:∀h',bu h' (s.heap.objs.size+4) (s.heap.objs.size+2) (s.heap.objs.size+3) .none->IsPair h' (s.heap.objs.size+2) (.ref s.heap.objs.size) (.ref (s.heap.objs.size+1)) ->
   IsPair h' (s.heap.objs.size+3) .none .none->h'.IsTupleIter s.heap.objs.size a 0->h'.IsTupleIter (s.heap.objs.size+1) b 0 ->
   (∀c o,s.heap.get? c=some o->h'.get? c=some o)->Q (.ref (s.heap.objs.size+4)) { s with heap:=h' }) :
  wpAny (model P w) A (call (.type "zip") [.ref a,.ref b]) Q E s:=by
 refine callType_new F.called_zip (by decide) (F.typeCall_zip_2 _ _) (F.newCall_zip_2 _ _) (λobj=>F.args_object_init_3 obj _ _) F.entry_zip_new (KE a b xs ys) ⟨k,m,?_⟩;have n1:(zH1 "tuple_iterator" s.heap a).objs.size=s.heap.objs.size+1:=fE ..;have e:(zH2 "tuple_iterator" "tuple_iterator" s.heap a b).objs.size=s.heap.objs.size+2:=by rw[fE,n1]
 have f:(zH3 "tuple_iterator" "tuple_iterator" s.heap a b).objs.size=s.heap.objs.size+3:=by rw[fE,e]
 have n4:(zH4 "tuple_iterator" "tuple_iterator" s.heap a b).objs.size=s.heap.objs.size+4:=by rw[fE,f]
 have d:(zH5 "tuple_iterator" "tuple_iterator" s.heap a b).get? (zH4 "tuple_iterator" "tuple_iterator" s.heap a b).objs.size=some _:=aZ _ rfl;have j:(zH5 "tuple_iterator" "tuple_iterator" s.heap a b).get? (zH3 "tuple_iterator" "tuple_iterator" s.heap a b).objs.size=some _:=aG _ (aZ _ rfl);have i:(zH5 "tuple_iterator" "tuple_iterator" s.heap a b).get? (zH2 "tuple_iterator" "tuple_iterator" s.heap a b).objs.size=some _:=aG _ (aG _ (aZ _ rfl));have g:(zH5 "tuple_iterator" "tuple_iterator" s.heap a b).get? (zH1 "tuple_iterator" s.heap a).objs.size=some _:=aG _ (aG _ (aG _ (aZ _ rfl)));have l:(zH5 "tuple_iterator" "tuple_iterator" s.heap a b).get? s.heap.objs.size=some _:=aG _ (aG _ (aG _ (aG _ (aZ _ rfl))));show _/\_;rw[e,f,n4]at d;rw[n1,e]at i;rw[f]at j;rw[n1]at g;rw[n4];exact⟨⟨_,d,rfl⟩,h _ d i j ⟨_,l,rfl,rfl⟩ ⟨_,g,rfl,rfl⟩ λc o x=>aG _ (aG _ (aG _ (aG _ (aG _ x))))⟩
end
def WJ:g6 "zip"=some (.type "zip"):=by decide +kernel
def aLq(K:aI)(c:TA):TI:=λσ H R=>c σ H λvs H1=>∃a b xs ys,vs=[.ref a,.ref b]/\qG K H1 a xs/\qG K H1 b ys/\R (Itz (λH xs=>qG K H a xs) λH xs=>qG K H b xs) H1
section
variable{X:Cx}
def aEm{a b ta p pos gc fi}{F:Nat}(x:Gl X "zip")(hm:X.mg "zip"=none)(ha:PA X [a,b] ta)(hs:bI [a,b] X.env=[(false,eval a X.env),(false,eval b X.env)]:=by rfl)(l:bI [b] X.env=[(false,eval b X.env)]:=by rfl) :
  PI X (.Tuple fi F gc) (.Call (.Name "zip" p) [a,b] [] pos) (aLq X.K ta):=by
 intro pins s σ H R I h;refine Call_ (wF I x hm WJ (t9 (jM (ha pos pins s σ H _ I h) λus s1 G=>?_) (by rw[hs,l]) (by rw[l];rfl)));obtain⟨vs,H1,d,E,B⟩:=G;obtain⟨e,f,xs,ys,rfl,y,w,q⟩:=B
 cases E with
 |cons r g=>
  cases g with
  |cons C g=>
   cases g;cases r;cases C;obtain⟨m,M,j,L⟩:=d.tuple y;obtain⟨v,N,k,J⟩:=d.tuple w;have t:e<s1.heap.objs.size:=j.lt;have u:f<s1.heap.objs.size:=k.lt;refine JQ (show s1.heap.IsTuple e m.toArray from j) (show s1.heap.IsTuple f v.toArray from k) λh' hz z A n o hk=>wpAny_pyIter_zip (s:={ s1 with heap:=h' }) hz ?_;refine⟨_,[s1.heap.objs.size+4,s1.heap.objs.size+2,s1.heap.objs.size+3,s1.heap.objs.size,s1.heap.objs.size+1],_,_,H1,rfl,d.kept (t':=s1.toks) hk,RQ (E7 _ e) (E7 _ f) (MQ e) (MQ f) (zipApart_new t u),⟨hz,z,⟨_,_,A⟩,n,o⟩,λc i=>?_,q⟩;simp only[aP,cO,l9]at i;have le:s1.heap.objs.size<=c:=by rcases i with rfl | rfl | rfl | rfl | rfl<;>first | exact aN _ | exact aA7 _ _
   exact d.fpOk le (d.hok.fresh le)
end
end L2
namespace TL
open L2
variable{K:aI}
noncomputable def zW(as bs:List D):List D:=(as.zip bs).map λp=>.tuple [p.1,p.2]
def wR(as bs:List D):(zW as bs).length=min as.length bs.length:=by unfold zW;simp
def HK{as bs}{i:Nat}{x}(h:(zW as bs)[i]?=some x):∃a b,as[i]?=some a/\bs[i]?=some b/\x=.tuple [a,b]:=by
 unfold zW at h;rw[aL]at h
 cases e:(as.zip bs)[i]? with
 |none=>rw[e]at h;cases h
 |some p=>
  rw[e]at h;obtain⟨c,d⟩:=jV.mp e;exact⟨p.1,p.2,c,d,(d7 h).symm⟩
def aLp(t:AT):IT:=λσ Q=>t σ λds=>∃as bs,ds=[.tuple as,.tuple bs]/\Q (zW as bs)
section
variable{X:Cx}{a b:Expr}
def aFf{t p p' gc fi}{l:Nat}(ha:wQ X [a,b] t)(w:∀{ta},PA X [a,b] ta->PI X (.Tuple fi l gc) (.Call (.Name "zip" p) [a,b] [] p') (aLq X.K ta)):N7 X (.Tuple fi l gc) (.Call (.Name "zip" p) [a,b] [] p') (aLp t):=by
 obtain⟨M,v,G⟩:=ha;refine⟨_,w v,λB p0 H ps σT σ Q R o h k=>G B p0 H ps σT σ _ _ o h λds xs H1 s1 d A=>?_⟩;obtain⟨as,bs,rfl,q⟩:=A
 cases d with
 |cons d C=>
  cases C with
  |cons E F=>
   cases F
   cases d with
   |@tuple p1 us _ jk rs1=>
    cases E with
    |@tuple p2 vs _ aw Fh=>
     have n1:=rs1.length;have L:=Fh.length;refine⟨p1,p2,us,vs,rfl,bA.seqT bU jk,bA.seqT bU aw,k _ _ H1 s1 ⟨λi H e c=>?_,λi H e c=>?_,λi H l6 y H' live e c u=>?_⟩ q⟩
     ·rw[wR]at c;exact⟨us,vs,bA.seqT e jk,bA.seqT e aw,by lia⟩
     ·rw[wR]at c;exact⟨us,vs,us[i],vs[i],bA.seqT e jk,bA.seqT e aw,aD (by lia),aD (by lia)⟩
     ·obtain⟨p,x,N,j,rfl,rfl,r,s⟩:=u;obtain⟨f,m,I⟩:=rs1.get' (r us (bA.seqT (e.trans bU) jk));obtain⟨g,n,J⟩:=Fh.get' (s vs (bA.seqT (e.trans bU) aw));refine⟨dH j,.tuple [f,g],?_,uO live j (.cons (I.same e) (.cons (J.same e) .nil))⟩;unfold zW;rw[aL,(jV (z:=(f,g))).mpr ⟨m,n⟩];rfl
end
section
variable{fr:List (Option Nat)}{ti:IT}{te:ET}{σ:List Sl}{Q:D->Prop}{ts:List D}
def xZ{e:Type}(l:List e)(a b c d:e):(((l.set 0 a).set 1 b).set 0 c).set 1 d=(l.set 0 c).set 1 d:=by
 match l with
 |[]=>rfl
 |[_]=>rfl
 |_::_::_=>rfl
def ZP(j:sM ti σ ts)(f:D->D)(hz:ts.length<=100000)(e:∀x∈ts,∃a b,x=.tuple [a,b])(i:∀(a b:D)(q:D->Prop),.tuple [a,b]∈ts->q (f (.tuple [a,b]))->te (((jQ fr σ).set 0 (.val a)).set 1 (.val b)) q)(g:Q (.list (ts.map f))):P2 fr ti (gP 0 1) zL te σ Q:=by
 refine j _ ⟨hz,λk d8 ds=>(∀x y,(d8.set 0 (.val x)).set 1 (.val y)=((jQ fr σ).set 0 (.val x)).set 1 (.val y))/\ds=(ts.take k).map f,⟨λ_ _=>rfl,rfl⟩,λk x d8 ds c h=>?_,λd8 ds h=>?_⟩
 ·obtain⟨d,rfl⟩:=h;have hm:x∈ts:=bH c;obtain⟨a,b,rfl⟩:=e x hm;refine⟨a,b,rfl,?_⟩;show te ((d8.set 0 (.val a)).set 1 (.val b)) _;rw[d a b];refine i a b _ hm ⟨λx y=>xZ _ _ _ _ _,?_⟩;rw[cM,c,bQ];rfl
 ·obtain⟨_,rfl⟩:=h;rw[dF];exact g
end
end TL
namespace L2
open PySem.SeqAt
open AutoSeq1 (wpAny_loadPart')
def DK(l:Addr)(a:Array Value)(n:Nat)(dd:Option Addr)(sl:Array (Option Value))(x:Value)(e:Value->Bool)(j:Nat)(E:j<a.size)(t:e a[j]=true)(C:∀m (hm:m<a.size),m<j->e a[m]=false) :
  Meets (am.«tuple.index» ⟨[.ref l,x],[]⟩)
   (λA R s=>s.heap.get? l=some { cls:=.type "tuple",dict:=dd,data:=.seq a n,slots:=sl }/\(∀y,y∈a->EqAt A.in1 s y x (e y))/\R (.ok (.ret (.int j s.toks))) { s with toks:=s.toks+1 }):=by
 intro prog w A R s h;obtain⟨B,g,d,tk,os⟩:=s;obtain⟨z,v,h⟩:=h;unfold am.«tuple.index»;simp only[Std.Legacy.Range.forIn_eq_forIn_range']
 wp_walk using mz z
 have u:([:min a.size a.size]:Std.Legacy.Range).size=a.size:=by simp[Std.Legacy.Range.size]
 rw[u];show wpAny _ _ (Es (aMx 0 a.size) (none,()) _) _ _ _;refine wpAny_forIn_list _ (λjW b s'=>b=(none,())/\s'=⟨B,g,d,tk,os⟩/\∃k,jW=aMx k (a.size-k)/\k<=j) _ (λi jW b s' o=>?_) (λb s' o=>?_) _ _ ⟨rfl,rfl,0,by simp,cU _⟩
 ·obtain⟨rfl,rfl,k,c,hk⟩:=o;have f:k<a.size:=by lia
  have r:a.size-k=(a.size-(k+1))+1:=by lia
  rw[r,List.range'_succ]at c;obtain⟨rfl,rfl⟩:=List.cons.inj c;have hi:a[i]?=some a[i]:=by simp[f]
  rw[hi];refine aE (v _ (Array.getElem_mem f) prog w _ _ ?_);by_cases q:i=j
  ·subst q;rw[t,b8 rfl]
   wp_walk
   exact h
  ·have p:i<j:=by lia
   rw[C i f p,a8 (by decide)];exact aV ⟨rfl,rfl,i+1,rfl,p⟩
 ·obtain⟨_,_,k,c,hk⟩:=o;have:=j5 lK c;simp at this;lia
end L2
namespace TL
open L2 PySem.SeqAt
section
variable{X:Cx}{e:Expr}{es:List Expr}{te ta:ET}{pos:Pos}
def K7(ts:List D)(d:D)(j:Nat):Prop:=eL ts=true/\d.canLay0=true/\min (eV ts) d.depth<=60/\(∃t,ts[j]?=some t/\bX t d=true)/\∀(m:Nat) t,m<j->ts[m]?=some t->bX t d=false
def KZ(K:aI):V->List V->Hp->VK->Prop:=λx xs H Q=>∃(y:V)(ts:List D)(d:D)(j:Nat),xs=[y]/\gW K H (.tuple ts) x/\gW K H d y/\K7 ts d j/\Q (.int j) H
def PD(z:X.A.units+200<aq):Q5 X "tuple.index" (KZ X.K):=by
 intro pins s σ H x xs v us Q I L J h;obtain⟨y,ts,d,j,rfl,C,E,⟨c1,a,hm,⟨t,c,w⟩,B⟩,q⟩:=h;obtain⟨u,rfl,G⟩:=J.one;obtain⟨as,p⟩:=gW.reads I (show(fA ts).hasDict=false from noDictAll c1) C L;obtain⟨bs,r⟩:=gW.reads I (nZ a) E G
 cases p with
 |@tuple l o items n _ as' h3 h4 h5 h6=>
  have f:=wm ts items.toList _ c1 h6;have O:items.size=ts.length:=by rw[<- f,aB,fG]
  have N:j<ts.length:=(aF.mp c).1;have b:j<items.size:=by lia
  have g:∀(m:Nat)(hm:m<items.size),ts[m]?=some (wl s.heap items[m]):=λm hm=>by
   rw[<- f,aL];simp[hm]
  obtain⟨oc,od,M,ly⟩:=o;cases h4;cases h5;refine bi F.slot_tuple_index ⟨_,h3,rfl⟩ F.entry_tuple_index (F.args_tuple_index_2 _ _) (DK _ items _ od ly u (λy=>bX (wl s.heap y) d) j b ?_ ?_) ⟨h3,EM h6 r c1 a (by have:=z;lia),?_⟩
  ·have:=g j b;rw[c]at this;rw[<- d7 this];exact w
  ·intro m i k;exact B m _ k (g m i)
  ·exact⟨.int j,H,I.tok _,⟨_,rfl⟩,q⟩
def xD{k:Nat}(a:gR k X.A):Q5 X "tuple.index" (KZ X.K):=PD (by have:=a.un;lia)
def aF3(te:ET)(t:AT):ET:=λσ Q=>te σ λd=>∃ts,d=.tuple ts/\t σ λds=>∃(x:D)(j:Nat),ds=[x]/\K7 ts x j/\Q (.int j)
def xN{n ap t}(hn:fY X n te)(ha:wQ X (e::es) t)
  (pc:∀{v ta},PE X n v->PA X (e::es) ta->PE X (.Call (.Attribute n "index" ap) (e::es) [] pos) (Q1 X.K "tuple" (KZ X.K) v ta)):fY X (.Call (.Attribute n "index" ap) (e::es) [] pos) (aF3 te t):=by
 obtain⟨v,f,re⟩:=hn;obtain⟨w,c,s⟩:=ha;refine⟨_,pc f c,λB p0 H ps σT σ Q u o h k=>re B p0 H ps σT σ _ _ o h λd x H1 s1 i a=>?_⟩;obtain⟨ts,rfl,a⟩:=a
 cases i with
 |@tuple p xs _ hq rs=>
  refine⟨.inr (.inl ⟨rfl,.inr ⟨_,bA.seqT bU hq⟩⟩),s B p0 H1 ps σT σ _ _ (o.grow s1) a λds ys b s2 l g=>?_⟩;obtain⟨d,j,rfl,hok,q⟩:=g
  cases l with
  |cons m r=>
   cases r;exact⟨_,ts,d,j,rfl,(gW.tuple hq rs).same ((bG s2).trans bU),m.same bU,hok,k _ _ b (s1.trans s2) (.int _) q⟩
theorem Reps.rep{K H ds vs}(r:Reps K H ds vs):∀n:Nat,Reps K H (dW n ds).flatten (dW n vs).flatten
|0=>.nil
|n+1=>by
 rw[jH,jH,iY,iY];exact r.append (Reps.rep r n)
end
section
variable{H H':Hp}
noncomputable def without(H:Hp)(p:Addr):Hp:=λb=>if b=p then none else H b
def FQ{p:Addr}(s:bA H H')(a:H p=none):bA H (without H' p):=λb o e=>by
 unfold without;rw[a8 λz=>by rw[z,a]at e;cases e];exact s b o e
def HM{p:Addr}{u}(a:H p=some u):fS (without H p) p u=H:=by
 funext b;by_cases h:b=p
 ·subst h;rw[cE,a]
 ·rw[bZ h];unfold without;rw[a8 h]
def bA.free'(s:bA H H'){p:Addr}(h:H' p=none):H p=none:=by
 cases q:H p with
 |none=>rfl
 |some u=>rw[s p u q]at h;cases h
end
section
variable{X:Cx}{a b c e:Expr}{es:List Expr}{ta tb te:ET}{pos:Pos}
abbrev FT:=List Sl->(List D->Prop)->Prop
def N8(X:Cx)(e:Expr)(t:FT):Prop:=∃te:TE,PE X e te/\∀B p0 H ps σT σ (Q:List D->Prop)(d:VK),Ok X.K B p0 H ps σT σ->t σT Q ->
 (∀ts p xs H',bA H H'->H p=none->H' p=some (.lst xs)->Reps X.K (mask H' (p::ps)) ts xs->Q ts->d (.ref p) H')->te σ H d
def eFr(t:FT):ET:=λσ Q=>t σ λts=>Q (.list ts)
def zG{t}(h:N8 X e t):fY X e (eFr t):=by
 obtain⟨v,p,r⟩:=h;refine⟨_,p,λB p0 H ps σT σ Q j o h k=>r B p0 H ps σT σ _ _ o h λts p xs H' s d g i q=>k _ _ H' s ?_ q⟩;exact .list (nB.of (kI (hU o.live d) g)) (i.same (fJ λq f=>aJ _ f))
def aO9(t:AT):FT:=λσ Q=>t σ λds=>ds.length<=1000/\Q ds
def VJ{t}(h:wQ X es t):N8 X (.List es pos) (aO9 t):=by
 obtain⟨v,p,r⟩:=h;refine⟨_,F4 p,λB p0 H ps σT σ Q i o h k=>r B p0 H ps σT σ _ _ o h λds xs H1 s1 g f=>⟨uT (by rw[<- g.length];exact f.1),λq d=>?_⟩⟩;exact k ds q xs _ (s1.trans (dH d)) (bA.free' s1 d) cE (by rw[lG d];exact g) f.2
def aCx(ta tb:ET):FT:=λσ Q=>ta σ λx=>tb σ λy=>∃as bs,x=.list as/\y=.list bs/\as.length+bs.length<=100000/\Q (as++bs)
def VL(ha:fY X a ta)(hb:fY X b tb):N8 X (.BinOp a .Add b pos) (aCx ta tb):=by
 obtain⟨C,l,t⟩:=ha;obtain⟨E,pb,u⟩:=hb;refine⟨_,IC M6 l pb,λB p0 H ps σT σ Q w o h k=>t B p0 H ps σT σ _ _ o h λz x H1 s1 r m=>?_⟩;refine u B p0 H1 ps σT σ _ _ (o.grow s1) m λA y v s2 s n=>?_;obtain⟨as,bs,rfl,rfl,hz,q⟩:=n
 cases r with
 |list i f=>
  cases s with
  |list j g=>
   refine⟨_,_,_,_,rfl,rfl,L2.bA.seq ((bG s2).trans bU) i,L2.bA.seq bU j,zC (by rw[<- f.length,<- g.length];exact hz),λp d=>?_⟩;exact k _ p _ _ ((s1.trans s2).trans (dH d)) (bA.free' (s1.trans s2) d) cE (by rw[lG d];exact(f.same (bG s2)).append g) q
def fLc(fr:List (Option Nat))(f:IT)(g:GT)(tt:vD)(te:ET):FT:=λσ Q=>f σ λts=>ts.length<=100000/\∃P:Nat->List Sl->List D->Prop,P 0 (jQ fr σ) [] /\
 (∀(k:Nat)(x:D)d8(ds:List D),ts[k]?=some x->P k d8 ds->g x d8 λd=>tt d λb=>if b=true then te d λy=>P (k+1) d (ds++[y])else P (k+1) d ds)/\∀d8 ds,P ts.length d8 ds->Q ds
def asL(Q:List D->Prop)(d:D):Prop:=match d with | .list ds=>Q ds | _=>False
def VT{fr ti g tt te σ}{Q:List D->Prop}(h:P2 fr ti g tt te σ (asL Q)):fLc fr ti g tt te σ Q:=h
def UU{fr}{S:IT}{g:GT}{tt:vD}{te:ET}{T:TI}{gv:BP->TG}{vt:BP->TT}{ve:BP->TE}
  (ri:∀B p0 H ps σT σ (Q:List D->Prop)(R:It->Hp->Prop),Ok X.K B p0 H ps σT σ->S σT Q->(∀ts J H',bA H H'->aA4 X.K (mask H' ps) ts J->Q ts->R J H')->T σ H R)
  (rg:∀(l:BP)B p0 H ps σT σ(d:D)(v:V)(Q:List Sl->Prop)(j:L2.St->Hp->Prop),Ok X.K B p0 H ps σT σ->gW X.K (mask H ps) d v->g d σT Q->(∀h9 d8,Ok X.K B p0 H ps h9 d8->(pA σT->pA h9)->Q h9->j d8 H)->gv l v σ H j)
  (rt:∀(l:BP)B p0 H ps σT σ(Q:Bool->Prop)(j:Bool->Hp->Prop),Ok X.K B p0 H ps σT σ->tt σT Q->(∀b H',bA H H'->Q b->j b H')->vt l σ H j)
  (re:∀(l:BP)B p0 H ps σT σ(Q:D->Prop)j,Ok X.K B p0 H ps σT σ->te σT Q->(∀d v H',bA H H'->gW X.K (mask H' ps) d v->Q d->j v H')->ve l σ H j)
  (B:Hp) (p0:List Addr) (H:Hp) (ps:List Addr) (σT:List Sl) (σ:L2.St) (Q:List D->Prop) (j:VK) (o:Ok X.K B p0 H ps σT σ) (h:fLc fr S g tt te σT Q) (k:∀ts p xs H',bA H H'->H p=none->H' p=some (.lst xs)->Reps X.K (mask H' (p::ps)) ts xs->Q ts->j (.ref p) H'):R1 fr T gv vt ve σ H j:=by
 refine ri B p0 H ps σT σ _ _ o h λts J H1 s1 F q1=>?_;obtain⟨hz,P,W,hs,hd⟩:=q1;intro l f n;have uz:B f=none:=bA.free' (o.grow s1).base n
 refine⟨λi m d8 H'=>m=ts.length-i/\i<=ts.length/\∃h9 ds ys,Ok X.K B p0 H' (f::ps) h9 d8/\pA h9/\H' f=some (.lst ys)/\ds.length<=i/\Reps X.K (mask H' (f::ps)) ds ys/\bA (mask H1 ps) (mask H' (f::ps))/\bA H1 H'/\P i h9 ds,
  ⟨_,rfl,cU _,jQ fr σT,[],[],((o.grow s1).blk fr).adopt n,rJ fr σT,cE,aN _,.nil,by rw[lG n];exact L2.bA.refl _,dH n,W⟩,?_⟩
 rintro i m d8 H' ⟨rfl,Fd,h9,ds,ys,o',n',ha,hl,w,s',G,M⟩;have hL:bE=2^24:=rfl;by_cases s:i<ts.length
 ·refine .inr ⟨F.go i H' (s'.trans bU) s,λy C Z=>?_⟩;obtain⟨s2,dx,Y,rx⟩:=F.yld i H' (f::ps) y C o'.live s' s Z;refine rg l B p0 C (f::ps) h9 d8 dx y _ _ (o'.grow s2) rx (hs i dx h9 ds Y M) λt L x E q3=>?_;refine rt l B p0 C (f::ps) t L _ _ x q3 λb U A N=>?_;have q:=s2.trans A
  cases b with
  |false=>
   exact⟨ts.length-(i+1),by lia,rfl,s,t,ds,ys,x.grow A,E n',q _ _ ha,by lia,w.same (bG q),s'.trans (bG q),G.trans q,N⟩
  |true=>
   refine re l B p0 U (f::ps) t L _ _ (x.grow A) N λd v I O r5 q5=>?_;have r:=q.trans O;have hm:mask (fS I f (.lst (ys++[v]))) (f::ps)=mask I (f::ps):=eQ (aO ..);refine⟨ys,r _ _ ha,by rw[<- w.length];lia,ts.length-(i+1),by lia,rfl,s,t,ds++[d],ys++[v],((x.grow A).grow O).aside (aO ..) uz (E n'),E n',cE,by rw[bO,oM];lia,?_,?_,?_,q5⟩
   ·rw[hm];exact(w.same (bG r)).append (.cons r5 .nil)
   ·rw[hm];exact s'.trans (bG r)
   ·intro b u e;have ne:b≠f:=λz=>by rw[z,n]at e;cases e
    rw[bZ ne];exact(G.trans r) b u e
 ·obtain rfl:i=ts.length:=by lia
  exact .inl ⟨F.stop _ H' (s'.trans bU) (aN _),k ds f ys H' (s1.trans G) (bA.free' s1 n) ha w (hd h9 ds M)⟩
def ZS{aj iter tg ae scope fr N' ti g tt te}(hi:N7 X tg iter ti)
  (d:∀b:BP,JX (blk X scope N' b) tg g/\G3 (blk X scope N' b) ae tt/\fY (blk X scope N' b) aj te) {M:(TE)->Prop}
  (fin:∀{f}{gv:BP->TG}{vt:BP->TT}{ve:BP->TE},PI X tg iter f->(∀b:BP,PG (blk X scope N' b) tg (gv b)/\QM (blk X scope N' b) ae (vt b)/\PE (blk X scope N' b) aj (ve b))->M (R1 fr f gv vt ve)) :
  ∃v:TE,M v/\∀B p0 H ps σT σ (Q:List D->Prop)(h:VK),Ok X.K B p0 H ps σT σ->fLc fr ti g tt te σT Q ->
   (∀ts p xs H',bA H H'->H p=none->H' p=some (.lst xs)->Reps X.K (mask H' (p::ps)) ts xs->Q ts->h (.ref p) H')->v σ H h:=by
 obtain⟨f,i,j⟩:=hi;refine⟨_,fin (gv:=λb=>i0 (d b).1) (vt:=λb=>i0 (d b).2.1) (ve:=λb=>i0 (d b).2.2) i λb=>⟨(d9 (d b).1).1,(d9 (d b).2.1).1,(d9 (d b).2.2).1⟩,?_⟩;exact UU j (λb=>(d9 (d b).1).2) (λb=>(d9 (d b).2.1).2) λb=>(d9 (d b).2.2).2
def aLu{aj iter tg ae scope fr N' ti g tt te}(hi:N7 X tg iter ti)
  (d:∀b:BP,JX (blk X scope N' b) tg g/\G3 (blk X scope N' b) ae tt/\fY (blk X scope N' b) aj te)
  (pl:∀{wi}{gv:BP->TG}{vt:BP->TT}{ve:BP->TE},PI X tg iter wi->(∀b:BP,PG (blk X scope N' b) tg (gv b)/\QM (blk X scope N' b) ae (vt b)/\PE (blk X scope N' b) aj (ve b))->PE X (.ListComp aj [⟨tg,iter,ae,0⟩] scope pos) (R1 fr wi gv vt ve)) :
  N8 X (.ListComp aj [⟨tg,iter,ae,0⟩] scope pos) (fLc fr ti g tt te):=ZS hi d pl
abbrev QK:=List D->(List D->Prop)->Prop
def iS(K:aI)(sp:QK):Sp:=λvs H Q _=>∃(ps:List Addr)(ds:List D)(d:List D->Prop),(∀p∈ps,yQ (H p))/\Reps K (mask H ps) ds vs/\sp ds d /\
 ∀ts p xs H',bA H H'->H p=none->H' p=some (.lst xs)->Reps K (mask H' (p::ps)) ts xs->d ts->Q (.ref p) H'
def aCw(sp:QK)(t:AT):FT:=λσ Q=>t σ λds=>sp ds Q
def aAa{k:Nat}{f:Addr}{fd pn sp x p t}(F:dP X.prog X.w X.K X.mg X.base iL k f fd pn (iS X.K sp))(hm:X.mg x=some (.ref f))(hk:gD X.K (.ref f)=true)(hb:pS X.K fd pn [])
  (u:gR k X.A) (ha:wQ X (e::es) t) (pc:∀{ta},PA X (e::es) ta->PE X (.Call (.Name x p) (e::es) [] pos) (yV (iS X.K sp) [] E0 ta)):N8 X (.Call (.Name x p) (e::es) [] pos) (aCw sp t):=by
 obtain⟨v,l,r⟩:=ha;refine⟨_,pc l,λB p0 H ps σT σ Q g o h k=>r B p0 H ps σT σ _ _ o h λds xs H1 s1 n m=>?_⟩;show iS X.K sp (xs++[]) H1 g E0;rw[cJ];exact⟨ps,ds,Q,(o.grow s1).live,n,m,λts p d H' s' i j s q=>k ts p d H' (s1.trans s') (bA.free' s1 i) j s q⟩
def fnF{P w K}{mg:Str->Option Value}{base x qual st}{f:Addr}{fd}{N pn:List Str}{k:Nat}{sp:QK}(F:J6 K x qual st f fd)(S:bW N pn (bB st))
  (o:∀{t6}{A:g9}{outer}{s:Shared}{H E},gR k (A.deeper (l3 qual (bB st) s.heap.objs.size f t6))->N.Nodup->∀(ds:List D)(Q:List D->Prop),sp ds Q ->
   ∃t,sV (qP iL P w K mg base N qual (bB st) f t6 A outer s H E).nox (lD st) t/\t { nx:=λ_=>False,rt:=λ_=>False,ro:=Q } (iH N ds)) (len:∀ds Q,sp ds Q->ds.length=pn.length:=by intro ds Q h;(repeat obtain⟨_,h⟩:=h)<;>subst_vars<;>rfl):dP P w K mg base iL (k+1) f fd pn (iS K sp):=by
 refine F.ok S (λvs H Q E h=>?_) λt6 A outer s H vs Q E j h=>?_
 ·obtain⟨ps,ds,g,_,r,q,_⟩:=h;rw[<- r.length];exact len ds g q
 ·obtain⟨ps,ds,g,live,r,q,k⟩:=h;obtain⟨t,⟨ts,p,m⟩,h⟩:=o j S.nd ds g q;exact⟨ts,p,m H ps H ps _ _ _ _ (oJ live r) h ⟨λ_ _ _ _ _ _ d=>d.elim,λ_ _ _ _ _ _ d=>d.elim,λ_ _ _ _ _ _ d=>d.elim,λ_ _ _ _ _ d=>d.elim,λts p xs H' s' i u l n d=>k ts p xs H' s' i l n d,λ_ _ _ _ _ _ _ _ _ _ _ _ _ _ _ _ _ _ d=>d.elim,λ_ _ _ _ _ _ _ _ _ _ _ _ _ _ d=>d.elim,i8⟩⟩
def aBr(t:FT):vE:=λDT σ=>t σ DT.ro
def uN{t}(h:N8 X e t):A8 X (.Return (some e) pos) (aBr t):=by
 obtain⟨v,p,r⟩:=h;refine⟨_,yD p,λB p0 H ps σT σ DT DV o h f=>r B p0 H ps σT σ _ _ o h λts p xs H' s d g i q=>?_⟩;refine f.ro ts p xs H' (o.base.trans s) (bA.free' o.base d) (λz=>hU o.live d (o.sub p z)) g (i.same (fJ λq hq=>?_)) q;rcases aP.mp hq with rfl | hq
 ·exact aO ..
 ·exact aJ _ (o.sub q hq)
def YR(i:Nat):vE:=λDT σ=>∃ts,σ[i]?=some (.own ts)/\DT.ro ts
def OR{i:Nat}{n}(hn:PE X n (qM i)):A8 X (.Return (some n) pos) (YR i):=by
 refine⟨_,yD hn,λB p0 H ps σT σ DT DV o h f=>?_⟩;obtain⟨ts,e,h⟩:=h;obtain⟨q,xs,d,g,j,k,l,m⟩:=o.own i ts e;refine⟨.ref q,d,f.ro ts q xs H o.base j k l (m.same (fJ λz hz=>?_)) h⟩;rcases aP.mp hz with rfl | hz
 ·exact g
 ·exact o.sub z hz
def SG(c:vD)(tb:vE):vE:=λDT σ=>∃P:Nat->List Sl->Prop,(∃n,P n σ)/\∀n d8,P n d8->c d8 λb=>if b=true then tb { DT with nx:=λd=>∃m,m<n/\P m d,ct:=λd=>∃m,m<n/\P m d,bk:=DT.nx } d8 else DT.nx d8
def SA{c body tc tb}(C:C5 X c tc)(hb:sV X body tb)(G:∀{u t},PT X c u->AG X body t->PS X (.While c body [] pos) (RZ u t)):A8 X (.While c body [] pos) (SG tc tb):=by
 obtain⟨u,pc,J⟩:=C;obtain⟨t,pb,I⟩:=hb;refine⟨_,G pc pb,λB p0 H ps σT σ DT DV o h f=>?_⟩;obtain⟨P,⟨E,A⟩,hs⟩:=h;refine⟨λn d8 H'=>∃l6 h9,Ok X.K B p0 H' l6 h9 d8/\bA (mask H ps) (mask H' l6)/\P n h9,⟨E,ps,σT,o,L2.bA.refl _,A⟩,?_⟩;rintro n d8 H' ⟨l6,h9,o',s',F⟩;refine J B p0 H' l6 h9 d8 _ _ o' (hs n h9 F) λb H1 s1 p=>?_;have d:JZ X.K B p0 H1 l6 DT DV:=(f.later s').later (bG s1);have x:bA (mask H ps) (mask H1 l6):=s'.trans (bG s1)
 cases b with
 |true=>
  rw[b8 rfl]at p |-
  refine⟨λy q=>∃m,m<n/\∃v w,Ok X.K B p0 q v w y/\bA (mask H ps) (mask q v)/\P m w,λy q z=>z,?_⟩;exact I B p0 H1 l6 h9 d8 _ _ (o'.grow s1) p ⟨λr i g s j l ⟨m,hm,k⟩=>⟨m,hm,i,g,j,x.trans l,k⟩,λr i g s j l k=>d.nx r i g s j l k,λr i g s j l ⟨m,hm,k⟩=>⟨m,hm,i,g,j,x.trans l,k⟩,d.rt,d.ro,d.rp,d.rq,d.xb⟩
 |false=>
  rw[a8 (by decide)]at p |-
  exact d.nx H1 l6 h9 d8 (o'.grow s1) (L2.bA.refl _) p
def gP3(i j k:Nat):GT:=λd σ Q=>∃a b c,d=.tuple [a,b,c]/\Q (((σ.set i (.val a)).set j (.val b)).set k (.val c))
def uV{i j k:Nat}{t}(h:PG X t (Z8 X.K 3 (vR (kP i) (vR (kP j) (vR (kP k) Z9))))):JX X t (gP3 i j k):=
 ⟨_,h,λB p0 H ps σT σ d v Q m o r h k=>by
  obtain⟨a,b,c,rfl,h⟩:=h
  cases r with
  |@tuple p xs _ hq r=>
   cases r with
   |cons f r=>
    cases r with
    |cons g r=>
     cases r with
     |cons l r=>
      cases r;exact⟨_,_,rfl,bA.seqT bU hq,rfl,_,_,rfl,_,_,rfl,_,_,rfl,rfl,k _ _ (((o.set f).set g).set l) (λn=>lL (lL (lL n _ _) _ _) _ _) h⟩⟩
def MT(te:ET)(g:GT):vE:=λDT σ=>te σ λd=>g d σ DT.nx
def uL{tg g}(i:fY X e te)(j:JX X tg g)(k:∀{v gv},PE X e v->PG X tg gv->PS X (.Assign [tg] e pos) (tF v gv)):A8 X (.Assign [tg] e pos) (MT te g):=by
 obtain⟨v,l,re⟩:=i;obtain⟨gv,pg,q⟩:=j;refine⟨_,k l pg,λB p0 H ps σT σ DT DV o h f=>re B p0 H ps σT σ _ _ o h λd x H1 s1 p n=>?_⟩;exact q B p0 H1 ps σT σ d x _ _ (o.grow s1) p n λh9 d8 o' _ m=>f.nx H1 ps _ _ o' (bG s1) m
def eIf(c:vD)(ta tb:ET):ET:=λσ Q=>c σ λb=>if b=true then ta σ Q else tb σ Q
def NU{tc}(j:C5 X c tc)(ha:fY X a ta)(hb:fY X b tb):fY X (.IfExp c a b pos) (eIf tc ta tb):=by
 obtain⟨t,pc,p⟩:=j;obtain⟨r,l,m⟩:=ha;obtain⟨s,pb,n⟩:=hb;refine⟨_,IE pc l pb,λB p0 H ps σT σ Q q o h k=>p B p0 H ps σT σ _ _ o h λd H1 s1 f=>?_⟩
 cases d with
 |true=>
  rw[b8 rfl]at f |-
  exact m B p0 H1 ps σT σ Q _ (o.grow s1) f λd v H' s' i g=>k d v H' (s1.trans s') i g
 |false=>
  rw[a8 (by decide)]at f |-
  exact n B p0 H1 ps σT σ Q _ (o.grow s1) f λd v H' s' i g=>k d v H' (s1.trans s') i g
def aO7(d:D)(Q:D->Prop):Prop:=match d with
|.int i=>Q (.int i)
|.bool b=>Q (.int (if b then 1 else 0))
|_=>False
def C2:pQ X (λxs H Q=>(∃i,xs=[.int i]/\Q (.int i) H)\/∃k,xs=[.bl k]/\Q (.int (if k then 1 else 0)) H) (f1 aO7):=c1 λH ps d x Q f live r h k=>by
 cases r with
 |int i=>exact .inl ⟨i,rfl,k _ _ H (L2.bA.refl H) (.int _) h⟩
 |bool b=>exact .inr ⟨b,rfl,k _ _ H (L2.bA.refl H) (.int _) h⟩
 |_=>exact h.elim
end
end TL
namespace L2
open PySem.SeqAt
open AutoSeq1 (wpAny_loadPart')
def LS(l:Addr)(a:Array Value)(n:Nat)(b:Addr)(c:Array Value)(j:Nat)(dd:Option Addr)(sl:Array (Option Value))(m:¬(!a.isEmpty&&m7 (a.size+c.size))=true)(f:a.size<=bE)(k:a.size+c.size<=bE+1) :
  Meets (am.«list.extend» ⟨[.ref l,.ref b],[]⟩) (λ_ R s=>s.heap.get? l=some { cls:=.type "list",dict:=none,data:=.seq a n,slots:=#[] }/\s.heap.get? b=some { cls:=.type "list",dict:=dd,data:=.seq c j,slots:=sl }/\R (.ok (.ret j9)) { s with heap:=s.heap.update l (i7 λx=>x++c),toks:=s.toks }):=
 .of_wp λprog w A R s h=>by
  obtain⟨r,g,d,tk,os⟩:=s;obtain⟨e,hb,h⟩:=h;have f1:=AutoSeq1.idx_int;have f2:=AutoSeq1.sub_tuple_tuple;have o:=AutoSeq1.sub_list_list;have p:=AutoSeq1.sub_tuple_list;have q:=AutoSeq1.sub_list_tuple;have i:(a++c).size<=bE+1:=by rw[RD];exact k
  wp_walk using(wpAny_updateSeq e rfl (hz:=f) (_hz':=i)),mz e,mz hb
  exact⟨_,rfl,h⟩
section
variable{X:Cx}
def aBx(K:aI):V->List V->Hp->VK->Prop:=λx vs H Q=>∃l b xs a,x=.ref l/\vs=[.ref b]/\H l=some (.lst xs)/\nB K H b a/\xs.length+a.length<=bE/\Q .non (fS H l (.lst (xs++a)))
def NI:MtM X "list.extend" (aBx X.K):=by
 intro pins s σ H x vs v us Q I p m h;obtain⟨l,b,xs,C,rfl,rfl,c,g,hz,q⟩:=h;cases p;obtain⟨u,rfl,k⟩:=m.one;cases k;obtain⟨z,i3,n,r,A,e⟩:=I.lstM c;obtain⟨a,d,⟨o,j,f,i,y,hd⟩,z2⟩:=I.list g;have B:=d.length;have hsz:i3.toArray.size+a.toArray.size<=bE:=by rw[bF,bF];lia
 have t:¬(!i3.toArray.isEmpty&&m7 (i3.toArray.size+a.toArray.size))=true:=by
  rw[IQ hsz,aDc];exact bV
 obtain⟨oc,od,w,ly⟩:=o;cases i;cases hd;refine bi F.slot_list_extend ⟨_,e,rfl⟩ F.entry_list_extend (F.args_list_extend_2 _ _) (LS l i3.toArray n b a.toArray j od ly t (by rw[bF];lia) (by lia)) ⟨e,f,?_⟩;refine⟨.non,_,I.lset (its':=i3++a) c e (by simp) (r.append d) ?_,rfl,q⟩;rw[bO];lia
end
end L2
namespace TL
open L2
section
variable{X:Cx}{e:Expr}{ta te:ET}{pos:Pos}
def aBt(i:Nat)(te:ET):vE:=λDT σ=>∃ts,σ[i]?=some (.own ts)/\te σ λd=>∃us,d=.list us/\ts.length+us.length<=100000/\DT.nx (σ.set i (.own (ts++us)))
def MO{i:Nat}{n e te ap cp}(hn:PE X n (qM i))(k:fY X e te)(hs:bI [e] X.env=(false,eval e X.env)::bI [] X.env:=by rfl)
  (pb:∀{ta},PA X [e] ta->PS X (.Expr (.Call (.Attribute n "extend" ap) [e] [] cp) pos) (yU (Q1 X.K "list" (aBx X.K) (qM i) ta))):A8 X (.Expr (.Call (.Attribute n "extend" ap) [e] [] cp) pos) (aBt i te):=by
 obtain⟨v,p,r⟩:=k;refine⟨_,pb (fP p jX hs),λB p0 H ps σT σ DT DV o h f=>?_⟩;obtain⟨ts,e,h⟩:=h;obtain⟨q,xs,b,j,t,u,c,g⟩:=o.own i ts e;refine⟨.ref q,b,.inl ⟨rfl,xs,nB.of c⟩,r B p0 H ps σT σ _ _ o h λd x H1 s1 s a=>?_⟩;obtain⟨us,rfl,hz,a⟩:=a;have m:=o.grow s1
 cases s with
 |@list p2 zs _ hq rs=>
  refine⟨q,p2,xs,zs,rfl,rfl,s1 _ _ c,L2.bA.seq bU hq,zC (by rw[<- g.length,<- rs.length];exact hz),?_⟩;have l:Reps X.K (mask H1 ps) (ts++us) (xs++zs):=(g.same (bG s1)).append rs;exact f.nx _ ps _ σ (m.write (ys:=xs++zs) e b l) ((bG s1).trans (by rw[eQ j];exact L2.bA.refl _)) a
def CK{P w K}{mg:Str->Option Value}{base}{k:Nat}{f:Addr}{fd pn}:dP P w K mg base iL k f fd pn (dB K λ_ _=>False):=
 ⟨λvs H Q E ⟨_,_,_,_,_,h,_⟩=>h.elim,λA outer s H args us vs Q E _ _ _ _ ⟨_,_,_,_,_,h,_⟩=>h.elim⟩
def PY{P w K}{mg:Str->Option Value}{base}{k:Nat}{f:Addr}{fd pn}:dP P w K mg base iL k f fd pn (iS K λ_ _=>False):=
 ⟨λvs H Q E ⟨_,_,_,_,_,h,_⟩=>h.elim,λA outer s H args us vs Q E _ _ _ _ ⟨_,_,_,_,_,h,_⟩=>h.elim⟩
def LQ{P w K}{mg:Str->Option Value}{base}{k:Nat}{f:Addr}{fd pn}{sp a:oX}(F:dP P w K mg base iL k f fd pn (dB K sp))(h:∀ds Q,a ds Q->sp ds Q):dP P w K mg base iL k f fd pn (dB K a):=
 F.imp λvs H Q E ⟨ps,ds,b,c,d,g,i⟩=>⟨ps,ds,b,c,d,h ds b g,i⟩
def aO6(d:D)(Q:D->Prop):Prop:=∃ns:List Int,d=.list (ns.map aW)/\ns≠[]/\∀m,m∈ns->(∀n∈ns,n<=m)->Q (.int m)
end
end TL
namespace L2
section
variable{X:Cx}
def vS(E:X.calm=true):kE X (.builtin "max") (λxs H Q=>∃(p:Addr)(ns:List Int),xs=[.ref p]/\nB X.K H p (ns.map V.int)/\ns≠[]/\∀m,m∈ns->(∀n∈ns,n<=m)->Q (.int m) H):=by
 intro pins s σ H xs us Q I r h;obtain⟨p,ns,rfl,G,y,q⟩:=h;obtain⟨u,rfl,L⟩:=nV r;cases L;obtain⟨i3,l,pl,hz⟩:=I.list G;have J:=l.length;rw[aB]at J;have M:0<ns.length:=List.length_pos_iff.mpr y
 have B:p≠s.heap.objs.size:=by
  obtain⟨o,d,_⟩:=pl.isList;exact cI (aY d)
 have a:=pl.isList
 have w:p<s.heap.objs.size:=by
  obtain⟨o,d,_⟩:=a;exact aY d
 have f:∀(i:Nat)(v:Value),i3.toArray[i]?=some v->∃t,v=.int ((ns[i]?).getD 0) t:=λi v c=>by
  have k:i3[i]?=some v:=by simpa using c
  have hi:i<i3.length:=(aF.mp k).1;have hb:i<ns.length:=by lia
  obtain⟨N,g,C⟩:=l.get (i:=i) (x:=.int ns[i]) (by rw[aL,aD hb];rfl);rw[k]at g;cases g;rw[aD hb];exact C
 refine call_max_walk (t8 a ?_);refine⟨_,_,_,_,_,_,_,rfl,qz (A:=X.A.in1) (I.ok.hd E) _ p B i3.toArray,⟨⟨_,aZ _ rfl,rfl,rfl⟩,a.push _⟩,λb hb=>?_,by rw[bF];lia,CmpOf.ints_gt (λi=>(ns[i]?).getD 0) f,λv h' tk c hk=>?_⟩
 ·show b<(s.heap.push _).objs.size;rw[fE];have:b=s.heap.objs.size\/b=p:=by simpa using hb
  rcases this with rfl | rfl
  ·exact mR _
  ·exact rW w
 ·obtain⟨t,rfl⟩:=f _ _ c;have hb:=argBest_gt (λi=>(ns[i]?).getD 0) (i3.toArray.size-1);have hsz:i3.toArray.size=ns.length:=by rw[bF];lia
  have hi:argBest (λi j=>decide ((ns[i]?).getD 0>(ns[j]?).getD 0)) (i3.toArray.size-1)<ns.length:=by have:=hb.1;lia
  refine⟨.int _,H,I.kept λb o e=>hk b o ?_ (aG _ e),⟨t,rfl⟩,q _ ?_ λn hn=>?_⟩
  ·intro z;have:b=s.heap.objs.size:=by simpa using z
   exact c7 (aY e) (by rw[this];exact eT _)
  ·rw[aD hi];exact fF hi
  ·obtain⟨j,F,rfl⟩:=vX.mp hn;have:=hb.2 j (by lia);rw[aD F]at this;exact this
def aMq(_ j:Int):Prop:=0<j/\j<2^200
def IJ:oG X (o9 .FloorDiv) (rI aMq λi j=>.int (i / j)):=opI λi j _ _ _ _ _ a q=>by
 have c:(0:Int)<j:=a.1;have d:j<2^200:=a.2;have b:j.natAbs<2^200:=by lia
 have e:j.natAbs.log2<200:=(aNi (by lia)).mpr b;exact floordiv_int (by lia) (by rw[HE i (by lia)];exact q) (.inl (PyProof.noPylong_of_log2 (by lia)))
end
end L2
namespace TL
open L2
section
variable{X:Cx}{e:Expr}
def aC3:pQ X (λxs H Q=>∃(p:Addr)(ns:List Int),xs=[.ref p]/\nB X.K H p (ns.map V.int)/\ns≠[]/\∀m,m∈ns->(∀n∈ns,n<=m)->Q (.int m) H) (f1 aO6):=c1 λH ps d x Q b live r h k=>by
 obtain⟨ns,rfl,a,h⟩:=h
 cases r with
 |list q s=>
  have e:=yA s;subst e;exact⟨_,ns,rfl,L2.bA.seq bU q,a,λm hm hn=>k _ _ H (L2.bA.refl H) (.int _) (h m hm hn)⟩
end
def Ok.setUn{K B H p0 ps}{σT:List Sl}{σ:L2.St}(o:Ok K B p0 H ps σT σ){i:Nat}{v}:Ok K B p0 H ps (σT.set i .un) (σ.set i (some v)) where
 base:=o.base
 sub:=o.sub
 live:=o.live
 len:=by simpa using o.len
 val:=λj d' h=>by
  by_cases e:i=j
  ·subst e
   have hi:i<σT.length:=by
    have:=(aF.mp h).1;simpa using this
   rw[aR hi]at h;cases h
  ·rw[aQ e]at h |-
   exact o.val j d' h
 own:=λj ts h=>by
  by_cases e:i=j
  ·subst e
   have hi:i<σT.length:=by
    have:=(aF.mp h).1;simpa using this
   rw[aR hi]at h;cases h
  ·rw[aQ e]at h |-
   exact o.own j ts h
 dis:=λj k ts us p a b c d=>by
  have ne:∀{l:Nat}{ts:List D},(σT.set i .un)[l]?=some (.own ts)->i≠l:=λ{l ts} h e=>by
   subst e
   have hi:i<σT.length:=by
    have:=(aF.mp h).1;simpa using this
   rw[aR hi]at h;cases h
  have f:=ne a;have g:=ne b;rw[aQ f]at a c;rw[aQ g]at b d;exact o.dis j k ts us p a b c d
 dc:=o.dc.setS λ_ _ z=>nomatch z
section
variable{X:Cx}{e:Expr}{es:List Expr}{ta te:ET}{pos:Pos}
abbrev PTm:=List Sl->(List D->List D->Prop)->Prop
def PPt(X:Cx)(e:Expr)(t:PTm):Prop:=∃te:TE,PE X e te/\∀B p0 H ps σT σ (Q:List D->List D->Prop)(a:VK),Ok X.K B p0 H ps σT σ->t σT Q ->
 (∀as bs r p q xs ys H',bA H H'->H r=none->H p=none->H q=none->p≠q->H' r=some (.tup [.ref p,.ref q])->H' p=some (.lst xs)->H' q=some (.lst ys)->Reps X.K (mask H' (p::q::ps)) as xs->Reps X.K (mask H' (p::q::ps)) bs ys->Q as bs->a (.ref r) H')->te σ H a
abbrev SpP:=List D->(List D->List D->Prop)->Prop
def uS(K:aI)(sp:SpP):Sp:=λvs H Q _=>∃(ps:List Addr)(ds:List D)(a:List D->List D->Prop),(∀p∈ps,yQ (H p))/\Reps K (mask H ps) ds vs/\sp ds a /\
 ∀as bs r p q xs ys H',bA H H'->H r=none->H p=none->H q=none->p≠q->H' r=some (.tup [.ref p,.ref q])->H' p=some (.lst xs)->H' q=some (.lst ys)->Reps K (mask H' (p::q::ps)) as xs->Reps K (mask H' (p::q::ps)) bs ys->a as bs->Q (.ref r) H'
def aB1(sp:SpP)(t:AT):PTm:=λσ Q=>t σ λds=>sp ds Q
def TF{k:Nat}{f:Addr}{fd pn sp x p t}(F:dP X.prog X.w X.K X.mg X.base iL k f fd pn (uS X.K sp))(hm:X.mg x=some (.ref f))(hk:gD X.K (.ref f)=true)(hb:pS X.K fd pn [])
  (z:gR k X.A) (ha:wQ X (e::es) t) (pc:∀{ta},PA X (e::es) ta->PE X (.Call (.Name x p) (e::es) [] pos) (yV (uS X.K sp) [] E0 ta)):PPt X (.Call (.Name x p) (e::es) [] pos) (aB1 sp t):=by
 obtain⟨v,n,a⟩:=ha;refine⟨_,pc n,λB p0 H ps σT σ Q b o h k=>a B p0 H ps σT σ _ _ o h λds xs H1 s1 u s=>?_⟩;show uS X.K sp (xs++[]) H1 b E0;rw[cJ];exact⟨ps,ds,Q,(o.grow s1).live,u,s,λas bs r p q xs ys H' s' c d g i j l m a y q=>k as bs r p _ xs ys H' (s1.trans s') (bA.free' s1 c) (bA.free' s1 d) (bA.free' s1 g) i j l m a y q⟩
def fnP{P w K}{mg:Str->Option Value}{base x qual st}{f:Addr}{fd}{N pn:List Str}{k:Nat}{sp:SpP}(F:J6 K x qual st f fd)(S:bW N pn (bB st))
  (y:∀{t6}{A:g9}{outer}{s:Shared}{H E},gR k (A.deeper (l3 qual (bB st) s.heap.objs.size f t6))->N.Nodup->∀(ds:List D)(Q:List D->List D->Prop),sp ds Q ->
   ∃t,sV (qP iL P w K mg base N qual (bB st) f t6 A outer s H E).nox (lD st) t/\t { nx:=λ_=>False,rt:=λ_=>False,rp:=Q } (iH N ds)) (len:∀ds Q,sp ds Q->ds.length=pn.length:=by intro ds Q h;(repeat obtain⟨_,h⟩:=h)<;>subst_vars<;>rfl):dP P w K mg base iL (k+1) f fd pn (uS K sp):=by
 refine F.ok S (λvs H Q E h=>?_) λt6 A outer s H vs Q E n h=>?_
 ·obtain⟨ps,ds,b,_,r,q,_⟩:=h;rw[<- r.length];exact len ds b q
 ·obtain⟨ps,ds,b,live,r,q,k⟩:=h;obtain⟨t,⟨ts,p,v⟩,h⟩:=y n S.nd ds b q;exact⟨ts,p,v H ps H ps _ _ _ _ (oJ live r) h ⟨λ_ _ _ _ _ _ a=>a.elim,λ_ _ _ _ _ _ a=>a.elim,λ_ _ _ _ _ _ a=>a.elim,λ_ _ _ _ _ a=>a.elim,λ_ _ _ _ _ _ _ _ _ a=>a.elim,λas bs r p q xs ys H' s' c d g i j l m o u a=>k as bs r p q xs ys H' s' c d g i j l m o u a,λ_ _ _ _ _ _ _ _ _ _ _ _ _ _ a=>a.elim,i8⟩⟩
def ePr(t:PTm):ET:=λσ Q=>t σ λas bs=>Q (.tuple [.list as,.list bs])
def aCz{t}(h:PPt X e t):fY X e (ePr t):=by
 obtain⟨v,p,r⟩:=h;refine⟨_,p,λB p0 H ps σT σ Q n o h k=>r B p0 H ps σT σ _ _ o h λas bs r p q xs ys H' s1 c a b m d l f i j g=>?_⟩;have fr:∀{z:Addr},H z=none->z∉ps:=λhz=>hU o.live hz;have sub:∀z∈ps,z∈p::q::ps:=λz hz=>aJ _ (aJ _ hz);exact k _ _ H' s1 (.tuple (qG.of (kI (fr c) d)) (.cons (.list (nB.of (kI (fr a) l)) (i.same (fJ sub))) (.cons (.list (nB.of (kI (fr b) f)) (j.same (fJ sub))) .nil))) g
end
end TL
namespace L2
open PySem.SeqAt
section
variable{X:Cx}
theorem tQ(ns:List Int):∀k:Nat,preSum (λi=>(ns[i]?).getD 0) k=(ns.take k).sum
|0=>rfl
|k+1=>by
 show preSum _ k+(ns[k]?).getD 0=_;rw[tQ ns k,cM,aA9]
 cases ns[k]? with
 |none=>simp
 |some x=>simp
theorem EB:∀ns:List Int,(∀n∈ns,0<=n/\n<2^40)->0<=ns.sum/\ns.sum<=(ns.length:Int)*2^40
|[],_=>by simp
|n::ns,h=>by
 have b:=h n (aO ..);have c:=EB ns λx a=>h x (aJ _ a);rw[gI,dY];constructor
 ·lia
 ·have:((ns.length+1:Nat):Int)*2^40=(ns.length:Int)*2^40+2^40:=by rw[lY,QW];rfl
  lia
def DU(G:X.calm=true):kE X (.builtin "sum") (λxs H Q=>∃(p:Addr)(ns:List Int),xs=[.ref p]/\nB X.K H p (ns.map V.int)/\(∀n∈ns,0<=n/\n<2^40)/\ns.length<=1000/\Q (.int ns.sum) H):=by
 intro pins s σ H xs us Q I r h;obtain⟨p,ns,rfl,L,g,O,q⟩:=h;obtain⟨u,rfl,N⟩:=nV r;cases N;obtain⟨i3,w,pl,hz⟩:=I.list L;have M:=w.length;rw[aB]at M
 have E:p≠s.heap.objs.size:=by
  obtain⟨o,d,_⟩:=pl.isList;exact cI (aY d)
 have a:=pl.isList
 have B:p<s.heap.objs.size:=by
  obtain⟨o,d,_⟩:=a;exact aY d
 have y:∀(i:Nat)(v:Value),i3.toArray[i]?=some v->∃t,v=.int ((ns[i]?).getD 0) t:=λi v F=>by
  have m:i3[i]?=some v:=by simpa using F
  have hi:i<i3.length:=(aF.mp m).1;have hb:i<ns.length:=by lia
  obtain⟨R,c,l⟩:=w.get (i:=i) (x:=.int ns[i]) (by rw[aL,aD hb];rfl);rw[m]at c;cases c;rw[aD hb];exact l
 have C:∀k:Nat,0<=(ns.take k).sum/\(ns.take k).sum<2^63:=λk=>by
  have c:=EB (ns.take k) λn hn=>g n (eE hn);have l:(ns.take k).length<=1000:=by rw[bL];lia
  have P:((ns.take k).length:Int)*2^40<=1000*2^40:=Int.mul_le_mul_of_nonneg_right (by lia) (by decide);lia
 refine call_sum_walk (t8 a ?_);refine⟨_,_,_,_,_,_,λi=>(ns[i]?).getD 0,rfl,qz (A:=X.A.in1) (I.ok.hd G) _ p E i3.toArray,⟨⟨_,aZ _ rfl,rfl,rfl⟩,a.push _⟩,λb hb=>?_,y,λj J=>?_,λh' tk t' hk=>?_⟩
 ·show b<(s.heap.push _).objs.size;rw[fE];have:b=s.heap.objs.size\/b=p:=by simpa using hb
  rcases this with rfl | rfl
  ·exact mR _
  ·exact rW B
 ·rw[bF]at J;have f:j<ns.length:=by lia
  refine⟨?_,?_⟩
  ·have:=g ns[j] (fF f);show InLong ((ns[j]?).getD 0);rw[aD f];show -(2^63)<=ns[j]/\ns[j]<2^63;lia
  ·rw[tQ];have:=C (j+1);show -(2^63)<=_/\_<2^63;lia
 ·refine⟨.int _,H,I.kept λb o e=>hk b o ?_ (aG _ e),⟨t',rfl⟩,?_⟩
  ·intro z;have:b=s.heap.objs.size:=by simpa using z
   exact c7 (aY e) (by rw[this];exact eT _)
  ·rw[tQ,lM (by rw[bF];lia)];exact q
end
def CP(l:Addr)(a:Array Value) :
  Meets (am.«enumerate.__new__» ⟨[.type "enumerate",.ref l],[]⟩) (λ_ R s=>s.heap.IsList l a /\
   R (.ok (.ret (.ref (s.heap.push { cls:=.type "list_iterator",data:=.fields #[.ref l,.int 0 0] }).objs.size)))
    { s with heap:=(s.heap.push { cls:=.type "list_iterator",data:=.fields #[.ref l,.int 0 0] }).push { cls:=.type "enumerate",data:=.fields #[.none,.bool false,.ref s.heap.objs.size,y8 0,.none,.none] } }):=
 .of_wp λprog w A R s h=>by
  obtain⟨f,g,d,tk,os⟩:=s;obtain⟨e,h⟩:=h;have i:=sub_enumerate;have b:Heap.IsList (nn ⟨f,g,d,tk,os⟩) l a:=e
  wp_walk
  refine wpAny_stack_any λst=>aV ?_;split
  ·rename_i c _ _ _ _ _;cases (c==y4 "enumerate")
   ·wp_walk using t8 b
    exact⟨_,rfl,h⟩
   ·wp_walk using t8 b
    exact⟨_,rfl,h⟩
  ·wp_walk using t8 b
   exact⟨_,rfl,h⟩
section
variable{P:dD}{w:j0}{A:g9}{E:Value->Shared->Prop}{s:Shared}
def AD{l:Addr}{items}{Q:Value->Shared->Prop}(c:s.heap.IsList l items)
  (h:∀h',IsEnum h' (s.heap.objs.size+1) s.heap.objs.size 0 .none->h'.IsListIter s.heap.objs.size l 0->h'.objs.size=s.heap.objs.size+2 ->
   (∀b o,s.heap.get? b=some o->h'.get? b=some o)->Q (.ref (s.heap.objs.size+1)) { s with heap:=h' }) :
  wpAny (model P w) A (call (.type "enumerate") [.ref l]) Q E s:=by
 refine callType_new F.called_enumerate (by decide) (F.typeCall_enumerate_1 _) (F.newCall_enumerate_1 _) (λobj=>F.args_object_init_2 obj _) F.entry_enumerate_new
  (CP l items) ⟨c,?_⟩
 have hz:(s.heap.push { cls:=.type "list_iterator",data:=.fields #[.ref l,.int 0 0] }).objs.size=s.heap.objs.size+1:=fE ..;show _/\_;rw[hz]
 have a:IsEnum ((s.heap.push { cls:=.type "list_iterator",data:=.fields #[.ref l,.int 0 0] }).push
   { cls:=.type "enumerate",data:=.fields #[.none,.bool false,.ref s.heap.objs.size,y8 0,.none,.none] }) (s.heap.objs.size+1) s.heap.objs.size 0 .none:=by
  have:=aZ (s.heap.push { cls:=.type "list_iterator",data:=.fields #[.ref l,.int 0 0] })
   (o:={ cls:=.type "enumerate",data:=.fields #[.none,.bool false,.ref s.heap.objs.size,y8 0,.none,.none] }) rfl
  rw[hz]at this;exact this
 exact⟨⟨_,a,rfl⟩,h _ a ⟨_,aG _ (aZ _ rfl),rfl,rfl⟩ (by rw[fE,hz]) λb o x=>aG _ (aG _ x)⟩
end
noncomputable def Ite(K:aI)(a:Addr):It:=
 ⟨λi H=>∃xs x,nB K H a xs/\xs[i]?=some x,
  λi H v H'=>∃p x,H p=none/\v=.ref p/\H'=fS H p (.tup [.int (i:Int),x])/\∀xs,nB K H a xs->xs[i]?=some x,
  λi H=>∃xs,nB K H a xs/\xs.length<=i⟩
def OL{P w K fi}{x1:Nat}{pos}{e it l:Addr}(F:e≠it) :
  JV P w K (.Tuple fi x1 pos) (Ite K l) [e,it] e (λi h=>(∃old,IsEnum h e it (i:Int) old)/\h.IsListIter it l i) where
 mem:=by simp
 obj:=λi h st b hb=>by
  obtain⟨⟨old,f⟩,g⟩:=st;simp only[aP,cO,l9]at hb;rcases hb with rfl | rfl
  ·exact⟨_,f,λv q=>by cases q⟩
  ·obtain⟨o,e,c,d⟩:=g;exact⟨o,e,λv z=>by rw[d]at z;cases z⟩
 keep:=λi h h' st k=>by
  obtain⟨⟨old,f⟩,g⟩:=st;exact⟨⟨old,k e (by simp) _ f⟩,g.at λo x=>k it (by simp) o x⟩
 item:=by
  intro X r hw n J i pins s σ H E I j st t;subst r hw n;obtain⟨⟨old,f⟩,g⟩:=st;obtain⟨xs,x,m,y⟩:=t;obtain⟨i3,B,p,hz⟩:=I.list m;obtain⟨u,W,ru⟩:=B.get y;refine wpAny_pyNext_enum_item f g p.isList (x:=u) (by simpa using W) F λh' M a2 N a4 O=>⟨_,rfl,?_⟩;refine wpAny_letOwnedTupleGo_enum (s:={ s with heap:=h',toks:=s.toks+1 }) M λG S sb=>?_;have C:e<s.heap.objs.size:=aY f
  have Z:∀c o,c∉[e,it]->s.heap.get? c=some o->G.get? c=some o:=λc o a x=>by
   simp only[aP,cO,l9,not_or]at a;exact sb.extBut _ _ a.1 (O c o a.1 a.2 x)
  have U:=sb.extBut _ _ (gS C) N;have L:dI X pins σ (fS H s.heap.objs.size (.tup [.int (i:Int),x])) { s with heap:=G,toks:=s.toks+1 }:=I.turnedNew (t':=s.toks+1) j Z (aN _) ⟨(by show 2<=bE;decide),[.int i s.toks,u],.cons ⟨_,rfl⟩ (.cons ru .nil),⟨_,U,rfl,_,rfl,rfl⟩⟩;refine⟨.ref s.heap.objs.size,_,L,rfl,⟨_,x,I.hok.fresh (aN _),rfl,rfl,λys Y=>by rw[I.list_inj Y m];exact y⟩,?_,λc a=>?_⟩
  ·exact⟨⟨_,by rw[lY];exact S⟩,a2.at λo x=>sb.extBut _ _ (n8 F) x⟩
  ·have R:c≠s.heap.objs.size:=by
    simp only[aP,cO,l9]at a;rcases a with rfl | rfl
    ·exact cI C
    ·obtain⟨o,z,_⟩:=g;exact cI (aY z)
   rw[bZ R];exact(j c a).1
 done:=by
  intro X r hw n J i pins s σ H E I j st t;subst r hw n;obtain⟨⟨old,f⟩,g⟩:=st;obtain⟨xs,m,y⟩:=t;obtain⟨i3,B,p,hz⟩:=I.list m;have hl:=B.length;refine wpAny_pyNext_enum_end (I.ok.hd J) f g p.isList (by simp;lia) λh' T=>⟨rfl,I.turnedL (t':=s.toks) j λc o a x=>?_⟩;simp only[aP,cO,l9,not_or]at a;exact T c o a.2 x
 self:=λA i s Q E st h=>by
  obtain⟨⟨old,f⟩,_⟩:=st;exact Fk f h
def C3:g6 "enumerate"=some (.type "enumerate"):=by decide +kernel
def aCr(K:aI)(a:TA):TI:=λσ H R=>a σ H λvs H1=>∃l xs,vs=[.ref l]/\nB K H1 l xs/\R (Ite K l) H1
section
variable{X:Cx}
def Y5{a ta p pos gc fi}{t:Nat}(i:Gl X "enumerate")(hm:X.mg "enumerate"=none)(ha:PA X [a] ta)(hs:bI [a] X.env=[(false,eval a X.env)]:=by rfl) :
  PI X (.Tuple fi t gc) (.Call (.Name "enumerate" p) [a] [] pos) (aCr X.K ta):=by
 intro pins s σ H R I h;refine Call_ (wF I i hm C3 (t9 (jM (ha pos pins s σ H _ I h) λus s1 u=>?_) (by rw[hs];rfl) (by rfl)));obtain⟨vs,H1,b,n,m⟩:=u;obtain⟨l,xs,rfl,j,q⟩:=m
 cases n with
 |cons r o=>
  cases o;cases r;obtain⟨v,x,k,w⟩:=b.list j;refine AD k.isList λh' f g hsz hk=>Fk (s:={ s1 with heap:=h' }) f ?_;refine⟨_,[s1.heap.objs.size+1,s1.heap.objs.size],_,_,H1,rfl,b.kept (t':=s1.toks) hk,OL (e:=s1.heap.objs.size+1) (it:=s1.heap.objs.size) (l:=l) (Nat.succ_ne_self _),⟨⟨_,f⟩,g⟩,λc d=>?_,q⟩;simp only[aP,cO,l9]at d;have le:s1.heap.objs.size<=c:=by rcases d with rfl | rfl<;>first | exact aN _ | exact aA7 _ _
  exact b.fpOk le (b.hok.fresh le)
end
end L2
namespace TL
open L2 PySem.SeqAt
variable{K:aI}
def aGi(K:aI)(a:Addr)(ys:List Str):Prop:=∃(o:Obj)(i3:Array Value)(n:Nat),K.lookup a=some o/\o.cls=.type "tuple"/\o.dict=none/\o.data=.seq i3 n/\i3.size<=bE/\fM (ys.map V.str) i3.toList
theorem BR{H}:∀ys:List Str,Reps K H (ys.map aS) (ys.map V.str)
|[]=>.nil
|y::ys=>.cons (.str y) (BR ys)
noncomputable def zH(as:List D):List D:=zW (eI as.length) as
def rM(as:List D):(zH as).length=as.length:=by unfold zH;rw[wR];unfold eI;simp
def yK{as}{i:Nat}{a}(h:as[i]?=some a):(zH as)[i]?=some (.tuple [.int (i:Int),a]):=by
 have hi:=(aF.mp h).1;unfold zH zW eI;rw[aL,(jV (z:=(aW (i:Int),a))).mpr ⟨by rw[aL,kT hi];rfl,h⟩];rfl
def aFj(t:AT):IT:=λσ Q=>t σ λds=>∃as,ds=[.list as]/\Q (zH as)
section
variable{X:Cx}{a b e:Expr}{es:List Expr}{ta tb te:ET}{pos:Pos}
def aAi{x:Str}{p:Addr}{ys:List Str}{pos}(c:Gl X x)(hm:X.mg x=some (.ref p))(hk:aGi X.K p ys)(hd:(x==("__debug__":Str))=false:=by decide):fY X (.Name x pos) (eC (.tuple (ys.map aS))):=
 ⟨_,uP (v:=.ref p) c hm rfl hd,λ_ _ H _ _ _ _ _ _ h k=>k _ _ H (L2.bA.refl H) (.tuple (.inr hk) (BR ys)) h⟩
def ZX{t p p' gc fi}{g:Nat}(ha:wQ X [a] t)(s:∀{ta},PA X [a] ta->PI X (.Tuple fi g gc) (.Call (.Name "enumerate" p) [a] [] p') (aCr X.K ta)):N7 X (.Tuple fi g gc) (.Call (.Name "enumerate" p) [a] [] p') (aFj t):=by
 obtain⟨A,r,w⟩:=ha;refine⟨_,s r,λB p0 H ps σT σ Q R o h k=>w B p0 H ps σT σ _ _ o h λds xs H1 s1 d u=>?_⟩;obtain⟨as,rfl,q⟩:=u
 cases d with
 |cons d v=>
  cases v
  cases d with
  |@list p1 us _ jk rs1=>
   have n1:=rs1.length;refine⟨p1,us,rfl,L2.bA.seq bU jk,k _ _ H1 s1 ⟨λi H e c=>?_,λi H e c=>?_,λi H l6 y H' live e c n=>?_⟩ q⟩
   ·rw[rM]at c;exact⟨us,L2.bA.seq e jk,by lia⟩
   ·rw[rM]at c;exact⟨us,us[i],L2.bA.seq e jk,aD (by lia)⟩
   ·obtain⟨p,x,f,rfl,rfl,m⟩:=n;obtain⟨j,l,z⟩:=rs1.get' (m us (L2.bA.seq (e.trans bU) jk));exact⟨dH f,.tuple [.int (i:Int),j],yK l,uO live f (.cons (.int _) (.cons (z.same e) .nil))⟩
def aO4(d:D)(Q:D->Prop):Prop:=∃ns:List Int,d=.list (ns.map aW)/\(∀n∈ns,0<=n/\n<2^40)/\ns.length<=1000/\Q (.int ns.sum)
def aMd:pQ X (λxs H Q=>∃(p:Addr)(ns:List Int),xs=[.ref p]/\nB X.K H p (ns.map V.int)/\(∀n∈ns,0<=n/\n<2^40)/\ns.length<=1000/\Q (.int ns.sum) H) (f1 aO4):=c1 λH ps d x Q f live r h k=>by
 obtain⟨ns,rfl,hs,c,h⟩:=h
 cases r with
 |list q s=>
  have e:=yA s;subst e;exact⟨_,ns,rfl,L2.bA.seq bU q,hs,c,k _ _ H (L2.bA.refl H) (.int _) h⟩
def FZ(K:aI):V->List V->Hp->VK->Prop:=λx xs H Q=>∃(y:V)(ts:List D)(d:D)(j:Nat),xs=[y]/\gW K H (.list ts) x/\gW K H d y/\K7 ts d j/\j<1000000/\Q (.int j) H
def LD(C:X.A.units+200<aq):Q5 X "list.index" (FZ X.K):=by
 intro pins s σ H x xs v us Q I N M h;obtain⟨y,ts,d,j,rfl,G,J,⟨c1,c,hm,⟨t,g,B⟩,E⟩,P,q⟩:=h;obtain⟨u,rfl,L⟩:=M.one;obtain⟨as,w⟩:=gW.reads I (show(mD ts).hasDict=false from noDictAll c1) G N;obtain⟨bs,z⟩:=gW.reads I (nZ c) J L
 cases w with
 |@list l o items n _ as' h3 h4 h5 h6=>
  have i:=wm ts items.toList _ c1 h6;have S:items.size=ts.length:=by rw[<- i,aB,fG]
  have R:j<ts.length:=(aF.mp g).1;have f:j<items.size:=by lia
  have k:∀(m:Nat)(hm:m<items.size),ts[m]?=some (wl s.heap items[m]):=λm hm=>by
   rw[<- i,aL];simp[hm]
  obtain⟨oc,od,O,ly⟩:=o;cases h4;cases h5;refine bi F.slot_list_index ⟨_,h3,rfl⟩ F.entry_list_index (F.args_list_index_2 _ _) (list_indexAt _ items _ od ly u (λy=>bX (wl s.heap y) d) j f (by lia) ?_ ?_) ⟨h3,EM h6 z c1 c (by have:=C;lia),?_⟩
  ·have:=k j f;rw[g]at this;rw[<- d7 this];exact B
  ·intro m p r;exact E m _ r (k m p)
  ·exact⟨.int j,H,I.tok _,⟨_,rfl⟩,q⟩
def ES{k:Nat}(c:gR k X.A):Q5 X "list.index" (FZ X.K):=LD (by have:=c.un;lia)
def GJ(te:ET)(t:AT):ET:=λσ Q=>te σ λd=>∃ts,d=.list ts/\t σ λds=>∃(x:D)(j:Nat),ds=[x]/\K7 ts x j/\j<1000000/\Q (.int j)
def E4{n ap t}(hn:fY X n te)(ha:wQ X (e::es) t)
  (pc:∀{v ta},PE X n v->PA X (e::es) ta->PE X (.Call (.Attribute n "index" ap) (e::es) [] pos) (Q1 X.K "list" (FZ X.K) v ta)):fY X (.Call (.Attribute n "index" ap) (e::es) [] pos) (GJ te t):=by
 obtain⟨v,l,re⟩:=hn;obtain⟨A,i,y⟩:=ha;refine⟨_,pc l i,λB p0 H ps σT σ Q z o h k=>re B p0 H ps σT σ _ _ o h λd x H1 s1 r c=>?_⟩;obtain⟨ts,rfl,c⟩:=c
 cases r with
 |@list p xs _ hq rs=>
  refine⟨.inl ⟨rfl,_,L2.bA.seq bU hq⟩,y B p0 H1 ps σT σ _ _ (o.grow s1) c λds ys f s2 s m=>?_⟩;obtain⟨d,j,rfl,hok,g,q⟩:=m
  cases s with
  |cons u w=>
   cases w;exact⟨_,ts,d,j,rfl,(gW.list hq rs).same ((bG s2).trans bU),u.same bU,hok,g,k _ _ f (s1.trans s2) (.int _) q⟩
def aLh(ts:List D)(d:D):Prop:=eL ts=true/\d.canLay0=true/\min (eV ts) d.depth<=60
def F1(K:aI):V->List V->Hp->VK->Prop:=λx xs H Q=>∃(y:V)(ts:List D)(d:D),xs=[y]/\gW K H (.list ts) x/\gW K H d y/\aLh ts d/\Q (.int ((ts.countP λt=>bX t d:Nat):Int)) H
def LE(i:X.A.units+200<aq):Q5 X "list.count" (F1 X.K):=by
 intro pins s σ H x xs v us Q I w r h;obtain⟨y,ts,d,rfl,k,m,⟨c1,c,hm⟩,q⟩:=h;obtain⟨u,rfl,p⟩:=r.one;obtain⟨as,f⟩:=gW.reads I (show(mD ts).hasDict=false from noDictAll c1) k w;obtain⟨bs,g⟩:=gW.reads I (nZ c) m p
 cases f with
 |@list l o items n _ as' h3 h4 h5 h6=>
  have j:=wm ts items.toList _ c1 h6;obtain⟨oc,od,z,ly⟩:=o;cases h4;cases h5;refine bi F.slot_list_count ⟨_,h3,rfl⟩ F.entry_list_count (F.args_list_count_2 _ _) (list_countAt _ items _ od ly u (λy=>bX (wl s.heap y) d)) ⟨h3,EM h6 g c1 c (by have:=i;lia),?_⟩;refine⟨.int _,H,I.tok _,⟨_,rfl⟩,?_⟩
  have e:(items.toList.countP λy=>bX (wl s.heap y) d)=ts.countP λt=>bX t d:=by
   rw[<- j,aBb];rfl
  rw[e];exact q
def O9{k:Nat}(c:gR k X.A):Q5 X "list.count" (F1 X.K):=LE (by have:=c.un;lia)
def aAl(te:ET)(t:AT):ET:=λσ Q=>te σ λd=>∃ts,d=.list ts/\t σ λds=>∃x:D,ds=[x]/\aLh ts x/\Q (.int ((ts.countP λt=>bX t x:Nat):Int))
def P0{n ap t}(hn:fY X n te)(ha:wQ X (e::es) t)
  (pc:∀{v ta},PE X n v->PA X (e::es) ta->PE X (.Call (.Attribute n "count" ap) (e::es) [] pos) (Q1 X.K "list" (F1 X.K) v ta)):fY X (.Call (.Attribute n "count" ap) (e::es) [] pos) (aAl te t):=by
 obtain⟨v,i,re⟩:=hn;obtain⟨y,g,u⟩:=ha;refine⟨_,pc i g,λB p0 H ps σT σ Q w o h k=>re B p0 H ps σT σ _ _ o h λd x H1 s1 l c=>?_⟩;obtain⟨ts,rfl,c⟩:=c
 cases l with
 |@list p xs _ hq rs=>
  refine⟨.inl ⟨rfl,_,L2.bA.seq bU hq⟩,u B p0 H1 ps σT σ _ _ (o.grow s1) c λds ys f s2 m j=>?_⟩;obtain⟨d,rfl,hok,q⟩:=j
  cases m with
  |cons r s=>
   cases s;exact⟨_,ts,d,rfl,(gW.list hq rs).same ((bG s2).trans bU),r.same bU,hok,k _ _ f (s1.trans s2) (.int _) q⟩
def aAt(te:ET):vD:=λσ Q=>te σ λd=>∃ts,d=.list ts/\Q (!ts.isEmpty)
def OM(h:fY X e te)(pt:∀{t},PE X e t->PT X e (λσ H Q=>t σ H λx H'=>∃k,aGe X.K x H' k/\Q k H')):C5 X e (aAt te):=by
 obtain⟨v,p,r⟩:=h;refine⟨_,pt p,λB p0 H ps σT σ Q i o h k=>r B p0 H ps σT σ _ _ o h λd x H1 s1 g f=>?_⟩;obtain⟨ts,rfl,q⟩:=f
 cases g with
 |@list p xs _ hq rs=>
  have c:=rs.length;refine⟨!xs.isEmpty,.inl ⟨xs,L2.bA.seq bU hq,rfl⟩,?_⟩
  have:(!xs.isEmpty)=(!ts.isEmpty):=by
   cases xs<;>cases ts<;>first | rfl | (simp at c)
  rw[this];exact k _ H1 s1 q
def OY(ta tb:FT):vE:=λDT σ=>ta σ λas=>tb σ λbs=>DT.rp as bs
def HU{n m x1 p2 ta tb}(hn:N8 X n ta)(hm:N8 X m tb)(hs:bI [n,m] X.env=(false,eval n X.env)::bI [m] X.env:=by rfl)(S:bI [m] X.env=(false,eval m X.env)::bI [] X.env:=by rfl):A8 X (.Return (some (.Tuple [n,m] x1 p2)) pos) (OY ta tb):=by
 obtain⟨T,M,P⟩:=hn;obtain⟨U,pb,Q⟩:=hm;refine⟨_,yD (K3 (fP M (fP pb jX S) hs)),λB p0 H ps σT σ DT DV o h f=>?_⟩;refine P B p0 H ps σT σ _ _ o h λas p xs H1 s1 t g R N=>?_
 have I:Ok X.K B p0 H1 (p::ps) σT σ:=by
  have J:=o.grow (FQ s1 t);have hn:without H1 p p=none:=by unfold without;rw[b8 rfl]
  have L:=J.adopt (u:=.lst xs) hn
  rwa [HM g]at L
 refine Q B p0 H1 (p::ps) σT σ _ _ I N λbs q ys j s2 l s v O=>?_;refine⟨aC rfl,λr c=>?_⟩;have i:=s2 _ _ g;have w:p≠q:=λz=>by rw[z,l]at g;cases g
 have A:p≠r:=λz=>by rw[z,c]at i;cases i
 have C:q≠r:=λz=>by rw[z,c]at s;cases s
 have E:∀{z:Addr},H z=none->B z=none:=λhz=>bA.free' o.base hz;have live:∀z∈p0,yQ (H z):=λz hz=>o.live z (o.sub z hz)
 have F:bA (mask H1 (p::ps)) (mask (fS j r (.tup [.ref p,.ref q])) (p::q::p0)):=λb u hb=>by
  unfold mask at hb |-
  by_cases d:b∈p::ps
  ·rw[b8 d]at hb;cases hb
  ·rw[a8 d]at hb;have k:=s2 _ _ hb;have y:b≠r:=λz=>by rw[z,c]at k;cases k
   have x:b≠q:=λz=>by rw[z,l]at hb;cases hb
   rw[a8,bZ y]
   ·exact k
   ·intro z;rcases aP.mp z with z | z
    ·exact d (z▸aO ..)
    ·rcases aP.mp z with z | z
     ·exact x z
     ·exact d (aJ _ (o.sub b z))
 have G:bA (mask j (q::p::ps)) (mask (fS j r (.tup [.ref p,.ref q])) (p::q::p0)):=(bG (dH c)).trans (fJ λz hz=>by
  rcases aP.mp hz with rfl | hz
  ·exact aJ _ (aO ..)
  ·rcases aP.mp hz with rfl | hz
   ·exact aO ..
   ·exact aJ _ (aJ _ (o.sub z hz)))
 exact f.rp as bs r p q xs ys _ (o.base.trans (s1.trans (s2.trans (dH c)))) (bA.free' (o.base.trans (s1.trans s2)) c) (E t) (bA.free' (o.base.trans s1) l) w cE (by rw[bZ A];exact i) (by rw[bZ C];exact s) (R.same F) (v.same G) O
end
end TL
namespace TL
def aF9:g6 "sum"=some (.builtin "sum"):=by decide +kernel
open L2
section
variable{fr:List (Option Nat)}{ti:IT}{tt:vD}{te:ET}{σ:List Sl}{Q:D->Prop}{ts:List D}
def UT(m:sM ti σ ts)(p:D->Bool)(f:D->D)(hz:ts.length<=100000)(g:∀x∈ts,∃a b,x=.tuple [a,b])
  (i:∀(a b:D)(q:Bool->Prop),.tuple [a,b]∈ts->q (p (.tuple [a,b]))->tt (((jQ fr σ).set 0 (.val a)).set 1 (.val b)) q)
  (l:∀(a b:D)(q:D->Prop),.tuple [a,b]∈ts->q (f (.tuple [a,b]))->te (((jQ fr σ).set 0 (.val a)).set 1 (.val b)) q) (j:Q (.list ((ts.filter p).map f))):P2 fr ti (gP 0 1) tt te σ Q:=by
 refine m _ ⟨hz,λk d8 ds=>(∀x y,(d8.set 0 (.val x)).set 1 (.val y)=((jQ fr σ).set 0 (.val x)).set 1 (.val y))/\ds=((ts.take k).filter p).map f,⟨λ_ _=>rfl,rfl⟩,λk x d8 ds c h=>?_,λd8 ds h=>?_⟩
 ·obtain⟨d,rfl⟩:=h;have hm:x∈ts:=bH c;obtain⟨a,b,rfl⟩:=g x hm;refine⟨a,b,rfl,?_⟩;show tt ((d8.set 0 (.val a)).set 1 (.val b)) _;rw[d a b];refine i a b _ hm ?_;have e:ts.take (k+1)=ts.take k++[.tuple [a,b]]:=by rw[cM,c];rfl
  cases hb:p (.tuple [a,b])with
  |true=>
   rw[b8 rfl];refine l a b _ hm ⟨λx y=>xZ _ _ _ _ _,?_⟩;rw[e,fB,bQ];simp[hb]
  |false=>
   rw[a8 (by decide)];refine⟨λx y=>xZ _ _ _ _ _,?_⟩;rw[e,fB,bQ];simp[hb]
 ·obtain⟨_,rfl⟩:=h;rw[dF];exact j
end
section
variable{X:Cx}
def rE{s}:A8 X s (λ_ _=>False):=⟨λ_ _ _=>False,λ_ _ _ _ _ _ h=>h.elim,λ_ _ _ _ _ _ _ _ _ h _=>h.elim⟩
end
end TL
namespace L2
open PySem.Builtin
section
theorem NA:∀{ns:List Int}{us},IntsAre us ns->fM (ns.map V.int) us
|_,_,.nil=>.nil
|_,_,.cons n t r=>.cons ⟨t,rfl⟩ (NA r)
end
end L2
namespace TL
open L2
section
def uZ:g6 "sorted"=some (.builtin "sorted"):=by decide +kernel
end
end TL
namespace L2
def JY(K:aI)(cd:Value):Prop:=∃c P,cd=.ref c/\tabA=some P/\yT K c P=true
def J6.okC{P w K}{mg:Str->Option Value}{base x qual st}{f:Addr}{fd:iK}{N ps:List Str}{k:Nat}{sp:Sp}(F:J6 K x qual st f fd)(S:bW N ps (bB st))(len:∀vs H Q E,sp vs H Q E->vs.length=ps.length)
  (d:∀(t6:Value),fd.code=t6->∀(A:g9)outer(s:Shared)H(vs:List V)Q E,gR k (A.deeper (l3 qual (bB st) s.heap.objs.size f t6))->sp vs H Q E ->
   ∃t,AG (qP iL P w K mg base N qual (bB st) f t6 A outer s H E).nox (lD st) t/\t { nx:=λ_ H'=>Q .non H',rt:=Q } (lZ N vs) H):dP P w K mg base iL (k+1) f fd ps sp:=by
 obtain⟨oc,od,kV,jt,pm,an,t6,ct,ly,rfl,c,a⟩:=F.ex;refine VO c a S len λA outer s H vs Q E b e=>?_;obtain⟨t,h,q⟩:=d t6 rfl A outer s H vs Q E b e;exact⟨t,h.nox,q⟩
end L2
namespace TL
open L2
def fnL{P w K}{mg:Str->Option Value}{base x qual st}{f:Addr}{fd:iK}{N pn:List Str}{k:Nat}{sp:QK}(L:JY K fd.code)(F:J6 K x qual st f fd)(S:bW N pn (bB st))(len:∀ds Q,sp ds Q->ds.length=pn.length)
  (l:∀(t6:Value),JY K t6->∀(A:g9)outer(s:Shared)H E,gR k (A.deeper (l3 qual (bB st) s.heap.objs.size f t6))->∀(ds:List D)(Q:List D->Prop),sp ds Q ->
   ∃t,sV (qP iL P w K mg base N qual (bB st) f t6 A outer s H E).nox (lD st) t/\t { nx:=λ_=>False,rt:=λ_=>False,ro:=Q } (iH N ds)):dP P w K mg base iL (k+1) f fd pn (iS K sp):=by
 refine F.okC S (λvs H Q E h=>?_) λt6 c A outer s H vs Q E e h=>?_
 ·obtain⟨ps,ds,b,_,r,q,_⟩:=h;rw[<- r.length];exact len ds b q
 ·obtain⟨ps,ds,b,live,r,q,k⟩:=h;obtain⟨t,⟨ts,p,i⟩,h⟩:=l t6 (c▸L) A outer s H E e ds b q;exact⟨ts,p,i H ps H ps _ _ _ _ (oJ live r) h ⟨λ_ _ _ _ _ _ a=>a.elim,λ_ _ _ _ _ _ a=>a.elim,λ_ _ _ _ _ _ a=>a.elim,λ_ _ _ _ _ a=>a.elim,λts p xs H' s' d m g j a=>k ts p xs H' s' d g j a,λ_ _ _ _ _ _ _ _ _ _ _ _ _ _ _ _ _ _ a=>a.elim,λ_ _ _ _ _ _ _ _ _ _ _ _ _ _ a=>a.elim,i8⟩⟩
def aGj(b:Int)(e:D)(k:Int):Prop:=∃(q st:D)(top bot:Int),e=.tuple [q,st,.tuple [.int top,.int bot]]/\aGk b bot/\J0 top (b / bot)/\k=top*(b / bot)
def aGj.rep{K H}{b k:Int}{e x}(h:aGj b e k)(r:gW K H e x):DY K H b x k:=by
 obtain⟨q,st,top,bot,rfl,d,f,g⟩:=h
 cases r with
 |tuple s1 a=>
  cases a with
  |cons l a=>
   cases a with
   |cons m a=>
    cases a with
    |cons i a=>
     cases a
     cases i with
     |tuple s2 c=>
      cases c with
      |cons j c=>
       cases c with
       |cons re c=>
        cases c;cases j;cases re;exact⟨_,_,_,_,top,bot,rfl,s1,s2,d,f,g⟩
theorem DY.mask{K H ps}{b k:Int}{x}(h:DY K (TL.mask H ps) b x k):DY K H b x k:=h.same λ_ _ e=>bU _ _ e
def aFo(ib:Nat)(t:AT):FT:=λσ Q=>t σ λds=>∃(es:List D)(b:Int)(a:List Int),ds=[.list es]/\es.length<64/\σ[ib]?=some (.val (.int b))/\a.length=es.length/\(∀(i:Nat) e k,es[i]?=some e->a[i]?=some k->aGj b e k) /\
 ∀J:List Nat,SS.HG es.length (λi=>a.getD i 0) J->Q (J.map λi=>es.getD i .none)
def VI{X:Cx}{ib:Nat}{e t}{k:Nat}{t6 np lp ap kp pos p1 p2 p3 p4 p5 p6 p7 p8 p9 l q2 q3 q4}(a:gR (k+3) X.A)(L:JY X.K t6)(U:X.env.code=t6)(C:X.N[ib]?=some "bottom")(hk:X.env.kindOf "bottom"=some .cell)
  (Y:Gl X "sorted") (hm:X.mg "sorted"=none) (Z:g6 "sorted"=some (.builtin "sorted")) (ha:wQ X [e] t)
  (W:m9 pos (bI [e] X.env)=(false,eval e X.env)::m9 pos (bI [] X.env):=by rfl)
  (I:(m9 pos (bI [e] X.env)).any (·.1)=false:=by rfl) :
  N8 X (.Call (.Name "sorted" np) [e] [⟨some (e8 "key"),.Lambda (aCm ap) (.BinOp (.Subscript (.Subscript (.Name "entry" p1) (.Constant (.int 2) 0 p2) p3) (.Constant (.int 0) 0 p4) p5) .Mult (.BinOp (.Name "bottom" p6) .FloorDiv (.Subscript (.Subscript (.Name "entry" p7) (.Constant (.int 2) 0 p8) p9) (.Constant (.int 1) 0 l) q2) q3) q4) xF lp,kp⟩] pos) (aFo ib t):=by
 obtain⟨c,P,rfl,T,S⟩:=L;obtain⟨ta,pa,ra⟩:=ha;refine⟨_,TK a T U S C hk Y hm Z pa W I,λB p0 H ps σT σ Q QV o h k=>ra B p0 H ps σT σ _ _ o h λds vs H1 s1 m l=>?_⟩;obtain⟨es,b,kz,rfl,M,hb,E,w,q⟩:=l;obtain⟨v,F,G⟩:=o.val ib _ hb;cases G
 cases m with
 |cons m r2=>
  cases r2
  cases m with
  |@list pp xv _ hs rs=>
   have g:=rs.length;refine⟨_,_,b,kz,rfl,L2.bA.seq bU hs,by rw[<- g];exact M,F,by rw[E,g],λi x k0 hx z=>?_,λf s J r sb a=>?_⟩
   ·obtain⟨d,hd,rd⟩:=rs.get' hx;exact DY.mask ((w i d k0 hd z).rep rd)
   ·rw[<- g]at sb;have s2:bA H f:=s1.trans s;refine k _ r _ _ (s2.trans (dH a)) (bA.free' s2 a) cE ?_ (q J sb);rw[lG a];have y:Reps X.K (TL.mask f ps) es _:=rs.same (bG s)
    have:∀J:List Nat,(∀i∈J,i<es.length)->Reps X.K (TL.mask f ps) (J.map λi=>es.getD i .none) (J.map λi=>xv.getD i .non):=by
     intro J n
     induction J with
     |nil=>exact .nil
     |cons j J ih=>
      refine .cons ?_ (ih λi hi=>n i (aJ _ hi));have p:=n j (aO ..);obtain⟨u,O,R⟩:=y.get (aD p);show gW _ _ (es.getD j .none) (xv.getD j .non);rw[cL,cL,O,aD p];exact R
    exact this J sb.lt
end TL
namespace L2
noncomputable def aLn(K:aI)(cd:Value)(P:Addr):Bool:=match cd with | .ref c=>yT K c P | _=>false
def aE6{K cd}{P:Addr}(h:aLn K cd P=true)(e:tabA=some P):JY K cd:=by
 cases cd with
 |ref c=>exact⟨c,P,rfl,e,h⟩
 |_=>cases h
def aDt{h:Heap}{c P:Addr}(C:WZ h c P)(e:h.get? P=some { cls:=.none,data:=.fields #[] }):fx h P:=(C.tab e).isCodeTable
end L2
namespace TL
open L2
section
variable{X:Cx}{a b c:Expr}{ta tb:ET}{pos:Pos}
def fIf(c:vD)(ta tb:FT):FT:=λσ Q=>c σ λb=>if b=true then ta σ Q else tb σ Q
def aLv{tc fa fb}(f:C5 X c tc)(ha:N8 X a fa)(hb:N8 X b fb):N8 X (.IfExp c a b pos) (fIf tc fa fb):=by
 obtain⟨v,pc,n⟩:=f;obtain⟨t,j,l⟩:=ha;obtain⟨u,pb,m⟩:=hb;refine⟨_,IE pc j pb,λB p0 H ps σT σ Q e o h k=>n B p0 H ps σT σ _ _ o h λb H1 s1 d=>?_⟩;have k1:∀ts p xs H',bA H1 H'->H1 p=none->H' p=some (.lst xs)->Reps X.K (mask H' (p::ps)) ts xs->Q ts->e (.ref p) H':=λts p xs H' s g i r q=>k ts p xs H' (s1.trans s) (bA.free' s1 g) i r q
 cases b with
 |true=>
  rw[b8 rfl]at d |-
  exact l B p0 H1 ps σT σ Q e (o.grow s1) d k1
 |false=>
  rw[a8 (by decide)]at d |-
  exact m B p0 H1 ps σT σ Q e (o.grow s1) d k1
def aAb{P w K}{mg:Str->Option Value}{base}{k:Nat}{f:Addr}{fd pn}{sp d:QK}(F:dP P w K mg base iL k f fd pn (iS K sp))(h:∀ds Q,d ds Q->sp ds Q):dP P w K mg base iL k f fd pn (iS K d):=
 F.imp λvs H Q E ⟨ps,ds,e,g,i,j,l⟩=>⟨ps,ds,e,g,i,h ds e j,l⟩
end
structure sX where
 I:Type
 S:Type
 ad:I->List Addr
 tau:I->D
 At:I->aI->Hp->List Addr->S->Prop
 to:∀{T:I}{K:aI}{H H':Hp}{ps l6:List Addr}{n:S},At T K H ps n->(∀a∈ad T,H' a=H a)->bA (mask H ps) (mask H' l6)->At T K H' l6 n
 liv:∀{T:I}{K:aI}{H:Hp}{ps:List Addr}{n:S},At T K H ps n->∀a∈ad T,yQ (H a)
 inj:∀{T T':I},tau T=tau T'->T=T'
def fR(as:List Addr)(H H':Hp):Prop:=∀a o,a∉as->H a=some o->H' a=some o
section
variable{K:aI}{H H' H1 H2 B:Hp}{p0 ps as:List Addr}{σT:List Sl}{σ:L2.St}
def fR.of(s:bA H H'):fR as H H':=λa o _ e=>s a o e
def fR.refl:fR as H H:=λ_ _ _ e=>e
def fR.trans(s:fR as H H1)(t:fR as H1 H2):fR as H H2:=λa o n e=>t a o n (s a o n e)
theorem fR.mask(b:∀a∈as,a∈ps)(s:fR as H H'):bA (mask H ps) (mask H' ps):=λa o e=>by
 unfold TL.mask at e |-
 by_cases ha:a∈ps
 ·rw[b8 ha]at e;cases e
 ·rw[a8 ha]at e |-
  exact s a o (λz=>ha (b a z)) e
def Ok.growZ(o:Ok K B p0 H ps σT σ)(k:∀a∈as,a∈p0)(l:∀a∈as,B a=none)(s:fR as H H')(m:∀a∈as,yQ (H' a)):Ok K B p0 H' ps σT σ where
 base:=λa u e=>s a u (λz=>by rw[l a z]at e;cases e) (o.base a u e)
 sub:=o.sub
 live:=λq n=>by
  by_cases e:q∈as
  ·exact m q e
  ·obtain⟨u,f,g⟩:=o.live q n;exact⟨u,s q u e f,g⟩
 len:=o.len
 val:=λi d h=>let ⟨v,f,g⟩:=o.val i d h;⟨v,f,g.same (s.mask λa z=>o.sub a (k a z))⟩
 own:=λi ts h=>let ⟨q,xs,f,g,h3,h4,h5,h6⟩:=o.own i ts h;⟨q,xs,f,g,h3,h4,s q _ (λz=>h4 (k q z)) h5,h6.same (s.mask λa z=>o.sub a (k a z))⟩
 dis:=o.dis
 dc:=o.dc.to (λj hs kvs h=>⟨h,rfl⟩) (λq φ a b c=>⟨a,(s q _ (λz=>c (k q z)) b).trans b.symm⟩) (λq φ _ _ a b=>⟨a,b⟩) (s.mask λa z=>o.sub a (k a z))
variable{F:sX}{T:F.I}{n n':F.S}
def sX.At.grow(t:F.At T K H ps n)(s:bA H H'):F.At T K H' ps n:=F.to t (λa ha=>by
 obtain⟨u,b,_⟩:=F.liv t a ha;rw[b];exact s a u b) (bG s)
structure lU(F:sX)(K:aI)(B:Hp)(p0:List Addr)(H:Hp)(ps:List Addr)(σT:List Sl)(σ:L2.St)(T:F.I)(n:F.S):Prop where
 ok:Ok K B p0 H ps σT σ
 mem:∀a∈F.ad T,a∈p0
 nb:∀a∈F.ad T,B a=none
 tp:F.At T K H ps n
def lU.mem'(o:lU F K B p0 H ps σT σ T n):∀a∈F.ad T,a∈ps:=λa h=>o.ok.sub a (o.mem a h)
theorem lU.grow(o:lU F K B p0 H ps σT σ T n)(s:bA H H'):lU F K B p0 H' ps σT σ T n:=⟨o.ok.grow s,o.mem,o.nb,o.tp.grow s⟩
def lU.growX(o:lU F K B p0 H ps σT σ T n)(s:fR (F.ad T) H H')(t:F.At T K H' ps n'):lU F K B p0 H' ps σT σ T n':=⟨o.ok.growZ o.mem o.nb s (F.liv t),o.mem,o.nb,t⟩
theorem lU.set(o:lU F K B p0 H ps σT σ T n){i:Nat}{d v}(r:gW K (mask H ps) d v):lU F K B p0 H ps (σT.set i (.val d)) (σ.set i (some v)) T n:=⟨o.ok.set r,o.mem,o.nb,o.tp⟩
end
section
variable{F:sX}
abbrev EZ(F:sX):=D->F.S->List Sl->(F.S->D->Prop)->Prop
abbrev AZ(F:sX):=D->F.S->List Sl->(F.S->List D->Prop)->Prop
abbrev TZ(F:sX):=D->F.S->List Sl->(F.S->Bool->Prop)->Prop
def zN(X:Cx)(e:Expr)(t:EZ F):Prop:=∃te:TE,PE X e te/\∀B p0 H ps σT σ T n (Q:F.S->D->Prop)(a:VK),lU F X.K B p0 H ps σT σ T n->t (F.tau T) n σT Q ->
 (∀n' d v H',fR (F.ad T) H H'->F.At T X.K H' ps n'->gW X.K (mask H' ps) d v->Q n' d->a v H')->te σ H a
def QN(X:Cx)(es:List Expr)(t:AZ F):Prop:=∃b:TA,PA X es b/\∀B p0 H ps σT σ T n (Q:F.S->List D->Prop)(a:List V->Hp->Prop),lU F X.K B p0 H ps σT σ T n->t (F.tau T) n σT Q ->
 (∀n' ds vs H',fR (F.ad T) H H'->F.At T X.K H' ps n'->Reps X.K (mask H' ps) ds vs->Q n' ds->a vs H')->b σ H a
def N6(X:Cx)(e:Expr)(t:TZ F):Prop:=∃tt:TT,PT X e tt/\∀B p0 H ps σT σ T n (Q:F.S->Bool->Prop)(a:Bool->Hp->Prop),lU F X.K B p0 H ps σT σ T n->t (F.tau T) n σT Q ->
 (∀n' b H',fR (F.ad T) H H'->F.At T X.K H' ps n'->Q n' b->a b H')->tt σ H a
def PWz(X:Cx)(e:Expr)(t:TZ F):Prop:=∃tt:TT,PW X e tt/\∀B p0 H ps σT σ T n (Q:F.S->Bool->Prop)(a:Bool->Hp->Prop),lU F X.K B p0 H ps σT σ T n->t (F.tau T) n σT Q ->
 (∀n' b H',fR (F.ad T) H H'->F.At T X.K H' ps n'->Q n' b->a b H')->tt σ H a
section
variable{X:Cx}{a b e:Expr}{es:List Expr}{ta tb te:EZ F}{pos:Pos}
def zE(t:ET):EZ F:=λ_ n σ Q=>t σ (Q n)
def lB{t}(h:fY X e t):zN (F:=F) X e (zE t):=by
 obtain⟨v,p,r⟩:=h;exact⟨v,p,λB p0 H ps σT σ T n Q c o h k=>r B p0 H ps σT σ (Q n) c o.ok h λd v H' s f q=>k n d v H' (.of s) (o.tp.grow s) f q⟩
def zA(t:AT):AZ F:=λ_ n σ Q=>t σ (Q n)
def sL{t}(h:wQ X es t):QN (F:=F) X es (zA t):=by
 obtain⟨v,p,r⟩:=h;exact⟨v,p,λB p0 H ps σT σ T n Q c o h k=>r B p0 H ps σT σ (Q n) c o.ok h λd v H' s f q=>k n d v H' (.of s) (o.tp.grow s) f q⟩
def zT(t:vD):TZ F:=λ_ n σ Q=>t σ (Q n)
def XN{t}(h:C5 X e t):N6 (F:=F) X e (zT t):=by
 obtain⟨v,p,r⟩:=h;exact⟨v,p,λB p0 H ps σT σ T n Q c o h k=>r B p0 H ps σT σ (Q n) c o.ok h λb H' s q=>k n b H' (.of s) (o.tp.grow s) q⟩
def zOp(f:D->D->(D->Prop)->Prop)(ta tb:EZ F):EZ F:=λc n σ Q=>ta c n σ λn1 x=>tb c n1 σ λd y=>f x y (Q d)
def IG{r}{f:D->D->(D->Prop)->Prop}(t:zO X r f){l m:TE}
  (ha:∀B p0 H ps σT σ T n (Q:F.S->D->Prop)(c:VK),lU F X.K B p0 H ps σT σ T n->ta (F.tau T) n σT Q->(∀n' d v H',fR (F.ad T) H H'->F.At T X.K H' ps n'->gW X.K (mask H' ps) d v->Q n' d->c v H')->l σ H c)
  (hb:∀B p0 H ps σT σ T n (Q:F.S->D->Prop)(c:VK),lU F X.K B p0 H ps σT σ T n->tb (F.tau T) n σT Q->(∀n' d v H',fR (F.ad T) H H'->F.At T X.K H' ps n'->gW X.K (mask H' ps) d v->Q n' d->c v H')->m σ H c)
  (B:Hp) (p0:List Addr) (H:Hp) (ps:List Addr) (σT:List Sl) (σ:L2.St) (T:F.I) (n:F.S) (Q:F.S->D->Prop) (c:VK) (o:lU F X.K B p0 H ps σT σ T n) (h:zOp f ta tb (F.tau T) n σT Q) (k:∀n' d v H',fR (F.ad T) H H'->F.At T X.K H' ps n'->gW X.K (mask H' ps) d v->Q n' d->c v H'):tOp r l m σ H c:=by
 refine ha B p0 H ps σT σ T n _ _ o h λn1 q x H1 s1 J E z=>?_;have i:=o.growX s1 J;refine hb B p0 H1 ps σT σ T n1 _ _ i z λg s y p s2 j G A=>?_;have u:=i.growX s2 j;exact t p ps q s x y (Q g) c u.ok.live (E.same (s2.mask o.mem')) G A λd v H' s' C w=>k g d v H' ((s1.trans s2).trans (.of s')) (j.grow s') C w
def aFv{op r}{f:D->D->(D->Prop)->Prop}(d:oG X (g8 op) r)(c:zO X r f)(ha:zN X a ta)(hb:zN X b tb)(hm:k8 op b=false:=by first | exact B5 _ | rfl):zN X (.Compare a [op] [b] pos) (zOp f ta tb):=by
 obtain⟨j,g,h⟩:=ha;obtain⟨k,pb,i⟩:=hb;exact⟨_,M4 d g pb hm,IG c h i⟩
def aG5:AZ F:=λ_ n _ Q=>Q n []
def aHa(t:EZ F)(r:AZ F):AZ F:=λc n σ Q=>t c n σ λn1 x=>r c n1 σ λd xs=>Q d (x::xs)
def oV:QN (F:=F) X [] aG5:=⟨_,jX,λ_ _ H _ _ _ _ _ _ _ o h k=>k _ _ _ H .refl o.tp .nil h⟩
def eU{tr}(ha:zN X e te)(f:QN X es tr)(hs:bI (e::es) X.env=(false,eval e X.env)::bI es X.env:=by rfl):QN X (e::es) (aHa te tr):=by
 obtain⟨w,g,q⟩:=ha;obtain⟨y,i,r⟩:=f;refine⟨_,fP g i hs,λB p0 H ps σT σ T n Q u o h k=>q B p0 H ps σT σ T n _ _ o h λn1 d x H1 s1 s m j=>?_⟩;refine r B p0 H1 ps σT σ T n1 _ _ (o.growX s1 s) j λv ds xs c s2 t p l=>?_;exact k _ _ _ c (s1.trans s2) t (.cons (m.same (s2.mask o.mem')) p) l
def aBd(f:List D->(D->Prop)->Prop)(t:AZ F):EZ F:=λc n σ Q=>t c n σ λn1 ds=>f ds (Q n1)
def aCy{r:List V->Hp->VK->Prop}{f:List D->(D->Prop)->Prop}{t:AZ F}{g}(j:pQ X r f)(ha:QN X (e::es) t)(pc:∀{ta:TA},PA X (e::es) ta->PE X (.Call g (e::es) [] pos) (Q0 r ta)):zN X (.Call g (e::es) [] pos) (aBd f t):=by
 obtain⟨v,l,u⟩:=ha;refine⟨_,pc l,λB p0 H ps σT σ T n Q i o h k=>u B p0 H ps σT σ T n _ _ o h λn1 ds xs H1 s1 c s p=>?_⟩;exact j H1 ps ds xs (Q n1) i (o.growX s1 c).ok.live s p λd v H' s' q m=>k n1 d v H' (s1.trans (.of s')) (c.grow s') q m
def CN{k:Nat}{f:Addr}{fd}{pn:List Str}{sp:oX}{x:Str}{p}{t:AZ F}(F:dP X.prog X.w X.K X.mg X.base iL k f fd pn (dB X.K sp))(hm:X.mg x=some (.ref f))(hk:gD X.K (.ref f)=true)(hb:pS X.K fd pn [])
  (s:gR k X.A) (ha:QN X (e::es) t) (pc:∀{ta:TA},PA X (e::es) ta->PE X (.Call (.Name x p) (e::es) [] pos) (yV (dB X.K sp) [] E0 ta)):zN X (.Call (.Name x p) (e::es) [] pos) (aBd sp t):=by
 obtain⟨v,i,r⟩:=ha;refine⟨_,pc i,λB p0 H ps σT σ T n Q g o h k=>r B p0 H ps σT σ T n _ _ o h λn1 ds xs H1 s1 c q l=>?_⟩;show dB X.K sp (xs++[]) H1 g E0;rw[cJ];exact⟨ps,ds,Q n1,(o.growX s1 c).ok.live,q,l,λd v H' s' m j=>k n1 d v H' (s1.trans (.of s')) (c.grow s') m j⟩
abbrev HH(F:sX):=D->F.S->List D->(F.S->D->Prop)->Prop
def mH(K:aI)(sp:HH F):Sp:=λvs H Q _=>∃(ps:List Addr)(T:F.I)(n:F.S)(ds:List D)(c:F.S->D->Prop),(∀p∈ps,yQ (H p))/\(∀a∈F.ad T,a∈ps)/\F.At T K H ps n/\Reps K (mask H ps) ds vs/\sp (F.tau T) n ds c /\
 ∀n' d v H',fR (F.ad T) H H'->F.At T K H' ps n'->gW K (mask H' ps) d v->c n' d->Q v H'
def aG9(sp:HH F)(t:AZ F):EZ F:=λc n σ Q=>t c n σ λn1 ds=>sp c n1 ds Q
def xK{k:Nat}{f:Addr}{fd:iK}{pn:List Str}{sp:HH F}{x:Str}{p}{t:AZ F}(ha:QN X (e::es) t)(pc:∀{ta:TA},PA X (e::es) ta->PE X (.Call (.Name x p) (e::es) [] pos) (yV (mH X.K sp) [] E0 ta)):zN X (.Call (.Name x p) (e::es) [] pos) (aG9 sp t):=by
 obtain⟨v,i,r⟩:=ha;refine⟨_,pc i,λB p0 H ps σT σ T n Q g o h k=>r B p0 H ps σT σ T n _ _ o h λn1 ds xs H1 s1 c q l=>?_⟩;show mH X.K sp (xs++[]) H1 g E0;rw[cJ];exact⟨ps,T,n1,ds,Q,(o.growX s1 c).ok.live,o.mem',c,q,l,λn' d v H' s' t' m j=>k n' d v H' (s1.trans s') t' m j⟩
def aGz(t:EZ F):TZ F:=λc n σ Q=>t c n σ λn1 x=>match x with | .bool b=>Q n1 b | _=>False
def RO{op r}{f:D->D->(D->Prop)->Prop}(j:oG X (g8 op) r)(i:zO X r f)(ha:zN X a ta)(hb:zN X b tb)(hm:k8 op b=false:=by first | exact B5 _ | rfl):N6 X (.Compare a [op] [b] pos) (aGz (zOp f ta tb)):=by
 obtain⟨t,l,p⟩:=ha;obtain⟨u,pb,q⟩:=hb;refine⟨_,MZ j l pb hm,λB p0 H ps σT σ T n Q s o h k=>?_⟩;refine IG i p q B p0 H ps σT σ T n (λn1 x=>match x with | .bool b=>Q n1 b | _=>False) _ o h λn' d v H' s' t' m g=>?_
 cases m with
 |bool c=>exact⟨c,rfl,k n' c H' s' t' g⟩
 |_=>exact g.elim
variable{tA uo:TZ F}{jW:List Expr}
def aG4(t:TZ F):TZ F:=λc n σ Q=>t c n σ λn1 b=>Q n1 (!b)
def aNp(t u:TZ F):TZ F:=λc n σ Q=>t c n σ λn1 b=>if b=true then Q n1 true else u c n1 σ Q
def BE(h:N6 X a tA):N6 X (.UnaryOp .Not a pos) (aG4 tA):=by
 obtain⟨v,p,r⟩:=h;exact⟨_,S5 p,λB p0 H ps σT σ T n Q d o h k=>r B p0 H ps σT σ T n _ _ o h λn1 b H' s' t' c=>k _ _ H' s' t' c⟩
def aHc(h:PWz X e tA):N6 X e tA:=by
 obtain⟨v,p,r⟩:=h;exact⟨_,p.pt,r⟩
def aDh(h:N6 X a tA):PWz X (.BoolOp .Or [a] pos) tA:=by
 obtain⟨v,p,r⟩:=h;exact⟨_,S0 p,r⟩
def aHd(ha:N6 X a tA)(hb:PWz X (.BoolOp .Or (b::jW) pos) uo):PWz X (.BoolOp .Or (a::b::jW) pos) (aNp tA uo):=by
 obtain⟨p,g,j⟩:=ha;obtain⟨q,pb,l⟩:=hb;refine⟨_,aBz g pb,λB p0 H ps σT σ T n Q m o h k=>j B p0 H ps σT σ T n _ _ o h λn1 c H1 s1 f d=>?_⟩
 cases c with
 |true=>exact k _ _ H1 s1 f d
 |false=>exact l B p0 H1 ps σT σ T n1 Q _ (o.growX s1 f) d λn' b H' s' t' i=>k n' b H' (s1.trans s') t' i
end
end
section
variable{F:sX}
section
variable{K:aI}{H B:Hp}{p0 ps:List Addr}{σT:List Sl}{σ:L2.St}{T:F.I}{n:F.S}{p:Addr}
def lU.ne(o:lU F K B p0 H ps σT σ T n)(a:H p=none):p∉F.ad T:=λz=>by
 obtain⟨u,e,_⟩:=F.liv o.tp p z;rw[a]at e;cases e
def lU.with(o:lU F K B p0 H ps σT σ T n){h9 d8}(o':Ok K B p0 H ps h9 d8):lU F K B p0 H ps h9 d8 T n:=⟨o',o.mem,o.nb,o.tp⟩
end
structure vV(F:sX) where
 nx:F.S->List Sl->Prop
 rt:F.S->D->Prop
 bk:F.S->List Sl->Prop:=λ_ _=>False
 ct:F.S->List Sl->Prop:=λ_ _=>False
 xB:Hp->List Addr->Prop:=λ_ _=>True
abbrev SZ(F:sX):=D->vV F->F.S->List Sl->Prop
structure vT(F:sX)(K:aI)(B:Hp)(p0:List Addr)(H:Hp)(ps:List Addr)(T:F.I)(DC:vV F)(DV:AJ):Prop where
 nx:∀H' l6 h9 d8 n',lU F K B p0 H' l6 h9 d8 T n'->bA (mask H ps) (mask H' l6)->DC.nx n' h9->DV.nx d8 H'
 bk:∀H' l6 h9 d8 n',lU F K B p0 H' l6 h9 d8 T n'->bA (mask H ps) (mask H' l6)->DC.bk n' h9->DV.bk d8 H'
 ct:∀H' l6 h9 d8 n',lU F K B p0 H' l6 h9 d8 T n'->bA (mask H ps) (mask H' l6)->DC.ct n' h9->DV.ct d8 H'
 rt:∀n' d v H',bA B H'->F.At T K H' p0 n'->gW K (mask H' p0) d v->DC.rt n' d->DV.rt v H'
 xb:DC.xB B p0
def yP(X:Cx)(st:Stmt)(t:SZ F):Prop:=∃ts:TS,PS X st ts/\∀B p0 H ps σT σ T n (DC:vV F)(DV:AJ),lU F X.K B p0 H ps σT σ T n->t (F.tau T) DC n σT->vT F X.K B p0 H ps T DC DV->ts DV σ H
def pH(X:Cx)(st:List Stmt)(t:SZ F):Prop:=∃ts:TS,AG X st ts/\∀B p0 H ps σT σ T n (DC:vV F)(DV:AJ),lU F X.K B p0 H ps σT σ T n->t (F.tau T) DC n σT->vT F X.K B p0 H ps T DC DV->ts DV σ H
section
variable{K:aI}{H H' B:Hp}{p0 ps:List Addr}{σT:List Sl}{σ:L2.St}{T:F.I}{n:F.S}
def vT.later{DC DV l6}(f:vT F K B p0 H ps T DC DV)(e:bA (mask H ps) (mask H' l6)):vT F K B p0 H' l6 T DC DV:=
 ⟨λ_ _ _ _ _ o s q=>f.nx _ _ _ _ _ o (e.trans s) q,λ_ _ _ _ _ o s q=>f.bk _ _ _ _ _ o (e.trans s) q,λ_ _ _ _ _ o s q=>f.ct _ _ _ _ _ o (e.trans s) q,f.rt,f.xb⟩
noncomputable def xH(B:Hp)(as:List Addr)(H:Hp):Hp:=λa=>if a∈as then H a else B a
def xG{as}{a:Addr}(h:a∈as):xH B as H a=H a:=b8 h
def jT{as}{a:Addr}(h:a∉as):xH B as H a=B a:=a8 h
def yI{as}(h:∀a∈as,B a=none):bA B (xH B as H):=λa u e=>by
 rw[jT λz=>by rw[h a z]at e;cases e];exact e
def lU.up(o:lU F K B p0 H ps σT σ T n):Ok K (xH B (F.ad T) H) p0 H ps σT σ where
 base:=λa u e=>by
  by_cases z:a∈F.ad T
  ·rw[xG z]at e;exact e
  ·rw[jT z]at e;exact o.ok.base a u e
 sub:=o.ok.sub
 live:=o.ok.live
 len:=o.ok.len
 val:=o.ok.val
 own:=λi ts h=>let ⟨q,xs,h1,h2,h3,h4,h5,h6⟩:=o.ok.own i ts h;⟨q,xs,h1,h2,by rw[jT λz=>h4 (o.mem q z)];exact h3,h4,h5,h6⟩
 dis:=o.ok.dis
 dc:=o.ok.dc.to (λj hs kvs h=>⟨h,rfl⟩) (λq φ a b _=>⟨a,rfl⟩) (λq φ _ _ a b=>⟨by rw[jT λz=>b (o.mem q z)];exact a,b⟩) (L2.bA.refl _)
def lU.down(o:lU F K B p0 H ps σT σ T n){l6 h9 d8}(o':Ok K (xH B (F.ad T) H) p0 H' l6 h9 d8)(s:bA (mask H ps) (mask H' l6)):lU F K B p0 H' l6 h9 d8 T n where
 ok:=⟨(yI o.nb).trans o'.base,o'.sub,o'.live,o'.len,o'.val,λi ts h=>let ⟨q,xs,h1,h2,h3,h4,h5,h6⟩:=o'.own i ts h;⟨q,xs,h1,h2,bA.free' (yI o.nb) h3,h4,h5,h6⟩,o'.dis,o'.dc.to (λj hs kvs h=>⟨h,rfl⟩) (λq φ a b _=>⟨a,rfl⟩) (λq φ _ _ a b=>⟨bA.free' (yI o.nb) a,b⟩) (L2.bA.refl _)⟩
 mem:=o.mem
 nb:=o.nb
 tp:=F.to o.tp (λa ha=>by
  obtain⟨u,e,_⟩:=F.liv o.tp a ha;rw[e];exact o'.base a u (by rw[xG ha];exact e)) s
def VR{DC:vV F}{DV}(o:lU F K B p0 H ps σT σ T n)(f:vT F K B p0 H ps T DC DV):JZ K (xH B (F.ad T) H) p0 H ps { nx:=DC.nx n,rt:=λ_=>False,bk:=DC.bk n,ct:=DC.ct n } DV:=
 ⟨λH' l6 h9 d8 o' s' a=>f.nx H' l6 h9 d8 n (o.down o' s') s' a,λH' l6 h9 d8 o' s' a=>f.bk H' l6 h9 d8 n (o.down o' s') s' a,λH' l6 h9 d8 o' s' a=>f.ct H' l6 h9 d8 n (o.down o' s') s' a,
  λd v H' s' b a=>a.elim,
  λ_ _ _ _ _ _ _ _ _ a=>a.elim,λ_ _ _ _ _ _ _ _ _ _ _ _ _ _ _ _ _ _ a=>a.elim,λ_ _ _ _ _ _ _ _ _ _ _ _ _ _ a=>a.elim,i8⟩
end
section
variable{X:Cx}{a b c e:Expr}{es:List Expr}{te:EZ F}{pos:Pos}{st:Stmt}{jW:List Stmt}{t u:SZ F}
def zP(t:vE):SZ F:=λ_ DC n σ=>t { nx:=DC.nx n,rt:=λ_=>False,bk:=DC.bk n,ct:=DC.ct n } σ
def lV{t}(h:A8 X st t):yP (F:=F) X st (zP t):=by
 obtain⟨ts,p,r⟩:=h;refine⟨ts,p,λB p0 H ps σT σ T n DC DV o h f=>?_⟩;exact r _ p0 H ps σT σ _ DV o.up h (VR o f)
def MI:SZ F:=λ_ DC n σ=>DC.nx n σ
def vK(t u:SZ F):SZ F:=λd DC n σ=>t d { DC with nx:=u d DC } n σ
def mU:pH (F:=F) X [] MI:=⟨_,M0,λB p0 H ps σT σ T n DC DV o h f=>f.nx H ps σT σ n o (L2.bA.refl _) h⟩
def dR(d:yP X st t)(g:pH X jW u):pH X (st::jW) (vK t u):=by
 obtain⟨q,i,l⟩:=d;obtain⟨p,j,m⟩:=g;refine⟨_,lE i j,λB p0 H ps σT σ T n DC DV o h f=>l B p0 H ps σT σ T n { DC with nx:=u (F.tau T) DC } { DV with nx:=p DV } o h ⟨λH' l6 h9 d8 n' o' s' k=>?_,f.bk,f.ct,f.rt,f.xb⟩⟩;exact m B p0 H' l6 h9 d8 T n' DC DV o' k (f.later s')
def gK(d:yP X st t):pH X [st] t:=by
 obtain⟨h,f,g⟩:=d;exact⟨_,sA f,g⟩
def aNm(te:EZ F):SZ F:=λd DC n σ=>te d n σ DC.rt
def nF(h:zN X e te):yP X (.Return (some e) pos) (aNm te):=by
 obtain⟨v,p,r⟩:=h;refine⟨_,yD p,λB p0 H ps σT σ T n DC DV o h f=>r B p0 H ps σT σ T n _ _ o h λn' d x H' s' t' i g=>?_⟩;have o':=o.growX s' t';exact f.rt n' d x H' o'.ok.base (F.to t' (λ_ _=>rfl) (fJ o.ok.sub)) (i.same (fJ o.ok.sub)) g
def zIf(c:TZ F)(t u:SZ F):SZ F:=λd DC n σ=>c d n σ λn1 b=>if b=true then t d DC n1 σ else u d DC n1 σ
def pL{c a b tc}(j:N6 X c tc)(ha:pH X a t)(hb:pH X b u):yP X (.If c a b pos) (zIf tc t u):=by
 obtain⟨v,pc,p⟩:=j;obtain⟨r,k,l⟩:=ha;obtain⟨s,pb,m⟩:=hb;refine⟨_,TC pc k pb,λB p0 H ps σT σ T n DC DV o h f=>p B p0 H ps σT σ T n _ _ o h λn1 d H1 s1 q i=>?_⟩;have g:=o.growX s1 q;have f1:=f.later (s1.mask o.mem')
 cases d with
 |true=>exact l B p0 H1 ps σT σ T n1 DC DV g i f1
 |false=>exact m B p0 H1 ps σT σ T n1 DC DV g i f1
def aDd(i:Nat)(te:EZ F):SZ F:=λf DC n σ=>te f n σ λn1 d=>DC.nx n1 (σ.set i (.val d))
def BH{i:Nat}{x q9}(h:zN X e te)(l6:∀{v},PE X e v->PS X (.Assign [.Name x q9] e pos) (tF v (kP i))):yP X (.Assign [.Name x q9] e pos) (aDd i te):=by
 obtain⟨v,p,r⟩:=h;refine⟨_,l6 p,λB p0 H ps σT σ T n DC DV o h f=>r B p0 H ps σT σ T n _ _ o h λn' d x H' s' t' j g=>?_⟩;exact f.nx H' ps _ _ n' ((o.growX s' t').set j) (s'.mask o.mem') g
def aG0(te:EZ F)(g:GT):SZ F:=λf DC n σ=>te f n σ λn1 d=>g d σ (DC.nx n1)
def aDx{tg g}(j:zN X e te)(k:JX X tg g)(l:∀{v gv},PE X e v->PG X tg gv->PS X (.Assign [tg] e pos) (tF v gv)):yP X (.Assign [tg] e pos) (aG0 te g):=by
 obtain⟨v,m,re⟩:=j;obtain⟨gv,pg,s⟩:=k;refine⟨_,l m pg,λB p0 H ps σT σ T n DC DV o h f=>re B p0 H ps σT σ T n _ _ o h λn1 d x H1 s1 w r q=>?_⟩;have i:=o.growX s1 w;exact s B p0 H1 ps σT σ d x _ _ i.ok r q λh9 d8 o' _ p=>f.nx H1 ps _ _ n1 (i.with o') (s1.mask o.mem') p
def aG7(f:IT)(g:GT)(d:SZ F):SZ F:=λi DC n σ=>f σ λts=>∃P:Nat->F.S->List Sl->Prop,P 0 n σ /\
 (∀(k:Nat)(m:F.S)(x:D)d8,ts[k]?=some x->P k m d8->g x d8 λh=>d i { DC with nx:=P (k+1),ct:=P (k+1),bk:=DC.nx } m h)/\∀m d8,P ts.length m d8->DC.nx m d8
def R6{tg iter body g}{Q:SZ F}{ti}(Z:N7 X tg iter ti)(hg:JX X tg g)(hb:pH X body Q)
  (pf:∀{R:TI}{gv:TG}{C:TS},PI X tg iter R->PG X tg gv->AG X body C->PS X (.For tg iter body [] pos) (aDv R gv C)):yP X (.For tg iter body [] pos) (aG7 ti g Q):=by
 obtain⟨ve,pe,re⟩:=Z;obtain⟨gv,pg,rg⟩:=hg;obtain⟨vb,pb,rb⟩:=hb;refine⟨_,pf pe pg pb,λB p0 H ps σT σ T n DC DV o h f=>re B p0 H ps σT σ _ _ o.ok h λts J H1 s1 x q1=>?_⟩;obtain⟨P,Y,hs,hd⟩:=q1;refine⟨λi m d8 H'=>m=ts.length-i/\i<=ts.length/\∃c l6 h9,lU F X.K B p0 H' l6 h9 d8 T c/\bA (mask H1 ps) (mask H' l6)/\P i c h9,⟨_,rfl,cU _,n,ps,σT,o.grow s1,L2.bA.refl _,Y⟩,?_⟩;rintro i m d8 H' ⟨rfl,Fd,c,l6,h9,o',s',M⟩;have O:bA (mask H1 ps) H':=s'.trans bU;have G:vT F X.K B p0 H' l6 T DC DV:=f.later ((bG s1).trans s');by_cases v:i<ts.length
 ·refine .inr ⟨x.go i H' O v,λS d=>∃E A I,lU F X.K B p0 d A I S T E/\bA (mask H1 ps) (mask d A)/\P (i+1) E I,λS d z=>⟨ts.length-(i+1),by lia,rfl,v,z⟩,λy d U=>?_⟩;obtain⟨s2,dx,hx,rx⟩:=x.yld i H' l6 y d o'.ok.live s' v U;have f2:=G.later (bG (ps:=l6) s2);have N:bA (mask H1 ps) (mask d l6):=s'.trans (bG s2);have L:=o'.grow s2;refine rg B p0 d l6 h9 d8 dx y _ _ L.ok rx (hs i c dx h9 hx M) λW js o3 _ q3=>?_;exact rb B p0 d l6 W js T c _ _ (L.with o3) q3 ⟨λs l k w j p r q=>⟨j,l,k,p,N.trans r,q⟩,λs l k w j p r q=>f2.nx s l k w j p r q,λs l k w j p r q=>⟨j,l,k,p,N.trans r,q⟩,f2.rt,f2.xb⟩
 ·obtain rfl:i=ts.length:=by lia
  exact .inl ⟨x.stop _ H' O (aN _),G.nx H' l6 h9 d8 c o' (L2.bA.refl _) (hd c h9 M)⟩
noncomputable def gQ(H:Hp)(as:List Addr):Hp:=λa=>if a∈as then none else H a
def fnZ{P w}{mg:Str->Option Value}{base K x qual st}{f:Addr}{fd}{N pn:List Str}{k:Nat}{sp:HH F}(B:J6 K x qual st f fd)(S:bW N pn (bB st))
  (W:∀{t6}{A:g9}{outer}{s:Shared}{H E},gR k (A.deeper (l3 qual (bB st) s.heap.objs.size f t6))->N.Nodup->∀(Tp:F.I)(n:F.S)(ds:List D)(Q:F.S->D->Prop),sp (F.tau Tp) n ds Q ->
   ∃t,pH (qP iL P w K mg base N qual (bB st) f t6 A outer s H E).nox (lD st) t/\t (F.tau Tp) { nx:=λn _=>Q n .none,rt:=Q } n (iH N ds)) (len:∀z n ds Q,sp z n ds Q->ds.length=pn.length:=by intro z n ds Q h;(repeat obtain⟨_,h⟩:=h)<;>subst_vars<;>rfl):dP P w K mg base iL (k+1) f fd pn (mH K sp):=by
 refine B.ok S (λvs H Q E h=>?_) λt6 A outer s H vs Q E G h=>?_
 ·obtain⟨ps,T,n,ds,l,_,_,_,r,q,_⟩:=h;rw[<- r.length];exact len _ _ ds l q
 ·obtain⟨ps,T,n,ds,l,live,C,tp,r,q,k⟩:=h;obtain⟨t,⟨ts,p,R⟩,h⟩:=W G S.nd T n ds l q;have o:=oJ (N:=N) live r
  have J:∀(i:Nat)(us:List D),(iH N ds)[i]?≠some (.own us):=λi us e=>by
   obtain⟨q,_,_,_,m,_,j,_⟩:=o.own i us e;rw[m]at j;cases j
  have U:bA (gQ H (F.ad T)) H:=λa u e=>by
   unfold gQ at e;split at e
   ·cases e
   ·exact e
  have y:∀{H':Hp},bA (gQ H (F.ad T)) H'->fR (F.ad T) H H':=λs a u ne e=>s a u (by unfold gQ;rw[a8 ne];exact e)
  have L:Ok K (gQ H (F.ad T)) ps H ps (iH N ds) (L2.lZ N vs):=⟨U,o.sub,o.live,o.len,o.val,λi us e=>c7 e (J i us),o.dis,λi hs kvs e=>by
   obtain⟨⟨q,es,_,_,m,_,j,_⟩,_⟩:=o.dc i hs kvs e;rw[m]at j;cases j⟩
  have M:lU F K (gQ H (F.ad T)) ps H ps (iH N ds) (L2.lZ N vs) T n:=⟨L,C,λa ha=>b8 ha,tp⟩;refine⟨ts,p,R _ ps H ps _ _ T n _ _ M h ⟨λH' l6 h9 d8 n' o' s' g=>?_,λ_ _ _ _ _ _ _ g=>g.elim,λ_ _ _ _ _ _ _ g=>g.elim,λn' d v H' s' t' O g=>k n' d v H' (y s') t' O g,i8⟩⟩;exact k n' _ _ H' (y o'.ok.base) (F.to o'.tp (λ_ _=>rfl) (fJ o'.ok.sub)) .none g
end
end
end TL
namespace L2
section
variable{κ:Type}[DecidableEq κ]
noncomputable def rC(kvs:List (κ×V))(k:κ):Option V:=(kvs.find? λkv=>decide (kv.1=k)).map (·.2)
noncomputable def yB(kvs:List (κ×V))(k:κ)(v:V):List (κ×V):=
 if(kvs.any λkv=>decide (kv.1=k))=true then kvs.map (λkv=>if kv.1=k then(kv.1,v)else kv)else kvs++[(k,v)]
noncomputable def lT(kvs:List (κ×V))(k:κ):List (κ×V):=kvs.filter λkv=>decide (kv.1≠k)
def BB{p:κ×V}{r k}(e:p.1=k):rC (p::r) k=some p.2:=by simp[rC,jA,e]
def BC{p:κ×V}{r k}(e:¬p.1=k):rC (p::r) k=rC r k:=by simp[rC,jA,e]
theorem HP(k:κ):∀kvs:List (κ×V),(kvs.any λkv=>decide (kv.1=k))=(rC kvs k).isSome
|[]=>rfl
|p::r=>by
 rw[oY];by_cases e:p.1=k
 ·simp only[BB e,c6 e,Bool.true_or,OD]
 ·rw[BC e,c9 e,Bool.false_or];exact HP k r
def zD(kvs:List (κ×V))(k:κ)(v:V):(yB kvs k v).length<=kvs.length+1:=by
 unfold yB;split
 ·rw[aB];lia
 ·rw[bO,dY,DG];lia
def uB.isSome_eq{o:Option V}{u:Option Value}(r:uB o u):o.isSome=u.isSome:=by
 cases o with
 |none=>cases u with
  |none=>rfl
  |some _=>exact(show False from r).elim
 |some _=>cases u with
  |none=>exact(show False from r).elim
  |some _=>rfl
def KV.val{kvs vs}(r:KV kvs vs)(k:κ):uB (rC kvs k) (gm vs k):=by
 unfold KV at r
 induction r with
 |nil=>exact i8
 |@cons p q ps qs h t ih=>
  obtain⟨c,d⟩:=h;by_cases e:p.1=k
  ·have a:q.1=k:=c.symm.trans e;have b:gm (q::qs) k=some q.2:=by simp[gm,jA,a]
   rw[BB e,b];exact d
  ·have a:¬q.1=k:=λz=>e (c.trans z);have b:gm (q::qs) k=gm qs k:=by simp[gm,jA,a]
   rw[BC e,b];exact ih
theorem KV.any{kvs:List (κ×V)}{vs:List (κ×Value)}(r:KV kvs vs)(k:κ):(kvs.any λkv=>decide (kv.1=k))=vs.any λkv=>decide (kv.1=k):=by
 unfold KV at r
 induction r with
 |nil=>rfl
 |cons h t a=>rw[oY,oY,a,h.1]
def KV.repl{kvs:List (κ×V)}{vs:List (κ×Value)}(r:KV kvs vs)(k:κ){y u}(c:fU y u) :
  KV (kvs.map λkv=>if kv.1=k then(kv.1,y)else kv) (vs.map λkv=>if kv.1=k then(kv.1,u)else kv):=by
 unfold KV at r |-
 induction r with
 |nil=>exact .nil
 |@cons p q ps qs h t ih=>
  rw[bR,bR];refine .cons ?_ ih;obtain⟨a,b⟩:=h;by_cases e:p.1=k
  ·rw[b8 e,b8 (a.symm.trans e)];exact⟨a,c⟩
  ·rw[a8 e,a8 (λz=>e (a.trans z))];exact⟨a,b⟩
def KV.put{kvs vs}(r:KV kvs vs)(k:κ){y u}(a:fU y u):KV (yB kvs k y) (Ee vs k u):=by
 unfold yB Ee;rw[r.any k];by_cases e:(vs.any λkv=>decide (kv.1=k))=true
 ·rw[b8 e,b8 e];exact r.repl k a
 ·rw[a8 e,a8 e];exact Paired.snoc r ⟨rfl,a⟩
def KV.drop{kvs vs}(r:KV kvs vs)(k:κ):KV (lT kvs k) (without vs k):=by
 unfold KV at r |-
 unfold lT without
 induction r with
 |nil=>exact .nil
 |@cons p q ps qs h t ih=>
  obtain⟨c,f⟩:=h;rw[dM,dM];by_cases e:p.1=k
  ·have a:¬decide (p.1≠k)=true:=by simp[e]
   have b:¬decide (q.1≠k)=true:=by simp[c.symm.trans e]
   rw[a8 a,a8 b];exact ih
  ·have d:¬q.1=k:=λz=>e (c.trans z);have a:decide (p.1≠k)=true:=by simp[e]
   have b:decide (q.1≠k)=true:=by simp[d]
   rw[b8 a,b8 b];exact .cons ⟨c,f⟩ ih
def KV.keys{kvs:List (κ×V)}{vs:List (κ×Value)}(r:KV kvs vs):kvs.map (·.1)=vs.map (·.1):=by
 unfold KV at r
 induction r with
 |nil=>rfl
 |cons h t a=>rw[bR,bR,a,h.1]
theorem KV.length{kvs:List (κ×V)}{vs:List (κ×Value)}(r:KV kvs vs):kvs.length=vs.length:=dm r
def V4(kvs:List (κ×V))(k:κ):(lT kvs k).length<=kvs.length:=bK _ _
end
def JE{P w k u}(r:fU (kV k) u):(fH P w).is k u=true:=by
 cases k with
 |inl i=>obtain⟨t,e⟩:=(show∃t,u=v4 i t from r);subst e;exact IU P w i t
 |inr x=>obtain⟨t,e⟩:=(show∃t,u=di x t from r);subst e;exact IS P w x t
theorem EX{P w}:∀{ks:List jN}{us},fM (ks.map kV) us->ItemsAre (fH P w) ks us
|[],_,r=>by rw[jI]at r;cases r;exact .nil
|k::ks,_,r=>by
 rw[bR]at r
 cases r with
 |cons h t=>exact .cons (JE h) (EX t)
abbrev KT(H:Hp):List (List jN×V)->List (List jN×Addr×Value)->Prop:=Paired λp q=>p.1=q.1/\H q.2.1=some (.tup (p.1.map kV))/\fU p.2 q.2.2
def KT.val{H kvs xs}(r:KT H kvs xs)(k:List jN):uB (rC kvs k) ((ou xs k).map (·.2)):=by
 induction r with
 |nil=>exact i8
 |@cons p q ps qs h t ih=>
  obtain⟨c,_,d⟩:=h;by_cases e:p.1=k
  ·have a:q.1=k:=c.symm.trans e;have b:ou (q::qs) k=some q.2:=by simp[ou,jA,a]
   rw[BB e,b];exact d
  ·have a:¬q.1=k:=λz=>e (c.trans z);have b:ou (q::qs) k=ou qs k:=by simp[ou,jA,a]
   rw[BC e,b];exact ih
def KT.repl{H}{kvs:List (List jN×V)}{xs:List (List jN×Addr×Value)}(r:KT H kvs xs)(k:List jN){y u}(d:fU y u) :
  KT H (kvs.map λkv=>if kv.1=k then(kv.1,y)else kv) (xs.map (putAt k u)):=by
 induction r with
 |nil=>exact .nil
 |@cons p q ps qs h t ih=>
  rw[bR,bR];refine .cons ?_ ih;obtain⟨a,b,c⟩:=h;unfold putAt;by_cases e:p.1=k
  ·rw[b8 e,b8 (a.symm.trans e)];exact⟨a,b,d⟩
  ·rw[a8 e,a8 (λz=>e (a.trans z))];exact⟨a,b,c⟩
def KT.put{H kvs xs}(r:KT H kvs xs)(k:List jN){b:Addr}{y u}(hb:H b=some (.tup (k.map kV)))(a:fU y u) :
  KT H (yB kvs k y) (storedH xs k b u):=by
 have e:(kvs.any λkv=>decide (kv.1=k))=(ou xs k).isSome:=by
  rw[HP,(r.val k).isSome_eq,QQ]
 unfold yB storedH;rw[e];by_cases q:(ou xs k).isSome=true
 ·rw[b8 q,b8 q];exact r.repl k a
 ·rw[a8 q,a8 q];exact Paired.snoc r ⟨rfl,hb,a⟩
def KT.keeps{H H':Hp}{kvs xs}(r:KT H kvs xs)(a:∀b ys,H b=some (.tup ys)->H' b=some (.tup ys)):KT H' kvs xs:=
 Paired.mapP r λ_ _ z=>⟨z.1,a _ _ z.2.1,z.2.2⟩
section
variable{P:dD}{w:j0}{H:Hp}{h:Heap}{a:Addr}
def aBv{u}(ok:pK P w H h)(e:Rd H a u):iT P w H h a u:=e.ok ok
def JK{kvs:List (jN×V)}(ok:pK P w H h)(e:Rd H a (.dK kvs)):kvs.length<=bE/\(a==r8)=false/\∃vs,KV kvs vs/\h.DictOf (fH P w) a vs:=
 show iT P w H h a (.dK kvs)from aBv ok e
def zJ{kvs:List (jN×V)}(ok:pK P w H h)(e:H a=some (.dK kvs)):kvs.length<=bE/\(a==r8)=false/\∃vs,KV kvs vs/\h.DictOf (fH P w) a vs:=JK ok (.inl e)
def CC{ks:List jN}(ok:pK P w H h)(e:H a=some (.tup (ks.map kV))):(lh (fH P w)).is h ks a:=by
 obtain⟨_,i3,r,o,b,c,n,d,_⟩:=(show iT P w H h a (.tup (ks.map kV))from ok a _ e);exact⟨o,i3.toArray,n,b,c,d,by simpa using EX r⟩
def NW{kvs:List (List jN×V)}(ok:pK P w H h)(e:Rd H a (.dT kvs)):kvs.length<=bE/\(a==r8)=false /\
  ∃xs,KT H kvs xs/\h.DictOfH (lh (fH P w)) a xs:=by
 obtain⟨z,y,xs,r,o,es,ep,b,c,d,f,g⟩:=(show iT P w H h a (.dT kvs)from aBv ok e);refine⟨z,y,xs,r,o,es,ep,b,c,d,f,λx hx=>?_,g⟩
 have all:∀{l:List (List jN×V)}{m:List (List jN×Addr×Value)},KT H l m->∀x∈m,(lh (fH P w)).is h x.1 x.2.1:=by
  intro l m q
  induction q with
  |nil=>intro x hx;exact nomatch hx
  |@cons p q ps qs hq t ih=>
   intro x hx;rcases aP.mp hx with e | hx
   ·subst e;exact CC ok (by rw[<- hq.1];exact hq.2.1)
   ·exact ih x hx
 exact all r x hx
def aL9{kvs:List (List jN×V)}(ok:pK P w H h)(e:H a=some (.dT kvs)):kvs.length<=bE/\(a==r8)=false /\
  ∃xs,KT H kvs xs/\h.DictOfH (lh (fH P w)) a xs:=NW ok (.inl e)
end
def AK(H:Hp)(a:Addr)(y:V)(r:Option V):Prop:=
 (∃kvs k,Rd H a (.dK kvs)/\y=kV k/\r=rC kvs k)\/∃kvs k b,Rd H a (.dT kvs)/\y=.ref b/\H b=some (.tup (k.map kV))/\r=rC kvs k
def QO(H:Hp)(a:Addr)(y v:V)(H':Hp):Prop:=
 (∃kvs k,H a=some (.dK kvs)/\y=kV k/\kvs.length<bE/\H'=fS H a (.dK (yB kvs k v))) \/
 ∃kvs k b,H a=some (.dT kvs)/\y=.ref b/\H b=some (.tup (k.map kV))/\kvs.length<bE/\H'=fS H a (.dT (yB kvs k v))
theorem AK.k{H}{a:Addr}{kvs k}(e:H a=some (.dK kvs)):AK H a (kV k) (rC kvs k):=.inl ⟨kvs,k,.inl e,rfl,rfl⟩
theorem QO.k{H}{a:Addr}{kvs:List (jN×V)}{k v}(e:H a=some (.dK kvs))(b:kvs.length<bE):QO H a (kV k) v (fS H a (.dK (yB kvs k v))):=.inl ⟨kvs,k,e,rfl,b,rfl⟩
section
variable{X:Cx}{pins:List (Addr×Obj)}{σ:St}{H:Hp}{s:Shared}{a:Addr}{y v:V}{u r:Value}{o:Option V}{A:g9}{E:Value->Shared->Prop}
def dI.big(I:dI X pins σ H s):r8<s.heap.objs.size:=by
 have h:fD<s.heap.objs.size:=(I.mod.glob.keeps I.bk).lt;exact MG (by decide) h
def P5{Q:Value->Shared->Prop}(t:A.units+1<aq)(I:dI X pins σ H s)(g:AK H a y (some v))(j:fU y u)(h:∀c s',dI X pins σ H s'->fU v c->Q c s') :
  wpAny (model X.prog X.w) A (bw (.ref a) u) Q E s:=by
 rcases g with⟨kvs,k,e,f,l⟩ | ⟨kvs,k,b,e,f,n,l⟩
 ·subst f;obtain⟨z,hd,vs,d,dd⟩:=JK I.hok e;obtain⟨c,hw,i⟩:=uB.some_of (v:=v) (o:=gm vs k) (by rw[l];exact d.val k);exact wpAny_getItem_of (JE j) dd.mapOf hw (h c _ (I.tok _) i)
 ·subst f;cases (show u=e7 b from j);obtain⟨z,hd,xs,d,dd⟩:=NW I.hok e;obtain⟨c,hw,i⟩:=uB.some_of (v:=v) (o:=(ou xs k).map (·.2)) (by rw[l];exact d.val k);obtain⟨p,q,m⟩:=dL.mp hw;refine wpAny_getItem_heap (ja t) (CC I.hok n) dd q ?_;rw[m];exact h c _ (I.tok _) i
def aAo{Q:Value->Shared->Prop}(j:A.units+1<aq)(I:dI X pins σ H s)(g:AK H a y o)(f:fU y u)(h:∀s',dI X pins σ H s'->Q (.bool (!o.isSome)) s') :
  wpAny (model X.prog X.w) A (g8 .NotIn u (.ref a)) Q E s:=by
 rcases g with⟨kvs,k,e,d,l⟩ | ⟨kvs,k,b,e,d,i,l⟩
 ·subst d;obtain⟨z,hd,vs,c,dd⟩:=JK I.hok e;refine wpAny_notIn_of (JE f) hd dd.mapOf ?_;rw[<- (c.val k).isSome_eq,<- l];exact h _ (I.tok _)
 ·subst d;cases (show u=e7 b from f);obtain⟨z,hd,xs,c,dd⟩:=NW I.hok e;refine wpAny_notIn_heap (ja j) (CC I.hok i) hd dd ?_;have q:=(c.val k).isSome_eq;rw[QQ]at q;rw[<- q,<- l];exact h _ (I.tok _)
def GM{h':Heap}{t':Nat}{ob}(I:dI X pins σ H s)(d:Mut (H a))(hs:fL a s.heap h')(c:∃q,h'.get? a=some q)(new:iT X.prog X.w (fS H a ob) h' a ob) :
  dI X pins σ (fS H a ob) { s with heap:=h',toks:=t' }:=
 I.write (x:=a) (e:=a) d (.inl rfl) (λb q hb z=>(hs.2 b hb).trans z) c new
def V5{P w H'}{h':Heap}{kvs:List (jN×V)}{vs}(z:kvs.length<=bE)(hd:(a==r8)=false)(b:KV kvs vs)(dd:h'.DictOf (fH P w) a vs) :
  iT P w H' h' a (.dK kvs):=⟨z,hd,vs,b,dd⟩
def P4{H'}{Q:Unit->Shared->Prop}(L:A.units+1<aq)(I:dI X pins σ H s)(g:QO H a y v H')(B:fU y u)(x:fU v r)(h:∀s',dI X pins σ H' s'->Q () s') :
  wpAny (model X.prog X.w) A (setItem (.ref a) u r) Q E s:=by
 rcases g with⟨kvs,k,e,m,l,j⟩ | ⟨kvs,k,b,e,m,p,l,j⟩
 ·subst m j;obtain⟨z,hd,vs,d,dd⟩:=zJ I.hok e;have hz:vs.length<=bE:=by rw[<- d.length];exact z
  have n:(yB kvs k v).length<=bE:=by have:=zD kvs k v;lia
  refine wpAny_setItem_pairs (hsz:=hz) (JE B) dd λh' f hs=>h _ ?_;have K:∃q,h'.get? a=some q:=let ⟨q,_,_,i,_⟩:=f;⟨q,i⟩
  exact GM I (by rw[e];exact i8) hs K (V5 n hd (d.put k x) f)
 ·subst m j;cases (show u=e7 b from B);obtain⟨z,hd,xs,d,dd⟩:=aL9 I.hok e;have hz:xs.length<=bE:=by rw[<- dm d];exact z
  have n:(yB kvs k v).length<=bE:=by have:=zD kvs k v;lia
  refine wpAny_setItem_heap (hsz:=hz) (ja L) (CC I.hok p) dd λh' f hs=>h _ ?_;obtain⟨q,es,ep,i,C,F,G,_,J⟩:=f;refine GM I (by rw[e];exact i8) hs ⟨q,i⟩ ⟨n,hd,_,(d.put k p x).keeps λc ys t=>?_,q,es,ep,i,C,F,G,J⟩;rw[bZ (aLl t e (λz=>nomatch z))];exact t
end
section
variable{X:Cx}{pins:List (Addr×Obj)}{σ:St}{H:Hp}{s:Shared}{a:Addr}{kvs:List (jN×V)}{k:jN}{u:Value}{A:g9}{E:Value->Shared->Prop}
def aMa{v more}{Q:Value->Shared->Prop}(I:dI X pins σ H s)(e:H a=some (.dK kvs))(d:fU (kV k) u)(l:rC kvs k=some v)(hm:more=[]\/∃x,more=[x])
  (h:∀b s',dI X pins σ (fS H a (.dK (lT kvs k))) s'->fU v b->Q b s'):wpAny (model X.prog X.w) A (call (.builtin "dict.pop") (.ref a::u::more)) Q E s:=by
 obtain⟨z,hd,vs,c,dd⟩:=zJ I.hok e;obtain⟨b,hw,g⟩:=uB.some_of (v:=v) (o:=gm vs k) (by rw[<- l];exact c.val k)
 have m:(keyPart u).isSome=true:=by
  cases k with
  |inl i=>obtain⟨t,q⟩:=(show∃t,u=v4 i t from d);subst q;rfl
  |inr x=>obtain⟨t,q⟩:=(show∃t,u=di x t from d);subst q;rfl
 have ha:argsOk "dict.pop" ⟨.ref a::u::more,[]⟩:=by
  rcases hm with q | ⟨x,q⟩
  ·subst q;exact PySem.F.args_dict_pop_2 _ _
  ·subst q;exact PySem.F.args_dict_pop_3 _ _ _
 refine uu sZ dd.typeIs PySem.F.entry_dict_pop ha (meets_dict_pop_there (fH X.prog X.w) a (JE d) more hm m)
  ⟨vs,b,dd,by rw[<- c.length];exact z,hw,λh' f hs=>h b _ ?_ g⟩
 have j:∃q,h'.get? a=some q:=let ⟨q,_,_,hq,_⟩:=f;⟨q,hq⟩
 exact GM I (by rw[e];exact i8) hs j (V5 (aX (V4 kvs k) z) hd (c.drop k) f)
def aMb{Q:Value->Shared->Prop}(I:dI X pins σ H s)(e:Rd H a (.dK kvs))(h:∀t s',dI X pins σ H s'->Q (.int kvs.length t) s'):wpAny (model X.prog X.w) A (call (.builtin "len") [.ref a]) Q E s:=by
 obtain⟨z,hd,vs,b,dd⟩:=JK I.hok e;refine call_len_dict hd dd (by rw[<- b.length];rw[lz]at z;lia) ?_;rw[<- b.length];exact h _ _ (I.tok _)
end
def WT(i:Expr):Prop:=∀b a,ma i false b a=operate [b,a] (bw b a)
def X3{prog w A}{E:Value->Shared->Prop}{s env value slice pos T id}{Q:Value->Shared->Prop}
  (g:typeLookup (.type T) "__getitem__"=pure (some (.builtin id))) (hs:WT slice)
  (h:wpAny (model prog w) A (eval value env) (λo a=>wpAny (model prog w) A (eval slice env) (λi b=>b.TypeIs o T/\wpAny (model prog w) A (bw o i) Q E b) E a) E s) :
  wpAny (model prog w) A (eval (.Subscript value slice pos) env) Q E s:=by
 refine Cu (eF h (λo a j=>eF j (λi b c=>?_) λ_ _ x=>x) λ_ _ x=>x);obtain⟨d,c⟩:=c;unfold tz;refine aE ?_;rw[getitemInPython_of_ne d.not_modules];refine aE (wpAny_specialOf d g ?_)
 have fin:wpAny (model prog w) A (ma slice false o i) (λr e=>wpAny (model prog w) A (letTemporaryGo value o r >>= λ_=>pure r) Q E e) E b:=by
  rw[hs o i];exact wpAny_operating (eF c (λr e f=>aE (wpAny_letTemporaryGo (aV f))) λ_ _ x=>x)
 first
  |exact aV (aE fin)
  |exact aE (aV (aE fin))
  |exact aE fin
def JL{X pins σ H}{s:Shared}{a:Addr}{y o}(I:dI X pins σ H s)(g:AK H a y o):s.TypeIs (.ref a) "dict":=by
 rcases g with⟨kvs,k,e,_,_⟩ | ⟨kvs,k,b,e,_,_,_⟩
 ·obtain⟨_,_,vs,_,dd⟩:=JK I.hok e;exact dd.typeIs
 ·obtain⟨_,_,xs,_,dd⟩:=NW I.hok e;exact dd.typeIs
def aHi(c ty:TE):TE:=λσ H Q=>c σ H λx H1=>ty σ H1 λy b=>∃a v,x=.ref a/\AK b a y (some v)/\Q v b
def XT(ty c:TE):TE:=λσ H Q=>ty σ H λy H1=>c σ H1 λx b=>∃a o,x=.ref a/\AK b a y o/\Q (.bl (!o.isSome)) b
def aJ6(d ty tv:TE):TS:=λD σ H=>tv σ H λv H1=>d σ H1 λx c=>ty σ c λy H3=>∃a b,x=.ref a/\QO H3 a y v b/\D.nx σ b
section
variable{X:Cx}{o i value:Expr}{pos q9:Pos}{td ty tv:TE}
def F5(k:X.A.units+1<aq)(j:PE X o td)(hi:PE X i ty)(hs:WT i):PE X (.Subscript o i pos) (aHi td ty):=by
 intro pins s σ H Q I h;refine X3 PySem.F.slot_dict_getitem.lookup hs (jM (j pins s σ H _ I h) λu s1 ⟨x,H1,d,n,l⟩=>jM (hi pins s1 σ H1 _ d l) λr s2 q=>?_);obtain⟨y,c,b,p,a,v,ex,g,m⟩:=q;subst ex;obtain rfl:u=e7 a:=n;exact⟨JL b g,P5 k b g p λt s3 e f=>⟨v,c,e,f,m⟩⟩
def EJ(j:X.A.units+1<aq)(hi:PE X i ty)(f:PE X o td):PC X .NotIn i o (XT ty td):=by
 intro pins s σ H Q I h;refine jM (hi pins s σ H _ I h) λr s1 ⟨y,H1,c,p,l⟩=>jM (f pins s1 σ H1 _ c l) λu s2 q=>?_;obtain⟨x,b,d,n,a,k,ex,g,m⟩:=q;subst ex;obtain rfl:u=e7 a:=n;exact aAo j d g p λs3 e=>⟨.bl (!k.isSome),b,e,rfl,m⟩
def M1(l:X.A.units+1<aq)(k:PE X o td)(hi:PE X i ty)(m:PE X value tv)(hs:mJ value (some (.Subscript o i q9)) pos.line X.env=pure false) :
  PS X (.Assign [.Subscript o i q9] value pos) (aJ6 td ty tv):=by
 intro pins s σ H D I h;refine wpAny_Assign_Subscript (jM (m pins s σ H _ I h) λr s1 ⟨v,H1,d,t,n⟩=>jM (k pins s1 σ H1 _ d n) λu s2 ⟨x,b,e,w,p⟩=>jM (hi pins s2 σ b _ e p) λC s3 B=>?_) hs;obtain⟨y,H3,f,z,a,c,ex,g,q⟩:=B;subst ex;obtain rfl:u=e7 a:=w;exact P4 l f g z t λE j=>⟨σ,c,j,q⟩
end
def V6{P w H}(h:Heap)(hb:r8<h.objs.size):iT P w H (h.push { cls:=.type "dict",data:=.dict #[] }) h.objs.size (.dK []):=
 ⟨cU _,beq_eq_false_iff_ne.mpr (n8 (cI hb)),[],.nil,DA.new h⟩
def R3:TE:=λ_ H Q=>∀p,H p=none->Q (.ref p) (fS H p (.dK []))
section
variable{X:Cx}{pos:Pos}
def BY:PE X (.Dict [] [] pos) R3:=λpins s σ H Q I h=>
 wpAny_Dict_empty ⟨.ref s.heap.objs.size,_,I.laid (a:=s.heap.objs.size) (o:=.dK []) (t':=s.toks) (λ_ _ q=>aG _ q) (aN _) (V6 s.heap I.big),rfl,h _ (I.hok.fresh (aN _))⟩
end
end L2
namespace TL
open L2
noncomputable def lP(s:Stmt)(j:Nat):Stmt:=match s with
|.ClassDef _ _ _ b _ _ _ _ _ _ _=>b.getD j (.Pass ⟨0,0,0,0⟩)
|_=>.Pass ⟨0,0,0,0⟩
theorem zB{f}:∀{fs:List (Str×V)},f∉fs.map (·.1)->fs.lookup f=none
|[],_=>rfl
| (g,u)::fs,h=>by
 have a:(f==g)=false:=beq_eq_false_iff_ne.mpr λz=>h (by rw[z];exact aO ..);show(match f==g with | true=>some u | false=>fs.lookup f)=none;rw[a];exact zB λz=>h (aJ _ z)
inductive rT(K:aI)(H:Hp):List (Int×D)->List (jN×V)->Prop
|nil:rT K H [] []
|cons {i:Int} {d:D} {v:V} {a:List (Int×D)} {b:List (jN×V)} (r:gW K H d v) (t:rT K H a b):rT K H ((i,d)::a) ((.inl i,v)::b)
noncomputable def zY(kvs:List (Int×D))(i:Int)(d:D):List (Int×D):=if kvs.any (λe=>decide (e.1=i))=true then kvs.map (λe=>if e.1=i then(e.1,d)else e)else kvs++[(i,d)]
noncomputable def zI(kvs:List (Int×D))(i:Int):List (Int×D):=kvs.filter λe=>decide (e.1≠i)
noncomputable def oS(kvs:List (Int×D))(i:Int):Option D:=(kvs.find? λe=>decide (e.1=i)).map (·.2)
section
variable{K:aI}{H H':Hp}
theorem rT.same(s:bA H H'):∀{a b},rT K H a b->rT K H' a b
|_,_,.nil=>.nil
|_,_,.cons r t=>.cons (r.same s) (t.same s)
theorem rT.length:∀{a:List (Int×D)}{b:List (jN×V)},rT K H a b->a.length=b.length
|_,_,.nil=>rfl
|_,_,.cons r t=>j5 (·+1) t.length
theorem rT.vals:∀{a:List (Int×D)}{b:List (jN×V)},rT K H a b->Reps K H (a.map (·.2)) (b.map (·.2))
|_,_,.nil=>.nil
|_,_,.cons r t=>.cons r t.vals
theorem rT.val(i:Int):∀{a b},rT K H a b->(oS a i=none/\rC b (.inl i)=none)\/∃d v,oS a i=some d/\rC b (.inl i)=some v/\gW K H d v
|_,_,.nil=>.inl ⟨rfl,rfl⟩
| (j,d)::a,(_,v)::b,.cons r t=>by
 unfold oS rC;rw[jA,jA];by_cases e:j=i
 ·subst e;refine .inr ⟨d,v,?_,?_,r⟩<;>simp
 ·have c:¬((u7 j:jN)=.inl i):=λz=>e (gh z);rw[show decide ((j,d).1=i)=false from c9 e,show decide (((u7 j:jN),v).1=.inl i)=false from c9 c];exact t.val i
theorem rT.any(i:Int):∀{a:List (Int×D)}{b:List (jN×V)},rT K H a b->(a.any λe=>decide (e.1=i))=b.any λe=>decide (e.1=.inl i)
|_,_,.nil=>rfl
| (j,d)::a,(_,v)::b,.cons r t=>by
 rw[oY,oY,t.any i];congr 1;show decide (j=i)=decide ((u7 j:jN)=.inl i);rw[eN,f9,f9];exact⟨λz=>by rw[z],λz=>gh z⟩
theorem rT.map(i:Int){d v}(r:gW K H d v):∀{a:List (Int×D)}{b:List (jN×V)},rT K H a b->rT K H (a.map λe=>if e.1=i then(e.1,d)else e) (b.map λe=>if e.1=.inl i then(e.1,v)else e)
|_,_,.nil=>.nil
| (j,x)::a,(_,y)::b,.cons r0 t=>by
 rw[bR,bR];by_cases e:j=i
 ·subst e;rw[b8 rfl,b8 rfl];exact .cons r (t.map j r)
 ·rw[a8 e,a8 λz:(u7 j:jN)=.inl i=>e (gh z)];exact .cons r0 (t.map i r)
theorem rT.snoc{i:Int}{d v}(r:gW K H d v):∀{a b},rT K H a b->rT K H (a++[(i,d)]) (b++[(.inl i,v)])
|_,_,.nil=>.cons r .nil
|_,_,.cons r0 t=>.cons r0 (t.snoc r)
def rT.put{i:Int}{d v}(r:gW K H d v){a b}(h:rT K H a b):rT K H (zY a i d) (yB b (.inl i) v):=by
 unfold zY yB;rw[h.any i];split
 ·exact h.map i r
 ·exact h.snoc r
theorem rT.drop(i:Int):∀{a b},rT K H a b->rT K H (zI a i) (lT b (.inl i))
|_,_,.nil=>.nil
| (j,x)::a,(_,y)::b,.cons r0 t=>by
 unfold zI lT;rw[dM,dM];by_cases e:j=i
 ·subst e;rw[a8 (by simp),a8 (by simp)];exact t.drop j
 ·rw[b8 (by simpa using e),b8 (by simpa using e)];exact .cons r0 (t.drop i)
end
structure Bk where
 p:Addr
 q:Addr
 dx:Addr
 fm:D
 dp:Int
 ls:Int
structure XA where
 kvs:List (Int×D)
 fol:Int
 st:D
noncomputable def nQ(T:Bk):D:=.dict [(.str "@",.list [.int (T.p:Nat),.int (T.q:Nat),.int (T.dx:Nat),T.fm,.int T.dp,.int T.ls])]
def iM{S T}(h:nQ S=nQ T):S=T:=by
 unfold nQ at h;injection h with h
 injection h with h _
 injection h with _ h
 injection h with h
 injection h with g h
 injection h with i h
 injection h with j h
 injection h with m h
 injection h with k h
 injection h with l _
 injection g with g
 injection i with i
 injection j with j
 injection k with k
 injection l with l
 obtain⟨a,b,c,d,e,f⟩:=S;obtain⟨n,o,c',d',p,q⟩:=T;simp only[Bk.mk.injEq];exact⟨nT.inj g,nT.inj i,nT.inj j,m,k,l⟩
def wA{K H}(T:Bk):gW K H (nQ T) (.ref T.p):=.addr _
def KY{K H}{T:Bk}{v}(r:gW K H (nQ T) v):v=.ref T.p:=by
 unfold nQ at r
 generalize a:(qW [(.str "@",.list [.int (T.p:Nat),.int (T.q:Nat),.int (T.dx:Nat),T.fm,.int T.dp,.int T.ls])])=d at r
 cases r with
 |@addr p z=>
  injection a with a
  injection a with a _
  injection a with _ a
  injection a with a
  injection a with a _
  injection a with a
  rw[nT.inj a]
 |dct=>
  injection a with a
  injection a with a _
  injection a with a _
  injection a with a
  exact c7 a (by decide +kernel)
 |_=>cases a
noncomputable def G0(T:Bk)(a b:V)(n:XA):List (Str×V):=[("form",a),("deep",.int T.dp),("least",.int T.ls),("numbered",.ref T.q),("following",.int n.fol),("standing",b)]
def JU(C:Addr)(T:Bk)(K:aI)(H:Hp)(ps:List Addr)(n:XA):Prop:=T.p≠T.q/\∃(a b:V)(kv:List (jN×V)),H T.p=some (.ins C T.dx (G0 T a b n))/\H T.q=some (.dK kv)/\gW K (mask H ps) T.fm a/\gW K (mask H ps) n.st b/\rT K (mask H ps) n.kvs kv
noncomputable def kX(C:Addr):sX where
 I:=Bk
 S:=XA
 ad:=λT=>[T.p,T.q]
 tau:=nQ
 At:=JU C
 to:=λ{T K H H' ps l6 n} h e s=>by
  obtain⟨d,f,g,kv,b,c,i,j,k⟩:=h;exact⟨d,f,g,kv,by rw[e T.p (by simp)];exact b,by rw[e T.q (by simp)];exact c,i.same s,j.same s,k.same s⟩
 liv:=λ{T K H ps n} h a ha=>by
  obtain⟨d,f,g,kv,b,c,_⟩:=h;rcases aP.mp ha with rfl | ha
  ·exact⟨_,b,rfl⟩
  ·rw[bM.mp ha];exact⟨_,c,rfl⟩
 inj:=iM
noncomputable def VQ(T:Bk)(n:XA):List (Str×D):=[("form",T.fm),("deep",.int T.dp),("least",.int T.ls),("following",.int n.fol),("standing",n.st)]
def aAc{K H}{T:Bk}{n:XA}{v1 v6 f y}(g:gW K H T.fm v1)(i:gW K H n.st v6)(h:(VQ T n).lookup f=some y):∃v,(G0 T v1 v6 n).lookup f=some v/\gW K H y v:=by
 by_cases a:f="form"
 ·subst a;cases h;exact⟨v1,rfl,g⟩
 by_cases b:f="deep"
 ·subst b;cases h;exact⟨_,rfl,.int _⟩
 by_cases c:f="least"
 ·subst c;cases h;exact⟨_,rfl,.int _⟩
 by_cases d:f="following"
 ·subst d;cases h;exact⟨_,rfl,.int _⟩
 by_cases e:f="standing"
 ·subst e;cases h;exact⟨_,rfl,i⟩
 refine c7 h ?_;unfold VQ;rw[dX,beq_eq_false_iff_ne.mpr a,dX,beq_eq_false_iff_ne.mpr b,dX,beq_eq_false_iff_ne.mpr c,dX,beq_eq_false_iff_ne.mpr d,dX,beq_eq_false_iff_ne.mpr e]
 exactλz=>nomatch z
section
variable{X:Cx}{C:Addr}{e i o value:Expr}{te ti:ET}{pos q9 gc n9:Pos}{f:Str}
def kL{K B H H1 p0 ps σT σ}{T T':Bk}{n v}(o:lU (kX C) K B p0 H ps σT σ T n)(s:bA H H1)(r:gW K (mask H1 ps) (nQ T') v)(h:nQ T'=nQ T) :
  v=.ref T.p/\JU C T K H1 ps n:=by
 cases iM h;exact⟨KY r,(o.grow s).tp⟩
def aNu(C:Addr)(f:Str)(te:ET):EZ (kX C):=λa n σ Q=>te σ λd=>d=a/\∃(T:Bk)(x:D),a=nQ T/\(VQ T n).lookup f=some x/\Q n x
def sJ(l:AL X.K C)(hn:gM X.K C f)(m:fY X e te)(hb:k7 e f X.env (eval e X.env)=eval e X.env:=by rfl):zN (F:=kX C) X (.Attribute e f pos) (aNu C f te):=by
 obtain⟨v,p,r⟩:=m;refine⟨_,TQ p hb,λB p0 H ps σT σ T n Q A o h k=>r B p0 H ps σT σ _ _ o.ok h λd x H1 s1 z u=>?_⟩;obtain⟨rfl,T',y,t,s,q⟩:=u;obtain⟨rfl,a⟩:=kL (T':=T) o s1 z rfl;cases iM t;obtain⟨E,J,L,kv,c,G,g,j,I⟩:=id a;obtain⟨w,hw,b⟩:=aAc g j s;exact⟨_,C,_,_,w,rfl,c,l,hn,hw,k n y w H1 (.of s1) a b q⟩
def wD(a:AL X.K C)(hn:gM X.K C "numbered"){v}(p:PE X e v)(hb:k7 e "numbered" X.env (eval e X.env)=eval e X.env:=by rfl):PE X (.Attribute e "numbered" pos) (aHh X.K v "numbered"):=TQ p hb
def aNr(C:Addr)(ti te:ET):TZ (kX C):=λa n σ Q=>ti σ λy=>∃j:Int,y=.int j/\te σ λd=>d=a/\Q n (oS n.kvs j).isNone
def RN(z:X.A.units+1<aq)(l:AL X.K C)(hn:gM X.K C "numbered")(hi:fY X i ti)(u:fY X e te)(hb:k7 e "numbered" X.env (eval e X.env)=eval e X.env:=by rfl)(hm:k8 .NotIn (.Attribute e "numbered" n9)=false:=by rfl) :
  N6 (F:=kX C) X (.Compare i [.NotIn] [.Attribute e "numbered" n9] pos) (aNr C ti te):=by
 obtain⟨v,p,r⟩:=u;obtain⟨Y,E,L⟩:=hi;refine⟨_,S6 (EJ z E (wD (pos:=n9) l hn p hb)) hm,λB p0 H ps σT σ T n Q N o h k=>?_⟩;refine L B p0 H ps σT σ _ _ o.ok h λy Z H1 s1 I g=>?_;obtain⟨j,rfl,g⟩:=g;cases I;refine r B p0 H1 ps σT σ _ _ (o.grow s1).ok g λd x m s2 J G=>?_;obtain⟨rfl,q⟩:=G;obtain⟨rfl,a⟩:=kL (T':=T) (o.grow s1) s2 J rfl;obtain⟨_,_,_,_,M,_⟩:=id a;refine⟨_,C,_,_,_,rfl,M,l,hn,rfl,?_⟩;obtain⟨O,U,W,kv,P,s,R,S,t⟩:=id a;refine⟨T.q,rC kv (.inl j),rfl,AK.k (k:=.inl j) s,_,rfl,k n _ m ((fR.of s1).trans (.of s2)) a ?_⟩;rcases t.val j with⟨b,c⟩ | ⟨d,w,b,c,_⟩
 ·rw[b]at q;rw[c];exact q
 ·rw[b]at q;rw[c];exact q
def aNt(C:Addr)(te ti:ET):EZ (kX C):=λa n σ Q=>te σ λd=>d=a/\ti σ λy=>∃(j:Int)(x:D),y=.int j/\oS n.kvs j=some x/\Q n x
def aFu(I:X.A.units+1<aq)(m:AL X.K C)(hn:gM X.K C "numbered")(G:fY X e te)(hi:fY X i ti)(hs:WT i:=by intro _ _;rfl)(hb:k7 e "numbered" X.env (eval e X.env)=eval e X.env:=by rfl) :
  zN (F:=kX C) X (.Subscript (.Attribute e "numbered" n9) i pos) (aNt C te ti):=by
 obtain⟨v,p,r⟩:=G;obtain⟨vi,J,O⟩:=hi;refine⟨_,F5 I (wD (pos:=n9) m hn p hb) J hs,λB p0 H ps σT σ T n Q R o h k=>?_⟩;refine r B p0 H ps σT σ _ _ o.ok h λd x H1 s1 M b=>?_;obtain⟨rfl,b⟩:=b;obtain⟨rfl,t⟩:=kL (T':=T) o s1 M rfl;obtain⟨_,_,_,_,P,_⟩:=id t;refine⟨_,C,_,_,_,rfl,P,m,hn,rfl,?_⟩;refine O B p0 H1 ps σT σ _ _ (o.grow s1).ok b λy yv s s2 N L=>?_;obtain⟨j,x,rfl,g,q⟩:=L;cases N;have c:=((o.grow s1).grow s2).tp;obtain⟨S,Z,v6,kv,U,z,W,Y,E⟩:=id c;rcases E.val j with⟨a,l⟩ | ⟨d,w,a,l,u⟩
 ·rw[g]at a;cases a
 ·rw[g]at a;cases a;refine⟨T.q,w,rfl,?_,k n x w s ((fR.of s1).trans (.of s2)) c u q⟩;have:=AK.k (k:=.inl j) z;rw[l]at this;exact this
def WL{K H ps}{T:Bk}{n kvs kv}(a:JU C T K H ps n)(b:T.q∈ps)(h:rT K (mask H ps) kvs kv):JU C T K (fS H T.q (.dK kv)) ps { n with kvs:=kvs }:=by
 obtain⟨c,k,l,m,d,p,g,j,r⟩:=a;refine⟨c,k,l,kv,by rw[bZ c];exact d,cE,?_,?_,?_⟩
 ·rw[eQ b];exact g
 ·rw[eQ b];exact j
 ·rw[eQ b];exact h
def EF{as H}{p:Addr}{u}(h:p∈as):fR as H (fS H p u):=λa o ne e=>by
 rw[bZ (show a≠p fromλz=>ne (by rw[z];exact h))];exact e
def lU.there{F:sX}{K B H p0 ps σT σ T n n'}(o:lU F K B p0 H ps σT σ T n){p:Addr}{u}(a:p∈F.ad T)(t:F.At T K (fS H p u) ps n'):lU F K B p0 (fS H p u) ps σT σ T n':=o.growX (EF a) t
def aNn(C:Addr)(te ti tv:ET):SZ (kX C):=λa DC n σ=>tv σ λx=>te σ λd=>d=a/\ti σ λy=>∃j:Int,y=.int j/\n.kvs.length<=100000/\DC.nx { n with kvs:=zY n.kvs j x } σ
def R5{tv}(E:X.A.units+1<aq)(l:AL X.K C)(hn:gM X.K C "numbered")(z:fY X e te)(hi:fY X i ti)(G:fY X value tv)(hs:mJ value (some (.Subscript (.Attribute e "numbered" n9) i q9)) pos.line X.env=pure false:=by rfl)(hb:k7 e "numbered" X.env (eval e X.env)=eval e X.env:=by rfl) :
  yP (F:=kX C) X (.Assign [.Subscript (.Attribute e "numbered" n9) i q9] value pos) (aNn C te ti tv):=by
 obtain⟨v,p,r⟩:=z;obtain⟨vi,I,P⟩:=hi;obtain⟨vv,pv,Q⟩:=G;refine⟨_,M1 E (wD (pos:=n9) l hn p hb) I pv hs,λB p0 H ps σT σ T n DC DV o h f=>?_⟩;refine Q B p0 H ps σT σ _ _ o.ok h λx S t a M J=>?_;refine r B p0 t ps σT σ _ _ (o.grow a).ok J λd xd H1 s1 N c=>?_;obtain⟨rfl,c⟩:=c;obtain⟨rfl,u⟩:=kL (T':=T) (o.grow a) s1 N rfl;obtain⟨_,_,_,_,R,_⟩:=id u;refine⟨_,C,_,_,_,rfl,R,l,hn,rfl,?_⟩;refine P B p0 H1 ps σT σ _ _ ((o.grow a).grow s1).ok c λy yv U s2 O L=>?_;obtain⟨j,rfl,hz,q⟩:=L;cases O;have b:=((o.grow a).grow s1).grow s2;obtain⟨W,v1,v6,kv,Y,w,Z,h4,g⟩:=id b.tp;have hL:bE=2^24:=rfl;refine⟨T.q,_,rfl,QO.k (k:=.inl j) (v:=S) w (by rw[<- g.length];lia),?_⟩;have m:T.q∈ps:=o.mem' T.q (by show T.q∈[T.p,T.q];simp);have s:=WL b.tp m (g.put (i:=j) (M.same (bG (s1.trans s2))));exact f.nx _ ps σT σ _ (b.there (by show T.q∈[T.p,T.q];simp) s) ((bG (a.trans (s1.trans s2))).trans (by rw[eQ m];exact L2.bA.refl _)) q
def WM{K H ps}{T:Bk}{n':XA}{v1 v6 kv}(b:T.p≠T.q)(c:H T.q=some (.dK kv))(d:gW K (mask H ps) T.fm v1)(g:gW K (mask H ps) n'.st v6)(h:rT K (mask H ps) n'.kvs kv)(a:T.p∈ps):JU C T K (fS H T.p (.ins C T.dx (G0 T v1 v6 n'))) ps n':=
 ⟨b,v1,v6,kv,cE,by rw[bZ (n8 b)];exact c,by rw[eQ a];exact d,by rw[eQ a];exact g,by rw[eQ a];exact h⟩
def aHb(C:Addr)(te tv:ET):SZ (kX C):=λa DC n σ=>te σ λd=>d=a/\tv σ λx=>∃j:Int,x=.int j/\DC.nx { n with fol:=n.fol+j } σ
def XY{tv}(A:AL X.K C)(hn:gM X.K C "following")(E:fY X e te)(G:fY X value tv):yP (F:=kX C) X (.AugAssign (.Attribute e "following" gc) .Add value pos) (aHb C te tv):=by
 obtain⟨v,p,r⟩:=E;obtain⟨O,pv,N⟩:=G;refine⟨_,OZ p pv aFh,λB p0 H ps σT σ T n DC DV o h f=>?_⟩;refine r B p0 H ps σT σ _ _ o.ok h λd xd H1 s1 L a=>?_;obtain⟨rfl,a⟩:=a;obtain⟨rfl,t⟩:=kL (T':=T) o s1 L rfl;obtain⟨s,g,k,kv,b,u,w,x,z⟩:=id t;refine⟨_,C,_,_,_,rfl,b,A,hn,rfl,?_⟩;refine N B p0 H1 ps σT σ _ _ (o.grow s1).ok a λy P m s2 M J=>?_;obtain⟨j,rfl,q⟩:=J;cases M;have I:=(o.grow s1).grow s2;have c:T.p∈ps:=o.mem' T.p (by show T.p∈[T.p,T.q];simp);refine⟨_,_,rfl,rfl,T.dx,G0 T g k n,s2 _ _ b,(aC rfl),?_⟩;have l:JU C T X.K (fS m T.p (.ins C T.dx (G0 T g k { n with fol:=n.fol+j }))) ps { n with fol:=n.fol+j }:=WM s (s2 _ _ u) (w.same (bG s2)) (x.same (bG s2)) (z.same (bG s2)) c;exact f.nx _ ps σT σ _ (I.there (by show T.p∈[T.p,T.q];simp) l) ((bG (s1.trans s2)).trans (by rw[eQ c];exact L2.bA.refl _)) q
def aG3(C:Addr)(te:ET)(tv:EZ (kX C)):SZ (kX C):=λa DC n σ=>tv a n σ λn1 x=>te σ λd=>d=a/\DC.nx { n1 with st:=x } σ
def XX{tv}(w:AL X.K C)(hn:gM X.K C "standing")(y:fY X e te)(z:zN X value tv)(hs:mJ value (some (.Attribute e "standing" q9)) pos.line X.env=pure false:=by rfl):yP (F:=kX C) X (.Assign [.Attribute e "standing" q9] value pos) (aG3 C te tv):=by
 obtain⟨v,p,r⟩:=y;obtain⟨P,pv,J⟩:=z;refine⟨_,wC p pv hs,λB p0 H ps σT σ T n DC DV o h f=>?_⟩;refine J B p0 H ps σT σ T n _ _ o h λn1 x M j c t0 G A=>?_;have a:=o.growX c t0;refine r B p0 j ps σT σ _ _ a.ok A λd xd H1 s1 I E=>?_;obtain⟨rfl,q⟩:=E;obtain⟨rfl,l⟩:=kL (T':=T) a s1 I rfl;obtain⟨k,L,O,kv,m,s,t,N,u⟩:=id l;have b:T.p∈ps:=o.mem' T.p (by show T.p∈[T.p,T.q];simp);refine⟨_,C,_,_,rfl,m,w,hn,(aC rfl),?_⟩;have g:JU C T X.K (fS H1 T.p (.ins C T.dx (G0 T L M { n1 with st:=x }))) ps { n1 with st:=x }:=WM k s t (G.same (bG s1)) u b;exact f.nx _ ps σT σ _ ((a.grow s1).there (by show T.p∈[T.p,T.q];simp) g) ((c.mask o.mem').trans ((bG s1).trans (by rw[eQ b];exact L2.bA.refl _))) q
end
end TL
namespace L2
open TL
section
variable{X:Cx}{pins:List (Addr×Obj)}{σ:St}{H H':Hp}{s:Shared}
def dI.laidM{h':Heap}{t':Nat}(I:dI X pins σ H s)(k:∀b u,s.heap.get? b=some u->h'.get? b=some u)(c:bA H H')(new:∀a o,H' a=some o->H a=none->s.heap.objs.size<=a/\iT X.prog X.w H' h' a o):dI X pins σ H' { s with heap:=h',toks:=t' }:=by
 refine I.un ⟨λb ob q _ _ _=>k b ob q,λb ob q _ _ _=>⟨ob.slots,k b ob q⟩,λb ob q n _=>?_,λb ob q _=>⟨ob,k b ob q⟩,λb xs q=>c _ _ q,λb o u q=>c _ _ q,λb ps q=>⟨#[],by rw[c _ _ q];simp⟩⟩ λa o e=>?_
 ·cases e:H' b with
  |none=>rfl
  |some o=>exact c7 (aY q) (HA.mpr (new b o e n).1)
 ·cases q:H a with
  |none=>exact(new a o e q).2
  |some u=>
   have d:=c _ _ q;rw[e]at d;cases d;exact(I.hok a o q).stay (λb v _ z=>k b v z) (λb z=>c _ _ z) (λb xs z=>c _ _ z) λb ob v z=>c _ _ z
end
theorem IV{d:Type}{b:Addr}{y:d}:∀{as:List Addr}{ys:List d}{j:Nat},as.Nodup->as[j]?=some b->ys[j]?=some y->(as.zip ys).lookup b=some y
|[],_,j,_,h,_=>by simp at h
|a::as,[],j,_,_,h=>by simp at h
|a::as,z::ys,0,_,h1,h2=>by
 simp at h1 h2;subst h1 h2;simp[kF]
|a::as,z::ys,j+1,nd,h1,h2=>by
 rw[iZ]at nd;have c:as[j]?=some b:=by simpa using h1
 have f:ys[j]?=some y:=by simpa using h2
 have ne:(b==a)=false:=beq_eq_false_iff_ne.mpr λe=>nd.1 (e▸bH c);rw[Q9,dX,ne];exact IV nd.2 c f
theorem B9{c:Type}{b:Addr}{y:c}:∀{as:List Addr}{ys:List c},(as.zip ys).lookup b=some y->∃j:Nat,as[j]?=some b/\ys[j]?=some y
|[],_,h=>by simp[kF]at h
|a::as,[],h=>by simp[kF]at h
|a::as,z::ys,h=>by
 rw[Q9,dX]at h
 cases e:(b==a)with
 |true=>
  rw[e]at h;have d:b=a:=gj e;exact⟨0,by simp[d],by simpa using h⟩
 |false=>
  rw[e]at h;obtain⟨j,f,g⟩:=B9 h;exact⟨j+1,by simpa using f,by simpa using g⟩
end L2
namespace TL
open L2
theorem yW{K H}:∀{ds:List D}{vs:List V},ds.length=vs.length->(∀(j:Nat)(d:D)(v:V),ds[j]?=some d->vs[j]?=some v->gW K H d v)->Reps K H ds vs
|[],[],_,_=>.nil
|[],_::_,h,_=>by simp at h
|_::_,[],h,_=>by simp at h
|d::ds,v::vs,h,k=>.cons (k 0 d v rfl rfl) (yW (by simpa using h) λj d' c a b=>k (j+1) d' c (by simpa using a) (by simpa using b))
end TL
namespace L2
open TL
noncomputable def D6(v p:Addr):HO:=.ext λh=>h.IsValuesView v p
noncomputable def D7(v p:Addr):HO:=.ext λh=>h.IsItemsView v p
theorem NL{a:Type}:∀{kvs:List (a×V)}{vs:List (a×Value)},KV kvs vs->fM (kvs.map (·.2)) (vs.map (·.2))
|_,_,.nil=>.nil
|_,_,.cons r t=>.cons r.2 (NL t)
theorem UZ{e:Type}:∀{kvs:List (e×V)}{vs:List (e×Value)}{j:Nat}{k:e}{x},KV kvs vs->vs[j]?=some (k,x)->∃v,kvs[j]?=some (k,v)/\fU v x
|_,_,_,_,_,.nil,h=>by simp at h
| (a,v)::_,(b,y)::_,0,k,x,.cons r t,h=>by
 simp at h;obtain⟨c,d⟩:=h;obtain⟨f,g⟩:=r;dsimp only at f g;subst c d f;exact⟨v,rfl,g⟩
|_::_,_::_,j+1,k,x,.cons r t,h=>by
 obtain⟨v,c,d⟩:=UZ (j:=j) t (by simpa using h);exact⟨v,by simpa using c,d⟩
def NO{P w k u}(h:(fH P w).is k u=true):fU (kV k) u:=by
 rcases jG h with⟨i,t,rfl,rfl⟩ | ⟨x,t,rfl,rfl⟩<;>exact⟨t,rfl⟩
section
variable{X:Cx}
def LC:Q5 X "dict.values" (λx xs H Q=>xs=[]/\∃(p:Addr)(kvs:List (jN×V)),x=.ref p/\H p=some (.dK kvs)/\∀v,H v=none->Q (.ref v) (fS H v (D6 v p))):=by
 intro pins s σ H x xs v us Q I b r h;obtain⟨rfl,p,kvs,rfl,a,q⟩:=h;cases b;cases r;obtain⟨z,hd,vs,c,dd⟩:=zJ I.hok a;refine uu D2 dd.typeIs PySem.F.entry_dict_values (PySem.F.args_dict_values_1 _) (meets_dict_values (fH X.prog X.w) p hd) ⟨⟨vs,dd⟩,?_⟩;exact⟨.ref s.heap.objs.size,_,I.laid (t':=s.toks) (o:=D6 s.heap.objs.size p) (λ_ _ e=>aG _ e) (aN _) ⟨⟨_,aZ _ rfl,rfl,rfl⟩,⟨_,aZ _ rfl⟩,λd f ⟨o,e,r⟩ k=>⟨o,k _ e,r⟩⟩,rfl,q _ (I.hok.fresh (aN _))⟩
def PB:Q5 X "dict.items" (λx xs H Q=>xs=[]/\∃(p:Addr)(kvs:List (jN×V)),x=.ref p/\H p=some (.dK kvs)/\∀v,H v=none->Q (.ref v) (fS H v (D7 v p))):=by
 intro pins s σ H x xs v us Q I b r h;obtain⟨rfl,p,kvs,rfl,a,q⟩:=h;cases b;cases r;obtain⟨z,hd,vs,c,dd⟩:=zJ I.hok a;refine uu FJ dd.typeIs PySem.F.entry_dict_items (PySem.F.args_dict_items_1 _) (meets_dict_items (fH X.prog X.w) p hd) ⟨⟨vs,dd⟩,?_⟩;exact⟨.ref s.heap.objs.size,_,I.laid (t':=s.toks) (o:=D7 s.heap.objs.size p) (λ_ _ e=>aG _ e) (aN _) ⟨⟨_,aZ _ rfl,rfl,rfl⟩,⟨_,aZ _ rfl⟩,λd f ⟨o,e,r⟩ k=>⟨o,k _ e,r⟩⟩,rfl,q _ (I.hok.fresh (aN _))⟩
def NH:Q5 X "dict.pop" (λx xs H Q=>∃(p:Addr)(kvs:List (jN×V))(k:jN)(v:V),x=.ref p/\xs=[kV k]/\H p=some (.dK kvs)/\rC kvs k=some v/\Q v (fS H p (.dK (lT kvs k)))):=by
 intro pins s σ H x xs v us Q I f r h;obtain⟨p,kvs,k,y,rfl,rfl,c,b,q⟩:=h;cases f;obtain⟨u,rfl,e⟩:=nV r;exact aMa I c e b (.inl rfl) λg s' a d=>⟨y,_,a,d,q⟩
def FB:kE X (.builtin "len") (λxs H Q=>∃(p:Addr)(kvs:List (jN×V)),xs=[.ref p]/\H p=some (.dK kvs)/\Q (.int kvs.length) H):=by
 intro pins s σ H xs us Q I r h;obtain⟨p,kvs,rfl,b,q⟩:=h;obtain⟨u,rfl,c⟩:=nV r;cases c;exact aMb I (.inl b) λt s2 a=>⟨.int kvs.length,H,a,⟨t,rfl⟩,q⟩
def AC(m:X.calm=true):kE X (.type "list") (λxs H Q=>∃(v p:Addr)(kvs:List (jN×V)),xs=[.ref v]/\H v=some (D6 v p)/\H p=some (.dK kvs)/\∀l,H l=none->Q (.ref l) (fS H l (.lst (kvs.map (·.2))))):=by
 intro pins s σ H xs us Q I r h;obtain⟨v,p,kvs,rfl,t,o,q⟩:=h;obtain⟨u,rfl,x⟩:=nV r;cases x;obtain⟨g,_⟩:=I.hok v _ t;obtain⟨z,hd,vs,f,dd⟩:=zJ I.hok o;obtain⟨ep,i⟩:=dd.dictAt;have y:=f.length;refine PySem.W.kdl_call (PySem.W.kdl_values (knd:=fH X.prog X.w) (r:=v) (d:=p) (kvs:=vs) (ep:=ep)) (I.ok.hd m) ⟨g,i⟩ (by lia) λh' tk a c kp k b=>?_;have n:a.toList=vs.map (·.2):=PySem.W.kdl_vals_eq _ (by rw[fG];exact b.1) λj v e=>b.2 j v (by rw[<- jO];exact e);exact⟨.ref s.heap.objs.size,_,I.laid (t':=tk) kp (aN _) (show iT X.prog X.w _ h' _ (.lst (kvs.map (·.2)))from⟨by rw[aB];exact z,a.toList,c,by rw[n];exact NL f,by simpa using k⟩),rfl,q _ (I.hok.fresh (aN _))⟩
def yN(hc:X.calm=true):kE X (.type "list") (λxs H Q=>∃(v p:Addr)(kvs:List (jN×V)),xs=[.ref v]/\H v=some (D7 v p)/\H p=some (.dK kvs) /\
  ∀(as:List Addr)(l:Addr)H',bA H H'->H l=none->as.length=kvs.length->(∀(j:Nat)(a:Addr)(e:jN×V),as[j]?=some a->kvs[j]?=some e->H a=none/\H' a=some (.tup [kV e.1,e.2]))->H' l=some (.lst (as.map V.ref))->Q (.ref l) H'):=by
 intro pins s σ H xs us Q I r h;obtain⟨v,p,kvs,rfl,hv,hp,q⟩:=h;obtain⟨u,rfl,rx⟩:=nV r;cases rx;obtain⟨R,_⟩:=I.hok v _ hv;obtain⟨z,hd,vs,M,dd⟩:=zJ I.hok hp;obtain⟨ep,Y⟩:=dd.dictAt;have hsz:=M.length;refine PySem.W.kdx_call (knd:=fH X.prog X.w) (r:=v) (d:=p) (kvs:=vs) (ep:=ep) (I.ok.hd hc) R Y (by lia) λh' tk E c as kk O wu g L=>?_;have nd:as.Nodup:=g.rise.imp λh=>cI h
 generalize F:s.heap.objs.size=l at *
 let A:List HO:=kvs.map λe=>HO.tup [kV e.1,e.2]
 let H':Hp:=λb=>if b=l then some (.lst (as.map V.ref))else match(as.zip A).lookup b with | some o=>some o | none=>H b
 have B:∀a,l<=a->H a=none:=λa ha=>I.hok.fresh (by rw[F];exact ha)
 have K:∀(j:Nat)(a:Addr)(e:jN×V),as[j]?=some a->kvs[j]?=some e->H' a=some (.tup [kV e.1,e.2]):=λj a e f m=>by
  have na:a≠l:=gS (g.above a (bH f));show(if a=l then _ else _)=_;rw[a8 na,IV nd f (y:=HO.tup [kV e.1,e.2]) (by show(kvs.map _)[j]?=_;rw[aL,m];rfl)]
 have J:bA H H':=λb o e=>by
  have nb:¬l<=b:=λz=>by rw[B b z]at e;cases e
  show(if b=l then _ else _)=_;rw[a8 (show¬b=l fromλz=>nb (lR z.symm))]
  cases t:(as.zip A).lookup b with
  |none=>exact e
  |some y=>
   obtain⟨j,f,_⟩:=B9 t;exact c7 (iE (g.above b (bH f))) nb
 have C:H' l=some (.lst (as.map V.ref)):=b8 rfl;refine⟨.ref l,H',I.laidM (t':=tk) kk J λa o e n=>?_,rfl,q as l H' J (B l (aN _)) (by lia) (λj a e f m=>⟨B a (iE (g.above a (bH f))),K j a e f m⟩) C⟩;have hL:bE=2^24:=rfl;by_cases N:a=l
 ·subst N;rw[C]at e;cases e;refine⟨by rw[F];exact aN _,by rw[aB];lia,E.toList,c,?_,by simpa using O⟩;rw[L];clear L g nd A H' B K J C q O wu
  induction as with
  |nil=>exact .nil
  |cons x as ih=>exact .cons rfl ih
 ·have i:(match(as.zip A).lookup a with | some o=>some o | none=>H a)=some o:=by
   have:=e;show _=_;rw[<- this];exact(a8 N).symm
  cases t:(as.zip A).lookup a with
  |none=>rw[t]at i;rw[n]at i;cases i
  |some y=>
   rw[t]at i;cases i;obtain⟨j,f,m⟩:=B9 t;obtain⟨G,k,x,S,T,U⟩:=g.pairs j a f;obtain⟨y,Z,e2⟩:=UZ M S;have P:(kvs.map λe=>HO.tup [kV e.1,e.2])[j]?=some o:=m;rw[aL,Z]at P;cases P;exact⟨by rw[F];exact iE (g.above a (bH f)),by show 2<=bE;lia,[G,x],.cons (NO T) (.cons e2 .nil),⟨_,U,rfl,_,rfl,rfl⟩⟩
end
end L2
namespace TL
open L2
section
variable{X:Cx}{C:Addr}{e i:Expr}{es:List Expr}{te ti:ET}{pos n9 ag cg:Pos}
def aNs(C:Addr)(te:ET):EZ (kX C):=λa n σ Q=>te σ λd=>d=a/\Q n (.int n.kvs.length)
def aFt{g}(b:AL X.K C)(hn:gM X.K C "numbered")(l:fY X e te)(hb:k7 e "numbered" X.env (eval e X.env)=eval e X.env:=by rfl)
  (pc:∀{v},PE X (.Attribute e "numbered" cg) v->PE X (.Call g [.Attribute e "numbered" cg] [] pos) (Q0 (λxs H Q=>∃(p:Addr)(kvs:List (jN×V)),xs=[.ref p]/\H p=some (.dK kvs)/\Q (.int kvs.length) H) (wU v DM))) :
  zN (F:=kX C) X (.Call g [.Attribute e "numbered" cg] [] pos) (aNs C te):=by
 obtain⟨v,p,r⟩:=l;refine⟨_,pc (wD (pos:=cg) b hn p hb),λB p0 H ps σT σ T n Q t o h k=>r B p0 H ps σT σ _ _ o.ok h λd x H1 s1 s m=>?_⟩;obtain⟨rfl,q⟩:=m;obtain⟨rfl,a⟩:=kL (T':=T) o s1 s rfl;obtain⟨u,z,A,kv,c,f,w,y,j⟩:=id a;refine⟨_,C,_,_,_,rfl,c,b,hn,rfl,T.q,kv,rfl,f,?_⟩;rw[<- j.length];exact k n _ _ H1 (.of s1) a (.int _) q
def aNo(C:Addr)(te ti:ET):EZ (kX C):=λa n σ Q=>te σ λd=>d=a/\ti σ λy=>∃(j:Int)(x:D),y=.int j/\oS n.kvs j=some x/\Q { n with kvs:=zI n.kvs j } x
def aFs(f:AL X.K C)(hn:gM X.K C "numbered")(E:fY X e te)(hi:fY X i ti)(hb:k7 e "numbered" X.env (eval e X.env)=eval e X.env:=by rfl)
  (pc:∀{v va},PE X (.Attribute e "numbered" cg) v->PE X i va->PE X (.Call (.Attribute (.Attribute e "numbered" cg) "pop" n9) [i] [] ag) (Q1 X.K "dict" (λx xs H Q=>∃(p:Addr)(kvs:List (jN×V))(k:jN)(v:V),x=.ref p/\xs=[kV k]/\H p=some (.dK kvs)/\rC kvs k=some v/\Q v (fS H p (.dK (lT kvs k)))) v (wU va DM))) :
  zN (F:=kX C) X (.Call (.Attribute (.Attribute e "numbered" cg) "pop" n9) [i] [] ag) (aNo C te ti):=by
 obtain⟨v,p,r⟩:=E;obtain⟨vi,I,O⟩:=hi;refine⟨_,pc (wD (pos:=cg) f hn p hb) I,λB p0 H ps σT σ T n Q S o h k=>r B p0 H ps σT σ _ _ o.ok h λd x H1 s1 M J=>?_⟩;obtain⟨rfl,q⟩:=J;obtain⟨rfl,u⟩:=kL (T':=T) o s1 M rfl;obtain⟨_,_,_,t,P,G,_⟩:=id u;refine⟨_,C,_,_,_,rfl,P,f,hn,rfl,.inr (.inr (.inl ⟨rfl,.inl ⟨t,G⟩⟩)),?_⟩;refine O B p0 H1 ps σT σ _ _ (o.grow s1).ok q λy yv R s2 N L=>?_;obtain⟨j,x,rfl,g,q⟩:=L;cases N;have m:=(o.grow s1).grow s2;obtain⟨U,v1,v6,kv,W,A,Y,Z,c⟩:=id m.tp;have l:T.q∈ps:=o.mem' T.q (by show T.q∈[T.p,T.q];simp);rcases c.val j with⟨a,b⟩ | ⟨d,w,a,b,z⟩
 ·rw[g]at a;cases a
 ·rw[g]at a;cases a;refine⟨T.q,kv,.inl j,w,rfl,rfl,A,b,?_⟩;have s:=WL m.tp l (c.drop j);exact k _ x w _ (((fR.of s1).trans (.of s2)).trans (EF (by show T.q∈[T.p,T.q];simp))) s (z.same (by rw[eQ l];exact L2.bA.refl _)) q
def aGy(C:Addr)(te:ET):EZ (kX C):=λa n σ Q=>te σ λd=>d=a/\Q n (.list (n.kvs.map (·.2)))
def aAe{g}(j:AL X.K C)(hn:gM X.K C "numbered")(w:fY X e te)(hb:k7 e "numbered" X.env (eval e X.env)=eval e X.env:=by rfl)
  (pc:∀{v:TE},PE X (.Attribute e "numbered" cg) v->PE X (.Call g [.Call (.Attribute (.Attribute e "numbered" cg) "values" n9) [] [] ag] [] pos) (Q0 (λxs H Q=>∃(v p:Addr)(kvs:List (jN×V)),xs=[.ref v]/\H v=some (D6 v p)/\H p=some (.dK kvs)/\∀l,H l=none->Q (.ref l) (fS H l (.lst (kvs.map (·.2)))))
   (wU (aDw X.K "dict" (λx xs H Q=>xs=[]/\∃(p:Addr)(kvs:List (jN×V)),x=.ref p/\H p=some (.dK kvs)/\∀v,H v=none->Q (.ref v) (fS H v (D6 v p))) v) DM))) :
  zN (F:=kX C) X (.Call g [.Call (.Attribute (.Attribute e "numbered" cg) "values" n9) [] [] ag] [] pos) (aGy C te):=by
 obtain⟨v,p,r⟩:=w;refine⟨_,pc (wD (pos:=cg) j hn p hb),λB p0 H ps σT σ T n Q A o h k=>r B p0 H ps σT σ _ _ o.ok h λd x H1 s1 z y=>?_⟩;obtain⟨rfl,q⟩:=y;obtain⟨rfl,f⟩:=kL (T':=T) o s1 z rfl;obtain⟨E,J,L,kv,t,a,G,I,u⟩:=id f;refine⟨_,C,_,_,_,rfl,t,j,hn,rfl,.inr (.inr (.inl ⟨rfl,.inl ⟨kv,a⟩⟩)),rfl,T.q,kv,rfl,a,λc b=>?_⟩;refine⟨c,T.q,kv,rfl,cE,by rw[bZ (eP a b)];exact a,λl m=>?_⟩;have s2:bA H1 (fS (fS H1 c (D6 c T.q)) l (.lst (kv.map (·.2)))):=(dH b).trans (dH m);have s:l∉ps:=hU (o.grow s1).ok.live (bA.free' (dH b) m);exact k n _ _ _ (.of (s1.trans s2)) (sX.At.grow (F:=kX C) f s2) (.list (nB.of (kI s cE)) (u.vals.same (bG s2))) q
theorem rT.at{K H}:∀{a b}{j:Nat}{e:Int×D},rT K H a b->a[j]?=some e->∃v,b[j]?=some (.inl e.1,v)/\gW K H e.2 v
|_,_,_,_,.nil,h=>by simp at h
|_,_,0,_,.cons r t,h=>by simp at h;subst h;exact⟨_,rfl,r⟩
|_,_,j+1,_,.cons r t,h=>by
 obtain⟨v,c,d⟩:=t.at (j:=j) (by simpa using h);exact⟨v,by simpa using c,d⟩
def aDf(C:Addr)(sp:HH (kX C))(te:ET)(t:AZ (kX C)):EZ (kX C):=λa n σ Q=>te σ λd=>d=a/\t a n σ λn1 ds=>sp a n1 (a::ds) Q
noncomputable def L4:List Str:=["form","deep","least","numbered","following","standing"]
def vA{T v1 v6 n m}(h:m∉L4):(G0 T v1 v6 n).lookup m=none:=zB h
def qE{m sp t}(hm:m∉L4)(l:fY X e te)(ha:QN X (i::es) t)
  (pc:∀{v ta},PE X e v->PA X (i::es) ta->PE X (.Call (.Attribute e m n9) (i::es) [] pos) (BG C m (mH X.K sp) [] E0 v ta)):zN X (.Call (.Attribute e m n9) (i::es) [] pos) (aDf C sp te t):=by
 obtain⟨v,s,re⟩:=l;obtain⟨F,r,E⟩:=ha;refine⟨_,pc s r,λB p0 H ps σT σ T n Q f o h k=>re B p0 H ps σT σ _ _ o.ok h λd x H1 s1 z a=>?_⟩;obtain⟨rfl,a⟩:=a;obtain⟨rfl,g⟩:=kL (T':=T) o s1 z rfl;obtain⟨_,_,_,_,j,_⟩:=id g;refine⟨_,_,_,rfl,j,vA hm,E B p0 H1 ps σT σ T n _ _ (o.grow s1) a λq as xs c s2 b A w=>?_⟩;show mH X.K sp (.ref T.p::(xs++[])) c f E0;rw[cJ];exact⟨ps,T,q,nQ T::as,Q,((o.grow s1).growX s2 b).ok.live,o.mem',b,.cons (wA T) A,w,λn' d v H' s' t' y u=>k n' d v H' (((fR.of s1).trans s2).trans s') t' y u⟩
def VW{m sp}(hm:m∉L4)(g:fY X e te)
  (pc:∀{v},PE X e v->PE X (.Call (.Attribute e m n9) [] [] pos) (BG C m (mH X.K sp) [] E0 v DM)):zN X (.Call (.Attribute e m n9) [] [] pos) (aDf C sp te aG5):=by
 obtain⟨v,j,re⟩:=g;refine⟨_,pc j,λB p0 H ps σT σ T n Q c o h k=>re B p0 H ps σT σ _ _ o.ok h λd x H1 s1 r a=>?_⟩;obtain⟨rfl,a⟩:=a;obtain⟨rfl,b⟩:=kL (T':=T) o s1 r rfl;obtain⟨_,_,_,_,f,_⟩:=id b;refine⟨_,_,_,rfl,f,vA hm,?_⟩;show mH X.K sp (.ref T.p::([]++[])) H1 c E0;exact⟨ps,T,n,[nQ T],Q,(o.grow s1).ok.live,o.mem',b,.cons (wA T) .nil,a,λn' d v H' s' t' q l=>k n' d v H' ((fR.of s1).trans s') t' q l⟩
def aG8{F:sX}(te:EZ F):SZ F:=λa DC n σ=>te a n σ λn1 _=>DC.nx n1 σ
def pY{F}{te:EZ F}(h:zN X e te)(p:∀{v:TE},PE X e v->PS X (.Expr e pos) (yU v)):yP X (.Expr e pos) (aG8 te):=by
 obtain⟨v,a,r⟩:=h;refine⟨_,p a,λB p0 H ps σT σ T n DC DV o h f=>r B p0 H ps σT σ T n _ _ o h λn1 d x H1 s1 c g b=>?_⟩;exact f.nx H1 ps σT σ n1 (o.growX s1 c) (s1.mask o.mem') b
end
section
variable{K:aI}{B B' H:Hp}{p0 ps:List Addr}{σT:List Sl}{σ:L2.St}
def Ok.less(o:Ok K B p0 H ps σT σ)(hs:bA B' B):Ok K B' p0 H ps σT σ where
 base:=hs.trans o.base
 sub:=o.sub
 live:=o.live
 len:=o.len
 val:=o.val
 own:=λi ts h=>let ⟨p,xs,h1,h2,h3,h4⟩:=o.own i ts h;⟨p,xs,h1,h2,bA.free' hs h3,h4⟩
 dis:=o.dis
 dc:=o.dc.to (λ_ _ _ h=>⟨h,rfl⟩) (λ_ _ a _ _=>⟨a,rfl⟩) (λ_ _ _ _ a b=>⟨bA.free' hs a,b⟩) (L2.bA.refl _)
def Ok.pokeI(o:Ok K B p0 H ps σT σ){p C dx:Addr}{fs u}(c:p∈ps)(n:B p=none)(r:H p=some (.ins C dx fs))(hn:∀(j:Nat)(hs:List Int)(kvs:List (D×D)),σT[j]?≠some (.dic hs kvs))(t:U5 u=false:=by rfl):Ok K B p0 (fS H p u) ps σT σ where
 base:=λb w e=>by
  rw[bZ λz=>by rw[z,n]at e;cases e];exact o.base b w e
 sub:=o.sub
 live:=λq s=>by
  by_cases e:q=p
  ·subst e;rw[cE];exact⟨_,rfl,t⟩
  ·rw[bZ e];exact o.live q s
 len:=o.len
 val:=λi d h=>by rw[eQ c];exact o.val i d h
 own:=λi ts h=>by
  rw[eQ c];obtain⟨q,xs,f,g,k,l,a,m⟩:=o.own i ts h;exact⟨q,xs,f,g,k,l,by rw[bZ λz=>by rw[z,r]at a;cases a];exact a,m⟩
 dis:=o.dis
 dc:=λi hs kvs h=>c7 h (hn i hs kvs)
def HS{N ds}(j:Nat)(hs:List Int)(kvs:List (D×D)):(iH N ds)[j]?≠some (.dic hs kvs):=λh=>by
 have hm:=bH h;unfold iH at hm;rcases dQ.mp hm with hm | hm
 ·obtain⟨_,_,z⟩:=bC.mp hm;cases z
 ·have z:=(List.mem_replicate.mp hm).2;cases z
end
def aLo(K:aI)(a:TE):TS:=OO (KR K (qM 0) (qM 1) "form") (OO (KR K (qM 0) (qM 2) "deep") (OO (KR K (qM 0) (qM 3) "least") (OO (KR K (qM 0) R3 "numbered") (OO (KR K (qM 0) (tC (.int 0)) "following") (KR K (qM 0) a "standing")))))
noncomputable def EE(x:Addr):D:=.dict [(.str "@",.list [.int (x:Nat)])]
def GA(C:Addr)(K:aI)(sp:oX):Sp:=λvs H Q _=>∃(x dx:Addr)(a:V)(dp ls:Int)(ps:List Addr)(fm:D)(b:D->Prop),vs=[.ref x,a,.int dp,.int ls]/\x∈ps/\H x=some (.ins C dx [])/\(∀p∈ps,yQ (H p))/\gW K (mask H ps) fm a/\sp [fm,.int dp,.int ls] b /\
 ∀(q:Addr)(st:D)(c:V)H',bA (mask H [x]) H'->q≠x->H q=none->H' q=some (.dK [])->H' x=some (.ins C dx (G0 ⟨x,q,dx,fm,dp,ls⟩ a c ⟨[],0,st⟩))->gW K (mask H' (q::ps)) st c->b st->Q .non H'
def fnB{P w K}{mg:Str->Option Value}{base}{C:Addr}{x qual:Str}{st}{f:Addr}{fd}{N pn:List Str}{k:Nat}{sp:oX}(B:J6 K x qual st f fd)(S:bW N pn (bB st))(J:pn.length=4)
  (d:AL K C) (n1:gM K C "form") (M:gM K C "deep") (O:gM K C "least") (n4:gM K C "numbered") (n5:gM K C "following") (R:gM K C "standing")
  (w6:∀(t6:Value)(A:g9)outer(s:Shared)H E,gR k (A.deeper (l3 qual (bB st) s.heap.objs.size f t6))->∀(z fm:D)(dp ls:Int)(Q:D->Prop),sp [fm,.int dp,.int ls] Q ->
   ∃(e:Expr)(t:ET),fY (qP iL P w K mg base N qual (bB st) f t6 A outer s H E).nox e t/\(∀{v},PE (qP iL P w K mg base N qual (bB st) f t6 A outer s H E).nox e v->AG (qP iL P w K mg base N qual (bB st) f t6 A outer s H E).nox (lD st) (aLo K v))/\t (iH N [z,fm,.int dp,.int ls]) Q):dP P w K mg base iL (k+1) f fd pn (GA C K sp):=by
 refine B.ok S (λvs H Q E h=>?_) λt6 A outer s H vs Q E L h=>?_
 ·obtain⟨x,dx,a,dp,ls,ps,fm,m,rfl,_⟩:=h;exact J.symm
 ·obtain⟨x,dx,a,dp,ls,ps,fm,m,rfl,j,hi,live,r1,q,k⟩:=h;obtain⟨e,t,⟨vv,pe,re⟩,pp,h⟩:=w6 t6 A outer s H E L (EE x) fm dp ls m q;refine⟨_,pp pe,?_⟩;have sB:bA (mask H [x]) H:=bU;have c:mask H [x] x=none:=by unfold mask;rw[b8 (bM.mpr rfl)]
  have T:Ok K (mask H [x]) ps H ps (iH N [EE x,fm,.int dp,.int ls]) (L2.lZ N [.ref x,a,.int dp,.int ls]):=(oJ (N:=N) live (.cons (.addr _) (.cons r1 (.cons (.int _) (.cons (.int _) .nil))))).less sB;have nd:=HS (N:=N) (ds:=[EE x,fm,.int dp,.int ls]);have g0:(L2.lZ N [.ref x,a,.int dp,.int ls])[0]?=some (some (.ref x)):=rfl;have F:(L2.lZ N [.ref x,a,.int dp,.int ls])[1]?=some (some a):=rfl;have G:(L2.lZ N [.ref x,a,.int dp,.int ls])[2]?=some (some (.int dp)):=rfl;have I:(L2.lZ N [.ref x,a,.int dp,.int ls])[3]?=some (some (.int ls)):=rfl;have U:=T.pokeI (u:=.ins C dx [("form",a)]) j c hi nd;have W:=U.pokeI (u:=.ins C dx [("form",a),("deep",.int dp)]) j c cE nd;have X:=W.pokeI (u:=.ins C dx [("form",a),("deep",.int dp),("least",.int ls)]) j c cE nd;refine⟨a,F,.ref x,g0,x,C,dx,[],rfl,hi,d,n1,(aC rfl),?_⟩;refine⟨.int dp,G,.ref x,g0,x,C,dx,_,rfl,cE,d,M,(aC rfl),?_⟩;refine⟨.int ls,I,.ref x,g0,x,C,dx,_,rfl,cE,d,O,(aC rfl),?_⟩;intro q g;have b:q≠x:=λz=>by rw[z]at g;rw[cE]at g;cases g
  have Y:=X.adopt (u:=.dK []) g;have i:x∈q::ps:=aJ _ j;have n:fS (fS (fS (fS H x (.ins C dx [("form",a)])) x (.ins C dx [("form",a),("deep",.int dp)])) x (.ins C dx [("form",a),("deep",.int dp),("least",.int ls)])) q (.dK []) x=some (.ins C dx [("form",a),("deep",.int dp),("least",.int ls)]):=by rw[bZ (n8 b)];exact cE
  have Z:=Y.pokeI (u:=.ins C dx [("form",a),("deep",.int dp),("least",.int ls),("numbered",.ref q)]) i c n nd;have r:=Z.pokeI (u:=.ins C dx [("form",a),("deep",.int dp),("least",.int ls),("numbered",.ref q),("following",.int 0)]) i c cE nd;refine⟨.ref x,g0,x,C,dx,_,rfl,n,d,n4,(aC rfl),?_⟩;refine⟨.ref x,g0,x,C,dx,_,rfl,cE,d,n5,(aC rfl),?_⟩;refine re _ ps _ (q::ps) _ _ _ _ r h λst y H6 l r6 q6=>?_;have p:=l _ _ (cE (o:=HO.ins C dx [("form",a),("deep",.int dp),("least",.int ls),("numbered",.ref q),("following",.int 0)]));have o7:=(r.grow l).pokeI (u:=.ins C dx (G0 ⟨x,q,dx,fm,dp,ls⟩ a y ⟨[],0,st⟩)) i c p nd;refine⟨.ref x,g0,x,C,dx,_,rfl,p,d,R,(aC rfl),?_⟩;refine k q st y _ o7.base b ?_ ?_ cE (r6.same (by rw[eQ i];exact L2.bA.refl _)) q6
  ·rw[bZ b,bZ b,bZ b]at g;exact g
  ·rw[bZ b];exact l _ _ (by rw[bZ b,bZ b];exact cE)
section
variable{K:aI}{B H H':Hp}{p0 ps as:List Addr}{σT:List Sl}{σ:L2.St}
def Ok.wide(o:Ok K B p0 H ps σT σ)(s:bA H H')(hn:∀a∈as,H a=none)(r:∀a∈as,yQ (H' a)):Ok K B (as++p0) H' (as++ps) σT σ:=by
 have hm:bA (mask H ps) (mask H' (as++ps)):=λb u e=>by
  unfold mask at e |-
  by_cases hb:b∈ps
  ·rw[b8 hb]at e;cases e
  ·rw[a8 hb]at e;rw[a8 λz=>(dQ.mp z).elim (λz=>by rw[hn b z]at e;cases e) hb];exact s b u e
 refine⟨o.base.trans s,λp l=>(dQ.mp l).elim (λz=>pC _ z) λz=>cZ _ (o.sub p z),λp l=>?_,o.len,λi d h=>?_,λi ts h=>?_,o.dis,?_⟩
 ·rcases dQ.mp l with z | z
  ·exact r p z
  ·obtain⟨u,f,g⟩:=o.live p z;exact⟨u,s p u f,g⟩
 ·obtain⟨v,f,g⟩:=o.val i d h;exact⟨v,f,g.same hm⟩
 ·obtain⟨p,xs,f,g,m,n,k,q⟩:=o.own i ts h;exact⟨p,xs,f,cZ _ g,m,λz=>(dQ.mp z).elim (λz=>by rw[hn p z]at k;cases k) n,s _ _ k,q.same hm⟩
 ·exact o.dc.to (λj hs kvs h=>⟨h,rfl⟩) (λp φ a b _=>⟨cZ _ a,(s p _ b).trans b.symm⟩) (λp φ _ b c d=>⟨c,λz=>(dQ.mp z).elim (λz=>by rw[hn p z]at b;cases b) d⟩) hm
end
section
variable{X:Cx}{C:Addr}{e:Expr}{es:List Expr}{x y:Str}{px p pos gy:Pos}{t:AT}{jW:List Stmt}{sp:oX}
def aDy{i:Nat}{u:SZ (kX C)}(ha:wQ X (e::es) t)(pc:∀{ta},PA X (e::es) ta->PS X (.Assign [.Name y px] (.Call (.Name x p) (e::es) [] pos) gy) (tF (aBl C (GA C X.K sp) [] E0 ta) (kP i)))(W:pH X jW u) :
  sV X (.Assign [.Name y px] (.Call (.Name x p) (e::es) [] pos) gy::jW) (λDT σ=>t σ λds=>∃(fm:D)(dp ls:Int),ds=[fm,.int dp,.int ls]/\sp ds λst=>∀T:Bk,T.fm=fm->T.dp=dp->T.ls=ls->u (nQ T) { nx:=λ_ _=>False,rt:=λ_=>DT.rt } ⟨[],0,st⟩ (σ.set i (.val (nQ T)))):=by
 obtain⟨va,pa,ra⟩:=ha;obtain⟨vr,pr,rr⟩:=W;refine⟨_,lE (pc pa) pr,λB p0 H ps σT σ DT DV o h f=>?_⟩;refine ra B p0 H ps σT σ _ _ o h λds vs H1 s1 g n=>?_;obtain⟨fm,dp,ls,rfl,n⟩:=n;intro x dx j k P
 cases g with
 |cons F g=>
 cases g with
 |cons rd g=>
 cases g with
 |cons rl g=>
 cases g;cases rd;cases rl;rename_i G;have l:=o.grow s1;have N:fS H1 dx (.own x) x=none:=by rw[bZ (n8 P)];exact j
 have hm:mask (fS (fS H1 dx (.own x)) x (.ins C dx [])) (x::ps)=mask (fS H1 dx (.own x)) ps:=lG N
 have L:∀p∈x::ps,yQ (fS (fS H1 dx (.own x)) x (.ins C dx []) p):=λp U=>by
  by_cases z:p=x
  ·subst z;exact⟨_,cE,rfl⟩
  ·rw[bZ z];obtain⟨w,Q,R⟩:=l.live p ((aP.mp U).resolve_left z);exact⟨w,dH k _ _ Q,R⟩
 refine⟨x,dx,G,dp,ls,x::ps,fm,_,rfl,aO ..,cE,L,by rw[hm];exact F.same (bG (dH k)),n,λq st v6 H' sH I E A r r6 q6=>⟨rfl,?_⟩⟩
 have m:H1 q=none:=by
  rw[bZ I]at E;exact bA.free' (dH k) E
 have s2:bA H1 H':=λa w e=>sH a w (by
  have s:a≠x:=λz=>by rw[z,j]at e;cases e
  unfold mask;rw[a8 λz=>s (bM.mp z),bZ s];exact dH k _ _ e)
 have Y:Ok X.K B ([x,q]++p0) H' ([x,q]++ps) σT σ:=l.wide s2 (λa ha=>by
  rcases aP.mp ha with rfl | ha
  ·exact j
  ·rw[bM.mp ha];exact m) λa ha=>by
  rcases aP.mp ha with rfl | ha
  ·exact⟨_,r,rfl⟩
  ·rw[bM.mp ha];exact⟨_,A,rfl⟩
 have O:bA (mask H1 ps) (mask H' ([x,q]++ps)):=λb w e=>by
  unfold mask at e |-
  by_cases hb:b∈ps
  ·rw[b8 hb]at e;cases e
  ·rw[a8 hb]at e
   rw[a8 λz=>by
    rcases dQ.mp z with z | z
    ·rcases aP.mp z with rfl | z
     ·rw[j]at e;cases e
     ·rw[bM.mp z,m]at e;cases e
    ·exact hb z]
   exact s2 b w e
 have M:bA (mask H' (q::x::ps)) (mask H' ([x,q]++ps)):=fJ λa ha=>by
  rcases dQ.mp ha with z | z
  ·rcases aP.mp z with rfl | z
   ·exact aJ _ (aO ..)
   ·rw[bM.mp z];exact aO ..
  ·exact aJ _ (aJ _ z)
 have S:∀a∈[x,q],B a=none:=λa ha=>by
  rcases aP.mp ha with rfl | ha
  ·exact bA.free' l.base j
  ·rw[bM.mp ha];exact bA.free' l.base m
 have Z:lU (kX C) X.K B ([x,q]++p0) H' ([x,q]++ps) (σT.set i (.val (nQ ⟨x,q,dx,fm,dp,ls⟩))) (σ.set i (some (.ref x))) ⟨x,q,dx,fm,dp,ls⟩ ⟨[],0,st⟩:=
  ⟨Y.set (wA _),λa ha=>pC _ ha,S,⟨n8 I,G,v6,[],r,A,F.same O,r6.same M,.nil⟩⟩
 exact rr B ([x,q]++p0) H' ([x,q]++ps) _ _ ⟨x,q,dx,fm,dp,ls⟩ _ _ DV Z (q6 _ rfl rfl rfl) ⟨λ_ _ _ _ _ _ _ c=>c.elim,λ_ _ _ _ _ _ _ c=>c.elim,λ_ _ _ _ _ _ _ c=>c.elim,λn' d v J s' t' r' c=>f.rt d v J s' (r'.same (fJ λa ha=>cZ _ ha)) c,i8⟩
end
end TL
namespace L2
def CU(f:Array Value->Array Value)(o:Obj):(y0 f o).dict=o.dict:=by
 unfold y0;split<;>rfl
structure vU(h:Heap)(e T:Addr)(dx:Option Addr)(cls a0 fl:Value):Prop where
 ne:T≠e
 ex:∃o vs,h.get? e=some o/\o.cls=cls/\o.dict=dx/\o.data=.fields vs/\vs[0]?=some a0/\vs[1]?=some (.ref T)
 tr:∃o ts,h.get? T=some o/\o.data=.fields ts/\ts[3]?=some fl
structure gT(fr ch:List Addr)(h h':Heap):Prop where
 keep:∀b o,h.get? b=some o->b∉fr->b∉ch->h'.get? b=some o
 slot:∀b o,h.get? b=some o->b∈fr->b∉ch->∃sl,h'.get? b=some { o with slots:=sl }
def gT.of{fr ch}{h h':Heap}(k:∀b o,h.get? b=some o->b∉ch->h'.get? b=some o):gT fr ch h h':=⟨λb o e _ c=>k b o e c,λb o e _ c=>⟨o.slots,k b o e c⟩⟩
def gT.any{fr ch}{h h':Heap}(x:gT fr ch h h'){b:Addr}{o}(e:h.get? b=some o)(c:b∉ch):∃sl,h'.get? b=some { o with slots:=sl }:=by
 by_cases f:b∈fr
 ·exact x.slot b o e f c
 ·exact⟨o.slots,x.keep b o e f c⟩
def gT.trans{fr ch h1 h2 h3}(x:gT fr ch h1 h2)(y:gT fr ch h2 h3):gT fr ch h1 h3:=by
 refine⟨λb o e f c=>y.keep b o (x.keep b o e f c) f c,λb o e f c=>?_⟩;obtain⟨sl,a⟩:=x.slot b o e f c;obtain⟨g,d⟩:=y.slot b _ a f c;exact⟨g,d⟩
def gT.more{fr ch ch' h h'}(x:gT fr ch h h')(m:∀b∈ch,b∈ch'):gT fr ch' h h':=⟨λb o e f c=>x.keep b o e f λz=>c (m b z),λb o e f c=>x.slot b o e f λz=>c (m b z)⟩
def gT.frames{fr ch}{base h h':Heap}(x:gT fr ch h h'){l}(d:h.FunFrames base l)(c:∀b∈qO l,b∉ch):h'.FunFrames base l:=by
 induction l with
 |nil=>trivial
 |cons v r i=>
  obtain⟨hk,⟨L,o,a,hn,f,hd⟩,g⟩:=d
  have hm:L∈qO (v::r):=by
   show L∈(v::r).filterMap (·.frame);rw[kU,a];exact aO ..
  obtain⟨sl,e⟩:=x.any f (c L hm);refine⟨hk,⟨L,_,a,hn,e,hd⟩,i g λb hb=>c b ?_⟩;show b∈(v::r).filterMap (·.frame);rw[kU,a];exact aJ _ hb
section
variable{P:dD}{w:j0}{A:g9}{E:Value->Shared->Prop}{s:Shared}{base:Heap}{v:Env}{outer:List Env}{L e:Addr}{Q:Unit->Shared->Prop}
def CQ{o:Obj}{vs:Array Value}{hd0}{nx:Bool}(t:A.frames=some (v::outer))(C:s.heap.FunFrames base (v::outer))(x:v.frame=some L)(B:s.heap.get? e=some o)(hd:o.data=.fields vs)(hz:1<vs.size)(q:e∉qO (v::outer))
  (k:∀h' T,s.heap.objs.size<=T->T≠e->gT (qO (v::outer)) [e] s.heap h'->(∃o',h'.get? e=some o'/\o'.cls=o.cls/\o'.dict=o.dict/\o'.data=.fields (vs.setIfInBounds 1 (.ref T)))->(∃p ts,h'.get? T=some p/\p.data=.fields ts/\ts[3]?=some (y8 L))->Q () { s with heap:=h' }) :
  wpAny (model P w) A (do let a <- frameOf v;let pl <- entryPlaceOf L nx;let b <- kf hd0 a .none (y8 L) .none pl;setField (.ref e) 1 b) Q E s:=by
 apply aE;refine wpAny_frameOf_fun t C x λd so=>?_;apply aE;refine wpAny_entryPlaceOf λpl j=>?_;unfold kf newFields;apply aE;refine iI ?_ (j.sizeOk5 _ _ _ _ _);have m:d.get? e=some o:=(so.2.1 e q).trans B
 generalize i:({ cls:=.type "traceback",dict:=none,data:=.fields ([hd0,.ref L,.none,y8 L,.none]++(if pl.isEmpty then dW 6 j9 else pl)).toArray }:Obj)=ob
 have n:(d.push ob).get? e=some o:=aG _ m;refine bq n hd hz ?_;have ne:d.objs.size≠e:=gS (aY m);have l:=y7 hd (·.setIfInBounds 1 (e7 d.objs.size));have r:=vI (y0 (·.setIfInBounds 1 (e7 d.objs.size))) n (cu l)
 have y:((d.push ob).update e (y0 (·.setIfInBounds 1 (e7 d.objs.size)))).get? d.objs.size=some ob:=by
  rw[hX _ _ (n8 ne)];refine aZ d ?_;rw[<- i];rfl
 refine k _ d.objs.size (by rw[so.1];exact aN _) ne ⟨λb u g f c=>?_,λb u g f c=>?_⟩ ⟨_,r,wt _ _,CU _ _,l⟩ ⟨ob,_,y,by rw[<- i],?_⟩
 ·have h:b≠e:=λz=>c (by rw[z];exact aO ..);rw[hX _ _ (n8 h)];exact aG _ ((so.2.1 b f).trans g)
 ·have h:b≠e:=λz=>c (by rw[z];exact aO ..);obtain⟨sl,es⟩:=so.2.2 b u g;refine⟨sl,?_⟩;rw[hX _ _ (n8 h)];exact aG _ es
 ·rcases j with rfl | ⟨_,_,_,_,_,_,_,rfl⟩<;>simp
def LA{o:Obj}{vs a0}(g:A.frames=some (v::outer))(i:s.heap.FunFrames base (v::outer))(b:v.frame=some L)(c:s.heap.get? e=some o)(hd:o.data=.fields vs)(a:vs[1]?=some .none)(f:vs[0]?=some a0)(d:e∉qO (v::outer))
  (k:∀h' T,s.heap.objs.size<=T->gT (qO (v::outer)) [e] s.heap h'->vU h' e T o.dict o.cls a0 (y8 L)->Q () { s with heap:=h' }):wpAny (model P w) A (lf (.ref e) v) Q E s:=by
 unfold lf;simp only[b];apply aE;refine i9 c hd a ?_;rw[a8 (by decide)];have hz:1<vs.size:=(mI.mp a).1;refine CQ g i b c hd hz d λh' T n1 m l j h=>k h' T n1 l ⟨m,?_,h⟩;obtain⟨o',n,p,xd,q⟩:=j;exact⟨o',_,n,p,xd,q,by rw[zV (by decide)];exact f,by simp[hz]⟩
def EO{T:Addr}{dx cls a0}(y:A.frames=some (v::outer))(C:s.heap.FunFrames base (v::outer))(i:v.frame=some L)(x:vU s.heap e T dx cls a0 .none)(m:e∉qO (v::outer))(p:T∉qO (v::outer))
  (k:∀h' T',s.heap.objs.size<=T'->gT (qO (v::outer)) [e,T] s.heap h'->vU h' e T' dx cls a0 (y8 L)->Q () { s with heap:=h' }):wpAny (model P w) A (lf (.ref e) v) Q E s:=by
 obtain⟨ne,⟨o,vs,l,B,n,hd,t,g⟩,⟨N,ts,j,a,h⟩⟩:=x;unfold lf;simp only[i];apply aE;refine i9 l hd g ?_;rw[b8 (show(e7 T != j9)=true from rfl)];apply aE;refine i9 j a h ?_;rw[a8 (show¬((j9==y8 L)=true) by simp[y8])];apply aE;refine bq j a (mI.mp h).1 ?_;have f:∀b,b≠T->(s.heap.update T (y0 (·.setIfInBounds 3 j9))).get? b=s.heap.get? b:=λb hb=>hX _ _ (n8 hb);have d:gT (qO (v::outer)) [T] s.heap (s.heap.update T (y0 (·.setIfInBounds 3 j9))):=.of λb u r c=>(f b λz=>c (by rw[z];exact aO ..)).trans r;have hz:1<vs.size:=(mI.mp g).1;refine CQ (s:={ s with heap:=s.heap.update T (y0 (·.setIfInBounds 3 j9)) }) y (d.frames C λb hb z=>p (by rw[<- bM.mp z];exact hb)) i ((f e (n8 ne)).trans l) hd hz m λh' T' n1 I H F G=>?_;have q:s.heap.objs.size<=T':=aX (lR (A9 ..).symm) n1;refine k h' T' q ((d.more λb hb=>by simp at hb |-;exact .inr hb).trans (H.more λb hb=>by simp at hb |-;exact .inl hb)) ⟨I,?_,G⟩;obtain⟨o',J,K,xd,M⟩:=F;exact⟨o',_,J,K.trans B,xd.trans n,M,by rw[zV (by decide)];exact t,by simp[hz]⟩
def sI{T:Addr}{dx cls a0 fl}(x:vU s.heap e T dx cls a0 fl)(k:∀h',(∀b o,s.heap.get? b=some o->b≠T->h'.get? b=some o)->vU h' e T dx cls a0 .none->Q () { s with heap:=h' }):wpAny (model P w) A (setFlight (.ref e) none) Q E s:=by
 obtain⟨ne,⟨o,vs,f,l,g,hd,i,c⟩,⟨m,ts,d,a,j⟩⟩:=x;have hz:3<ts.size:=(mI.mp j).1;unfold setFlight;apply aE;refine i9 f hd c ?_;rw[b8 (show(e7 T != j9)=true from rfl)];refine bq d a hz (k _ (λb u h hb=>(hX _ _ (n8 hb)).trans h) ⟨ne,⟨o,vs,(hX _ _ ne).trans f,l,g,hd,i,c⟩,_,_,vI _ d (cu (y7 a _)),y7 a _,by simp[hz]⟩)
def IW{o:Obj}{vs a0}(l:A.frames=some (v::outer))(p:s.heap.FunFrames base (v::outer))(m:v.frame=some L)(n:s.heap.get? e=some o)(hd:o.data=.fields vs)(d:vs[1]?=some .none)(i:vs[0]?=some a0)(h:e∉qO (v::outer))
  (k:∀h' T,s.heap.objs.size<=T->gT (qO (v::outer)) [e] s.heap h'->vU h' e T o.dict o.cls a0 .none->Q () { s with heap:=h' }):wpAny (model P w) A (jm v (.ref e)) Q E s:=by
 unfold jm;apply aE;refine LA l p m n hd d i h λd T n1 g x=>?_;refine sI (s:={ s with heap:=d }) x λj k2 q=>k j T n1 ⟨λb u a f c=>?_,λb u a f c=>?_⟩ q
 ·exact k2 b u (g.keep b u a f c) λz=>c7 (bP (aY a) n1) (by rw[z];exact eT _)
 ·obtain⟨sl,es⟩:=g.slot b u a f c;exact⟨sl,k2 b _ es λz=>c7 (bP (aY a) n1) (by rw[z];exact eT _)⟩
def LI{T:Addr}{dx cls a0}(l:A.frames=some (v::outer))(n:s.heap.FunFrames base (v::outer))(m:v.frame=some L)(x:vU s.heap e T dx cls a0 .none)(g:e∉qO (v::outer))(h:T∉qO (v::outer))
  (k:∀h' T',s.heap.objs.size<=T'->gT (qO (v::outer)) [e,T] s.heap h'->vU h' e T' dx cls a0 .none->Q () { s with heap:=h' }):wpAny (model P w) A (jm v (.ref e)) Q E s:=by
 unfold jm;apply aE;refine EO l n m x g h λi T' n1 d x=>?_;refine sI (s:={ s with heap:=i }) x λj k2 o=>k j T' n1 ⟨λb u a f c=>?_,λb u a f c=>?_⟩ o
 ·exact k2 b u (d.keep b u a f c) λz=>c7 (bP (aY a) n1) (by rw[z];exact eT _)
 ·obtain⟨sl,es⟩:=d.slot b u a f c;exact⟨sl,k2 b _ es λz=>c7 (bP (aY a) n1) (by rw[z];exact eT _)⟩
end
section
variable{P:dD}{w:j0}{H H':Hp}{h h0 h':Heap}{a:Addr}{o:HO}{fr Ni ch:List Addr}
theorem iT.get(x:iT P w H h a o):∃u,h.get? a=some u:=by
 cases o with
 |lst xs=>obtain⟨_,_,_,_,e⟩:=x;exact⟨_,e⟩
 |tup xs=>obtain⟨_,_,_,_,e,_⟩:=x;exact⟨_,e⟩
 |dK kvs=>obtain⟨_,_,_,_,o,_,_,e,_⟩:=x;exact⟨_,e⟩
 |dT kvs=>obtain⟨_,_,_,_,o,_,_,e,_⟩:=x;exact⟨_,e⟩
 |set S n=>obtain⟨o,_,_,_,e,_⟩:=x;exact⟨_,e⟩
 |ins C dx fs=>obtain⟨_,_,_,e,_⟩:=x;exact⟨_,e⟩
 |own y=>obtain⟨_,e⟩:=x;exact⟨_,e⟩
 |xd fs=>obtain⟨_,⟨_,_,_,e,_⟩,_⟩:=x;exact⟨_,e⟩
 |rng lo hi=>obtain⟨_,_,_,e⟩:=x;exact⟨_,e⟩
 |frz ob u=>obtain⟨e,_⟩:=x;exact⟨_,e⟩
 |tbl ps=>obtain⟨_,e,_⟩:=x;exact⟨_,e⟩
 |met f y=>exact⟨_,(show h.get? a=some _ from x)⟩
 |ext φ=>obtain⟨_,⟨_,e⟩,_⟩:=x;exact⟨_,e⟩
def pK.out(x:pK P w H h)(e:h.get? a=none):H a=none:=by
 cases q:H a with
 |none=>rfl
 |some u=>obtain⟨_,z⟩:=(x a u q).get;rw[e]at z;cases z
def pK.butX(x:pK P w H h)(f:gT fr ch h h')(d:∀b∈fr,H b=none)(c:∀b∈ch,H b=none):pK P w H h':=λa o e=>by
 refine(x a o e).stay (λb u hb q=>?_) (λ_ q=>q) λ_ _ q=>q
 have hn:H b≠none:=by
  rcases hb with rfl | hb
  ·rw[e];exactλz=>nomatch z
  ·rw[hb];exactλz=>nomatch z
 exact f.keep b u q (λz=>hn (d b z)) λz=>hn (c b z)
def Un.but(u:Un fr [] H H' h0 h)(i:gT Ni ch h h')(c:∀b o,h0.get? b=some o->b∉ch/\(b∈Ni->b∈fr)):Un fr [] H H' h0 h' where
 keep:=λb o e n f x=>i.keep b o (u.keep b o e n f x) (λz=>f ((c b o e).2 z)) (c b o e).1
 slot:=λb o e n f x=>by
  obtain⟨sl,d⟩:=u.slot b o e n f x;obtain⟨j,g⟩:=i.any d (c b o e).1;exact⟨j,g⟩
 free:=u.free
 there:=λb o e x=>by
  obtain⟨o',d⟩:=u.there b o e x;obtain⟨j,g⟩:=i.any d (c b o e).1;exact⟨_,g⟩
 tups:=u.tups
 frzs:=u.frzs
 tbls:=u.tbls
end
def Q6(P:dD)(w:j0):WX:=λouter H s E e s'=>∃b T dx cls a0 H',e=.ref b/\s'.os=s.os/\ba s'.gens/\Un (qO outer) [] H H' s.heap s'.heap/\pK P w H' s'.heap /\
 vU s'.heap b T dx cls a0 .none/\H' b=none/\H' T=none/\s.heap.get? b=none/\s.heap.get? T=none/\(∀a,dx=some a->s.heap.get? a=none)/\E cls dx H'
section
variable{P:dD}{w:j0}{K:aI}{mg:Str->Option Value}{base:Heap}{N:List Str}{qual:Str}{scope:Scope}{f:Addr}{cd:Value}{A:g9}{outer:List Env}{s:Shared}{H:Hp}{E:XK}
noncomputable abbrev N9(P:dD)(w:j0)(K:aI)(mg:Str->Option Value)(base:Heap)(N:List Str)(qual:Str)(scope:Scope)(f:Addr)(cd:Value)(A:g9)(outer:List Env)(s:Shared)(H:Hp)(E:XK):Cx:=qP (Q6 P w) P w K mg base N qual scope f cd A outer s H E
def aBf{pins σ}{H1:Hp}{s1 s2:Shared}{c:Addr}{ch dx cls a0}(I:dI (N9 P w K mg base N qual scope f cd A outer s H E) pins σ H1 s1)(j:s.heap.get? c=none)(k:E cls dx H1)(n:H1 c=none)
  (g:s2.os=s1.os) (m:s2.gens=s1.gens) (hk:gT (qO (l3 qual scope s.heap.objs.size f cd::outer)) ch s1.heap s2.heap) (d:∀b∈ch,H1 b=none/\s.heap.get? b=none) {T:Addr} (x:vU s2.heap c T dx cls a0 .none) (l:H1 T=none) (i:s.heap.get? T=none) (h:∀a,dx=some a->s.heap.get? a=none) :
  Q6 P w outer H s E (.ref c) s2:=by
 refine⟨c,T,dx,cls,a0,H1,rfl,g.trans I.os,by rw[m];exact I.bare,Un.but I.base hk λb o e=>⟨λz=>?_,λz=>?_⟩,I.hok.butX hk (λb hb=>I.stkFree b hb) λb hb=>(d b hb).1,x,n,l,j,i,h,k⟩
 ·rw[(d b z).2]at e;cases e
 ·have p:b∈s.heap.objs.size::qO outer:=I.stkSub b z;rcases aP.mp p with q | q
  ·rw[q]at e;exact c7 (aY e) (eT _)
  ·exact q
def M5:uC (Q6 P w) (N9 P w K mg base N qual scope f cd A outer s H E) E:=by
 intro pins σ H1 s1 e s2 I l;obtain⟨d,T,dx,cls,a0,j,rfl,os,bare,un,hok,x,n1,p,g,n4,n5,k⟩:=l;have c:dI (N9 P w K mg base N qual scope f cd A outer s H E) pins σ j s2:=I.call' (ch:=[]) os un hok bare λb z=>c7 z (by simp)
 have i:∀b,s1.heap.get? b=none->b∉qO (l3 qual scope s.heap.objs.size f cd::outer):=λb hb z=>by
  obtain⟨_,o,h,_⟩:=I.stack.mem z;rw[hb]at h;cases h
 have old:∀b,s1.heap.get? b=none->s.heap.get? b=none:=λb hb=>by
  cases q:s.heap.get? b with
  |none=>rfl
  |some o=>obtain⟨o',z⟩:=I.base.there b o q (λz=>c7 z (by simp[qP]));rw[hb]at z;cases z
 show wpAny (model P w) (A.deeper (l3 qual scope s.heap.objs.size f cd)) (jm (l3 qual scope s.heap.objs.size f cd) (.ref d)) _ _ s2;refine LI (base:=base) (outer:=outer) I.ok.frames c.stack rfl x (i d g) (i T n4) λh' T' sz n r=>?_;have m:s2.heap.get? T'=none:=pD sz;refine aBf (s2:={ s2 with heap:=h' }) c (old d g) k n1 rfl rfl n (λb hb=>?_) r (hok.fresh sz) ?_ λa z=>old a (n5 a z)
 ·simp only[aP,cO,l9]at hb;rcases hb with rfl | rfl
  ·exact⟨n1,old _ g⟩
  ·exact⟨p,old _ n4⟩
 ·cases q:s.heap.get? T' with
  |none=>rfl
  |some o=>obtain⟨o',z⟩:=c.base.there T' o q (λz=>c7 z (by simp[qP]));rw[m]at z;cases z
end
def aGf(K:aI)(C:Addr):Prop:=∃nm q N bs hdct sn sub ab col dd k0 k1 k2 k3 k5 J c d a b,
 K.lookup C=some (zg nm q C N bs (.ref J::[.type "ValueError",.type "Exception",.type "BaseException",.type "object"]) hdct sn sub ab col dd k0 k1 k2 k3 k5 "ValueError.__new__") /\
 uD K N=true/\iN K N "__init__"=some none/\K.lookup J=some ⟨c,d,.cls a,b⟩/\uD K a.ns=true/\iN K a.ns "__init__"=some none
def NB{K:aI}{h:Heap}{N:Addr}{m:Str->Option Value}{n}(X:K.In h)(G:h.Ns N m)(e:iN K N n=some none):m n=none:=by
 obtain⟨o,es,ep,c,hd,_,b⟩:=G;unfold iN at e;split at e
 ·rename_i q;have z:=X _ _ q;rw[c]at z;cases z;cases hd;split at e
  ·cases e
  ·rename_i a;rw[<- b];unfold nsFind findBy;rw[<- QY,a]
   rfl
 ·cases e
def ND{h h':Heap}{N:Addr}{m:Str->Option Value}(G:h.Ns N m)(k:∀b o,h.get? b=some o->h'.get? b=some o):h'.Ns N m:=let ⟨o,es,ep,ho,r⟩:=G;⟨o,es,ep,k _ _ ho,r⟩
def R0(C:Addr)(E:XK)(t:TA):TS:=λ_ σ H=>t σ H λvs H1=>vs.length<=bE/\E (.ref C) none H1
section
variable{P:dD}{w:j0}{K:aI}{mg:Str->Option Value}{base:Heap}{N:List Str}{qual:Str}{scope:Scope}{f:Addr}{cd:Value}{A:g9}{outer:List Env}{s:Shared}{H:Hp}{E:XK}
def IB{C:Addr}{k:Nat}{x:Str}{np ag pos e es t}(R:aGf K C)(Q:gR k (A.deeper (l3 qual scope s.heap.objs.size f cd)))(M:Gl (N9 P w K mg base N qual scope f cd A outer s H E) x)(hm:mg x=some (.ref C))
  (ha:PA (N9 P w K mg base N qual scope f cd A outer s H E) (e::es) t) (hd:(x==("__debug__":Str))=false:=by decide)
  (m:bI (e::es) (l3 qual scope s.heap.objs.size f cd)=(false,eval e (l3 qual scope s.heap.objs.size f cd))::bI es (l3 qual scope s.heap.objs.size f cd):=by rfl)
  (G:(m9 ag (bI (e::es) (l3 qual scope s.heap.objs.size f cd))).any (·.1)=false:=by rfl) :
  PS (N9 P w K mg base N qual scope f cd A outer s H E) (.Raise (some (.Call (.Name x np) (e::es) [] ag)) none pos) (R0 C E t):=by
 intro pins s1 σ H1 D I h;obtain⟨nm,q,v,bs,hdct,sn,sub,ab,col,dd,k0,k1,k2,k3,k5,J,c0,dJ,Ib,Po,Y,nC,S,Z,nJ,U⟩:=R;have j:=W2.of_isNs (MD I.mod.kin nC);have l:=W2.of_isNs (MD I.mod.kin nJ);have vC:=NB I.mod.kin j S;have vJ:=NB I.mod.kin l U;refine wpAny_Raise_call_subT F.excBase_ValueError (C:=C) (nm:=nm) (q:=q) (N:=v) (bs:=bs) (bm:=.ref J::[.type "ValueError",.type "Exception",.type "BaseException",.type "object"]) (hdct:=hdct) (sn:=sn) (sub:=sub) (ab:=ab) (col:=col) (dd:=dd) (k0:=k0) (k1:=k1) (k2:=k2) (k3:=k3) (k5:=k5) (by rfl) Q.hd G vC (xE I M hm ⟨rfl,?_⟩ hd);rw[show(N9 P w K mg base N qual scope f cd A outer s H E).env=l3 qual scope s.heap.objs.size f cd from rfl,m];refine nz ?_;have p:=ha ag pins s1 σ H1 _ I h;rw[show(N9 P w K mg base N qual scope f cd A outer s H E).env=l3 qual scope s.heap.objs.size f cd from rfl,m]at p;refine eF p (λus s2 hz=>?_) λ_ _ z=>z;obtain⟨vs,i,c,r,O,L⟩:=hz;refine⟨rfl,by rw[<- r.length];exact O,c.kIn _ _ Y,ND j c.bk,.own (c.kIn _ _ Z) (ND l c.bk) vJ .base,λh' d hm=>?_⟩;have u:=c.hok.kept hm.keeps;have g:dI (N9 P w K mg base N qual scope f cd A outer s H E) pins σ i { s2 with heap:=h' }:=c.un (t':=s2.toks) (Un.kept hm.keeps) u;obtain⟨t',B,_,_⟩:=hm.there;have hn:i d=none:=c.hok.out hm.new
 have X:d∉qO (l3 qual scope s.heap.objs.size f cd::outer):=λz=>by
  obtain⟨_,o,n,_⟩:=c.stack.mem z;rw[hm.new]at n;cases n
 have old:∀b,s2.heap.get? b=none->s.heap.get? b=none:=λb hb=>by
  cases q:s.heap.get? b with
  |none=>rfl
  |some o=>obtain⟨o',z⟩:=c.base.there b o q (λz=>c7 z (by simp[qP]));rw[hb]at z;cases z
 show wpAny (model P w) (A.deeper (l3 qual scope s.heap.objs.size f cd)) (jm (l3 qual scope s.heap.objs.size f cd) (.ref d)) _ _ { s2 with heap:=h' };refine IW (base:=base) (outer:=outer) (s:={ s2 with heap:=h' }) I.ok.frames g.stack rfl B rfl rfl rfl X λy T sz W x'=>?_;refine aBf (s2:={ s2 with heap:=y }) g (old d hm.new) L hn rfl rfl W (λb hb=>?_) x' (u.fresh sz) ?_ (λa z=>nomatch z)
 ·simp only[aP,cO,l9]at hb;subst hb;exact⟨hn,old _ hm.new⟩
 ·cases q:s.heap.get? T with
  |none=>rfl
  |some o=>obtain⟨o',z⟩:=g.base.there T o q (λz=>c7 z (by simp[qP]));rw[show({ s2 with heap:=h' }:Shared).heap.get? T=none from pD sz]at z;cases z
end
def RS(X:Cx)(st:Stmt)(rt:St->Hp->(Hp->XK)->Prop):Prop:=∀pins s σ H(W:Hp->XK),dI X pins σ H s->rt σ H W ->
 wpAny (model X.prog X.w) X.A (exec st X.env) (λ_ _=>False) (λe s'=>∃H1 s1,dI X pins σ H1 s1/\Q6 X.prog X.w X.stack H1 s1 (W H1) e s') s
def RE(X:Cx)(e:Expr)(rt:St->Hp->(Hp->XK)->Prop):Prop:=∀pins s σ H(W:Hp->XK),dI X pins σ H s->rt σ H W ->
 wpAny (model X.prog X.w) X.A (eval e X.env) (λ_ _=>False) (λe s'=>∃H1 s1,dI X pins σ H1 s1/\Q6 X.prog X.w X.stack H1 s1 (W H1) e s') s
def JW(X:Cx):Prop:=∀e s,¬X.xe e s
section
variable{X:Cx}{pos:Pos}{e:Expr}
def KW{rt:St->Hp->(Hp->XK)->Prop}{y q9}(h:RE X e rt)(hs:mJ e (some (.Name y q9)) pos.line X.env=pure false:=by rfl):RS X (.Assign [.Name y q9] e pos) rt:=by
 intro pins s σ H W I a;exact Fi (jM (h pins s σ H W I a) λv s1 z=>z.elim) hs
end
noncomputable abbrev Cx.marked(X:Cx)(a:Addr):Cx:={ X with A:=X.A.mark (some (.ref a)),calm:=false }
section
variable{X:Cx}{pins:List (Addr×Obj)}{σ:St}{H:Hp}{s:Shared}{ea:Addr}
def dI.mark(I:dI X pins σ H s)(ea:Addr):dI (X.marked ea) pins σ H s:=
 ⟨⟨I.ok.mod,I.ok.kind,I.ok.glob,I.ok.blt,I.ok.above,I.ok.inj,I.ok.has,I.ok.cab,(λz=>nomatch z),I.ok.frames,I.ok.stk,I.ok.exf,I.ok.bs,I.ok.bsz,I.ok.noex,I.ok.exfs,I.ok.funs,I.ok.frf,I.ok.tab⟩,I.os,I.bare,I.base,I.loc,I.cell,I.free,I.freeC,I.pin,I.hok,I.len⟩
def dI.unmark{d8 H' s'}(I:dI X pins σ H s)(J:dI (X.marked ea) pins d8 H' s'):dI X pins d8 H' s':=⟨I.ok,J.os,J.bare,J.base,J.loc,J.cell,J.free,J.freeC,J.pin,J.hok,J.len⟩
def Z4{M A}{E:Value->Shared->Prop}{i:Nat}{n pos}{Q:Unit->Shared->Prop}(I:dI X pins σ H s)(C:X.N.Nodup)(hi:X.N[i]?=some n)(a:X.env.scope.names.lookup n=some .local)
  (h:∀s',dI X pins (σ.set i none) H s'->Q () s'):wpAny M A (do bindName X.env n .none;unbindBehindTheSuite X.env n pos) Q E s:=by
 obtain⟨m,hn,F⟩:=id I.loc;have w:(X.env.scope.kind==.class||(X.env.scope.kind==.module&&X.env.locals != X.env.globals))=false:=by rw[I.ok.kind];rfl
 have u:i<σ.length:=by rw[I.len];exact(aF.mp hi).1
 have cne:=I.cne;refine wpAny_nameGoes_keeps a hn w λh' v x hs=>?_;have low:∀b o,X.s₀.heap.get? b=some o->b≠X.env.locals:=λb o e=>cI (bP (aY e) I.ok.above);refine h _ ⟨I.ok,I.os,I.bare,⟨λb o e n hb a=>?_,λb o e n hb a=>?_,I.base.free,λb o e a=>?_,I.base.tups,I.base.frzs,I.base.tbls⟩,⟨_,x,λj y T d f B=>?_⟩,λy c e=>?_,I.free,I.freeC,λp G=>?_,λb ob e=>?_,by simpa using I.len⟩
 ·exact(hs.2 b (low b o e)).trans (I.base.keep b o e n hb a)
 ·obtain⟨sl,d⟩:=I.base.slot b o e n hb a;exact⟨sl,(hs.2 b (low b o e)).trans d⟩
 ·obtain⟨o',d⟩:=I.base.there b o e a;exact⟨o',(hs.2 b (low b o e)).trans d⟩
 ·have l:j≠i:=λz=>by
   rw[z,aR u]at f;cases f
  rw[aQ (n8 l)]at f;obtain⟨S,R,q⟩:=F j y T d f B;have J:y≠n:=λz=>l (B6 C (z▸d) hi);refine⟨S,R,?_⟩;rcases q with⟨k,e⟩ | ⟨k,c,e,o,z,g⟩
  ·exact .inl ⟨k,by show(if y=n then v else m y)=_;rw[a8 J];exact e⟩
  ·exact .inr ⟨k,c,e,o,(hs.2 c (cne y c e)).trans z,g⟩
 ·obtain⟨t,o,z,g⟩:=I.cell y c e;exact⟨t,o,(hs.2 c (cne y c e)).trans z,g⟩
 ·obtain⟨K,L,r,O,P⟩:=I.pin p G;exact⟨(hs.2 p.1 r).trans K,L,r,O,P⟩
 ·refine(I.hok b ob e).stay (λc t hc q=>(hs.2 c ?_).trans q) (λ_ q=>q) λ_ _ q=>q;rintro rfl;rcases hc with rfl | hc
  ·rw[I.free]at e;cases e
  ·rw[I.free]at hc;cases hc
def pK.track{P w H h}{a:Addr}{o}(x:pK P w H h)(hn:H a=none)(new:iT P w (fS H a o) h a o):pK P w (fS H a o) h:=λb u e=>by
 by_cases hb:b=a
 ·subst hb;rw[cE]at e;cases e;exact new
 ·rw[bZ hb]at e;exact(x b u e).stay (λc v _ q=>q) (λc q=>by rw[bZ (eP q hn)];exact q) (λc xs q=>by rw[bZ (eP q hn)];exact q) λc ob v q=>by rw[bZ (eP q hn)];exact q
def Un.track{fr H H'}{h h':Heap}{a:Addr}{o}(u:Un fr [] H H' h h')(hn:H' a=none)(c:h.get? a=none):Un fr [] H (fS H' a o) h h' where
 keep:=u.keep
 slot:=u.slot
 free:=λb ob e n x=>by
  rw[bZ λz=>by rw[z,c]at e;cases e];exact u.free b ob e n x
 there:=u.there
 tups:=λb xs e=>by have z:=u.tups b xs e;rw[bZ (eP z hn)];exact z
 frzs:=λb ob v e=>by have z:=u.frzs b ob v e;rw[bZ (eP z hn)];exact z
 tbls:=λb q e=>by
  obtain⟨more,z⟩:=u.tbls b q e;exact⟨more,by rw[bZ (eP z hn)];exact z⟩
def aBj(K:aI)(J:Addr)(i:Nat)(rt:St->Hp->(Hp->XK)->Prop)(ts:Addr->TS):TS:=λD σ H=>rt σ H λH1 cls dx b=>gE K cls (.ref J)=some true /\
 ∃C,cls=.ref C/\∀ea,H1 ea=none->b ea=none->(∀a,dx=some a->H1 a=none)->ts ea { nx:=λd8 H'=>D.nx (d8.set i none) H',rt:=λ_ _=>False } (σ.set i (some (.ref ea))) (fS b ea (.ext (TL.rL ea C dx)))
def YZ{J:Addr}{i:Nat}{n m:Str}{jp hp pos st O suite jl}{rt:St->Hp->(Hp->XK)->Prop}{ts:Addr->TS}(hq:JW X)(g:X.stack=X.env::X.outer)(Bc:X.env.frame=some X.env.locals)(R:X.N.Nodup)(hi:X.N[i]?=some n)(B:X.env.scope.names.lookup n=some .local)(hg:Gl X m)(hm:X.mg m=some (.ref J))
  (hs:RS X st rt) (hb:∀ea,AG (X.marked ea) (O::suite) (ts ea)) (hd:(m==("__debug__":Str))=false:=by decide) :
  PS X (.Try [st] (.ExceptHandler (some (.Name m jp)) (some n) (O::suite) hp::jl) [] [] pos) (aBj X.K J i rt ts):=by
 intro pins s σ H D I h;refine wpAny_Try_except (ak (eF (hs pins s σ H _ I h) (λ_ _ z=>z.elim) λe s' hz=>?_));obtain⟨H1,s1,f,ea,T,dx,cls,a0,d,rfl,os,bare,un,hok,x,n1,n2,p,n4,n5,hW,C,rfl,Dy⟩:=hz;have E:dI X pins σ d s':=f.call' (ch:=[]) os un hok bare λb z=>c7 z (by simp);have Kx:X.A.frames=some (X.env::X.outer):=by rw[<- g];exact I.ok.frames
 have Dx:s'.heap.FunFrames X.base (X.env::X.outer):=by rw[<- g];exact E.stack
 have U:∀b,s1.heap.get? b=none->b∉qO (X.env::X.outer):=λb hb z=>by
  rw[<- g]at z;obtain⟨_,o,S,_⟩:=f.stack.mem z;rw[hb]at S;cases S
 have P:∀b∈qO (X.env::X.outer),d b=none:=λb hb=>by rw[<- g]at hb;exact E.stkFree b hb
 refine EO (base:=X.base) Kx Dx Bc x (U ea p) (U T n4) λh3 T' sz kb x3=>?_;have jw:d T'=none:=hok.fresh sz
 have Rg:s1.heap.get? T'=none:=by
  cases q:s1.heap.get? T' with
  |none=>rfl
  |some o=>obtain⟨o',z⟩:=un.there T' o q (by simp);rw[pD sz]at z;cases z
 refine sI (s:={ s' with heap:=h3 }) x3 λj k4 x4=>?_;have r:gT (qO (X.env::X.outer)) [ea,T,T'] s'.heap j:=(kb.more λb hb=>aP.mpr ((aP.mp hb).imp id λz=>aP.mpr (.inl (bM.mp z)))).trans (.of λb u t c=>k4 b u t λz=>c (by rw[z];simp))
 have Y:∀b o,s1.heap.get? b=some o->b∉[ea,T,T']/\(b∈qO (X.env::X.outer)->b∈qO X.stack):=λb o e=>by
  refine⟨λz=>?_,λz=>by rw[g];exact z⟩;simp only[aP,cO,l9]at z;rcases z with rfl | rfl | rfl
  ·rw[p]at e;cases e
  ·rw[n4]at e;cases e
  ·rw[Rg]at e;cases e
 have L:∀b∈[ea,T,T'],d b=none:=λb z=>by
  simp only[aP,cO,l9]at z;rcases z with rfl | rfl | rfl
  ·exact n1
  ·exact n2
  ·exact jw
 have Vs:=un.but r Y;have Ln:=hok.butX r P L;have I4:dI X pins σ d { s' with heap:=j }:=f.call' (ch:=[]) os Vs Ln bare λb z=>c7 z (by simp);have G:=I4.mark ea;obtain⟨oe,ve,ge,ce,de,Wa,_,_⟩:=x4.ex;have LT:DZ (model X.prog X.w) j (typeOf (.ref ea)) (.ref C):=ce▸(DZ.ld ge).andThen .now;refine wpAny_handleBy_cons (codeAny_handlers_test (xE (X:=X.marked ea) G hg hm (((PySem.W.exm_one G.kIn LT hW).at ?_)) hd)) (λz=>nomatch z);rw[b8 rfl];refine codeAny_handlers_suite_as (sI (s:={ s' with heap:=j }) x4 λy k5 x5=>?_);have M:gT (qO (X.env::X.outer)) [ea,T,T'] s'.heap y:=r.trans (.of λb u t c=>k5 b u t λz=>c (by rw[z];simp));have Vt:=un.but M Y;have Lo:=hok.butX M P L;obtain⟨Z,v5,Q,c5,d5,Qe,_,_⟩:=x5.ex;have To:=Dy ea (f.hok.out p) n1 λa z=>f.hok.out (n5 a z);have Lp:pK X.prog X.w (fS d ea (.ext (TL.rL ea C dx))) y:=Lo.track n1 ⟨⟨Z,v5,Q,c5,d5,Qe⟩,⟨Z,Q⟩,λha hb ⟨o,v,y1,y2⟩ k=>⟨o,v,k o y1,y2⟩⟩;have I5:dI X pins σ (fS d ea (.ext (TL.rL ea C dx))) { s' with heap:=y }:=f.call' (ch:=[]) os (Vt.track n1 p) Lp bare λb z=>c7 z (by simp);refine BJ I5 R hi (.inl B) (v:=.ref ea) rfl (λs6 F=>?_) (.inr B);refine eF (hb ea pins s6 _ _ _ (F.mark ea) To) (λfl s7 l=>?_) λe s7 z=>c7 z (hq e s7)
 cases fl with
 |next=>
  obtain⟨d8,H',J7,q⟩:=l;exact Z4 (F.unmark J7) R hi B λs8 I8=>⟨_,H',I8,q⟩
 |brk=>obtain⟨_,_,_,z⟩:=l;exact z.elim
 |cont=>obtain⟨_,_,_,z⟩:=l;exact z.elim
 |ret u=>obtain⟨_,_,_,_,_,z⟩:=l;exact z.elim
def Y0{body h₀ hs pos ts}(a:JW X)(hb:AG X body ts):PS X (.Try body (h₀::hs) [] [] pos) ts:=by
 intro pins s σ H D I h;refine wpAny_Try_except (eF (hb pins s σ H D I h) (λf s1 q=>?_) λe s1 z=>c7 z (a e s1))
 cases f with
 |next=>exact az q
 |ret v=>exact q
 |brk=>exact q
 |cont=>exact q
end
end L2
namespace TL
open L2
section
variable{e:Expr}
def Ok.away{K B H p0 ps}{σT:List Sl}{σ:L2.St}(o:Ok K B p0 H ps σT σ)(i:Nat):Ok K B p0 H ps (σT.set i .un) (σ.set i none) where
 base:=o.base
 sub:=o.sub
 live:=o.live
 len:=by simpa using o.len
 val:=λj d h=>by
  by_cases e:i=j
  ·subst e;have hi:i<σT.length:=by have:=(aF.mp h).1;simpa using this
   rw[aR hi]at h;cases h
  ·rw[aQ e]at h |-;exact o.val j d h
 own:=λj ts h=>by
  by_cases e:i=j
  ·subst e;have hi:i<σT.length:=by have:=(aF.mp h).1;simpa using this
   rw[aR hi]at h;cases h
  ·rw[aQ e]at h |-;exact o.own j ts h
 dis:=λj k ts us p m n b c=>by
  have a:∀{l:Nat}{vs:List D},(σT.set i .un)[l]?=some (.own vs)->i≠l/\σT[l]?=some (.own vs):=λ{l vs} h=>by
   by_cases e:i=l
   ·subst e;have hi:i<σT.length:=by have:=(aF.mp h).1;simpa using this
    rw[aR hi]at h;cases h
   ·rw[aQ e]at h;exact⟨e,h⟩
  obtain⟨n1,f⟩:=a m;obtain⟨q,g⟩:=a n;rw[aQ n1]at b;rw[aQ q]at c;exact o.dis j k ts us p f g b c
 dc:=o.dc.setS λ_ _ z=>nomatch z
end
end TL
namespace L2
section
variable{K:aI}{C D J:Addr}{cd:ClassData}
def JC:cV K (.ref C) (.ref C)=some true:=by unfold cV;rw[b8 (by simp)]
def GB(a:kB K D=some cd)(b:kR K (.ref D)=some (.type "type"))(hm:bT K C (.ref D)=some false)(hs:bT K D (.ref D)=some true):cV K (.ref C) (.ref D)=some false:=by
 have ne:¬(e7 C==e7 D)=true:=λz=>by
  have e:C=D:=Value.ref.inj (beq_iff_eq.mp z);subst e;rw[hm]at hs;cases hs
 unfold cV;rw[a8 ne];unfold uF;dsimp only;rw[a,b];show(if(true&&(some (y4 "type")==some (y4 "type")))=true then _ else _)=_;rw[b8 (by simp)];exact hm
def oR{T}{b:Bool}(hk:lI T=true)(hm:bT K C (.type T)=some b):cV K (.ref C) (.type T)=some b:=by
 unfold cV;rw[a8 (λz=>by cases beq_iff_eq.mp z)];unfold uF;dsimp only;rw[b8 hk];exact hm
def A7(a:kB K J=some cd)(b:kR K (.ref J)=some (.type "type"))(hb:bT K J (.type "BaseException")=some true)(hm:bT K C (.ref J)=some true):gE K (.ref C) (.ref J)=some true:=by
 unfold gE;have e:XB K (.ref J) (.type "BaseException")=some true:=hb;rw[e,b8 (by simp)];unfold uF;dsimp only;rw[a,b];show(if(true&&(some (y4 "type")==some (y4 "type")))=true then _ else _)=_;rw[b8 (by simp)];exact hm
def A1{N:Addr}{c d}{es:Array ka}{n:Nat}{sl}(l:K.lookup N=some ⟨c,d,.dict es n,sl⟩)(h:(es.toList.all λe=>match e.key with | .str _ _=>true | _=>false)=true):uD K N=true:=by
 unfold uD;rw[l];rw[W4]at h;exact h
def U2:lI "int"=true:=by decide +kernel
def U1:lI "str"=true:=by decide +kernel
def NM:lI "list"=true:=by decide +kernel
def JB:lI "tuple"=true:=by decide +kernel
def NN:lI "bool"=true:=by decide +kernel
def vO:lI "ValueError"=true:=by decide +kernel
end
def wB{X:Cx}:JW X.nox:=λ_ _ h=>h
end L2
namespace TL
open L2
section
variable{X:Cx}{e:Expr}{te:ET}{pos:Pos}
def aKc(K:aI)(c:Value)(cv:V):List V->Hp->VK->Prop:=λxs H Q=>∃(p C:Addr)(dx:Option Addr)(b:Bool),xs=[.ref p,cv]/\H p=some (.ext (rL p C dx))/\(∀d,dx=some d->∃fs,H d=some (.xd fs))/\DW K C/\cV K (.ref C) c=some b/\Q (.bl b) H
def xQ{c cv}(d:∀u,fU cv u->u=c):kE X (.builtin "isinstance") (aKc X.K c cv):=by
 intro pins s σ H xs us Q I r h;obtain⟨p,C,dx,b,rfl,f,hd,g,hk,q⟩:=h;obtain⟨u,w,rfl,i,a⟩:=HN r;obtain rfl:=d _ a;cases i;exact CG I f hd g hk λtk=>⟨.bl b,H,I.tok tk,rfl,q⟩
def V3(K:aI)(c:Value)(te:ET):ET:=λσ Q=>te σ λd=>∃(C:Addr)(y:D)(b:Bool),d=.dict [(.int (C:Nat),y)]/\cV K (.ref C) c=some b/\Q (.bool b)
def GH{c cv g1 g2}(i:fY X e te)(pc:∀{v},PE X e v->PE X (.Call g1 [e,g2] [] pos) (Q0 (aKc X.K c cv) (wU v (wU (tC cv) DM)))):fY X (.Call g1 [e,g2] [] pos) (V3 X.K c te):=by
 obtain⟨v,j,re⟩:=i;refine⟨_,pc j,λB p0 H ps σT σ Q m o h k=>re B p0 H ps σT σ _ _ o h λd x H1 s1 g l=>?_⟩;obtain⟨C,y,b,rfl,hk,q⟩:=l
 generalize a:(qW [(.int (C:Nat),y)])=d at g
 cases g with
 |@exc p C' xk hp=>
  injection a with a;injection a with a;injection a with a f;injection a with a
  obtain rfl:C=C':=nT.inj a;exact⟨p,C,none,b,rfl,bU _ _ hp,(λ_ z=>nomatch z),xk.1,hk,k _ _ H1 s1 (.bool _) q⟩
 |@excA p C' dx n xk hp hx=>
  injection a with a;injection a with a;injection a with a f;injection a with a
  obtain rfl:C=C':=nT.inj a;exact⟨p,C,some dx,b,rfl,bU _ _ hp,λ_ z=>by cases z;exact⟨_,bU _ _ hx⟩,xk.1,hk,k _ _ H1 s1 (.bool _) q⟩
 |@excD p C' dx n cs2 xk hp hx _=>
  injection a with a;injection a with a;injection a with a f;injection a with a
  obtain rfl:C=C':=nT.inj a;exact⟨p,C,some dx,b,rfl,bU _ _ hp,λ_ z=>by cases z;exact⟨_,bU _ _ hx⟩,xk.1,hk,k _ _ H1 s1 (.bool _) q⟩
 |_=>cases a
end
end TL
namespace L2
section
variable{X:Cx}{k:Nat}{f C:Addr}{fd:iK}{ps:List Str}{sp:Sp}{m:Str}{n9 pos:Pos}{o e:Expr}{es:List Expr}{t:TA}{ta:TE}
def FY{pl}(b:JW X)(E:PE X o ta)(c:AL X.K C)(hm:AH X.K C m f)(F:dP X.prog X.w X.K X.mg X.base (Q6 X.prog X.w) k f fd ps sp)(J:gR k X.A)(hb:pS X.K fd ps [])(ha:PA X (e::es) t)
  (B:bI (e::es) X.env=(false,eval e X.env)::bI es X.env:=by rfl) (v:(m9 pos (bI es X.env)).any (·.1)=false:=by rfl)
  (L:eval (.Call (.Attribute o m n9) (e::es) [] pos) X.env=(do
   let ov <- eval o X.env
   nv n9.atName
   let (f,first) <- nt [ov] (km ov m pl)
   callWith pos f first (m9 pos (bI (e::es) X.env)) (zc pos (lx [] X.env))):=by rfl) :
  RE X (.Call (.Attribute o m n9) (e::es) [] pos) (λσ H W=>ta σ H λx d=>∃a dx fs,x=.ref a/\d a=some (.ins C dx fs)/\fs.lookup m=none/\t σ d λvs H1=>sp (x::vs) H1 (λ_ _=>False) (W H1)):=by
 intro pins s σ H W I h;refine sY (pl:=pl) (eF (E pins s σ H _ I h) (λu s1 hz=>?_) λe s z=>c7 z (b e s)) L;obtain⟨x,d,i,M,a,dx,fs,ex,y,l,q⟩:=hz;subst ex;obtain rfl:u=e7 a:=M;refine wG i y c hm l ?_;refine pU (first:=[.ref a]) (h₀:=X.base) I.ok.mod.kin hm.kp (eF (ha pos pins s1 σ d _ i q) (λus s2 hz=>?_) λe s z=>c7 z (b e s)) B v;obtain⟨vs,H1,g,r,j⟩:=hz;refine⟨g.kIn,?_⟩;have p:fM (.ref a::vs) (.ref a::us):=.cons rfl r;have G:(e7 a::us).length=ps.length:=by rw[<- p.length];exact F.len _ _ _ _ j
 have n:=hb s2 (.ref a::us) g.kIn (by rw[cJ];exact G);rw[cJ]at n;refine qp (dt (F.run X.A X.stack s2 H1 ⟨.ref a::us,[]⟩ (.ref a::us) (.ref a::vs) _ (W H1) J g.env0 n p j) λr s' b=>?_)
 cases r with
 |error e=>exact⟨H1,s2,g,b⟩
 |ok fl=>
  cases fl with
  |ret u=>obtain⟨_,_,_,_,_,_,_,z⟩:=b;exact z.elim
  |next=>exact j8 b
  |brk=>exact j8 b
  |cont=>exact j8 b
end
end L2
namespace TL
open L2
def XR1(K:aI)(d:D)(cls:Value)(dx:Option Addr):Prop:=∃C:Addr,d=.dict [(.int (C:Nat),.none)]/\cls=.ref C/\dx=none/\XOk K C
section
variable{F:sX}
def nL(K:aI)(sp:HH F):Sp:=λvs H _ E=>∃(ps:List Addr)(T:F.I)(n:F.S)(ds:List D)(b:F.S->D->Prop),(∀p∈ps,yQ (H p))/\(∀a∈F.ad T,a∈ps)/\F.At T K H ps n/\Reps K (mask H ps) ds vs/\sp (F.tau T) n ds b /\
 ∀n' d cls dx H',fR (F.ad T) H H'->F.At T K H' ps n'->XR1 K d cls dx->b n' d->E cls dx H'
def VP{P w}{mg:Str->Option Value}{base K x qual st}{f:Addr}{fd}{N pn:List Str}{k:Nat}{sp:HH F}(l:J6 K x qual st f fd)(S:bW N pn (bB st))(len:∀W n ds Q,sp W n ds Q->ds.length=pn.length)
  (U:∀(t6:Value)(A:g9)outer(s:Shared)H E,gR k (A.deeper (l3 qual (bB st) s.heap.objs.size f t6))->∀ps(T:F.I)(n:F.S)(ds:List D)(g:F.S->D->Prop),sp (F.tau T) n ds g->(∀n' d cls dx H',fR (F.ad T) H H'->F.At T K H' ps n'->XR1 K d cls dx->g n' d->E cls dx H') ->
   ∃t,pH (N9 P w K mg base N qual (bB st) f t6 A outer s H E) (lD st) t/\t (F.tau T) { nx:=λ_ _=>False,rt:=λ_ _=>False,xB:=λB p0=>B=gQ H (F.ad T)/\p0=ps } n (iH N ds)):dP P w K mg base (Q6 P w) (k+1) f fd pn (nL K sp):=by
 obtain⟨oc,od,kV,jt,pm,an,t6,ct,ly,rfl,J,v⟩:=l.ex;refine VO J v S (λvs H Q E h=>?_) λA outer s H vs Q E C h=>?_
 ·obtain⟨ps,T,n,ds,m,_,_,_,r,q,_⟩:=h;rw[<- r.length];exact len _ _ ds m q
 ·obtain⟨ps,T,n,ds,g,live,z,tp,r,q,y⟩:=h;obtain⟨t,⟨ts,p,O⟩,h⟩:=U t6 A outer s H E C ps T n ds g q y;have o:=oJ (N:=N) live r
  have G:∀(i:Nat)(us:List D),(iH N ds)[i]?≠some (.own us):=λi us e=>by
   obtain⟨q,_,_,_,j,_,c,_⟩:=o.own i us e;rw[j]at c;cases c
  have R:bA (gQ H (F.ad T)) H:=λa u e=>by
   unfold gQ at e;split at e
   ·cases e
   ·exact e
  have L:Ok K (gQ H (F.ad T)) ps H ps (iH N ds) (L2.lZ N vs):=⟨R,o.sub,o.live,o.len,o.val,λi us e=>c7 e (G i us),o.dis,λi hs kvs e=>by
   obtain⟨⟨q,es,_,_,j,_,c,_⟩,_⟩:=o.dc i hs kvs e;rw[j]at c;cases c⟩
  have M:lU F K (gQ H (F.ad T)) ps H ps (iH N ds) (L2.lZ N vs) T n:=⟨L,z,λa ha=>b8 ha,tp⟩;exact⟨ts,p,O _ ps H ps _ _ T n _ _ M h ⟨λ_ _ _ _ _ _ _ b=>b.elim,λ_ _ _ _ _ _ _ b=>b.elim,λ_ _ _ _ _ _ _ b=>b.elim,λ_ _ _ _ _ _ _ b=>b.elim,rfl,rfl⟩⟩
def vY{H0 H as}(s:bA (gQ H0 as) H):fR as H0 H:=λa u ne e=>s a u (by unfold gQ;rw[a8 ne];exact e)
def aDe(b:F.S->D->Prop)(d:Hp)(c:List Addr)(a:F.I)(C:Addr)(t:AT):SZ F:=λe DC n σ=>t σ λds=>ds.length<=1000/\e=F.tau a/\b n (.dict [(.int (C:Nat),.none)])/\∀B p0,DC.xB B p0->B=gQ d (F.ad a)/\p0=c
section
variable{P:dD}{w:j0}{K:aI}{mg:Str->Option Value}{base:Heap}{N:List Str}{qual:Str}{scope:Scope}{f:Addr}{cd:Value}{A:g9}{outer:List Env}{s:Shared}{H:Hp}{E:XK}{ED:F.S->D->Prop}{T0:F.I}{Ea:List Addr}
def HQ{C:Addr}{x np ag pos e es t}(c:∀n' d cls dx H',fR (F.ad T0) H H'->F.At T0 K H' Ea n'->XR1 K d cls dx->ED n' d->E cls dx H')(p:XOk K C)(ha:wQ (N9 P w K mg base N qual scope f cd A outer s H E) (e::es) t)
  (k:∀{ta},PA (N9 P w K mg base N qual scope f cd A outer s H E) (e::es) ta->PS (N9 P w K mg base N qual scope f cd A outer s H E) (.Raise (some (.Call (.Name x np) (e::es) [] ag)) none pos) (R0 C E ta)) :
  yP (N9 P w K mg base N qual scope f cd A outer s H E) (.Raise (some (.Call (.Name x np) (e::es) [] ag)) none pos) (aDe ED H Ea T0 C t):=by
 obtain⟨r,j,m⟩:=ha;refine⟨_,k j,λB p0 H' ps σT σ T n DC DV o h f=>m B p0 H' ps σT σ _ _ o.ok h λds vs H1 s1 l q=>?_⟩;obtain⟨g,i,hd,b⟩:=q;cases F.inj i;obtain⟨rfl,rfl⟩:=b B p0 f.xb;have a:=o.grow s1;exact⟨uT (by rw[<- l.length];exact g),c n _ _ _ H1 (vY a.ok.base) (F.to a.tp (λ_ _=>rfl) (fJ o.ok.sub)) ⟨C,rfl,rfl,rfl,p⟩ hd⟩
end
section
variable{X:Cx}{e:Expr}{pos:Pos}{st:Stmt}
def aMn(X:Cx)(W:Hp->List Addr->Prop)(e:Expr)(t:D->F.S->List Sl->Prop):Prop:=∃te:TE,PE X e te/\∀B p0 H ps σT σ T n (a:VK),lU F X.K B p0 H ps σT σ T n->t (F.tau T) n σT->W B p0->te σ H a
def wV{W:Hp->List Addr->Prop}{t:D->F.S->List Sl->Prop}(h:aMn X W e t)(p:∀{v},PE X e v->PS X (.Expr e pos) (yU v)):yP X (.Expr e pos) (λb DC n σ=>t b n σ/\∀B p0,DC.xB B p0->W B p0):=by
 obtain⟨v,a,r⟩:=h;exact⟨_,p a,λB p0 H ps σT σ T n DC DV o h f=>r B p0 H ps σT σ T n _ o h.1 (h.2 B p0 f.xb)⟩
def yP.or{t u:SZ F}(b:yP X st t)(c:yP X st u):yP X st (λa DC n σ=>t a DC n σ\/u a DC n σ):=by
 obtain⟨k,d,i⟩:=b;obtain⟨l,g,j⟩:=c;refine⟨λD σ H=>k D σ H\/l D σ H,λpins s σ H D I h=>?_,λB p0 H ps σT σ T n DC DV o h f=>?_⟩
 ·rcases h with h | h
  ·exact d pins s σ H D I h
  ·exact g pins s σ H D I h
 ·rcases h with h | h
  ·exact .inl (i B p0 H ps σT σ T n DC DV o h f)
  ·exact .inr (j B p0 H ps σT σ T n DC DV o h f)
def RSz(X:Cx)(st:Stmt)(t:EZ F):Prop:=∃rt:L2.St->Hp->(Hp->XK)->Prop,RS X st rt/\∀B p0 H ps σT σ T n (c:F.S->D->Prop)(W:Hp->XK),lU F X.K B p0 H ps σT σ T n->t (F.tau T) n σT c ->
 (∀n' d cls dx H1 b,fR (F.ad T) H H1->fR (F.ad T) H1 b->(∀a∈F.ad T,yQ (H1 a))->F.At T X.K b ps n'->XR1 X.K d cls dx->c n' d->W H1 cls dx b)->rt σ H W
def aEf{K H ps}{a C:Addr}(b:XOk K C)(hn:a∉ps):gW K (mask (fS H a (.ext (rL a C none))) ps) (.dict [(.int (C:Nat),.none)]) (.ref a):=.exc b (kI hn cE)
def lU.exc{B H H1 H2 p0 ps}{σT:List Sl}{σ:L2.St}{T n n'}{a C:Addr}{i:Nat}(o:lU F X.K B p0 H ps σT σ T n)(s1:fR (F.ad T) H H1)(s2:fR (F.ad T) H1 H2)(t:F.At T X.K H2 ps n')(f:XOk X.K C)(b:H2 a=none) :
  lU F X.K B p0 (fS H2 a (.ext (rL a C none))) ps (σT.set i (.val (.dict [(.int (C:Nat),.none)]))) (σ.set i (some (.ref a))) T n'/\bA (mask H ps) (mask (fS H2 a (.ext (rL a C none))) ps):=by
 have c:=o.growX (s1.trans s2) t;have d:=dH (o:=HO.ext (rL a C none)) b;exact⟨(c.grow d).set (aEf f (hU c.ok.live b)),((s1.trans s2).mask o.mem').trans (bG d)⟩
theorem lU.away{B H K p0 ps}{σT:List Sl}{σ:L2.St}{T n}(o:lU F K B p0 H ps σT σ T n)(i:Nat):lU F K B p0 H ps (σT.set i .un) (σ.set i none) T n:=⟨o.ok.away i,o.mem,o.nb,o.tp⟩
def aG1(K:aI)(J:Addr)(i:Nat)(t:EZ F)(ts:SZ F):SZ F:=λa DC n σ=>t a n σ λn1 d=>(∃C:Addr,d=.dict [(.int (C:Nat),.none)]/\gE K (.ref C) (.ref J)=some true) /\
 ts a { nx:=λn' d8=>DC.nx n' (d8.set i .un),rt:=λ_ _=>False,xB:=DC.xB } n1 (σ.set i (.val d))
def aDg{C a:Addr}(h:qW [(.int (C:Nat),.none)]=qW [(.int (a:Nat),.none)]):C=a:=by
 injection h with h
 injection h with h _
 injection h with h _
 injection h with h
 exact nT.inj h
def XW{J:Addr}{i:Nat}{g:ic}{j:List ic}{t:EZ F}{c suite}{ts:SZ F}(hs:RSz X st t)(hb:∀a,pH (X.marked a) (c::suite) ts)
  (pt:∀{rt:L2.St->Hp->(Hp->XK)->Prop}{us:Addr->TS},RS X st rt->(∀a,AG (X.marked a) (c::suite) (us a))->PS X (.Try [st] (g::j) [] [] pos) (aBj X.K J i rt us)):yP X (.Try [st] (g::j) [] [] pos) (aG1 X.K J i t ts):=by
 obtain⟨rt,r,p⟩:=hs;refine⟨_,pt r (λa=>(hb a).choose_spec.1),λB p0 H ps σT σ T n DC DV o h f=>p B p0 H ps σT σ T n _ _ o h λn1 d cls dx H1 x s1 s2 z s v q=>?_⟩;obtain⟨⟨C,hd,hm⟩,q⟩:=q;obtain⟨w,l,rfl,rfl,u⟩:=v;subst l;obtain rfl:=aDg hd;refine⟨hm,_,rfl,λa y k _=>?_⟩;obtain⟨m,sm⟩:=o.exc (i:=i) s1 s2 s u k;refine(hb a).choose_spec.2 B p0 _ ps _ _ T n1 { nx:=λn' d8=>DC.nx n' (d8.set i .un),rt:=λ_ _=>False,xB:=DC.xB } _ m q ⟨λH' l6 h9 d8 n' o' s' b=>?_,λ_ _ _ _ _ _ _ b=>b.elim,λ_ _ _ _ _ _ _ b=>b.elim,λ_ _ _ _ _ _ _ b=>b.elim,f.xb⟩;exact f.nx H' l6 _ _ n' (o'.away i) (sm.trans s') b
end
end
section
variable{X:Cx}{C:Addr}{e i:Expr}{es:List Expr}{te:ET}{pos n9:Pos}{st:Stmt}
def xL{m sp}{t:AZ (kX C)}{c:XA->D->Prop}{E:XK}{H0}{a:Bk}{Ea}(y:∀n' d cls dx H',fR [a.p,a.q] H0 H'->JU C a X.K H' Ea n'->XR1 X.K d cls dx->c n' d->E cls dx H')(hm:m∉L4)(z:fY X e te)(ha:QN X (i::es) t)
  (pc:∀{v ta},PE X e v->PA X (i::es) ta->PE X (.Call (.Attribute e m n9) (i::es) [] pos) (BG C m (nL X.K sp) [] E v ta)) :
  aMn (F:=kX C) X (λB p0=>B=gQ H0 [a.p,a.q]/\p0=Ea) (.Call (.Attribute e m n9) (i::es) [] pos) (λb n σ=>te σ λd=>d=b/\b=nQ a/\t b n σ λn1 ds=>sp b n1 (b::ds) c):=by
 obtain⟨v,J,re⟩:=z;obtain⟨Q,I,O⟩:=ha;refine⟨_,pc J I,λB p0 H ps σT σ T n l o h w=>re B p0 H ps σT σ _ _ o.ok h λd x H1 s1 M f=>?_⟩;obtain⟨rfl,A,f⟩:=f;obtain⟨rfl,r⟩:=kL (T':=T) o s1 M rfl;obtain rfl:T=a:=iM A;obtain⟨_,_,_,_,u,_⟩:=id r;refine⟨_,_,_,rfl,u,vA hm,O B p0 H1 ps σT σ T n _ _ (o.grow s1) f λG as xs k s2 j N L=>?_⟩;obtain⟨rfl,rfl⟩:=w;show nL X.K sp (.ref T.p::(xs++[])) k l E;rw[cJ];have g:=(o.grow s1).growX s2 j;exact⟨ps,T,G,nQ T::as,c,g.ok.live,o.mem',j,.cons (wA T) N,L,λn' d cls dx H' s' t' P s=>y n' d cls dx H' ((vY g.ok.base).trans s') ((kX C).to t' (λ_ _=>rfl) (fJ o.ok.sub)) P s⟩
def BO{m sp t}(hm:m∉L4)(s:fY X e te)(ha:QN X (i::es) t)
  (pc:∀{v}{g:TA},PE X e v->PA X (i::es) g->RS X st (λσ H W=>v σ H λx f=>∃a dx fs,x=.ref a/\f a=some (.ins C dx fs)/\fs.lookup m=none/\g σ f λvs H1=>nL X.K sp (x::vs) H1 (λ_ _=>False) (W H1))) :
  RSz (F:=kX C) X st (aDf C sp te t):=by
 obtain⟨v,z,re⟩:=s;obtain⟨L,y,I⟩:=ha;refine⟨_,pc z y,λB p0 H ps σT σ T n j W o h k=>re B p0 H ps σT σ _ _ o.ok h λd x H1 s1 E b=>?_⟩;obtain⟨rfl,b⟩:=b;obtain⟨rfl,p⟩:=kL (T':=T) o s1 E rfl;obtain⟨_,_,_,_,r,_⟩:=id p;refine⟨_,_,_,rfl,r,vA hm,I B p0 H1 ps σT σ T n _ _ (o.grow s1) b λu as xs l s2 c G A=>?_⟩;have w:=(o.grow s1).growX s2 c;exact⟨ps,T,u,nQ T::as,j,w.ok.live,o.mem',c,.cons (wA T) G,A,λn' d cls dx H' s' t' J q=>k n' d cls dx l H' ((fR.of s1).trans s2) s' ((kX C).liv c) t' J q⟩
end
def YJ{x y:Addr}(h:EE x=EE y):x=y:=by
 unfold EE at h;injection h with h
 injection h with h _
 injection h with _ h
 injection h with h
 injection h with h _
 injection h with h
 exact nT.inj h
def vZ{K H}{x:Addr}{v}(r:gW K H (EE x) v):v=.ref x:=by
 unfold EE at r
 generalize a:(qW [(.str "@",.list [.int (x:Nat)])])=d at r
 cases r with
 |@addr p z=>
  injection a with a
  injection a with a _
  injection a with _ a
  injection a with a
  injection a with a _
  injection a with a
  rw[nT.inj a]
 |dct=>
  injection a with a
  injection a with a _
  injection a with a _
  injection a with a
  exact c7 a (by decide +kernel)
 |_=>cases a
noncomputable def wE(F:sX):sX where
 I:=F.I×Addr
 S:=F.S×List D
 ad:=λT=>T.2::F.ad T.1
 tau:=λT=>.tuple [F.tau T.1,EE T.2]
 At:=λT K H ps n=>T.2∉F.ad T.1/\F.At T.1 K H ps n.1/\∃xs,H T.2=some (.lst xs)/\Reps K (mask H ps) n.2 xs
 to:=λ{T K H H' ps l6 n} h e s=>by
  obtain⟨c,b,xs,d,f⟩:=h;exact⟨c,F.to b (λa ha=>e a (aJ _ ha)) s,xs,by rw[e T.2 (aO ..)];exact d,f.same s⟩
 liv:=λ{T K H ps n} h a ha=>by
  obtain⟨c,b,xs,d,f⟩:=h;rcases aP.mp ha with rfl | ha
  ·exact⟨_,d,rfl⟩
  ·exact F.liv b a ha
 inj:=λ{T T'} h=>by
  injection h with h
  injection h with c h
  injection h with b _
  exact Prod.ext (F.inj c) (YJ b)
section
variable{F:sX}{K:aI}{B H:Hp}{p0 ps:List Addr}{σT:List Sl}{σ:L2.St}{T:F.I×Addr}{n:F.S×List D}
def lU.fst(o:lU (wE F) K B p0 H ps σT σ T n):lU F K (xH B [T.2] H) p0 H ps σT σ T.1 n.1:=by
 obtain⟨ok,mem,nb,tp⟩:=o;have p:T.2∉F.ad T.1:=tp.1;have c:T.2∈p0:=mem T.2 (aO ..);refine⟨⟨λa u e=>?_,ok.sub,ok.live,ok.len,ok.val,λi ts h=>?_,ok.dis,?_⟩,λa ha=>mem a (aJ _ ha),λa ha=>?_,tp.2.1⟩
 ·by_cases z:a∈[T.2]
  ·rw[xG z]at e;exact e
  ·rw[jT z]at e;exact ok.base a u e
 ·obtain⟨q,xs,f,g,k,d,l,m⟩:=ok.own i ts h;exact⟨q,xs,f,g,by rw[jT λz=>d (by rw[bM.mp z];exact c)];exact k,d,l,m⟩
 ·exact ok.dc.to (λj hs kvs h=>⟨h,rfl⟩) (λq φ a b _=>⟨a,rfl⟩) (λq φ _ _ a b=>⟨by rw[jT λz=>b (by rw[bM.mp z];exact c)];exact a,b⟩) (L2.bA.refl _)
 ·rw[jT λz=>p (by rw[<- bM.mp z];exact ha)];exact nb a (aJ _ ha)
end
section
variable{F:sX}{X:Cx}{e:Expr}
def zUp(t:EZ F):EZ (wE F):=λc n σ Q=>∃a b,c=.tuple [a,b]/\t a n.1 σ λn1 d=>Q (n1,n.2) d
def aC5{K H H' ps}{T:F.I×Addr}{n:F.S×List D}{n'}(a:(wE F).At T K H ps n)(hm:∀a∈F.ad T.1,a∈ps)(s:fR (F.ad T.1) H H')(t:F.At T.1 K H' ps n'):(wE F).At T K H' ps (n',n.2):=by
 obtain⟨b,_,xs,d,c⟩:=a;exact⟨b,t,xs,s _ _ b d,c.same (s.mask hm)⟩
def fR.more{as bs H H'}(s:fR as H H')(h:∀a∈as,a∈bs):fR bs H H':=λa o ne e=>s a o (λz=>ne (h a z)) e
def aL1{t}(h:zN X e t):zN (F:=wE F) X e (zUp t):=by
 obtain⟨v,p,r⟩:=h;refine⟨v,p,λB p0 H ps σT σ T n Q j o h k=>?_⟩;obtain⟨m,l,b,h⟩:=h;injection b with b
 injection b with c _
 subst c;exact r _ p0 H ps σT σ T.1 n.1 _ _ o.fst h λn1 d x H1 s1 i g f=>k (n1,n.2) d x H1 (s1.more λa ha=>aJ _ ha) (aC5 o.tp (λa ha=>o.mem' a (aJ _ ha)) s1 i) g f
def aNk(t:TZ F):TZ (wE F):=λd n σ Q=>∃a c,d=.tuple [a,c]/\t a n.1 σ λn1 b=>Q (n1,n.2) b
def aBh{t}(h:N6 X e t):N6 (F:=wE F) X e (aNk t):=by
 obtain⟨v,p,r⟩:=h;refine⟨v,p,λB p0 H ps σT σ T n Q i o h k=>?_⟩;obtain⟨l,j,b,h⟩:=h;injection b with b
 injection b with c _
 subst c;exact r _ p0 H ps σT σ T.1 n.1 _ _ o.fst h λn1 d H1 s1 g f=>k (n1,n.2) d H1 (s1.more λa ha=>aJ _ ha) (aC5 o.tp (λa ha=>o.mem' a (aJ _ ha)) s1 g) f
noncomputable def unR(p0:List Addr)(r:Addr):List Addr:=p0.filter λa=>decide (a≠r)
def jC{p0}{r a:Addr}:a∈unR p0 r↔a∈p0/\a≠r:=by
 unfold unR;rw[cC,f9]
end
def oC{H ps}{r:Addr}:bA (mask H ps) (mask H (unR ps r)):=fJ λa ha=>(jC.mp ha).1
section
variable{F:sX}{K:aI}{B H:Hp}{p0 ps:List Addr}{σT:List Sl}{σ:L2.St}{T:F.I×Addr}{n:F.S×List D}{j:Nat}
def lU.slotL(o:lU (wE F) K B p0 H ps σT σ T n)(c:σT[j]?=some (.val (EE T.2))):σ[j]?=some (some (.ref T.2)):=by
 obtain⟨v,a,b⟩:=o.ok.val j _ c;rw[vZ b]at a;exact a
def lU.memL(o:lU (wE F) K B p0 H ps σT σ T n):T.2∈ps:=o.mem' T.2 (aO ..)
def lU.shr(o:lU (wE F) K B p0 H ps σT σ T n)(w:σT[j]?=some (.val (EE T.2))):Ok K (xH B (T.2::F.ad T.1) H) (unR p0 T.2) H (unR ps T.2) (σT.set j (.val (.list n.2))) σ:=by
 have y:=o.slotL w;obtain⟨ok,mem,nb,J,I,xs,x,G⟩:=o;have r:j<σT.length:=(aF.mp w).1;refine⟨λa u e=>?_,λa ha=>jC.mpr ⟨ok.sub a (jC.mp ha).1,(jC.mp ha).2⟩,λa ha=>ok.live a (jC.mp ha).1,by rw[aBa];exact ok.len,λi d h=>?_,λi ts h=>?_,λi k ts us p c f m g=>?_,?_⟩
 ·by_cases z:a∈T.2::F.ad T.1
  ·rw[xG z]at e;exact e
  ·rw[jT z]at e;exact ok.base a u e
 ·by_cases z:j=i
  ·subst z;rw[aR r]at h;cases h;exact⟨_,y,.list (nB.of (kI (λz=>(jC.mp z).2 rfl) x)) (G.same oC)⟩
  ·rw[aQ z]at h;obtain⟨v,c,f⟩:=ok.val i d h;exact⟨v,c,f.same oC⟩
 ·by_cases z:j=i
  ·subst z;rw[aR r]at h;cases h
  ·rw[aQ z]at h;obtain⟨q,ys,c,f,m,g,A,C⟩:=ok.own i ts h;have E:q≠T.2:=λz=>g (by rw[z];exact mem T.2 (aO ..));exact⟨q,ys,c,jC.mpr ⟨f,E⟩,by rw[jT (show q∉T.2::F.ad T.1 fromλz=>g (mem q z))];exact m,λz=>g (jC.mp z).1,A,C.same oC⟩
 ·have t:∀{l:Nat}{vs:List D},(σT.set j (.val (.list n.2)))[l]?=some (.own vs)->σT[l]?=some (.own vs):=λ{l vs} h=>by
   by_cases z:j=l
   ·subst z;rw[aR r]at h;cases h
   ·rw[aQ z]at h;exact h
  exact ok.dis i k ts us p (t c) (t f) m g
 ·exact ok.dc.to (λi hs kvs h=>by
   obtain⟨z,hz⟩:=uX (s:=.val (.list n.2)) (λ_ _ z=>nomatch z) h;exact⟨hz,rfl⟩) (λq φ a b _=>⟨jC.mpr ⟨a,λz=>by rw[z,x]at b;cases b⟩,rfl⟩) (λq φ _ _ a b=>⟨by rw[jT (show q∉T.2::F.ad T.1 fromλz=>b (mem q z))];exact a,λz=>b (jC.mp z).1⟩) oC
def UP(a:(wE F).At T K H ps n)(e:T.2∈ps){us ys}(h:Reps K (mask H ps) us ys):(wE F).At T K (fS H T.2 (.lst ys)) ps (n.1,us):=by
 obtain⟨c,d,xs,f,_⟩:=a;have hm:bA (mask H ps) (mask (fS H T.2 (.lst ys)) ps):=by rw[eQ e];exact L2.bA.refl _
 exact⟨c,F.to d (λb hb=>bZ λz=>c (by rw[<- z];exact hb)) hm,ys,cE,h.same hm⟩
end
section
variable{F:sX}{X:Cx}{e m:Expr}{te:ET}{pos ap cp:Pos}{i:Nat}
def aA5(c:D)(σ:List Sl)(i:Nat):Prop:=∃b a,c=.tuple [b,a]/\σ[i]?=some (.val a)
def aA5.sg{T:F.I×Addr}{σ}(h:aA5 ((wE F).tau T) σ i):σ[i]?=some (.val (EE T.2)):=by
 obtain⟨c,b,a,h⟩:=h;injection a with a
 injection a with _ a
 injection a with a _
 subst a;exact h
def aG2(i:Nat)(t:vD):TZ (wE F):=λa n σ Q=>aA5 a σ i/\t (σ.set i (.val (.list n.2))) (Q n)
def aDj(i:Nat){t}(h:C5 X e t):N6 (F:=wE F) X e (aG2 i t):=by
 obtain⟨v,p,r⟩:=h;refine⟨v,p,λB p0 H ps σT σ T n Q a o h k=>?_⟩;obtain⟨c,h⟩:=h;exact r _ _ H _ _ σ _ a (o.shr c.sg) h λb H1 s1 d=>k n b H1 (.of s1) (o.tp.grow s1) d
def aBe(i:Nat)(te:ET):SZ (wE F):=λa DC n σ=>aA5 a σ i/\te σ λd=>n.2.length<=100000/\DC.nx (n.1,n.2++[d]) σ
def XZ(hn:PE X m (qM i))(j:fY X e te)(hs:bI [e] X.env=(false,eval e X.env)::bI [] X.env:=by rfl)
  (pb:∀{ta},PA X [e] ta->PS X (.Expr (.Call (.Attribute m "append" ap) [e] [] cp) pos) (yU (Q1 X.K "list" AU (qM i) ta))):yP (F:=wE F) X (.Expr (.Call (.Attribute m "append" ap) [e] [] cp) pos) (aBe i te):=by
 obtain⟨v,p,r⟩:=j;refine⟨_,pb (fP p jX hs),λB p0 H ps σT σ T n DC DV o h f=>?_⟩;obtain⟨k,h⟩:=h;obtain⟨_,_,xs,b,a⟩:=id o.tp;refine⟨.ref T.2,o.slotL k.sg,.inl ⟨rfl,xs,nB.of b⟩,r B p0 H ps σT σ _ _ o.ok h λd x H1 s1 l g=>?_⟩;refine⟨T.2,xs,x,rfl,rfl,s1 _ _ b,?_,?_⟩
 ·rw[<- a.length];have:bE=2^24:=rfl;have:=g.1;lia
 ·have c:=o.grow s1;have q:=UP c.tp o.memL ((a.same (bG s1)).append (.cons l .nil));exact f.nx _ ps σT σ _ (c.there (aO ..) q) ((bG s1).trans (by rw[eQ o.memL];exact L2.bA.refl _)) g.2
end
section
variable{F:sX}{t:vE}{u:SZ F}{τ:D}{DC:vV F}{n:F.S}{σ:List Sl}{i:Nat}{te:EZ F}
def gG(h:hZ t (λ_=>u τ DC n) { nx:=λ_=>True,rt:=λ_=>False,bk:=DC.bk n,ct:=DC.ct n } σ):vK (zP t) u τ DC n σ:=h
def XH(R:F.S->D->Prop)(h:∀q:F.S->D->Prop,(∀m v,R m v->q m v)->te τ n σ q)(k:∀m v,R m v->u τ DC m (σ.set i (.val v))):vK (aDd i te) u τ DC n σ:=h _ k
def KD{c:TZ F}{t e:SZ F}(b:Bool)(h:∀q:F.S->Bool->Prop,q n b->c τ n σ q)(k1:b=true->t τ { DC with nx:=u τ DC } n σ)(k0:b=false->e τ { DC with nx:=u τ DC } n σ):vK (zIf c t e) u τ DC n σ:=by
 refine h _ ?_
 cases b with
 |true=>rw[b8 rfl];exact k1 rfl
 |false=>rw[a8 (by decide)];exact k0 rfl
def BA{c:TZ F}{t e:SZ F}(b:Bool)(h:∀q:F.S->Bool->Prop,q n b->c τ n σ q)(k1:b=true->t τ DC n σ)(k0:b=false->e τ DC n σ):zIf c t e τ DC n σ:=by
 refine h _ ?_
 cases b with
 |true=>rw[b8 rfl];exact k1 rfl
 |false=>rw[a8 (by decide)];exact k0 rfl
def RF{ti}{ts:List D}{g:GT}{tb}(b:sM ti σ ts)(P:Nat->F.S->List Sl->Prop)(a:P 0 n σ)
  (hs:∀(k:Nat)(m:F.S)(x:D)d8,ts[k]?=some x->P k m d8->g x d8 λc=>tb τ { DC with nx:=P (k+1),ct:=P (k+1),bk:=u τ DC } m c) (hd:∀m d8,P ts.length m d8->u τ DC m d8):vK (aG7 ti g tb) u τ DC n σ:=
 b _ ⟨P,a,hs,hd⟩
end
end TL
namespace L2
def gR.u1{k:Nat}{A:PySem.Around}(r:gR k A):A.units+1<PySem.cLine:=by have:=r.units;lia
end L2
namespace TL
open L2
section
variable{F:sX}{X:Cx}{e:Expr}
def BD{te:EZ F}(h:zN X e te)(pt:∀{t:TE},PE X e t->PT X e (tB t)):N6 X e (aGz te):=by
 obtain⟨v,p,r⟩:=h;refine⟨_,pt p,λB p0 H ps σT σ T n Q g o h k=>r B p0 H ps σT σ T n _ _ o h λn1 d x H1 s1 f b a=>?_⟩
 cases b with
 |bool c=>exact⟨c,rfl,k n1 c H1 s1 f a⟩
 |_=>exact a.elim
end
section
variable{X:Cx}{e:Expr}{te:ET}{x:Str}{pos q9:Pos}
def ss(i:Nat)(a:X.N.Nodup)(h:fY X e te)(hi:X.N[i]?=some x:=by rfl)(c:W8 X.env.scope x:=by first | exact y9 rfl | exact v8 rfl)(hs:mJ e (some (.Name x q9)) pos.line X.env=pure false:=by rfl)
  (b:X.fn x=true\/X.env.scope.names.lookup x=some .local:=by first | exact .inl rfl | exact .inr rfl):A8 X (.Assign [.Name x q9] e pos) (KQ i te):=aDz (i:=i) h λh=>BV a hi c h hs b
def pn(i:Nat)(a:X.N.Nodup)(hi:X.N[i]?=some x:=by rfl)(c:W8 X.env.scope x:=by first | exact y9 rfl | exact v8 rfl)(b:X.fn x=true\/X.env.scope.names.lookup x=some .local:=by first | exact .inl rfl | exact .inr rfl):PG X (.Name x pos) (kP i):=M3 a hi c b
def nM{N P:List Str}{sc:Scope}(a:sc.kind=.function:=by rfl)(b:sc.isCoroutine=false:=by rfl)(c:sc.isGenerator=false:=by rfl)(d:N.Nodup:=by decide +kernel)(f:N.take P.length=P:=by rfl)(g:∀x∈P,sc.names.lookup x=some .local\/sc.names.lookup x=some .cell:=by decide +kernel)(h:∀y∈sc.names,y.2≠.free:=by decide +kernel):bW N P sc:=⟨a,b,c,d,f,g,h⟩
end
end TL
namespace L2
noncomputable abbrev fO(x q:Str)(st:Stmt)(kV dc pm:Value)(an:Option Addr)(cd ct:Value):iK:=nS x q (xO st) (lD st) (bB st) .none kV dc pm an cd ct
def aO0{b:Type}{P:List b->Prop}(h:∀a,P [a]):∀us:List b,us.length=1->P us
|[a],_=>h a
def aOz{c:Type}{P:List c->Prop}(h:∀a b,P [a,b]):∀us:List c,us.length=2->P us
|[a,b],_=>h a b
def aOy{d:Type}{P:List d->Prop}(h:∀a b c,P [a,b,c]):∀us:List d,us.length=3->P us
|[a,b,c],_=>h a b c
def aOx{e:Type}{P:List e->Prop}(h:∀a b c d,P [a,b,c,d]):∀us:List e,us.length=4->P us
|[a,b,c,d],_=>h a b c d
def aOw{g:Type}{P:List g->Prop}(h:∀a b c d e f,P [a,b,c,d,e,f]):∀us:List g,us.length=6->P us
|[a,b,c,d,e,f],_=>h a b c d e f
abbrev pR(x q:Str)(st:Stmt)(ps:List Str):Prop:=∀(kV dc pm:Value)(an:Option Addr)(cd ct:Value)(us:List Value),us.length=ps.length->bindArgs (fO x q st kV dc pm an cd ct) ⟨us,[]⟩=pure (ps.zip us)
structure Dg(K:aI)(x q:Str)(st:Stmt)(a:Addr)(f:iK)(ps:List Str):Prop where
 k:gD K (.ref a)=true
 F:J6 K x q st a f
 d:pS K f ps []
structure Df(K:aI)(mg:Str->Option Value)(x:Str)(st:Stmt)(a:Addr)(f:iK)(ps:List Str):Prop extends Dg K x x st a f ps where
 m:mg x=some (.ref a)
section
variable{K:aI}{h:Heap}{mg:Str->Option Value}{x q:Str}{st:Stmt}{ps:List Str}{f:Addr}{oc:Value}{od an:Option Addr}{sl:Array (Option Value)}{kV dc pm cd ct:Value}
def dg(b:pR x q st ps)(l:K.lookup f=some ⟨oc,od,.func (fO x q st kV dc pm an cd ct),sl⟩)(c:pT K cd q=true)(k:gD K (.ref f)=true):Dg K x q st f (fO x q st kV dc pm an cd ct) ps:=⟨k,VH l c k,(VH l c k).binds b⟩
def df(X:K.In h)(G:h.Ns fD mg)(b:pR x x st ps)(a:iN K fD x=some (some (.ref f)))(l:K.lookup f=some ⟨oc,od,.func (fO x x st kV dc pm an cd ct),sl⟩)(c:pT K cd x=true)(k:gD K (.ref f)=true):Df K mg x st f (fO x x st kV dc pm an cd ct) ps:=⟨dg b l c k,qU X G a⟩
def QC{p0}(h:∀kV dc pm an cd ct a0,bindArgs (fO x q st kV dc pm an cd ct) ⟨[a0],[]⟩=pure ([p0].zip [a0]):=by intros;rfl):pR x q st [p0]:=λa b c d e f=>aO0 (h a b c d e f)
def zM{p0 p1}(h:∀kV dc pm an cd ct a0 g,bindArgs (fO x q st kV dc pm an cd ct) ⟨[a0,g],[]⟩=pure ([p0,p1].zip [a0,g]):=by intros;rfl):pR x q st [p0,p1]:=λa b c d e f=>aOz (h a b c d e f)
def W6{p0 p1 p2}(h:∀kV dc pm an cd ct a0 g a2,bindArgs (fO x q st kV dc pm an cd ct) ⟨[a0,g,a2],[]⟩=pure ([p0,p1,p2].zip [a0,g,a2]):=by intros;rfl):pR x q st [p0,p1,p2]:=λa b c d e f=>aOy (h a b c d e f)
def bn4{p0 p1 p2 p3}(h:∀kV dc pm an cd ct a0 g a2 i,bindArgs (fO x q st kV dc pm an cd ct) ⟨[a0,g,a2,i],[]⟩=pure ([p0,p1,p2,p3].zip [a0,g,a2,i]):=by intros;rfl):pR x q st [p0,p1,p2,p3]:=λa b c d e f=>aOx (h a b c d e f)
def bn6{p0 p1 p2 p3 p4 p5}(h:∀kV dc pm an cd ct a0 g a2 i a4 j,bindArgs (fO x q st kV dc pm an cd ct) ⟨[a0,g,a2,i,a4,j],[]⟩=pure ([p0,p1,p2,p3,p4,p5].zip [a0,g,a2,i,a4,j]):=by intros;rfl):pR x q st [p0,p1,p2,p3,p4,p5]:=λa b c d e f=>aOw (h a b c d e f)
def na{C:Addr}{f}(h:dU K (.ref C) f=some none):gM K C f:=h
end
end L2
namespace TL
open L2
section
variable{X:Cx}{e:Expr}{es:List Expr}{te:ET}{x:Str}{pos q9 p:Pos}
def cd{k n:Nat}{f:Addr}{fd pn sp t st}(F:dP X.prog X.w X.K X.mg X.base iL k f fd pn (dB X.K sp))(D:Df X.K X.mg x st f fd pn)(a:gR n X.A)(ha:wQ X (e::es) t)(hk:k<=n:=by decide)
  (g:Gl X x:=by rfl) (i:(x==("__debug__":Str))=false:=by decide) (c:bI (e::es) X.env=(false,eval e X.env)::bI es X.env:=by rfl) (b:(m9 pos (bI es X.env)).any (·.1)=false:=by rfl):fY X (.Call (.Name x p) (e::es) [] pos) (pO sp t):=aAk F D.m D.k D.d (a.mono hk) ha λh=>mG F (a.mono hk) g D.m D.k D.d .nil jE h i c b
def cF{k n:Nat}{f:Addr}{fd pn sp t st}(F:dP X.prog X.w X.K X.mg X.base iL k f fd pn (iS X.K sp))(D:Df X.K X.mg x st f fd pn)(a:gR n X.A)(ha:wQ X (e::es) t)(hk:k<=n:=by decide)
  (g:Gl X x:=by rfl) (i:(x==("__debug__":Str))=false:=by decide) (c:bI (e::es) X.env=(false,eval e X.env)::bI es X.env:=by rfl) (b:(m9 pos (bI es X.env)).any (·.1)=false:=by rfl):N8 X (.Call (.Name x p) (e::es) [] pos) (aCw sp t):=aAa F D.m D.k D.d (a.mono hk) ha λh=>mG F (a.mono hk) g D.m D.k D.d .nil jE h i c b
def cQ{k n:Nat}{f:Addr}{fd pn sp t st}(F:dP X.prog X.w X.K X.mg X.base iL k f fd pn (uS X.K sp))(D:Df X.K X.mg x st f fd pn)(a:gR n X.A)(ha:wQ X (e::es) t)(hk:k<=n:=by decide)
  (g:Gl X x:=by rfl) (i:(x==("__debug__":Str))=false:=by decide) (c:bI (e::es) X.env=(false,eval e X.env)::bI es X.env:=by rfl) (b:(m9 pos (bI es X.env)).any (·.1)=false:=by rfl):PPt X (.Call (.Name x p) (e::es) [] pos) (aB1 sp t):=TF F D.m D.k D.d (a.mono hk) ha λh=>mG F (a.mono hk) g D.m D.k D.d .nil jE h i c b
def sf{tg iter body g tb ti}(f:N7 X tg iter ti)(h:JX X tg g)(hb:sV X body tb)(i:PassesOwn (model X.prog X.w) X.A X.env X.xe:=by exact bf)(d:X.calm=true:=by rfl)(hs:∀x,m4 iter X.env x=pure x:=by intro _;rfl):A8 X (.For tg iter body [] pos) (YU ti g tb):=aD1 f h hb λa b c=>K0 i d a b c hs
def el{aj iter tg ae scope fr N' ti g tt te}(hi:N7 X tg iter ti)(c:∀b:BP,JX (blk X scope N' b) tg g/\G3 (blk X scope N' b) ae tt/\fY (blk X scope N' b) aj te)(h:sR scope X.env.scope X.N N' fr=true:=by kernel_rfl)(d:X.calm=true:=by rfl)(hs:∀x,m4 iter X.env x=pure x:=by intro _;rfl):fY X (.ListComp aj [⟨tg,iter,ae,0⟩] scope pos) (P2 fr ti g tt te):=aL2 hi c λa b=>TN h d a b hs
def fl{aj iter tg ae scope fr N' ti g tt te}(hi:N7 X tg iter ti)(c:∀b:BP,JX (blk X scope N' b) tg g/\G3 (blk X scope N' b) ae tt/\fY (blk X scope N' b) aj te)(h:sR scope X.env.scope X.N N' fr=true:=by kernel_rfl)(d:X.calm=true:=by rfl)(hs:∀x,m4 iter X.env x=pure x:=by intro _;rfl):N8 X (.ListComp aj [⟨tg,iter,ae,0⟩] scope pos) (fLc fr ti g tt te):=aLu hi c λa b=>TN h d a b hs
def cY{r:List V->Hp->VK->Prop}{f:List D->(D->Prop)->Prop}{t T}(d:pQ X r f)(ha:wQ X (e::es) t)(b:kE X (.type T) r)(hm:X.mg x=none)(i:g6 x=some (.type T))(g:Gl X x:=by rfl)(hn:x≠"__name__":=by decide)(j:(x==("__debug__":Str))=false:=by decide)(c:bI (e::es) X.env=(false,eval e X.env)::bI es X.env:=by rfl)(a:(m9 pos (bI es X.env)).any (·.1)=false:=by rfl):fY X (.Call (.Name x p) (e::es) [] pos) (pO f t):=aC0 d ha λh=>uQ b g hm i h hn j c a
def cB{r:List V->Hp->VK->Prop}{f:List D->(D->Prop)->Prop}{t T}(d:pQ X r f)(ha:wQ X (e::es) t)(b:kE X (.builtin T) r)(hm:X.mg x=none)(i:g6 x=some (.builtin T))(g:Gl X x:=by rfl)(hn:x≠"__name__":=by decide)(j:(x==("__debug__":Str))=false:=by decide)(c:bI (e::es) X.env=(false,eval e X.env)::bI es X.env:=by rfl)(a:(m9 pos (bI es X.env)).any (·.1)=false:=by rfl):fY X (.Call (.Name x p) (e::es) [] pos) (pO f t):=aC0 d ha λh=>kN b g hm i h hn j c a
def so{p2 t}(i:Nat)(a:X.N.Nodup)(h:wQ X es t)(hi:X.N[i]?=some x:=by rfl)(c:W8 X.env.scope x:=by first | exact y9 rfl | exact v8 rfl)(hs:mJ (.List es p2) (some (.Name x q9)) pos.line X.env=pure false:=by rfl)(b:X.fn x=true\/X.env.scope.names.lookup x=some .local:=by first | exact .inl rfl | exact .inr rfl):A8 X (.Assign [.Name x q9] (.List es p2) pos) (YS i t):=aD0 (i:=i) h λh=>BV a hi c h hs b
noncomputable def ndB(l:List Str):Bool:=decide l.Nodup
def pk(i:Nat)(a:ndB X.N=true:=by kernel_rfl)(hi:X.N[i]?=some x:=by rfl)(c:W8 X.env.scope x:=by first | exact y9 rfl | exact v8 rfl)(b:X.fn x=true\/X.env.scope.names.lookup x=some .local:=by first | exact .inl rfl | exact .inr rfl):PG X (.Name x pos) (kP i):=M3 (c8 a) hi c b
def tv(h:fY X e te)(b:∀a,isTrue e X.env a=(do let v <- a;nv e.pos;nt [v] (truthy v)):=by intro _;rfl):C5 X e (JR te):=aDl h λh=>yC h b
end
end TL
namespace L2
section
variable{K:aI}{C J:Addr}{cd:ClassData}
def NT(a:kB K J=some cd)(b:kR K (.ref J)=some (.type "type"))(hb:bT K J (.type "BaseException")=some true)(hm:bT K C (.ref J)=some false):gE K (.ref C) (.ref J)=some false:=by
 unfold gE;have e:XB K (.ref J) (.type "BaseException")=some true:=hb;rw[e,b8 (by simp)];unfold uF;dsimp only;rw[a,b];show(if(true&&(some (y4 "type")==some (y4 "type")))=true then _ else _)=_;rw[b8 (by simp)];exact hm
end
section
variable{prog:dD}{w:j0}{A:g9}{E:Value->Shared->Prop}{s:Shared}{d:Addr}{kvs:List (jN×Value)}
def DS{Q:List Value->Shared->Prop}(z:A.handled=none)(y:(d==r8)=false)(hd:s.heap.DictOf (fH prog w) d kvs)(B:kvs.length<=bE)
  (h:∀h' tk (f:Array Value),s.heap.objs.size<=h'.objs.size->(∀b o,s.heap.get? b=some o->h'.get? b=some o)->ItemsOf (λi v=>∃k x,kvs[i]?=some (k,x)/\(fH prog w).is k v=true) f kvs.length->Q f.toList { s with heap:=h',toks:=tk }) :
  wpAny (model prog w) A (collect (.ref d)) Q E s:=by
 obtain⟨ep,q⟩:=hd.dictAt;obtain⟨o,es,l,hex,n,jW⟩:=id q;have m:d<s.heap.objs.size:=aY l;unfold collect;refine aE (wpAny_runValue (codeAny_builtin PySem.F.entry_proto_collect ?_));rw[nj PySem.F.plain_proto_collect _];show wpAny _ A.in1 (newList [] >>= λr=>zb (.builtin "list.__iadd__" ⟨[r,.ref d],[]⟩)) _ _ s;refine aE (iI ?_);refine aV ⟨plainId_quiet FK _,codeAny_builtin PySem.F.entry_list_iadd ?_⟩;rw[nj FK _]
 generalize g:s.heap.push { cls:=.type "list",data:=.seq ([]:List Value).toArray }=H1
 have t:H1.get? s.heap.objs.size=some { cls:=.type "list",data:=.seq ([]:List Value).toArray }:=by rw[<- g];exact aZ _ rfl
 have k1:∀b o,s.heap.get? b=some o->H1.get? b=some o:=λb o e=>by rw[<- g];exact aG _ e
 have p:Heap.DictAt (fH prog w) H1 d kvs ep:=⟨o,es,k1 _ _ l,hex,n,jW⟩;show wpAny _ A.in1 (Builtin.List.listExtendWith (.ref s.heap.objs.size) (.ref d) (.ref s.heap.objs.size)) _ _ _
 refine PySem.W.kdl_extend (R:=λr s'=>match r with
  |.ok (.ret v)=>wpAny (model prog w) A (match v with
   |.ref a=>do
    match(<- load a).data with
    |.seq xs _=>pure xs.toList
    |_=>unsupported "internal:collect"
   |_=>unsupported "internal:collect") Q E s'
  |.ok _=>False
  |.error e=>E e s') (s:={ s with heap:=H1 }) (PySem.W.kdl_dict (kvs:=kvs) (ep:=ep) y) z p s.heap.objs.size (gS m) (gS m) _ 0 t (λh' tk f c C j u=>?_) B
 dsimp only;refine aE (Ei j ?_);refine aV (h h' tk f ?_ (λb o e=>C b o (cI (aY e)) (k1 b o e)) u);exact iE (aY j)
theorem E1:∀{is:List Int}{kv:List (jN×Value)}{vs:List Value},kv.map (·.1)=is.map u7->vs.length=kv.length->(∀(j:Nat)(v:Value),vs[j]?=some v->∃k x,kv[j]?=some (k,x)/\(fH prog w).is k v=true)->IntsAre vs is
|[],[],[],_,_,_=>.nil
|[],_::_,_,h,_,_=>by simp at h
|_::_,[],_,h,_,_=>by simp at h
|_,_::_,[],_,h,_=>by simp at h
|_,[],_::_,_,h,_=>by simp at h
|i::is,(k,x)::kv,v::vs,h,hl,hv=>by
 rw[bR,bR]at h;injection h with a b
 obtain⟨f,g,e,hk⟩:=hv 0 v rfl;cases e;obtain rfl:k=.inl i:=a;obtain⟨t,rfl⟩:∃t,v=.int i t:=NO hk;exact .cons i t (E1 b (by simpa using hl) λj c e=>hv (j+1) c (by simpa using e))
def FU{Q:Value->Shared->Prop}{is:List Int}(F:A.handled=none)(z:(d==r8)=false)(hd:s.heap.DictOf (fH prog w) d kvs)(hi:kvs.map (·.1)=is.map u7)(H:is.length<=60)
  (h:∀h' tk (r:Addr) (out:Array Value) e,s.heap.objs.size<=r->(∀b o,s.heap.get? b=some o->h'.get? b=some o)->h'.get? r=some (j2 "list" out e)->(∃us,IntsAre out.toList us/\us.Pairwise (·<·)/\us.Perm is)->Q (.ref r) { s with heap:=h',toks:=tk }) :
  wpAny (model prog w) A (call (.builtin "sorted") [.ref d]) Q E s:=by
 have I:kvs.length=is.length:=by have:=j5 lK hi;rwa [aB,aB]at this
 have l:is.Nodup:=by
  obtain⟨_,_,_,_,_,_,_,_,nd⟩:=id hd;rw[hi]at nd;exact(nX.mp nd).imp λh e=>h (by rw[e])
 have G:bE=2^24:=rfl;refine Calls.call_function_entry kind_sorted plain_sorted entry_sorted (args_sorted1 _) ?_;unfold am.«sorted»;refine aE (m:=checkCount "sorted" 1 1 _) (aV ?_);refine aE (DS (by simp[F]) z hd (by lia) λh' tk a n g f=>?_);have p:a.toList.length=kvs.length:=by rw[fG];exact f.1
 have B:IntsAre a.toList is:=E1 hi p λj v e=>f.2 j v (by rw[<- jO];exact e);refine aE (ud ?_ (by lia));have c:(h'.push (j2 "list" a.toList.toArray 0)).get? h'.objs.size=some (j2 "list" a.toList.toArray 0):=aZ _ rfl;refine aE (cm (lQ slot_list_sort ⟨_,c,rfl⟩ entry_list_sort (list_sort_tree c B (by lia) λout k q a2 t=>⟨_,rfl,?_⟩) (args_list_sort _)));have y:k.Pairwise (·<·):=(List.pairwise_and_iff.mpr ⟨t,a2.nodup_iff.mpr l⟩).imp λh=>by have:=h.1;have:=h.2;lia
 obtain⟨e,C⟩:=sortedHeap_at (out:=out) c;refine aV ⟨_,rfl,h _ tk h'.objs.size out e n (λb u x=>?_) C ⟨k,q,y,a2⟩⟩;have i:=aY (g b u x);rw[sortedHeap_old (cI i) (bP i (by rw[fE];exact wM _))];exact aG _ (g b u x)
end
section
variable{X:Cx}
def wJ(f:X.calm=true):kE X (.builtin "sorted") (λxs H Q=>∃(p:Addr)(kvs:List (jN×V))(is:List Int),xs=[.ref p]/\H p=some (.dK kvs)/\kvs.map (·.1)=is.map u7/\is.length<=60/\∀(r:Addr)(us:List Int),H r=none->us.Pairwise (·<·)->us.Perm is->Q (.ref r) (fS H r (.lst (us.map V.int)))):=by
 intro pins s σ H xs us Q I r h;obtain⟨p,kvs,is,rfl,i,hi,hz,q⟩:=h;obtain⟨u,rfl,l⟩:=nV r;cases l;obtain⟨z,hd,vs,d,dd⟩:=zJ I.hok i;refine FU (I.ok.hd f) hd dd (is:=is) (by rw[<- hi,d.keys]) hz λh' tk r out e b k g m=>?_;obtain⟨us,j,c,a⟩:=m;refine⟨.ref r,_,I.laid (t':=tk) (o:=.lst (us.map V.int)) k b ?_,rfl,q _ us (I.hok.fresh b) c a⟩;have t:bE=2^24:=rfl;have n:=a.length_eq;exact⟨by rw[aB];lia,out.toList,e,NA j,by simpa[j2]using g⟩
end
section
variable{prog:dD}{w:j0}{A:g9}{E:Value->Shared->Prop}{s:Shared}{o:Addr}{kvs:List (jN×Value)}
theorem B8:∀{acc more:List (jN×Value)},((acc++more).map (·.1)).Nodup->merged acc more=acc++more
|acc,[],_=>by show acc=acc++[];rw[cJ]
|acc,(k,x)::more,nd=>by
 have e:Ee acc k x=acc++[(k,x)]:=by
  have hn:k∉acc.map (·.1):=λz=>by
   rw[bQ,bR]at nd;exact(List.nodup_append.mp nd).2.2 k z k (aO ..) rfl
  have ha:(acc.any λkv=>decide (kv.1=k))=false:=by
   rw[W3];intro z;obtain⟨e,a,hk⟩:=oN.mp z;exact hn (bC.mpr ⟨e,a,c8 hk⟩)
  unfold Ee;rw[ha];rfl
 show merged (Ee acc k x) more=_;rw[e,B8 (by rw[hV];exact nd),hV];rfl
def C1{Q:Value->Shared->Prop}(n:(o==r8)=false)(hd:s.heap.DictOf (fH prog w) o kvs)(q:kvs.length<=bE)
  (h:∀h',DA (fH prog w) h' s.heap.objs.size kvs->(∀b ob,s.heap.get? b=some ob->h'.get? b=some ob)->Q (.ref s.heap.objs.size) { s with heap:=h' }) :
  wpAny (model prog w) A (call (.type "dict") [.ref o]) Q E s:=by
 obtain⟨ob,es,ep,f,hex,i,j,k,nd⟩:=id hd;have lo:o<s.heap.objs.size:=aY f;refine callType_codes (Q₁:=λobj s1=>obj=.ref s.heap.objs.size/\s1={ s with heap:=s.heap.push { cls:=.type "dict",data:=.dict #[] } }) PySem.F.kt_called_dict (PySem.F.kt_typeCall_dict_1 _) PySem.F.entry_dict_init (kt_code_dict_new _ ⟨rfl,rfl⟩) λobj s1 hz=>?_;obtain⟨rfl,rfl⟩:=hz;have gN:(s.heap.push { cls:=.type "dict",data:=.dict #[] }).get? s.heap.objs.size=some { cls:=.type "dict",data:=.dict #[] }:=aZ _ rfl;have d:(s.heap.push { cls:=.type "dict",data:=.dict #[] }).get? o=some ob:=aG _ f;have g:Shared.TypeIs { s with heap:=s.heap.push { cls:=.type "dict",data:=.dict #[] } } (.ref s.heap.objs.size) "dict":=⟨_,gN,rfl⟩;have a:Shared.TypeIs { s with heap:=s.heap.push { cls:=.type "dict",data:=.dict #[] } } (.ref o) "dict":=⟨_,d,hex.1⟩;refine⟨g,PySem.F.args_dict_init_2 _ _,?_⟩;have l:DA (fH prog w) (s.heap.push { cls:=.type "dict",data:=.dict #[] }) s.heap.objs.size []:=⟨_,#[],0,gN,⟨rfl,rfl,rfl⟩,rfl,(λe p=>by simp at p),.nil,List.nodup_nil⟩;have m:DA (fH prog w) (s.heap.push { cls:=.type "dict",data:=.dict #[] }) o kvs:=⟨ob,es,ep,d,hex,i,j,k,nd⟩;unfold am.«dict.__init__» Builtin.Dict.selfAndRest Builtin.Dict.notOrdered
 try dsimp only
 rw[b8 (by decide +kernel)];refine aE (aE (aE (dy g ?_)));rw[a8 (by decide)];refine aV ?_
 try dsimp only
 refine aE (aV (aV ?_))
 try dsimp only
 unfold Builtin.Dict.updateCommon Builtin.Dict.updateFrom
 try dsimp only
 refine aE (dy a ?_);rw[a8 (by decide)]
 try dsimp only
 unfold Builtin.Dict.merge Builtin.Dict.readDirectly;refine aE (aE (aE (wpAny_isInstance (T:="dict") (b:=true) a PySem.F.sub_dict_dict ?_)));rw[a8 (by decide)];refine aE (wpAny_specialOf a PySem.F.slot_dict_iter.lookup ?_);refine aV ?_;rw[b8 (by decide +kernel)];refine aE (aV ?_);refine wpAny_mergeDict (gS lo) n l m (λh' c r sb=>?_) (by simpa using q);rw[B8 (by simpa using nd),DF]at c;refine aE ?_;unfold Builtin.Dict.addKeywords;rw[FN];refine aE (aV (aV ?_));refine aV ⟨rfl,h h' c λb ob e=>?_⟩;exact(sb.2 b (cI (aY e))).trans (aG _ e)
end
section
variable{X:Cx}
def L3:kE X (.type "dict") (λxs H Q=>∃(p:Addr)(kvs:List (jN×V)),xs=[.ref p]/\H p=some (.dK kvs)/\∀r,H r=none->Q (.ref r) (fS H r (.dK kvs))):=by
 intro pins s σ H xs us Q I r h;obtain⟨p,kvs,rfl,c,q⟩:=h;obtain⟨u,rfl,e⟩:=nV r;cases e;obtain⟨z,hd,vs,a,dd⟩:=zJ I.hok c;refine C1 hd dd (by rw[<- a.length];exact z) λh' b d=>?_;exact⟨.ref s.heap.objs.size,_,I.laid (t':=s.toks) (o:=.dK kvs) d (aN _) ⟨z,beq_eq_false_iff_ne.mpr (n8 (cI I.big)),vs,a,b⟩,rfl,q _ (I.hok.fresh (aN _))⟩
end
end L2
namespace TL
open L2
noncomputable def ZK(ks:List (Int×D)):List (D×D):=ks.map λe=>(.int e.1,e.2)
noncomputable def wO(ks:List (Int×D)):D:=.dict ((.str "{}",.list [])::ZK ks)
noncomputable def HF(ks:List (Int×D)):Sl:=.dic [] (ZK ks)
section
variable{K:aI}{H B:Hp}{p0 ps:List Addr}{σT h9:List Sl}{σ:L2.St}{p:Addr}{ks bo:List (Int×D)}{es zf:List (jN×V)}{i:Nat}
theorem LK:∀{ks}{es:List (jN×V)},(ZK ks).map (·.1)=es.map (λe=>kD e.1)->Reps K H ((ZK ks).map (·.2)) (es.map (·.2))->rT K H ks es
|[],[],_,_=>.nil
|[],_::_,h,_=>by cases h
|_::_,[],h,_=>by cases h
| (i,d)::ks,(k,v)::es,h,r=>by
 have h':aW i::(ZK ks).map (·.1)=kD k::es.map (λe=>kD e.1):=h;injection h' with a b
 have c:Reps K H (d::(ZK ks).map (·.2)) (v::es.map (·.2)):=r
 cases c with
 |cons f g=>
  cases k with
  |inl j=>
   have e:i=j:=by injection a
   subst e;exact .cons f (LK b g)
  |inr x=>cases a
theorem CB:∀{ks}{es:List (jN×V)},rT K H ks es->(ZK ks).map (·.1)=es.map (λe=>kD e.1)/\Reps K H ((ZK ks).map (·.2)) (es.map (·.2))
|_,_,.nil=>⟨rfl,.nil⟩
|_,_,.cons r t=>by
 obtain⟨a,b⟩:=CB t;exact⟨j5 (aW _::·) a,.cons r b⟩
def BS{v}(r:gW K H (wO ks) v):∃(p:Addr)(es:List (jN×V)),v=.ref p/\H p=some (.dK es)/\rT K H ks es:=by
 unfold wO at r
 generalize b:(qW ((.str "{}",.list [])::ZK ks))=d at r
 cases r with
 |@dct p es ku h1 h2 h3=>
  injection b with b
  injection b with _ c
  subst c;exact⟨p,es,rfl,h1,LK h2 h3⟩
 |addr z=>
  injection b with b
  injection b with a _
  injection a with a _
  injection a with a
  exact c7 a (by decide +kernel)
 |ins _ _=>
  injection b with b
  injection b with a _
  injection a with a _
  injection a with a
  exact c7 a (by decide +kernel)
 |_=>cases b
def UH(h:H p=some (.dK es))(k:rT K H ks es):gW K H (wO ks) (.ref p):=.dct h (CB k).1 (CB k).2
def Ok.re(o:Ok K B p0 H ps σT σ)(g:h9.length=σT.length)(k:∀(j:Nat)(d:D),h9[j]?=some (.val d)->σT[j]?=some (.val d))(a:∀(j:Nat)(ts:List D),h9[j]?=some (.own ts)->σT[j]?=some (.own ts))(hd:qH K B p0 H ps h9 σ):Ok K B p0 H ps h9 σ where
 base:=o.base
 sub:=o.sub
 live:=o.live
 len:=g.trans o.len
 val:=λj d h=>o.val j d (k j d h)
 own:=λj ts h=>o.own j ts (a j ts h)
 dis:=λi j ts us q b c e f=>o.dis i j ts us q (a i ts b) (a j us c) e f
 dc:=hd
def Ok.poke(o:Ok K B p0 H ps σT σ){φ u}(c:p∈ps)(n:B p=none)(r:H p=some (.dK φ))(hn:∀(j:Nat)(hs:List Int)(kvs:List (D×D)),σT[j]?≠some (.dic hs kvs))(t:U5 u=false:=by rfl):Ok K B p0 (fS H p u) ps σT σ where
 base:=λb w e=>by
  rw[bZ λz=>by rw[z,n]at e;cases e];exact o.base b w e
 sub:=o.sub
 live:=λq s=>by
  by_cases e:q=p
  ·subst e;rw[cE];exact⟨_,rfl,t⟩
  ·rw[bZ e];exact o.live q s
 len:=o.len
 val:=λi d h=>by rw[eQ c];exact o.val i d h
 own:=λi ts h=>by
  rw[eQ c];obtain⟨q,xs,f,g,k,l,a,m⟩:=o.own i ts h;exact⟨q,xs,f,g,k,l,by rw[bZ λz=>by rw[z,r]at a;cases a];exact a,m⟩
 dis:=o.dis
 dc:=λi hs kvs h=>c7 h (hn i hs kvs)
def MS{i j:Nat}{s d}(hs:∀d,s≠.val d)(h:(σT.set i s)[j]?=some (.val d)):i≠j/\σT[j]?=some (.val d):=by
 by_cases e:i=j
 ·subst e;have hi:i<σT.length:=by simpa using(aF.mp h).1
  rw[aR hi]at h;exact c7 (d7 h) (hs d)
 ·rw[aQ e]at h;exact⟨e,h⟩
def wW{i j:Nat}{s ts}(hs:∀ts,s≠.own ts)(h:(σT.set i s)[j]?=some (.own ts)):i≠j/\σT[j]?=some (.own ts):=by
 by_cases e:i=j
 ·subst e;have hi:i<σT.length:=by simpa using(aF.mp h).1
  rw[aR hi]at h;exact c7 (d7 h) (hs ts)
 ·rw[aQ e]at h;exact⟨e,h⟩
structure WU(K:aI)(B:Hp)(p0:List Addr)(H:Hp)(ps:List Addr)(p:Addr)(es:List (jN×V))(ks:List (Int×D)):Prop where
 mem:p∈ps
 new:B p=none
 out:p∉p0
 obj:H p=some (.dK es)
 kv:rT K (mask H ps) ks es
def Ok.toN(o:Ok K B p0 H ps σT σ)(f:σ[i]?=some (some (.ref p)))(hn:∀(j:Nat)(hs:List Int)(kvs:List (D×D)),i≠j->σT[j]?≠some (.dic hs kvs))(x:WU K B p0 H ps p es ks):Ok K B p0 H ps (σT.set i (HF ks)) σ:=by
 refine o.re (by simp) (λj d h=>(MS (by intro _ z;cases z) h).2) (λj ts h=>(wW (by intro _ z;cases z) h).2) λj m n h=>?_;have hi:i<σT.length:=by rw[o.len];exact(aF.mp f).1
 have only:∀(l:Nat)(b:List Int)(a:List (D×D)),(σT.set i (HF ks))[l]?=some (.dic b a)->i=l:=λl b a c=>by
  by_cases e:i=l
  ·exact e
  ·rw[aQ e]at c;exact c7 c (hn l b a e)
 obtain rfl:=only j m n h;rw[aR hi]at h;injection h with h
 injection h with g k
 subst g k;exact⟨⟨p,es,f,x.mem,x.new,x.out,x.obj,rfl,(CB x.kv).1,(CB x.kv).2⟩,λl b a c=>only l b a c⟩
def Ok.isN(o:Ok K B p0 H ps σT σ)(h:σT[i]?=some (HF ks)):(∃(p:Addr)(es:List (jN×V)),σ[i]?=some (some (.ref p))/\WU K B p0 H ps p es ks)/\∀(j:Nat)(a:List Int)(b:List (D×D)),i≠j->σT[j]?≠some (.dic a b):=by
 obtain⟨⟨p,es,c,a2,d,a4,f,_,g,k⟩,u⟩:=o.dc i _ _ h;exact⟨⟨p,es,c,a2,d,a4,f,LK g k⟩,λj a b ne e=>ne (u j a b e)⟩
def Ok.forget(o:Ok K B p0 H ps σT σ)(h:σT[i]?=some (HF ks)):Ok K B p0 H ps (σT.set i .un) σ/\∀(j:Nat)(hs:List Int)(kvs:List (D×D)),(σT.set i .un)[j]?≠some (.dic hs kvs):=by
 have c:∀(j:Nat)(hs:List Int)(kvs:List (D×D)),(σT.set i .un)[j]?≠some (.dic hs kvs):=λj a b e=>by
  obtain⟨ne,f⟩:=uX (by intro _ _ z;cases z) e;exact(o.isN h).2 j a b ne f
 exact⟨o.re (by simp) (λj d h=>(MS (by intro _ z;cases z) h).2) (λj ts h=>(wW (by intro _ z;cases z) h).2) λj a b e=>c7 e (c j a b),c⟩
def Ok.newN(o:Ok K B p0 H ps σT σ)(hi:i<σT.length)(hn:∀(j:Nat)(hs:List Int)(kvs:List (D×D)),σT[j]?≠some (.dic hs kvs))(a:H p=none)(k:rT K (mask H ps) ks es):Ok K B p0 (fS H p (.dK es)) (p::ps) (σT.set i (HF ks)) (σ.set i (some (.ref p))):=by
 have c:=(o.adopt (u:=.dK es) a).setUn (i:=i) (v:=.ref p);have b:(σ.set i (some (V.ref p)))[i]?=some (some (.ref p)):=aR (by rw[<- o.len];exact hi)
 have d:=c.toN (i:=i) (es:=es) (ks:=ks) b (λj hs kvs ne e=>by
  rw[aQ ne]at e;exact hn j hs kvs e) ⟨aO ..,bA.free' o.base a,λz=>hU o.live a (o.sub p z),cE,by rw[lG a];exact k⟩
 rwa [aGv]at d
def Ok.putN(o:Ok K B p0 H ps σT σ)(h:σT[i]?=some (HF ks))(c:σ[i]?=some (some (.ref p)))(x:WU K B p0 H ps p es ks)(k:rT K (mask H ps) bo zf):Ok K B p0 (fS H p (.dK zf)) ps (σT.set i (HF bo)) σ:=by
 obtain⟨e,a⟩:=o.forget h;have b:mask (fS H p (.dK zf)) ps=mask H ps:=eQ x.mem;have f:=(e.poke (u:=.dK zf) x.mem x.new x.obj a).toN (i:=i) (es:=zf) (ks:=bo) c (λj hs d _=>a j hs d) ⟨x.mem,x.new,x.out,cE,by rw[b];exact k⟩
 rwa [aGv]at f
def Ok.shareN(o:Ok K B p0 H ps σT σ)(hi:σT[i]?=some (HF ks)):∃l6:List Addr,Ok K B p0 H l6 (σT.set i (.val (wO ks))) σ/\bA (mask H ps) (mask H l6):=by
 obtain⟨⟨p,es,l,x⟩,u⟩:=o.isN hi;have s:i<σT.length:=(aF.mp hi).1;have f:p∉ps.filter λq=>decide (q≠p):=λz=>(c8 (cC.mp z).2) rfl;have b:bA (mask H ps) (mask H (ps.filter λq=>decide (q≠p))):=fJ λq a=>(cC.mp a).1;refine⟨ps.filter λq=>decide (q≠p),⟨o.base,λq a=>cC.mpr ⟨o.sub q a,c6 λz=>x.out (z▸a)⟩,λq a=>o.live q (cC.mp a).1,by simpa using o.len,λj d h=>?_,λj us h=>?_,λj k us t q k1 k2 k3 c=>?_,λj m r h=>?_⟩,b⟩
 ·by_cases e:i=j
  ·subst e;rw[aR s]at h;cases h;exact⟨_,l,UH (kI f x.obj) (x.kv.same b)⟩
  ·rw[aQ e]at h;obtain⟨v,k1,k2⟩:=o.val j d h;exact⟨v,k1,k2.same b⟩
 ·obtain⟨_,h⟩:=wW (by intro _ z;cases z) h;obtain⟨q,ys,k1,k2,k3,c,k5,n⟩:=o.own j us h;have g:q≠p:=λz=>by rw[z,x.obj]at k5;cases k5
  exact⟨q,ys,k1,cC.mpr ⟨k2,c6 g⟩,k3,c,k5,n.same b⟩
 ·exact o.dis j k us t q (wW (by intro _ z;cases z) k1).2 (wW (by intro _ z;cases z) k2).2 k3 c
 ·obtain⟨ne,h⟩:=uX (by intro _ _ z;cases z) h;exact c7 h (u j m r ne)
end
section
variable{X:Cx}{a b e n:Expr}{es:List Expr}{ta te ti tv:ET}{pos:Pos}
def aC1(te ti:ET):ET:=λσ Q=>te σ λd=>ti σ λy=>∃(ks:List (Int×D))(j:Int)(x:D),d=wO ks/\y=.int j/\oS ks j=some x/\Q x
def GG(s:X.A.units+1<aq)(m:fY X a te)(hi:fY X b ti)(hs:WT b:=by intro _ _;rfl):fY X (.Subscript a b pos) (aC1 te ti):=by
 obtain⟨v,t,re⟩:=m;obtain⟨K,u,I⟩:=hi;refine⟨_,F5 s t u hs,λB p0 H ps σT σ Q J o h k=>re B p0 H ps σT σ _ _ o h λd x H1 s1 F C=>I B p0 H1 ps σT σ _ _ (o.grow s1) C λy L i s2 G E=>?_⟩;obtain⟨ks,j,z,rfl,rfl,g,q⟩:=E;cases G;obtain⟨p,es,rfl,r,kv⟩:=BS (F.same (bG s2));rcases kv.val j with⟨c,f⟩ | ⟨d,w,c,f,l⟩
 ·rw[g]at c;cases c
 ·rw[g]at c;cases c;refine⟨p,w,rfl,?_,k z w i (s1.trans s2) l q⟩;have:=AK.k (k:=.inl j) (bU _ _ r);rw[f]at this;exact this
def aF1(i:Nat)(ti:ET):ET:=λσ Q=>∃ks:List (Int×D),σ[i]?=some (HF ks)/\ti σ λy=>∃(j:Int)(x:D),y=.int j/\oS ks j=some x/\Q x
def VX{i:Nat}(s:X.A.units+1<aq)(hn:PE X n (qM i))(hi:fY X b ti)(hs:WT b:=by intro _ _;rfl):fY X (.Subscript n b pos) (aF1 i ti):=by
 obtain⟨G,t,E⟩:=hi;refine⟨_,F5 s hn t hs,λB p0 H ps σT σ Q F o h k=>?_⟩;obtain⟨ks,hi,h⟩:=h;obtain⟨⟨p,es,m,x⟩,u⟩:=o.isN hi;refine⟨.ref p,m,E B p0 H ps σT σ _ _ o h λy I l s2 C v=>?_⟩;obtain⟨j,z,rfl,g,q⟩:=v;cases C;rcases(x.kv.same (bG s2)).val j with⟨c,f⟩ | ⟨d,w,c,f,r⟩
 ·rw[g]at c;cases c
 ·rw[g]at c;cases c;refine⟨p,w,rfl,?_,k z w l s2 r q⟩;have:=AK.k (k:=.inl j) (s2 _ _ x.obj);rw[f]at this;exact this
def aL6(ti te:ET)(σ:List Sl)(Q:Bool->Prop):Prop:=ti σ λy=>te σ λd=>∃(ks:List (Int×D))(j:Int),d=wO ks/\y=.int j/\Q (oS ks j).isNone
def XO(m:X.A.units+1<aq)(hi:fY X b ti)(i:fY X a te)(hm:k8 .NotIn a=false:=by first | exact B5 _ | rfl):C5 X (.Compare b [.NotIn] [a] pos) (aL6 ti te):=by
 obtain⟨v,r,re⟩:=i;obtain⟨G,s,E⟩:=hi;refine⟨_,S6 (EJ m s r) hm,λB p0 H ps σT σ Q F o h k=>E B p0 H ps σT σ _ _ o h λy I H1 s1 z t=>re B p0 H1 ps σT σ _ _ (o.grow s1) t λd x g s2 C u=>?_⟩;obtain⟨ks,j,rfl,rfl,q⟩:=u;cases z;obtain⟨p,es,rfl,l,kv⟩:=BS C;refine⟨p,rC es (.inl j),rfl,AK.k (k:=.inl j) (bU _ _ l),_,rfl,k _ g (s1.trans s2) ?_⟩;rcases kv.val j with⟨c,f⟩ | ⟨d,w,c,f,_⟩
 ·rw[c]at q;rw[f];exact q
 ·rw[c]at q;rw[f];exact q
def aL7(te:ET):ET:=λσ Q=>te σ λd=>∃ks:List (Int×D),d=wO ks/\Q (.int (ks.length:Nat))
def aAg{g}(c:fY X e te)(hs:bI [e] X.env=(false,eval e X.env)::bI [] X.env:=by rfl)
  (pc:∀{ta},PA X [e] ta->PE X (.Call g [e] [] pos) (Q0 (λxs H Q=>∃(p:Addr)(kvs:List (jN×V)),xs=[.ref p]/\H p=some (.dK kvs)/\Q (.int kvs.length) H) ta)):fY X (.Call g [e] [] pos) (aL7 te):=by
 obtain⟨v,i,re⟩:=c;refine⟨_,pc (fP i jX hs),λB p0 H ps σT σ Q m o h k=>re B p0 H ps σT σ _ _ o h λd x H1 s1 l j=>?_⟩;obtain⟨ks,rfl,q⟩:=j;obtain⟨p,es,rfl,f,kv⟩:=BS l;refine⟨p,es,rfl,bU _ _ f,k (.int (ks.length:Nat)) _ H1 s1 ?_ q⟩;rw[kv.length];exact .int _
theorem rT.keys{K H}:∀{ks:List (Int×D)}{es:List (jN×V)},rT K H ks es->es.map (·.1)=(ks.map (·.1)).map u7
|_,_,.nil=>rfl
|_,_,.cons _ t=>by show _::_=_::_;rw[t.keys]
theorem MV{K H}:∀us:List Int,Reps K H (us.map aW) (us.map V.int)
|[]=>.nil
|u::us=>.cons (.int u) (MV us)
def V1(te:ET):ET:=λσ Q=>te σ λd=>∃ks:List (Int×D),d=wO ks/\ks.length<=60/\∀us:List Int,us.Pairwise (·<·)->us.Perm (ks.map (·.1))->Q (.list (us.map aW))
def CO{g}(j:fY X e te)(hs:bI [e] X.env=(false,eval e X.env)::bI [] X.env:=by rfl)
  (pc:∀{ta},PA X [e] ta->PE X (.Call g [e] [] pos) (Q0 (λxs H Q=>∃(p:Addr)(kvs:List (jN×V))(is:List Int),xs=[.ref p]/\H p=some (.dK kvs)/\kvs.map (·.1)=is.map u7/\is.length<=60/\∀(r:Addr)(us:List Int),H r=none->us.Pairwise (·<·)->us.Perm is->Q (.ref r) (fS H r (.lst (us.map V.int)))) ta)):fY X (.Call g [e] [] pos) (V1 te):=by
 obtain⟨v,s,re⟩:=j;refine⟨_,pc (fP s jX hs),λB p0 H ps σT σ Q w o h k=>re B p0 H ps σT σ _ _ o h λd x H1 s1 u t=>?_⟩;obtain⟨ks,rfl,l,q⟩:=t;obtain⟨p,es,rfl,m,kv⟩:=BS u;refine⟨p,es,ks.map (·.1),rfl,bU _ _ m,kv.keys,by rw[aB];exact l,λr us c f i=>k _ _ _ (s1.trans (dH c)) ?_ (q us f i)⟩;exact rY (o.grow s1).live c (MV us)
def aFx{p2}:fY X (.Dict [] [] p2) (eC (wO [])):=
 ⟨_,BY,λB p0 H ps σT σ Q d o h k p c=>k _ _ _ (dH c) (UH (kI (hU o.live c) cE) .nil) h⟩
def aBs(i:Nat):vE:=λDT σ=>i<σ.length/\(∀(j:Nat)(hs:List Int)(kvs:List (D×D)),σ[j]?≠some (.dic hs kvs))/\DT.nx (σ.set i (HF []))
def YB{i:Nat}{x q9 p2}(l6:∀{v},PE X (.Dict [] [] p2) v->PS X (.Assign [.Name x q9] (.Dict [] [] p2) pos) (tF v (kP i))):A8 X (.Assign [.Name x q9] (.Dict [] [] p2) pos) (aBs i):=by
 refine⟨_,l6 BY,λB p0 H ps σT σ DT DV o h f p c=>?_⟩;exact f.nx _ (p::ps) _ _ (o.newN h.1 h.2.1 c .nil) (by rw[lG c];exact L2.bA.refl _) h.2.2
def SJ(i:Nat)(te:ET):vE:=λDT σ=>i<σ.length/\(∀(j:Nat)(hs:List Int)(kvs:List (D×D)),σ[j]?≠some (.dic hs kvs))/\te σ λd=>∃ks:List (Int×D),d=wO ks/\DT.nx (σ.set i (HF ks))
def SC{i:Nat}{x q9 p2 g}(j:fY X e te)(hs:bI [e] X.env=(false,eval e X.env)::bI [] X.env:=by rfl)
  (pc:∀{ta},PA X [e] ta->PS X (.Assign [.Name x q9] (.Call g [e] [] p2) pos) (tF (Q0 (λxs H Q=>∃(p:Addr)(kvs:List (jN×V)),xs=[.ref p]/\H p=some (.dK kvs)/\∀r,H r=none->Q (.ref r) (fS H r (.dK kvs))) ta) (kP i))) :
  A8 X (.Assign [.Name x q9] (.Call g [e] [] p2) pos) (SJ i te):=by
 obtain⟨v,l,re⟩:=j;refine⟨_,pc (fP l jX hs),λB p0 H ps σT σ DT DV o h f=>?_⟩;obtain⟨hi,hn,h⟩:=h;refine re B p0 H ps σT σ _ _ o h λd x H1 s1 s m=>?_;obtain⟨ks,rfl,q⟩:=m;obtain⟨p,es,rfl,k,kv⟩:=BS s;refine⟨p,es,rfl,bU _ _ k,λr c=>?_⟩;exact f.nx _ (r::ps) _ _ ((o.grow s1).newN hi hn c kv) ((bG s1).trans (by rw[lG c];exact L2.bA.refl _)) q
def MU(i:Nat)(ti tv:ET):vE:=λDT σ=>∃ks:List (Int×D),σ[i]?=some (HF ks)/\tv σ λx=>ti σ λy=>∃j:Int,y=.int j/\ks.length<=100000/\DT.nx (σ.set i (HF (zY ks j x)))
def FS{i:Nat}{p2 value}(r:X.A.units+1<aq)(hn:PE X n (qM i))(J:fY X e ti)(s:fY X value tv)(hs:mJ value (some (.Subscript n e p2)) pos.line X.env=pure false:=by rfl) :
  A8 X (.Assign [.Subscript n e p2] value pos) (MU i ti tv):=by
 obtain⟨O,m,I⟩:=s;obtain⟨N,pk,G⟩:=J;refine⟨_,M1 r hn pk m hs,λB p0 H ps σT σ DT DV o h f=>?_⟩;obtain⟨ks,hi,h⟩:=h;obtain⟨⟨p,es,g,x⟩,u⟩:=o.isN hi;refine I B p0 H ps σT σ _ _ o h λv y H1 s1 E w=>⟨.ref p,g,G B p0 H1 ps σT σ _ _ (o.grow s1) w λk z l s2 F C=>?_⟩;obtain⟨j,rfl,M,q⟩:=C;cases F;have c:=s1.trans s2;have d:WU X.K B p0 l ps p es ks:=⟨x.mem,x.new,x.out,c _ _ x.obj,x.kv.same (bG c)⟩;have L:bE=2^24:=rfl;refine⟨p,_,rfl,QO.k (k:=.inl j) (v:=y) d.obj (by rw[<- d.kv.length];lia),?_⟩;have t:=(o.grow c).putN hi g d (d.kv.put (i:=j) (E.same (bG s2)));exact f.nx _ ps _ σ t ((bG c).trans (by rw[eQ x.mem];exact L2.bA.refl _)) q
def SI(l i:Nat)(ti:ET):vE:=λDT σ=>∃ks:List (Int×D),σ[i]?=some (HF ks)/\i≠l/\ti σ λy=>∃(j:Int)(x:D),y=.int j/\oS ks j=some x/\DT.nx ((σ.set i (HF (zI ks j))).set l (.val x))
def YA{l i:Nat}{x:Str}{q9 ap cp}(hn:PE X n (qM i))(I:fY X e ti)(hs:bI [e] X.env=(false,eval e X.env)::bI [] X.env:=by rfl)
  (pc:∀{v ta},PE X n v->PA X [e] ta->PS X (.Assign [.Name x q9] (.Call (.Attribute n "pop" ap) [e] [] cp) pos) (tF (Q1 X.K "dict" (λx xs H Q=>∃(p:Addr)(kvs:List (jN×V))(k:jN)(v:V),x=.ref p/\xs=[kV k]/\H p=some (.dK kvs)/\rC kvs k=some v/\Q v (fS H p (.dK (lT kvs k)))) v ta) (kP l))) :
  A8 X (.Assign [.Name x q9] (.Call (.Attribute n "pop" ap) [e] [] cp) pos) (SI l i ti):=by
 obtain⟨L,pk,G⟩:=I;refine⟨_,pc hn (fP pk jX hs),λB p0 H ps σT σ DT DV o h f=>?_⟩;obtain⟨ks,hi,J,h⟩:=h;obtain⟨⟨p,es,r,x⟩,u⟩:=o.isN hi;refine⟨.ref p,r,.inr (.inr (.inl ⟨rfl,.inl ⟨es,x.obj⟩⟩)),G B p0 H ps σT σ _ _ o h λy M t s2 F E=>?_⟩;obtain⟨j,z,rfl,g,q⟩:=E;cases F;have m:WU X.K B p0 t ps p es ks:=⟨x.mem,x.new,x.out,s2 _ _ x.obj,x.kv.same (bG s2)⟩;rcases m.kv.val j with⟨c,s⟩ | ⟨d,w,c,s,A⟩
 ·rw[g]at c;cases c
 ·rw[g]at c;cases c;refine⟨p,es,.inl j,w,rfl,rfl,m.obj,s,?_⟩;have C:=(o.grow s2).putN hi r m (m.kv.drop j);exact f.nx _ ps _ _ (C.set (i:=l) (A.same (by rw[eQ x.mem];exact L2.bA.refl _))) ((bG s2).trans (by rw[eQ x.mem];exact L2.bA.refl _)) q
def YQ(i:Nat)(t:vE):vE:=λDT σ=>∃ks:List (Int×D),σ[i]?=some (HF ks)/\t DT (σ.set i (.val (wO ks)))
def uM{um t}(i:Nat)(h:sV X um t):sV X um (YQ i t):=by
 obtain⟨v,p,r⟩:=h;refine⟨_,p,λB p0 H ps σT σ DT DV o h f=>?_⟩;obtain⟨ks,e,h⟩:=h;obtain⟨l6,o',s'⟩:=o.shareN e;exact r B p0 H l6 _ σ DT DV o' h (f.later s')
end
section
variable{X:Cx}{F:sX}{t:SZ F}
def XL(i:Nat)(t:SZ F):SZ F:=λa DC n σ=>∃ks:List (Int×D),σ[i]?=some (HF ks)/\t a DC n (σ.set i (.val (wO ks)))
def OP{um}(i:Nat)(h:pH X um t):pH X um (XL i t):=by
 obtain⟨v,p,r⟩:=h;refine⟨_,p,λB p0 H ps σT σ T n DC DV o h f=>?_⟩;obtain⟨ks,e,h⟩:=h;obtain⟨l6,o',s'⟩:=o.ok.shareN e;exact r B p0 H l6 _ σ T n DC DV ⟨o',o.mem,o.nb,F.to o.tp (λ_ _=>rfl) s'⟩ h (f.later s')
end
section
variable{F:sX}
abbrev EN(F:sX):=D->F.S->List Sl->(F.S->(D->D)->List D->Prop)->Prop
abbrev W7(F:sX):=D->F.S->List D->(F.S->(D->D)->List D->Prop)->Prop
structure xS(F:sX)(T:F.I)(K:aI)(H H':Hp)(ps:List Addr)(n':F.S)(dd:D->D)(ts:List D)(l:Addr)(v:V):Prop where
 sm:fR (F.ad T) H H'
 at_:F.At T K H' (l::ps) n'
 new:H l=none
 lst:∃xs,H' l=some (.lst xs)/\Reps K (mask H' (l::ps)) ts xs
 rep:gW K (mask H' (l::ps)) (dd (EE l)) v
def mV{as ps H H'}{l:Addr}(c:∀a∈as,a∈ps)(s:fR as H H')(hn:H l=none):bA (mask H ps) (mask H' (l::ps)):=λb u e=>by
 unfold mask at e |-
 by_cases hb:b∈ps
 ·rw[b8 hb]at e;cases e
 ·rw[a8 hb]at e;rw[a8 λz=>(aP.mp z).elim (λz=>by rw[z,hn]at e;cases e) hb];exact s b u (λz=>hb (c b z)) e
def Q4(X:Cx)(e:Expr)(t:EN F):Prop:=∃te:TE,PE X e te/\∀B p0 H ps σT σ T n (Q:F.S->(D->D)->List D->Prop)(a:VK),lU F X.K B p0 H ps σT σ T n->t (F.tau T) n σT Q ->
 (∀n' dd ts l v H',xS F T X.K H H' ps n' dd ts l v->Q n' dd ts->a v H')->te σ H a
def kO(K:aI)(sp:W7 F):Sp:=λvs H Q _=>∃(ps:List Addr)(T:F.I)(n:F.S)(ds:List D)(b:F.S->(D->D)->List D->Prop),(∀p∈ps,yQ (H p))/\(∀a∈F.ad T,a∈ps)/\F.At T K H ps n/\Reps K (mask H ps) ds vs/\sp (F.tau T) n ds b /\
 ∀n' dd ts l v H',xS F T K H H' ps n' dd ts l v->b n' dd ts->Q v H'
section
variable{X:Cx}{a b e:Expr}{es:List Expr}{pos:Pos}
def xS.past{T K}{H H1 H':Hp}{ps n'}{dd:D->D}{ts}{l:Addr}{v}(w:xS F T K H1 H' ps n' dd ts l v)(s:fR (F.ad T) H H1)(d:∀a∈F.ad T,H a≠none)(c:∀a∈F.ad T,H1 a≠none):xS F T K H H' ps n' dd ts l v:=by
 refine⟨s.trans w.sm,w.at_,?_,w.lst,w.rep⟩
 cases e:H l with
 |none=>rfl
 |some u=>
  have h:=s l u (λz=>c l z w.new) e;rw[w.new]at h;cases h
def lU.live'{K}{B H:Hp}{p0 ps σT σ T n}(o:lU F K B p0 H ps σT σ T n):∀a∈F.ad T,H a≠none:=λa ha=>(F.liv o.tp a ha).ne
def K9{x1 t1}{q:EN F}(y:fY X a t1)(A:Q4 X b q)(hs:bI [a,b] X.env=(false,eval a X.env)::bI [b] X.env:=by rfl)(N:bI [b] X.env=(false,eval b X.env)::bI [] X.env:=by rfl) :
  Q4 X (.Tuple [a,b] x1 pos) (λO n σ Q=>t1 σ λd=>q O n σ λn' dd ts=>Q n' (λs=>.tuple [d,dd s]) ts):=by
 obtain⟨R,E,K⟩:=y;obtain⟨S,G,L⟩:=A;refine⟨_,K3 (fP E (fP G jX N) hs),λB p0 H ps σT σ T n Q P o h k=>K B p0 H ps σT σ _ _ o.ok h λd x H1 s1 M I=>?_⟩;have i:=o.grow s1;refine L B p0 H1 ps σT σ T n _ _ i I λn' dd ts l v j w J=>⟨aC rfl,λp f=>?_⟩;have r:=w.past (.of s1) o.live' i.live';obtain⟨xs,m,C⟩:=w.lst;have c:bA j (fS j p (.tup [x,v])):=dH f
 have t:p∉l::ps:=λz=>by
  rcases aP.mp z with rfl | z
  ·rw[m]at f;cases f
  ·by_cases ha:p∈F.ad T
   ·exact(F.liv w.at_ p ha).ne f
   ·obtain⟨u,g,_⟩:=i.ok.live p z;rw[w.sm p u ha g]at f;cases f
 refine k n' _ ts l _ _ ⟨r.sm.trans (.of c),?_,r.new,⟨xs,c _ _ m,C.same (bG c)⟩,?_⟩ J
 ·refine F.to w.at_ (λa ha=>?_) (bG c);obtain⟨u,g,_⟩:=F.liv w.at_ a ha;rw[g];exact c a u g
 ·exact .tuple (qG.of (kI t cE)) (.cons ((M.same (mV o.mem' w.sm w.new)).same (bG c)) (.cons (w.rep.same (bG c)) .nil))
def ZH{sp:W7 F}{x:Str}{p}{t:AZ F}(ha:QN X (e::es) t)(pc:∀{f:TA},PA X (e::es) f->PE X (.Call (.Name x p) (e::es) [] pos) (yV (kO X.K sp) [] E0 f)):Q4 X (.Call (.Name x p) (e::es) [] pos) (λg n σ Q=>t g n σ λn1 ds=>sp g n1 ds Q):=by
 obtain⟨v,j,s⟩:=ha;refine⟨_,pc j,λB p0 H ps σT σ T n Q i o h k=>s B p0 H ps σT σ T n _ _ o h λn1 ds xs H1 s1 d r q=>?_⟩;have c:=o.growX s1 d;show kO X.K sp (xs++[]) H1 i E0;rw[cJ];exact⟨ps,T,n1,ds,Q,c.ok.live,o.mem',d,r,q,λn' dd ts l v H' w m=>k n' dd ts l v H' (w.past s1 o.live' c.live') m⟩
end
section
variable{X:Cx}{e:Expr}{es:List Expr}{pos:Pos}{st s1 s2:Stmt}{jW:List Stmt}{i:Nat}{K:aI}{B H H':Hp}{p0 ps:List Addr}{σT:List Sl}{σ:L2.St}{T:F.I}{n n':F.S}{dd:D->D}{us:List D}{l:Addr}{v:V}
def PSN(X:Cx)(st:Stmt)(i:Nat)(t:EN F):Prop:=∃ts:TS,PS X st ts/\∀B p0 H ps σT σ T n (Q:F.S->(D->D)->List D->Prop)(DV:AJ),lU F X.K B p0 H ps σT σ T n->t (F.tau T) n σT Q ->
 (∀n' dd us l v H',xS F T X.K H H' ps n' dd us l v->Q n' dd us->DV.nx (σ.set i (some v)) H')->ts DV σ H
def AW{x:Str}{q9}{t:EN F}(h:Q4 X e t)(l6:∀{v:TE},PE X e v->PS X (.Assign [.Name x q9] e pos) (tF v (kP i))):PSN X (.Assign [.Name x q9] e pos) i t:=by
 obtain⟨v,p,r⟩:=h;exact⟨_,l6 p,λB p0 H ps σT σ T n Q DV o h k=>r B p0 H ps σT σ T n Q _ o h λn' dd us l v H' w q=>k n' dd us l v H' w q⟩
def S8{c tc}{g j:EN F}(s:C5 X c tc)(p:PSN X s1 i g)(r:PSN X s2 i j):PSN X (.If c [s1] [s2] pos) i (λm n σ Q=>tc σ λb=>if b=true then g m n σ Q else j m n σ Q):=by
 obtain⟨E,pc,z⟩:=s;obtain⟨A,t,x⟩:=p;obtain⟨C,u,y⟩:=r;refine⟨_,TC pc (sA t) (sA u),λB p0 H ps σT σ T n Q DV o h k=>z B p0 H ps σT σ _ _ o.ok h λd H1 s1 f=>?_⟩;have a:=o.grow s1
 cases d with
 |true=>exact x B p0 H1 ps σT σ T n Q DV a f λn' dd us l v H' w q=>k n' dd us l v H' (w.past (.of s1) o.live' a.live') q
 |false=>exact y B p0 H1 ps σT σ T n Q DV a f λn' dd us l v H' w q=>k n' dd us l v H' (w.past (.of s1) o.live' a.live') q
def YY{a:ic}{hs:List ic}{t:EN F}(h:PSN X st i t)(p:∀{ts:TS},AG X [st] ts->PS X (.Try [st] (a::hs) [] [] pos) ts):PSN X (.Try [st] (a::hs) [] [] pos) i t:=by
 obtain⟨ts,b,r⟩:=h;exact⟨_,p (sA b),r⟩
def lU.enter(o:lU F K B p0 H ps σT σ T n)(w:xS F T K H H' ps n' dd us l v):lU (wE F) K B (l::p0) H' (l::ps) σT σ (T,l) (n',us):=by
 have hm:=mV o.mem' w.sm w.new;obtain⟨xs,r,A⟩:=w.lst;have C:l∉F.ad T:=o.ne w.new;refine⟨⟨λb u e=>w.sm b u (λz=>by rw[o.nb b z]at e;cases e) (o.ok.base b u e),λp hp=>?_,λq hq=>?_,o.ok.len,λj d h=>?_,λj ts h=>?_,o.ok.dis,?_⟩,λa ha=>?_,λa ha=>?_,C,w.at_,xs,r,A⟩
 ·rcases aP.mp hp with rfl | hp
  ·exact aO ..
  ·exact aJ _ (o.ok.sub p hp)
 ·rcases aP.mp hq with rfl | hq
  ·exact⟨_,r,rfl⟩
  ·by_cases ha:q∈F.ad T
   ·exact F.liv w.at_ q ha
   ·obtain⟨u,s,t⟩:=o.ok.live q hq;exact⟨u,w.sm q u ha s,t⟩
 ·obtain⟨v,f,g⟩:=o.ok.val j d h;exact⟨v,f,g.same hm⟩
 ·obtain⟨q,ys,f,g,x,m,k,y⟩:=o.ok.own j ts h;exact⟨q,ys,f,aJ _ g,x,λz=>(aP.mp z).elim (λz=>by rw[z,w.new]at k;cases k) m,w.sm _ _ (λz=>m (o.mem q z)) k,y.same hm⟩
 ·exact o.ok.dc.to (λj hs kvs h=>⟨h,rfl⟩) (λq φ a b c=>⟨aJ _ a,(w.sm q _ (λz=>c (o.mem q z)) b).trans b.symm⟩) (λq φ _ b c d=>⟨c,λz=>(aP.mp z).elim (λz=>by rw[z,w.new]at b;cases b) d⟩) hm
 ·rcases aP.mp ha with rfl | ha
  ·exact aO ..
  ·exact aJ _ (o.mem a ha)
 ·rcases aP.mp ha with rfl | ha
  ·exact bA.free' o.ok.base w.new
  ·exact o.nb a ha
def lU.leave{n:F.S×List D}(o:lU (wE F) K B (l::p0) H ps σT σ (T,l) n)(hm:∀a∈F.ad T,a∈p0):lU F K B p0 H ps σT σ T n.1:=
 ⟨⟨o.ok.base,λp f=>o.ok.sub p (aJ _ f),o.ok.live,o.ok.len,o.ok.val,λj ts h=>let ⟨q,ys,h1,h2,h3,h4,h5⟩:=o.ok.own j ts h;⟨q,ys,h1,h2,h3,λz=>h4 (aJ _ z),h5⟩,o.ok.dis,
  o.ok.dc.to (λj hs kvs h=>⟨h,rfl⟩) (λq φ a b _=>⟨a,rfl⟩) (λq φ _ _ c d=>⟨c,λz=>d (aJ _ z)⟩) (L2.bA.refl _)⟩,hm,λa ha=>o.nb a (aJ _ ha),o.tp.2.1⟩
noncomputable def upE(DC:vV F):vV (wE F):={ nx:=λn1 d8=>DC.nx n1.1 d8,rt:=λn1 d=>DC.rt n1.1 d,bk:=λn1 d8=>DC.bk n1.1 d8,ct:=λn1 d8=>DC.ct n1.1 d8 }
def vT.up{DC DV}(f:vT F K B p0 H ps T DC DV)(hm:∀a∈F.ad T,a∈p0)(s:bA (mask H ps) (mask H' (l::ps))):vT (wE F) K B (l::p0) H' (l::ps) (T,l) (upE DC) DV:=
 ⟨λ_ _ _ _ _ o s' q=>f.nx _ _ _ _ _ (o.leave hm) (s.trans s') q,λ_ _ _ _ _ o s' q=>f.bk _ _ _ _ _ (o.leave hm) (s.trans s') q,λ_ _ _ _ _ o s' q=>f.ct _ _ _ _ _ (o.leave hm) (s.trans s') q,
  λn' d v b s' t' g c=>f.rt n'.1 d v b s' (F.to t'.2.1 (λ_ _=>rfl) (fJ λa ha=>aJ _ ha)) (g.same (fJ λa ha=>aJ _ ha)) c,i8⟩
def aN6{t}{u:SZ (wE F)}(h:PSN X st i t)(c:pH X jW u):pH (F:=F) X (st::jW) (λb DC n σ=>t b n σ λn' dd us=>∀a,u (.tuple [b,a]) (upE DC) (n',us) (σ.set i (.val (dd a)))):=by
 obtain⟨ts,p,r⟩:=h;obtain⟨j,d,g⟩:=c;refine⟨_,lE p d,λB p0 H ps σT σ T n DC DV o h f=>r B p0 H ps σT σ T n _ _ o h λn' dd us l v H' w q=>?_⟩;exact g B (l::p0) H' (l::ps) _ _ (T,l) (n',us) _ DV ((o.enter w).set w.rep) (q (EE l)) (f.up o.mem (mV o.mem' w.sm w.new))
def XV{t u tg}{g:GT}(d:Q4 X e t)(j:JX X tg g)(k:pH X jW u)(m:∀{v gv},PE X e v->PG X tg gv->PS X (.Assign [tg] e pos) (tF v gv)) :
  pH (F:=F) X (.Assign [tg] e pos::jW) (λc DC n σ=>t c n σ λn' dd us=>∀a,g (dd a) σ λd8=>u (.tuple [c,a]) (upE DC) (n',us) d8):=by
 obtain⟨v,p,re⟩:=d;obtain⟨gv,pg,x⟩:=j;obtain⟨z,r,y⟩:=k;refine⟨_,lE (m p pg) r,λB p0 H ps σT σ T n DC DV o h f=>re B p0 H ps σT σ T n _ _ o h λn' dd us l v H' w q=>?_⟩;have b:=o.enter w;exact x B (l::p0) H' (l::ps) σT σ _ v _ _ b.ok w.rep (q (EE l)) λh9 d8 o' _ s=>y B (l::p0) H' (l::ps) h9 d8 (T,l) (n',us) _ DV (b.with o') s (f.up o.mem (mV o.mem' w.sm w.new))
def PNs(X:Cx)(a:List Stmt)(t:EN F):Prop:=∃ts:TS,AG X a ts/\∀B p0 H ps σT σ T n (Q:F.S->(D->D)->List D->Prop)(DV:AJ),lU F X.K B p0 H ps σT σ T n->t (F.tau T) n σT Q ->
 (∀n' dd us l v H',bA B H'->F.At T X.K H' (l::p0) n'->B l=none->l∉F.ad T->(∃xs,H' l=some (.lst xs)/\Reps X.K (mask H' (l::p0)) us xs)->gW X.K (mask H' (l::p0)) (dd (EE l)) v->Q n' dd us->DV.rt v H')->ts DV σ H
def BW{t:EN F}(h:Q4 X e t):PNs X [.Return (some e) pos] t:=by
 obtain⟨v,p,r⟩:=h;refine⟨_,sA (yD p),λB p0 H ps σT σ T n Q DV o h k=>r B p0 H ps σT σ T n _ _ o h λn' dd us l v H' w q=>?_⟩;have b:=o.enter w;have sub:∀a∈l::p0,a∈l::ps:=b.ok.sub;obtain⟨xs,d,c⟩:=w.lst;exact k n' dd us l v H' b.ok.base (F.to w.at_ (λ_ _=>rfl) (fJ sub)) (bA.free' o.ok.base w.new) (o.ne w.new) ⟨xs,d,c.same (fJ sub)⟩ (w.rep.same (fJ sub)) q
def kZ{t:SZ F}{u:EN F}(d:yP X st t)(f:PNs X jW u):PNs X (st::jW) (λb n σ Q=>t b { nx:=λn1 c=>u b n1 c Q,rt:=λ_ _=>False } n σ):=by
 obtain⟨q,g,m⟩:=d;obtain⟨r,j,p⟩:=f;refine⟨_,lE g j,λB p0 H ps σT σ T n Q DV o h k=>m B p0 H ps σT σ T n _ _ o h ⟨λH' l6 h9 d8 n' o' s' a=>p B p0 H' l6 h9 d8 T n' Q DV o' a k,λ_ _ _ _ _ _ _ a=>a.elim,λ_ _ _ _ _ _ _ a=>a.elim,λ_ _ _ _ _ _ _ a=>a.elim,i8⟩⟩
def aOo{t}{u:SZ (wE F)}(h:PSN X st i t)(m:pH X jW u):PNs (F:=F) X (st::jW) (λf n σ Q=>t f n σ λn' dd us=>∀b,u (.tuple [f,b]) { nx:=λ_ _=>False,rt:=λn1 d=>∃dd,d=dd b/\Q n1.1 dd n1.2 } (n',us) (σ.set i (.val (dd b)))):=by
 obtain⟨ts,p,r⟩:=h;obtain⟨A,s,y⟩:=m;refine⟨_,lE p s,λB p0 H ps σT σ T n Q DV o h k=>r B p0 H ps σT σ T n _ _ o h λn' dd us l v H' w q=>?_⟩;refine y B (l::p0) H' (l::ps) _ _ (T,l) (n',us) _ DV ((o.enter w).set w.rep) (q (EE l)) ⟨λ_ _ _ _ _ _ _ a=>a.elim,λ_ _ _ _ _ _ _ a=>a.elim,λ_ _ _ _ _ _ _ a=>a.elim,λc d z j s' t' x a=>?_,i8⟩;obtain⟨g,rfl,a⟩:=a;exact k c.1 g c.2 l z j s' t'.2.1 (bA.free' o.ok.base w.new) (o.ne w.new) t'.2.2 x a
def PZ{P w}{mg:Str->Option Value}{base K x qual st}{f:Addr}{fd}{N pn:List Str}{k:Nat}{sp:W7 F}(g:J6 K x qual st f fd)(S:bW N pn (bB st))(len:∀W n ds Q,sp W n ds Q->ds.length=pn.length)
  (U:∀(t6:Value)(A:g9)outer(s:Shared)H E,gR k (A.deeper (l3 qual (bB st) s.heap.objs.size f t6))->∀(Tp:F.I)(n:F.S)(ds:List D)(Q:F.S->(D->D)->List D->Prop),sp (F.tau Tp) n ds Q ->
   ∃t,PNs (qP iL P w K mg base N qual (bB st) f t6 A outer s H E).nox (lD st) t/\t (F.tau Tp) n (iH N ds) Q):dP P w K mg base iL (k+1) f fd pn (kO K sp):=by
 refine g.ok S (λvs H Q E h=>?_) λt6 A outer s H vs Q E y h=>?_
 ·obtain⟨ps,T,n,ds,d,_,_,_,r,q,_⟩:=h;rw[<- r.length];exact len _ _ ds d q
 ·obtain⟨ps,T,n,ds,d,live,m,tp,r,q,k⟩:=h;obtain⟨t,⟨ts,p,O⟩,h⟩:=U t6 A outer s H E y T n ds d q;have o:=oJ (N:=N) live r
  have z:∀(i:Nat)(us:List D),(iH N ds)[i]?≠some (.own us):=λi us e=>by
   obtain⟨q,_,_,_,b,_,c,_⟩:=o.own i us e;rw[b]at c;cases c
  have R:bA (gQ H (F.ad T)) H:=λa u e=>by
   unfold gQ at e;split at e
   ·cases e
   ·exact e
  have G:Ok K (gQ H (F.ad T)) ps H ps (iH N ds) (L2.lZ N vs):=⟨R,o.sub,o.live,o.len,o.val,λi us e=>c7 e (z i us),o.dis,λi hs kvs e=>by
   obtain⟨⟨q,es,_,_,b,_,c,_⟩,_⟩:=o.dc i hs kvs e;rw[b]at c;cases c⟩
  have J:lU F K (gQ H (F.ad T)) ps H ps (iH N ds) (L2.lZ N vs) T n:=⟨G,m,λa ha=>b8 ha,tp⟩;refine⟨ts,p,O _ ps H ps _ _ T n _ _ J h λn' dd us l v H' s' t' b C j M L=>k n' dd us l v H' ⟨vY s',t',?_,j,M⟩ L⟩;unfold gQ at b
  rwa [a8 C]at b
end
end
section
variable{X:Cx}{C:Addr}{e i:Expr}{es:List Expr}{te:ET}{pos n9:Pos}
def A0{m sp}{t:AZ (kX C)}(hm:m∉L4)(s:fY X e te)(ha:QN X (i::es) t)
  (pc:∀{v ta},PE X e v->PA X (i::es) ta->PE X (.Call (.Attribute e m n9) (i::es) [] pos) (BG C m (kO X.K sp) [] E0 v ta)):Q4 X (.Call (.Attribute e m n9) (i::es) [] pos) (λa n σ Q=>te σ λd=>d=a/\t a n σ λn1 ds=>sp a n1 (a::ds) Q):=by
 obtain⟨v,z,re⟩:=s;obtain⟨J,y,I⟩:=ha;refine⟨_,pc z y,λB p0 H ps σT σ T n Q j o h k=>re B p0 H ps σT σ _ _ o.ok h λd x H1 s1 F b=>?_⟩;obtain⟨rfl,b⟩:=b;obtain⟨rfl,q⟩:=kL (T':=T) o s1 F rfl;obtain⟨_,_,_,_,r,_⟩:=id q;refine⟨_,_,_,rfl,r,vA hm,I B p0 H1 ps σT σ T n _ _ (o.grow s1) b λu as xs g s2 f G E=>?_⟩;show kO X.K sp (.ref T.p::(xs++[])) g j E0;rw[cJ];have c:=(o.grow s1).growX s2 f;exact⟨ps,T,u,nQ T::as,Q,c.ok.live,o.mem',f,.cons (wA T) G,E,λn' dd ts l v H' w A=>k n' dd ts l v H' (w.past ((fR.of s1).trans s2) o.live' c.live') A⟩
def tS{m}{sp:W7 (kX C)}(hm:m∉L4)(q:fY X e te)
  (pc:∀{v},PE X e v->PE X (.Call (.Attribute e m n9) [] [] pos) (BG C m (kO X.K sp) [] E0 v DM)):Q4 X (.Call (.Attribute e m n9) [] [] pos) (λb n σ Q=>te σ λd=>d=b/\sp b n [b] Q):=by
 obtain⟨v,r,re⟩:=q;refine⟨_,pc r,λB p0 H ps σT σ T n Q g o h k=>re B p0 H ps σT σ _ _ o.ok h λd x H1 s1 t a=>?_⟩;obtain⟨rfl,a⟩:=a;obtain⟨rfl,c⟩:=kL (T':=T) o s1 t rfl;obtain⟨_,_,_,_,j,_⟩:=id c;refine⟨_,_,_,rfl,j,vA hm,?_⟩;show kO X.K sp (.ref T.p::([]++[])) H1 g E0;have f:=o.grow s1;exact⟨ps,T,n,[nQ T],Q,f.ok.live,o.mem',c,.cons (wA T) .nil,a,λn' dd ts l v H' w s=>k n' dd ts l v H' (w.past (.of s1) o.live' f.live') s⟩
end
end TL
namespace L2
def aBu{X c s1 s2 pos tc}{f g:St->Hp->(Hp->XK)->Prop}(l:JW X)(k:PT X c tc)(i:RS X s1 f)(j:RS X s2 g):RS X (.If c [s1] [s2] pos) (λσ H W=>tc σ H λb H1=>if b=true then f σ H1 W else g σ H1 W):=by
 intro pins s σ H W I h;refine wpAny_If (eF (k pins s σ H _ I h) (λd s1 hz=>?_) λe s z=>c7 z (l e s));obtain⟨H1,a,q⟩:=hz
 cases d with
 |true=>exact ak (eF (i pins s1 σ H1 W a q) (λ_ _ z=>z.elim) λ_ _ z=>z)
 |false=>exact ak (eF (j pins s1 σ H1 W a q) (λ_ _ z=>z.elim) λ_ _ z=>z)
end L2
namespace TL
open L2
section
variable{X:Cx}{C:Addr}{e:Expr}{te:ET}{pos n9 cg ag:Pos}
def T7{g}(I:AL X.K C)(hn:gM X.K C "numbered")(P:fY X e te)(hb:k7 e "numbered" X.env (eval e X.env)=eval e X.env:=by rfl)
  (pc:∀{v:TE},PE X (.Attribute e "numbered" cg) v->PE X (.Call g [.Call (.Attribute (.Attribute e "numbered" cg) "items" n9) [] [] ag] [] pos) (Q0 (λxs H Q=>∃(v p:Addr)(kvs:List (jN×V)),xs=[.ref v]/\H v=some (D7 v p)/\H p=some (.dK kvs) /\
  ∀(as:List Addr)(l:Addr)H',bA H H'->H l=none->as.length=kvs.length->(∀(j:Nat)(a:Addr)(e:jN×V),as[j]?=some a->kvs[j]?=some e->H a=none/\H' a=some (.tup [kV e.1,e.2]))->H' l=some (.lst (as.map V.ref))->Q (.ref l) H')
   (wU (aDw X.K "dict" (λx xs H Q=>xs=[]/\∃(p:Addr)(kvs:List (jN×V)),x=.ref p/\H p=some (.dK kvs)/\∀v,H v=none->Q (.ref v) (fS H v (D7 v p))) v) DM))) :
  Q4 (F:=kX C) X (.Call g [.Call (.Attribute (.Attribute e "numbered" cg) "items" n9) [] [] ag] [] pos) (λZ n σ Q=>te σ λd=>d=Z/\Q n id (n.kvs.map λe=>.tuple [.int e.1,e.2])):=by
 obtain⟨v,p,r⟩:=P;refine⟨_,pc (wD (pos:=cg) I hn p hb),λB p0 H ps σT σ T n Q QV o h k=>r B p0 H ps σT σ _ _ o.ok h λd x H1 s1 W S=>?_⟩;obtain⟨rfl,q⟩:=S;obtain⟨rfl,i⟩:=kL (T':=T) o s1 W rfl;obtain⟨ai,v1,v6,kv,O,f,h3,h4,E⟩:=id i;refine⟨_,C,_,_,_,rfl,O,I,hn,rfl,.inr (.inr (.inl ⟨rfl,.inl ⟨kv,f⟩⟩)),rfl,T.q,kv,rfl,f,λm b=>?_⟩;refine⟨m,T.q,kv,rfl,cE,by rw[bZ (eP f b)];exact f,λas l H' Y R L U G=>?_⟩;have J:=o.grow s1;have s2:bA H1 H':=(dH b).trans Y;have A:H1 l=none:=bA.free' (dH b) R;have fr:∀a,fS H1 m (D7 m T.q) a=none->a∉ps:=λa ha=>hU J.ok.live (bA.free' (dH b) ha);have l8:=E.length;have s:=mV (ps:=ps) (as:=(kX C).ad T) (l:=l) o.mem' (.of s2) A
 have w:xS (kX C) T X.K H1 H' ps n id (n.kvs.map λe=>.tuple [.int e.1,e.2]) l (.ref l):=by
  refine⟨.of s2,(kX C).to i (λa ha=>?_) s,A,⟨_,G,yW (by rw[aB,aB];lia) λj d v t y=>?_⟩,.addr _⟩
  ·obtain⟨u,c,_⟩:=(kX C).liv i a ha;rw[c];exact s2 a u c
  ·rw[aL]at t y;obtain⟨en,k1,rfl⟩:=dL.mp t;obtain⟨a,M,rfl⟩:=dL.mp y;obtain⟨u,c,N⟩:=E.at k1;obtain⟨f1,f2⟩:=U j a _ M c;have L:a∉l::ps:=λz=>(aP.mp z).elim (λz=>by rw[z,G]at f2;cases f2) (fr a f1);exact .tuple (qG.of (kI L f2)) (.cons (.int _) (.cons (N.same s) .nil))
 exact k n id _ l _ H' (w.past (.of s1) o.live' J.live') q
end
section
variable{F:sX}{X:Cx}{e m:Expr}{te:ET}{pos p2 ap cp:Pos}{i:Nat}
variable{K:aI}{B H:Hp}{p0 ps:List Addr}{σT:List Sl}{σ:L2.St}{T:F.I×Addr}{n:F.S×List D}{j:Nat}{d:D}
def lU.shr2(o:lU (wE F) K B p0 H ps σT σ T n)(y:σT[j]?=some (.val (.tuple [d,EE T.2]))):Ok K (xH B (T.2::F.ad T.1) H) (unR p0 T.2) H (unR ps T.2) (σT.set j (.val (.tuple [d,.list n.2]))) σ:=by
 obtain⟨vt,G,rt⟩:=o.ok.val j _ y;obtain⟨ok,mem,nb,R,Q,xs,A,M⟩:=o;have t:j<σT.length:=(aF.mp y).1
 have E:gW K (mask H (unR ps T.2)) (.tuple [d,.list n.2]) vt:=by
  cases rt with
  |tuple C P=>
   cases P with
   |cons N w=>
    cases w with
    |cons w O=>
     cases O;rw[vZ w]at C;exact .tuple (bA.seqT oC C) (.cons (N.same oC) (.cons (.list (nB.of (kI (λz=>(jC.mp z).2 rfl) A)) (M.same oC)) .nil))
 refine⟨λa u e=>?_,λa ha=>jC.mpr ⟨ok.sub a (jC.mp ha).1,(jC.mp ha).2⟩,λa ha=>ok.live a (jC.mp ha).1,by rw[aBa];exact ok.len,λi d h=>?_,λi ts h=>?_,λi k ts us p c f r g=>?_,?_⟩
 ·by_cases z:a∈T.2::F.ad T.1
  ·rw[xG z]at e;exact e
  ·rw[jT z]at e;exact ok.base a u e
 ·by_cases z:j=i
  ·subst z;rw[aR t]at h;cases h;exact⟨_,G,E⟩
  ·rw[aQ z]at h;obtain⟨v,c,f⟩:=ok.val i d h;exact⟨v,c,f.same oC⟩
 ·by_cases z:j=i
  ·subst z;rw[aR t]at h;cases h
  ·rw[aQ z]at h;obtain⟨q,ys,c,f,r,g,I,J⟩:=ok.own i ts h;have L:q≠T.2:=λz=>g (by rw[z];exact mem T.2 (aO ..));exact⟨q,ys,c,jC.mpr ⟨f,L⟩,by rw[jT (show q∉T.2::F.ad T.1 fromλz=>g (mem q z))];exact r,λz=>g (jC.mp z).1,I,J.same oC⟩
 ·have x:∀{l:Nat}{vs:List D},(σT.set j (.val (.tuple [d,.list n.2])))[l]?=some (.own vs)->σT[l]?=some (.own vs):=λ{l vs} h=>by
   by_cases z:j=l
   ·subst z;rw[aR t]at h;cases h
   ·rw[aQ z]at h;exact h
  exact ok.dis i k ts us p (x c) (x f) r g
 ·exact ok.dc.to (λi hs kvs h=>by
   obtain⟨z,hz⟩:=uX (s:=.val (.tuple [d,.list n.2])) (λ_ _ z=>nomatch z) h;exact⟨hz,rfl⟩) (λq φ a b _=>⟨jC.mpr ⟨a,λz=>by rw[z,A]at b;cases b⟩,rfl⟩) (λq φ _ _ a b=>⟨by rw[jT (show q∉T.2::F.ad T.1 fromλz=>b (mem q z))];exact a,λz=>b (jC.mp z).1⟩) oC
def aA2(c:D)(σ:List Sl)(i:Nat)(d:D):Prop:=∃b a,c=.tuple [b,a]/\σ[i]?=some (.val (.tuple [d,a]))
def aA2.sg{σ}(h:aA2 ((wE F).tau T) σ i d):σ[i]?=some (.val (.tuple [d,EE T.2])):=by
 obtain⟨c,b,a,h⟩:=h;injection a with a
 injection a with _ a
 injection a with a _
 subst a;exact h
def aNl(i:Nat)(t:vD):TZ (wE F):=λa n σ Q=>∃d,aA2 a σ i d/\t (σ.set i (.val (.tuple [d,.list n.2]))) (Q n)
def aBi(i:Nat){t}(h:C5 X e t):N6 (F:=wE F) X e (aNl i t):=by
 obtain⟨v,p,r⟩:=h;refine⟨v,p,λB p0 H ps σT σ T n Q a o h k=>?_⟩;obtain⟨d,c,h⟩:=h;exact r _ _ H _ _ σ _ a (o.shr2 c.sg) h λb H1 s1 f=>k n b H1 (.of s1) (o.tp.grow s1) f
def RK(i:Nat)(te:ET):SZ (wE F):=λa DC n σ=>∃d,aA2 a σ i d/\te σ λx=>n.2.length<=100000/\DC.nx (n.1,n.2++[x]) σ
def R4{k1}(hn:fY X (.Subscript m k1 p2) (P1 fIx (rN i) (eC (.int 1))))(u:fY X e te)(hs:bI [e] X.env=(false,eval e X.env)::bI [] X.env:=by rfl)
  (pb:∀{v ta},PE X (.Subscript m k1 p2) v->PA X [e] ta->PS X (.Expr (.Call (.Attribute (.Subscript m k1 p2) "append" ap) [e] [] cp) pos) (yU (Q1 X.K "list" AU v ta))):yP (F:=wE F) X (.Expr (.Call (.Attribute (.Subscript m k1 p2) "append" ap) [e] [] cp) pos) (RK i te):=by
 obtain⟨I,A,b⟩:=hn;obtain⟨v,p,r⟩:=u;refine⟨_,pb A (fP p jX hs),λB p0 H ps σT σ T n DC DV o h f=>?_⟩;obtain⟨d,z,h⟩:=h;obtain⟨_,_,xs,k,g⟩:=id o.tp;refine b B p0 H ps σT σ (λy=>y=EE T.2) _ o.ok ⟨_,z.sg,_,L2.gH (j:=1) rfl,rfl⟩ λy w t c E C=>?_;subst C;rw[vZ E];have l:=o.grow c;refine⟨.inl ⟨rfl,xs,nB.of (c _ _ k)⟩,r B p0 t ps σT σ _ _ l.ok h λd x H1 s1 b s=>?_⟩;have a:=c.trans s1;refine⟨T.2,xs,x,rfl,rfl,a _ _ k,?_,?_⟩
 ·rw[<- g.length];have:bE=2^24:=rfl;have:=s.1;lia
 ·have q:=l.grow s1;have G:=UP q.tp o.memL ((g.same (bG a)).append (.cons b .nil));exact f.nx _ ps σT σ _ (q.there (aO ..) G) ((bG a).trans (by rw[eQ o.memL];exact L2.bA.refl _)) s.2
end
section
variable{F:sX}{X:Cx}{s1 s2:Stmt}{pos:Pos}{c:Expr}
def SN{tc}{m q:EZ F}(u:C5 X c tc)(s:RSz X s1 m)(t:RSz X s2 q)(p:∀{j:TT}{e f:L2.St->Hp->(Hp->XK)->Prop},PT X c j->RS X s1 e->RS X s2 f->RS X (.If c [s1] [s2] pos) (λσ H W=>j σ H λb H1=>if b=true then e σ H1 W else f σ H1 W)) :
  RSz X (.If c [s1] [s2] pos) (λr n σ a=>tc σ λb=>if b=true then m r n σ a else q r n σ a):=by
 obtain⟨j,pc,x⟩:=u;obtain⟨y,v,e⟩:=s;obtain⟨z,w,f⟩:=t;refine⟨_,p pc v w,λB p0 H ps σT σ T n a W o h k=>x B p0 H ps σT σ _ _ o.ok h λd H1 s1 l=>?_⟩
 cases d with
 |true=>exact e B p0 H1 ps σT σ T n a W (o.grow s1) l λn' d cls dx g i sa sb=>k n' d cls dx g i ((fR.of s1).trans sa) sb
 |false=>exact f B p0 H1 ps σT σ T n a W (o.grow s1) l λn' d cls dx g i sa sb=>k n' d cls dx g i ((fR.of s1).trans sa) sb
end
def aAx:g6 "dict"=some (.type "dict"):=by decide +kernel
def pH.or{F X st}{t u:SZ F}(b:pH X st t)(c:pH X st u):pH X st (λa DC n σ=>t a DC n σ\/u a DC n σ):=by
 obtain⟨j,d,g⟩:=b;obtain⟨k,e,i⟩:=c;refine⟨λD σ H=>j D σ H\/k D σ H,λpins s σ H D I h=>?_,λB p0 H ps σT σ T n DC DV o h f=>?_⟩
 ·rcases h with h | h
  ·exact d pins s σ H D I h
  ·exact e pins s σ H D I h
 ·rcases h with h | h
  ·exact .inl (g B p0 H ps σT σ T n DC DV o h f)
  ·exact .inr (i B p0 H ps σT σ T n DC DV o h f)
section
variable{F:sX}{X:Cx}{e:Expr}{es:List Expr}{pos:Pos}
def R7{t:EN F}(h:Q4 X e t)(p:∀{v:TE},PE X e v->PS X (.Expr e pos) (yU v)):yP X (.Expr e pos) (λb DC n σ=>t b n σ λn' _ _=>DC.nx n' σ):=by
 obtain⟨v,a,r⟩:=h;refine⟨_,p a,λB p0 H ps σT σ T n DC DV o h f=>r B p0 H ps σT σ T n _ _ o h λn' dd us l v H' w q=>?_⟩;exact f.nx H' (l::ps) σT σ n' ((o.enter w).leave o.mem) (mV o.mem' w.sm w.new) q
def T8{sp:QK}{x:Str}{p}{t:AZ F}(ha:QN X (e::es) t)(pc:∀{f:TA},PA X (e::es) f->PE X (.Call (.Name x p) (e::es) [] pos) (yV (iS X.K sp) [] E0 f)):Q4 X (.Call (.Name x p) (e::es) [] pos) (λA n σ Q=>t A n σ λn1 ds=>sp ds λus=>Q n1 id us):=by
 obtain⟨v,m,w⟩:=ha;refine⟨_,pc m,λB p0 H ps σT σ T n Q i o h k=>w B p0 H ps σT σ T n _ _ o h λn1 ds xs H1 s1 z s r=>?_⟩;have b:=o.growX s1 z;show iS X.K sp (xs++[]) H1 i E0;rw[cJ];refine⟨ps,ds,_,b.ok.live,s,r,λts l g H' s' d j y q=>k n1 id ts l _ H' (xS.past (H1:=H1) ⟨.of s',?_,d,⟨g,j,y⟩,.addr _⟩ s1 o.live' b.live') q⟩;refine F.to b.tp (λa ha=>?_) (mV b.mem' (.of s') d);obtain⟨u,c,_⟩:=F.liv b.tp a ha;rw[c];exact s' a u c
def VV{t:EN F}(h:Q4 X e t):zN X e (λj n σ Q=>t j n σ λn' dd us=>dd=id/\Q n' (.list us)):=by
 obtain⟨v,i,r⟩:=h;refine⟨v,i,λB p0 H ps σT σ T n Q m o h k=>r B p0 H ps σT σ T n _ _ o h λn' dd us l v H' w q=>?_⟩;obtain⟨rfl,q⟩:=q;obtain⟨xs,g,d⟩:=w.lst
 have c:l∉ps:=λz=>by
  obtain⟨u,b,_⟩:=o.ok.live l z;rw[w.new]at b;cases b
 have sub:bA (mask H' (l::ps)) (mask H' ps):=fJ λa ha=>aJ _ ha;have hm:mask H' ps l=some (.lst xs):=by unfold mask;rw[a8 c];exact g
 have f:v=.ref l:=by
  have:=w.rep
  cases this with
  |addr=>rfl
 subst f;exact k n' _ _ H' w.sm (F.to w.at_ (λ_ _=>rfl) sub) (.list (nB.of hm) (d.same sub)) q
end
section
variable{X:Cx}{e:Expr}{es:List Expr}{pos:Pos}{te:ET}
def aL4(t:AT)(te:ET):ET:=λσ Q=>t σ λds=>ds.length<=1000/\te σ λy=>∃n:Int,y=.int n/\0<=n/\n<=1000/\Q (.list (dW n.toNat ds).flatten)
def aAf{p2 t}(h:wQ X es t)(i:fY X e te):fY X (.BinOp (.List es p2) .Mult e pos) (aL4 t te):=by
 obtain⟨v,p,r⟩:=h;obtain⟨ve,m,re⟩:=i;refine⟨_,IC aEu (F4 p) m,λB p0 H ps σT σ Q x o h k=>r B p0 H ps σT σ _ _ o h λds xs H1 s1 g c=>?_⟩;obtain⟨hz,c⟩:=c;have j:=g.length;refine⟨uT (by rw[<- j];exact hz),λp b=>?_⟩;have f:=(o.grow s1).grow (dH (o:=.lst xs) b);refine re B p0 _ ps σT σ _ _ f c λd y w s2 u s=>?_;obtain⟨n,rfl,z,A,q⟩:=s;cases u;refine⟨p,n,xs,rfl,rfl,s2 p _ cE,by lia,by lia,?_,λE a=>?_⟩
 ·have:xs.length*n.toNat<=1000*1000:=iD (by lia) (by lia);have C:bE=2^24:=rfl;lia
 ·have l:=f.grow s2;exact k _ _ _ (s1.trans ((dH b).trans (s2.trans (dH a)))) (rY l.live a ((g.same (bG ((dH b).trans s2))).rep n.toNat)) q
end
section
variable{X:Cx}
def aHk{F um}:pH (F:=F) X um (λ_ _ _ _=>False):=⟨λ_ _ _=>False,λ_ _ _ _ _ _ h=>h.elim,λ_ _ _ _ _ _ _ _ _ _ _ h _=>h.elim⟩
def gP4(i j k l:Nat):GT:=λd σ Q=>∃a b c e,d=.tuple [a,b,c,e]/\Q ((((σ.set i (.val a)).set j (.val b)).set k (.val c)).set l (.val e))
def Z3{i j k l:Nat}{t}(h:PG X t (Z8 X.K 4 (vR (kP i) (vR (kP j) (vR (kP k) (vR (kP l) Z9)))))):JX X t (gP4 i j k l):=
 ⟨_,h,λB p0 H ps σT σ d v Q q o r h k=>by
  obtain⟨a,b,c,e,rfl,h⟩:=h
  cases r with
  |@tuple p xs _ hq r=>
   cases r with
   |cons f r=>
    cases r with
    |cons g r=>
     cases r with
     |cons m r=>
      cases r with
      |cons re r=>
       cases r;exact⟨_,_,rfl,bA.seqT bU hq,rfl,_,_,rfl,_,_,rfl,_,_,rfl,_,_,rfl,rfl,k _ _ ((((o.set f).set g).set m).set re) (λn=>lL (lL (lL (lL n _ _) _ _) _ _) _ _) h⟩⟩
end
end TL
namespace K92
open L2 TL
noncomputable def top(i:Nat):Stmt:=PySem.Challenge.pw_leafjudge_k92_whole_books_grow_anew.main.body.getD i (.Pass ⟨0,0,0,0⟩)
structure Cz(K:aI)(mg:Str->Option Value)(o8 z6 i5 f8:Addr):Prop where
 x_JudgeError:mg "JudgeError"=some (.ref o8)
 x_TooMany:mg "TooMany"=some (.ref z6)
 x_NoRow:mg "NoRow"=some (.ref i5)
 x_NoSuch:mg "NoSuch"=some (.ref f8)
 X_NoRow:XOk K i5
 R_NoRow:aGf K i5
 j_NoRow:gE K (.ref i5) (.ref o8)=some true
 e_NoRow:gE K (.ref i5) (.ref i5)=some true
 v_NoRow:cV K (.ref i5) (.type "ValueError")=some true
 q_NoRow_TooMany:cV K (.ref i5) (.ref z6)=some false
 q_NoRow_NoRow:cV K (.ref i5) (.ref i5)=some true
 q_NoRow_NoSuch:cV K (.ref i5) (.ref f8)=some false
 u_NoRow_NoSuch:gE K (.ref i5) (.ref f8)=some false
 X_NoSuch:XOk K f8
 R_NoSuch:aGf K f8
 j_NoSuch:gE K (.ref f8) (.ref o8)=some true
 e_NoSuch:gE K (.ref f8) (.ref f8)=some true
 v_NoSuch:cV K (.ref f8) (.type "ValueError")=some true
 q_NoSuch_TooMany:cV K (.ref f8) (.ref z6)=some false
 q_NoSuch_NoRow:cV K (.ref f8) (.ref i5)=some false
 q_NoSuch_NoSuch:cV K (.ref f8) (.ref f8)=some true
 u_NoSuch_NoRow:gE K (.ref f8) (.ref i5)=some false
structure Txt(K:aI)(mg:Str->Option Value)(o8 z6 i5 f8:Addr)(Ft Ek El Em Fu Fv En Eo Fw Hy xg xh xi xj xl xm xn xo xp xq xt xu xw xx xy xz ya yb yc yd ye yf yg yh oj yi om yj yk yl ym yn yo yp yq yr yt yu yw yx on oo yy rh yz uq za oq mh:Addr)(Ic Gc Gd Ge Ie Ig Gf Gg Ih Ii zh zi zj zk zl zm zo zp zr zt zu zv zw zx zy gV Aa Ab Ac Ad Ae ux Af Ag oy Ah ph Ai Aj Ak Al Am An Ao Ap Aq As Au Av Aw pj pq Ax sj Ay uy Az qb jv:iK)(e9:Addr)(t_SIDES:Addr)(ck:Tok):Prop extends Cz K mg o8 z6 i5 f8 where
 x_Book:mg "Book"=some (.ref e9)
 C_Book:AL K e9
 K_Book:Mk K e9 Ft
 n_Book_form:gM K e9 "form"
 n_Book_deep:gM K e9 "deep"
 n_Book_least:gM K e9 "least"
 n_Book_numbered:gM K e9 "numbered"
 n_Book_following:gM K e9 "following"
 n_Book_standing:gM K e9 "standing"
 M_1:AH K e9 "put" Ek
 M_2:AH K e9 "out" El
 M_3:AH K e9 "turn" Em
 M_4:AH K e9 "rows" Fu
 M_5:AH K e9 "tree" Fv
 M_6:AH K e9 "refuse_no_row" En
 M_7:AH K e9 "refuse_no_number" Eo
 M_8:AH K e9 "grow_anew" Fw
 D_0:Dg K "__init__" "Book.__init__" (lP (top 41) 0) Ft Ic ["self","form","deep","least"]
 D_1:Dg K "put" "Book.put" (lP (top 41) 1) Ek Gc ["self","row"]
 D_2:Dg K "out" "Book.out" (lP (top 41) 2) El Gd ["self","number"]
 D_3:Dg K "turn" "Book.turn" (lP (top 41) 3) Em Ge ["self","number","row"]
 D_4:Dg K "rows" "Book.rows" (lP (top 41) 4) Fu Ie ["self"]
 D_5:Dg K "tree" "Book.tree" (lP (top 41) 5) Fv Ig ["self"]
 D_6:Dg K "refuse_no_row" "Book.refuse_no_row" (lP (top 41) 6) En Gf ["self","thing"]
 D_7:Dg K "refuse_no_number" "Book.refuse_no_number" (lP (top 41) 7) Eo Gg ["self","number"]
 D_8:Dg K "grow_anew" "Book.grow_anew" (lP (top 41) 8) Fw Ih ["self"]
 D_9:Df K mg "is_tuple_of" (top 6) Hy Ii ["thing","fewest","most"]
 D_10:Df K mg "is_case" (top 8) xg zh ["form","thing"]
 D_11:Df K mg "is_row" (top 9) xh zi ["form","thing"]
 D_12:Df K mg "entries_of" (top 10) xi zj ["field"]
 D_13:Df K mg "counted" (top 12) xj zk ["form","rows"]
 D_14:Df K mg "first_answer" (top 13) xl zl ["form","rows"]
 D_15:Df K mg "doubt_of" (top 14) xm zm ["form","rows"]
 D_16:Df K mg "fraction" (top 15) xn zo ["top","bottom"]
 D_17:Df K mg "common_divisor" (top 16) xo zp ["one","other"]
 D_18:Df K mg "added" (top 17) xp zr ["one","other"]
 D_19:Df K mg "is_less" (top 18) xq zt ["one","other"]
 D_20:Df K mg "common_bottom" (top 19) xt zu ["fractions"]
 D_21:Df K mg "questions_of" (top 22) xu zv ["form"]
 D_22:Df K mg "questions_on" (top 23) xw zw ["field"]
 D_23:Df K mg "choices_of" (top 24) xx zx ["form"]
 D_24:Df K mg "side_of" (top 25) xy zy ["form","question","stray","case"]
 D_25:Df K mg "field_asked" (top 26) xz gV ["form","question"]
 D_26:Df K mg "entries_to_yes" (top 27) ya Aa ["question","stray","field"]
 D_27:Df K mg "values_held" (top 28) yb Ab ["question","field"]
 D_28:Df K mg "parted" (top 29) yc Ac ["form","question","stray","rows"]
 D_29:Df K mg "numbers_on" (top 30) yd Ad ["side","sides"]
 D_30:Df K mg "is_proper" (top 31) ye Ae ["sides","fewest"]
 D_31:Df K mg "ranked" (top 33) yf ux ["form","rows","least"]
 D_32:Df K mg "rows_at" (top 34) yg Af ["rows","numbers"]
 D_33:Df K mg "best" (top 35) yh Ag ["form","rows","least"]
 D_34:Df K mg "grown" (top 36) oj oy ["form","rows","deep","least"]
 D_35:Df K mg "is_leaf" (top 38) yi Ah ["tree"]
 D_36:Df K mg "changed" (top 42) om ph ["one","other"]
 D_37:Df K mg "_law_mix" (top 44) yj Ai ["_law_cell","_law_k"]
 D_38:Df K mg "_law_cell_at" (top 45) yk Aj ["_law_script","_law_k"]
 D_39:Df K mg "_law_drawn" (top 46) yl Ak ["_law_cell","_law_many"]
 D_40:Df K mg "_law_names" (top 47) ym Al ["_law_drawn_here","_law_at","_law_many"]
 D_41:Df K mg "_law_form" (top 48) yn Am ["_law_script"]
 D_42:Df K mg "_law_case" (top 49) yo An ["_law_form_here","_law_bits"]
 D_43:Df K mg "_law_row" (top 50) yp Ao ["_law_form_here","_law_bits"]
 D_44:Df K mg "_law_side" (top 51) yq Ap ["_law_form_here","_law_question","_law_stray","_law_case_here"]
 D_45:Df K mg "_law_choose" (top 52) yr Aq ["_law_form_here"]
 D_46:Df K mg "_law_first" (top 53) yt As ["_law_form_here","_law_rows"]
 D_47:Df K mg "_law_doubt" (top 54) yu Au ["_law_form_here","_law_rows"]
 D_48:Df K mg "_law_parts" (top 55) yw Av ["_law_form_here","_law_question","_law_stray","_law_rows"]
 D_49:Df K mg "_law_top" (top 56) yx Aw ["_law_form_here","_law_rows","_law_few"]
 D_50:Df K mg "_law_grown" (top 57) on pj ["_law_form_here","_law_rows","_law_deep","_law_few"]
 D_51:Df K mg "_law_became" (top 58) oo pq ["_law_one","_law_other","_law_place"]
 D_52:Df K mg "_law_deed" (top 59) yy Ax ["_law_form_here","_law_more","_law_given"]
 D_53:Df K mg "_law_done" (top 60) rh sj ["_law_book","_law_way","_law_number","_law_row_here"]
 D_54:Df K mg "_law_due" (top 61) yz Ay ["_law_rows","_law_given","_law_way","_law_number","_law_row_here","_law_right"]
 D_55:Df K mg "_law_filled" (top 62) uq uy ["_law_book","_law_script","_law_form_here","_law_many"]
 D_56:Df K mg "_law_rows_told" (top 63) za Az ["_law_rows"]
 D_57:Df K mg "_law_stands" (top 64) oq qb ["_law_book","_law_rows","_law_tree"]
 D_law:Df K mg "law" (top 65) mh jv ["_law_script"]
 c_SIDES:mg "SIDES"=some (.ref t_SIDES)
 t_SIDES:aGi K t_SIDES ["yes","no"]
 c_MOST_ROWS:mg "MOST_ROWS"=some (.int 60 ck)
 L_31:JY K ux.code
 b_ValueError:mg "ValueError"=none
 b_all:mg "all"=none
 b_dict:mg "dict"=none
 b_enumerate:mg "enumerate"=none
 b_int:mg "int"=none
 b_isinstance:mg "isinstance"=none
 b_len:mg "len"=none
 b_list:mg "list"=none
 b_max:mg "max"=none
 b_min:mg "min"=none
 b_range:mg "range"=none
 b_repr:mg "repr"=none
 b_sorted:mg "sorted"=none
 b_sum:mg "sum"=none
 b_tuple:mg "tuple"=none
 b_zip:mg "zip"=none
noncomputable def kJ:Str:="abcdefghijklmnopqrstuvwxyz"
noncomputable def sgn(c:Nat):Bool:=Txt.contains kJ ⟨#[c]⟩
noncomputable def wN(z:Str):Bool:=decide (1<=z.length)&&decide (z.length<=8)&&z.cps.toList.all sgn
noncomputable def nm:D->Bool
|.str z=>wN z
|_=>false
noncomputable def vP(d:D)(lo hi:Int):Bool:=match d with | .tuple ts=>decide (lo<=ts.length)&&decide ((ts.length:Int)<=hi) | _=>false
noncomputable def txt:D->Str
|.str z=>z
|_=>""
noncomputable def nms(d:D)(lo hi:Int):Bool:=match d with | .tuple ts=>decide (lo<=ts.length)&&decide ((ts.length:Int)<=hi)&&ts.all nm&&decide ((ts.map txt).Nodup) | _=>false
noncomputable def fld:D->Bool
|.tuple [n,vs]=>nm n&&nms vs 2 5
|_=>false
noncomputable def fst:D->D
|.tuple (n::_)=>n
|_=>.none
def aN7:oX:=λds Q=>∃(d:D)(lo hi:Int),ds=[d,.int lo,.int hi]/\d.hasDict=false/\Q (.bool (vP d lo hi))
def aBm:oX:=λds Q=>∃c k:Int,ds=[.int c,.int k]/\0<=k/\k<1000/\∀r:Int,0<=r->r<2147483647->Q (.int r)
def aH4:oX:=λds Q=>∃(ns:List Int)(k:Int),ds=[.list (ns.map aW),.int k]/\ns.length<=63/\0<=k/\k<1000/\∀r:Int,Q (.int r)
def yS(n:Nat)(bs:List Int):Prop:=bs.length=n/\∀b∈bs,0<=b/\b<4096
def aH3:oX:=λds Q=>∃(c:Int)(n:Nat),ds=[.int c,.int n]/\n<=100/\∀bs,yS n bs->Q (.list (bs.map aW))
def L9(n:Nat)(ys:List Str):Prop:=ys.length=n/\(∀y∈ys,wN y=true)/\ys.Nodup
def aH2:oX:=λds Q=>∃(bs:List Int)(n m k:Nat),ds=[.list (bs.map aW),.int k,.int m]/\yS n bs/\k+11<=n/\n<=100/\m<=8/\∀ys,L9 m ys->Q (.tuple (ys.map aS))
noncomputable def lW(f:Str×List Str):D:=.tuple [.str f.1,.tuple (f.2.map aS)]
noncomputable def eZ(fs:List (Str×List Str))(an:List Str):D:=.tuple [.tuple (fs.map lW),.tuple (an.map aS)]
structure iB(fs:List (Str×List Str))(an:List Str):Prop where
 n1:1<=fs.length
 n5:fs.length<=5
 nd:L9 fs.length (fs.map (·.1))
 vs:∀f∈fs,2<=f.2.length/\f.2.length<=5/\L9 f.2.length f.2
 a2:2<=an.length
 a4:an.length<=4
 an:L9 an.length an
 n4:fs.length<=4
structure WV(fs:List (Str×List Str))(an:List Str):Prop where
 n1:1<=fs.length
 n5:fs.length<=5
 nd:L9 fs.length (fs.map (·.1))
 vs:∀f∈fs,2<=f.2.length/\f.2.length<=5/\L9 f.2.length f.2
 a2:2<=an.length
 a4:an.length<=4
 an:L9 an.length an
def aH1:oX:=λds Q=>∃ns:List Int,ds=[.list (ns.map aW)]/\ns.length<=63/\∀fs an,WV fs an->Q (eZ fs an)
noncomputable def aCo:D->Bool
|.tuple [_,_]=>true
|_=>false
def aDk(d:D):(∃a b,d=.tuple [a,b])\/(vP d 2 2=false/\aCo d=false):=by
 cases d with
 |tuple ts=>
  match ts with
  |[]=>exact .inr ⟨rfl,rfl⟩
  |[_]=>exact .inr ⟨rfl,rfl⟩
  |[a,b]=>exact .inl ⟨a,b,rfl⟩
  |_::_::_::r=>
   refine .inr ⟨?_,rfl⟩;simp only[vP,dY];have:¬(((r.length+1+1+1:Nat):Int)<=2):=by lia
   simp[this];lia
 |_=>exact .inr ⟨rfl,rfl⟩
def qT{b:Type}{xs:List b}{i:Int}(c:0<=i)(d:i<xs.length):∃a,a∈xs/\L2.atI xs i=some a/\xs[i.toNat]?=some a:=by
 have hi:i.toNat<xs.length:=by lia
 refine⟨xs[i.toNat],fF hi,?_,aD hi⟩;have:=L2.gH (xs:=xs) (j:=i.toNat) (v:=xs[i.toNat]) (aD hi)
 rwa [show((i.toNat:Nat):Int)=i by lia]at this
def gY{bs:List Int}{n:Nat}{i:Int}(hb:yS n bs)(d:0<=i)(e:i<n):∃b,0<=b/\b<4096/\L2.atI (bs.map aW) i=some (.int b):=by
 obtain⟨a,hm,ha,_⟩:=qT (xs:=bs.map aW) (i:=i) d (by rw[aB,hb.1];exact e);obtain⟨b,c,rfl⟩:=bC.mp hm;exact⟨b,(hb.2 b c).1,(hb.2 b c).2,ha⟩
def iW(n:Nat):(eI n).length=n:=by unfold eI;simp
def gX{n k:Nat}{x}(h:(eI n)[k]?=some x):k<n/\x=.int k:=by
 unfold eI at h;rw[aL]at h;by_cases hk:k<n
 ·rw[kT hk]at h;cases h;exact⟨hk,rfl⟩
 ·rw[eW (by simpa using hk)]at h;cases h
def qQ{a:Type}(xs:List a)(j:Nat):mW xs none (some (j:Int))=xs.take j:=by
 unfold mW;rw[HT.sIx_none,HT.sIx_nat,FO,MF];by_cases h:j<=xs.length
 ·rw[vH h]
 ·rw[C8 (by lia),dF,lM (by lia)]
def V8{a:Type}(xs:List a)(i:Nat):mW xs (some (i:Int)) none=xs.drop i:=by
 unfold mW;rw[HT.sIx_none,HT.sIx_nat];by_cases h:i<=xs.length
 ·rw[vH h,lM (by rw[eM];lia)]
 ·rw[C8 (by lia),KB (aN _),KB (by lia)];simp
def aF4{d:Type}(xs:List d)(i j:Nat):mW xs (some (i:Int)) (some (j:Int))=(xs.drop i).take (j-i):=by
 unfold mW;rw[HT.sIx_nat,HT.sIx_nat];apply mC;intro k;rw[nD,nD,nE,nE];by_cases hi:i<=xs.length
 ·rw[vH hi];by_cases c:j<=xs.length
  ·rw[vH c]
  ·rw[C8 (by lia)];by_cases b:k<xs.length-i
   ·rw[b8 b,b8 (by lia)]
   ·rw[a8 b];by_cases a:k<j-i
    ·rw[b8 a,eW (by lia)]
    ·rw[a8 a]
 ·rw[a8 (by lia)];by_cases a:k<j-i
  ·rw[b8 a,eW (by lia)]
  ·rw[a8 a]
def pG{a b:Type}(f:a->b)(xs:List a)(lo hi:Option Int):mW (xs.map f) lo hi=(mW xs lo hi).map f:=by
 unfold mW;rw[aB,xV,List.map_drop]
def UC{z:Str}(a:1<=z.cps.toList.length)(b:z.cps.toList.length<=8)(d:∀c∈z.cps.toList,c∈kJ.cps.toList):wN z=true:=by
 have e:z.length=z.cps.toList.length:=by simp[bx]
 unfold wN;rw[e,c6 a,c6 b];simp only[xW,fV];intro c f;unfold sgn;rw[VB];exact c6 (d c f)
def NF{z:Str}(h:wN z=true):1<=z.length/\z.length<=8/\∀c∈z.cps.toList,c∈kJ.cps.toList:=by
 unfold wN at h;simp only[dG,f9,fV]at h;refine⟨h.1.1,h.1.2,λc a=>?_⟩;have:=h.2 c a;unfold sgn at this;rw[VB]at this;exact c8 this
theorem nodup_range{d:Type}{n:Nat}(F:Nat->d)(inj:∀i j,i<n->j<n->F i=F j->i=j):((fZ n).map F).Nodup:=by
 rw[aNj,nX];have:(fZ n).Nodup:=List.nodup_range;refine HJ.imp_of_mem (λ{a b} ha hb c e=>?_) this;exact c (inj a b (by simpa using ha) (by simpa using hb) e)
def ER(F:Nat->Str)(h:∀i,i<8->wN (F i)=true)(inj:∀i j,i<8->j<8->F i=F j->i=j):L9 8 ((fZ 8).map F):=
 ⟨by simp,λy a=>by
  obtain⟨i,hi,rfl⟩:=bC.mp a;exact h i (by simpa using hi),nodup_range F inj⟩
def aLj{ys:List Str}(h:L9 8 ys)(t:Nat){m:Nat}(hm:m<=8):L9 m ((ys.drop t++ys.take t).take m):=by
 have a:(ys.drop t++ys.take t).Perm ys:=by
  have:(ys.take t++ys.drop t).Perm ys:=by rw[List.take_append_drop]
  exact List.perm_append_comm.trans this
 refine⟨?_,λy b=>h.2.1 y (a.mem_iff.mp (eE b)),(a.nodup_iff.mpr h.2.2).sublist (zR _ _)⟩;rw[bL,a.length_eq,h.1];lia
def LH:kJ.cps.toList.Nodup:=by decide +kernel
noncomputable def UJ:List Str:=["say","ask","is","upto","yes","no","all","in"]
def aOv:L9 8 UJ:=⟨rfl,by decide +kernel,by decide +kernel⟩
def ZI{xs:List Nat}(nd:xs.Nodup){i j:Nat}{c:Nat}(b:xs[i]?=some c)(d:xs[j]?=some c):i=j:=by
 obtain⟨e,a2⟩:=aF.mp b;obtain⟨f,a⟩:=aF.mp d;exact(XF nd).mp (a2.trans a.symm)
theorem HV:∀{ys},(∀y∈ys,∃c,c∈kJ.cps.toList/\y=.str ⟨#[c]⟩)->∃cs:List Nat,ys=cs.map (λc=>aS ⟨#[c]⟩)/\∀c∈cs,c∈kJ.cps.toList
|[],_=>⟨[],rfl,λc h=>by simp at h⟩
|y::ys,h=>by
 obtain⟨c,b,rfl⟩:=h y (aO ..);obtain⟨cs,rfl,a⟩:=HV (ys:=ys) λy e=>h y (aJ _ e);refine⟨c::cs,rfl,λd hd=>?_⟩;rcases aP.mp hd with rfl | hd
 ·exact b
 ·exact a d hd
def CF(cs:List Nat):(Txt.join ⟨#[]⟩ (cs.map λc=>⟨#[c]⟩)).cps.toList=cs:=by
 rw[LM,bN]
 induction cs with
 |nil=>rfl
 |cons c cs a=>rw[bR,iY,a];rfl
def aEl{xs:List Int}{lo hi:Int}(h:∀x∈xs,lo<=x/\x<=hi){i:Int}(c:0<=i)(d:i<xs.length):∃m:Int,lo<=m/\m<=hi/\L2.atI (xs.map aW) i=some (.int m):=by
 obtain⟨a,hm,ha,_⟩:=qT (xs:=xs.map aW) (i:=i) c (by rw[aB];exact d);obtain⟨b,hb,rfl⟩:=bC.mp hm;exact⟨b,(h b hb).1,(h b hb).2,ha⟩
def WP{ys:List Str}{k:Nat}(h:k<ys.length):L2.atI (ys.map aS) (k:Int)=some (.str ys[k]):=L2.gH (by rw[aL,aD h];rfl)
noncomputable def Q2(f:Str×List Str)(d:D):Bool:=match d with | .none=>true | .str z=>decide (z∈f.2) | _=>false
noncomputable def vQ(an:List Str)(d:D):Bool:=match d with | .str z=>decide (z∈an) | _=>false
structure Cd(d:D):Prop where
 lay:d.canLay0=true
 dep:d.depth<=60
structure Th(n m:Nat)(d:D):Prop where
 bulk:d.bulk<=n
 fit:d.leavesShort 110=true
 shw:d.showable=true
 nodict:d.hasDict=false
 depth:d.depth<=m
 lay:d.canLay0=true
abbrev N4(d:D):Prop:=Th 100000 40 d
def Th.mono{n n' m m':Nat}{d}(h:Th n m d)(hn:n<=n')(hm:m<=m'):Th n' m' d:=⟨aX h.bulk hn,h.fit,h.shw,h.nodict,aX h.depth hm,h.lay⟩
theorem tE{n m:Nat}:∀{ts:List D},(∀t∈ts,Th n m t)->vG ts<=ts.length*(n+1)/\J1 110 ts=true/\OC ts=true/\lX ts=false/\eV ts<=m/\eL ts=true
|[],_=>⟨cU _,rfl,rfl,rfl,cU _,rfl⟩
|t::ts,h=>by
 have a:=h t (aO ..);obtain⟨i,b,c,d,e,f⟩:=tE (ts:=ts) λx g=>h x (aJ _ g);refine⟨?_,?_,?_,?_,?_,?_⟩
 ·show t.bulk+1+vG ts<=(ts.length+1)*(n+1);have:=a.bulk;rw[rX,aNh];lia
 ·show(t.leavesShort 110&&J1 110 ts)=true;rw[a.fit,b];rfl
 ·show(t.showable&&OC ts)=true;rw[a.shw,c];rfl
 ·show(t.hasDict||lX ts)=false;rw[a.nodict,d];rfl
 ·show max t.depth (eV ts)<=m;exact Nat.max_le.mpr ⟨a.depth,e⟩
 ·show(t.canLay0&&eL ts)=true;rw[a.lay,f];rfl
def oP(n m k:Nat){N M:Nat}{ts:List D}(h:∀t∈ts,Th n m t)(e:ts.length<=k)(j:k*(n+1)<=N)(i:m+1<=M):Th N M (.tuple ts):=by
 obtain⟨f,a,b,c,g,d⟩:=tE h;have:ts.length*(n+1)<=k*(n+1):=QR _ e;exact⟨by show vG ts<=N;lia,a,b,c,by show eV ts+1<=M;lia,d⟩
def KN(n m k:Nat){N M:Nat}{ts:List D}(h:∀t∈ts,Th n m t)(e:ts.length<=k)(j:k*(n+1)<=N)(i:m+1<=M):Th N M (.list ts):=by
 obtain⟨f,a,b,c,g,d⟩:=tE h;have:ts.length*(n+1)<=k*(n+1):=QR _ e;exact⟨by show vG ts<=N;lia,a,b,c,by show eV ts+1<=M;lia,d⟩
def AS{n m:Nat}:Th n m .none:=⟨cU _,rfl,rfl,rfl,cU _,rfl⟩
def HR{z:Str}(b:∀c∈z.cps.toList,c<1000):aC8 z=true:=by
 unfold aC8;rw[<- W4,fV];intro c a;have:=b c a;exact c6 (by lia)
def RW{n m:Nat}{z:Str}(h:z.length<=n)(a:∀c∈z.cps.toList,c<1000):Th n m (.str z):=by
 refine⟨h,?_,rfl,rfl,cU _,HR a⟩;show(z.cps.toList.all λc=>decide (c<16^8))=true;rw[fV];intro c b;have:=a c b;exact c6 (by lia)
def aDq{n m:Nat}{z:Str}(h:(decide (z.length<=n)&&z.cps.toList.all λc=>decide (c<1000))=true):Th n m (.str z):=by
 rw[dG]at h;exact RW (c8 h.1) λc a=>c8 (fV.mp h.2 c a)
def PK{c:Nat}(h:c∈kJ.cps.toList):c<128:=by
 have:∀c∈kJ.cps.toList,c<128:=by decide +kernel
 exact this c h
def IR{y:Str}(h:wN y=true):y.length<=8/\∀c∈y.cps.toList,c<128:=⟨(NF h).2.1,λc a=>PK ((NF h).2.2 c a)⟩
def jB{y}(h:wN y=true){n m:Nat}(hn:8<=n):Th n m (.str y):=RW (aX (IR h).1 hn) λc a=>by have:=(IR h).2 c a;lia
def uK{ys:List Str}(h:∀y∈ys,wN y=true){n m:Nat}(hn:8<=n):∀t∈ys.map aS,Th n m t:=λt a=>by
 obtain⟨y,b,rfl⟩:=bC.mp a;exact jB (h y b) hn
def oF{n m:Nat}:∀t∈([]:List D),Th n m t:=λt h=>by simp at h
def gB{n m:Nat}{a ts}(h:Th n m a)(hs:∀t∈ts,Th n m t):∀t∈a::ts,Th n m t:=λt ht=>by
 rcases aP.mp ht with rfl | ht
 ·exact h
 ·exact hs t ht
def aAz{n m:Nat}{as bs:List D}(h:∀t∈as,Th n m t)(hs:∀t∈bs,Th n m t):∀t∈as++bs,Th n m t:=λt a=>(dQ.mp a).elim (h t) (hs t)
def jD{d:D}(h:N4 d):d.shown.length<=bE:=by
 have b:=PyData.shown_le_bulk 110 (by decide) d h.fit;have a:=h.bulk;have e:bE=2^24:=rfl;have c:(110+2)*d.bulk<=(110+2)*100000:=Nat.mul_le_mul_left _ a;lia
def Th.cd{n m:Nat}{d}(h:Th n m d)(hm:m<=60):Cd d:=⟨h.lay,aX h.depth hm⟩
theorem NK:∀{ts}{t:D},eL ts=true->t∈ts->t.canLay0=true
|a::r,t,h,hm=>by
 have h':(a.canLay0&&eL r)=true:=h;rw[dG]at h';rcases aP.mp hm with rfl | hm
 ·exact h'.1
 ·exact NK h'.2 hm
theorem E8:∀{ts}{t:D},t∈ts->t.depth<=eV ts
|a::r,t,hm=>by
 show t.depth<=max a.depth (eV r);rcases aP.mp hm with rfl | hm
 ·exact aC9 _ _
 ·exact aX (E8 hm) (aA6 _ _)
def Cd.item{ts t}(h:Cd (.tuple ts))(a:t∈ts):Cd t:=⟨NK h.lay a,by
 have b:eV ts+1<=60:=h.dep;have:=E8 a;lia⟩
section
variable{fs:List (Str×List Str)}{an:List Str}
def iB.name(F:iB fs an){f:Str×List Str}(h:f∈fs):wN f.1=true:=F.nd.2.1 _ (bC.mpr ⟨f,h,rfl⟩)
def iB.vals(F:iB fs an){f:Str×List Str}(h:f∈fs):∀y∈f.2,wN y=true:=(F.vs f h).2.2.2.1
end
def CM{x ts}{Q:D->Prop}(a:DQ x (.tuple ts))(b:Q (.bool (PR x (.tuple ts)))):aLz x (.tuple ts) Q:=by
 cases x<;>exact⟨a,b⟩
def C4(d:D)(ys:List Str):((ys.map aS).any λz=>bX z d)=vQ ys d:=by
 induction ys with
 |nil=>cases d<;>rfl
 |cons y ys a=>
  rw[bR,oY,a]
  cases d with
  |str z=>
   show((y==z)||decide (z∈ys))=decide (z∈y::ys);rw[eN];simp only[DJ,lr,f9,aP];exact⟨λh=>h.imp Eq.symm id,λh=>h.imp Eq.symm id⟩
  |_=>rfl
def LO(f:Str×List Str)(d:D):PR d (.tuple (f.2.map aS++[.none]))=Q2 f d:=by
 show((f.2.map aS++[AO]).any λz=>bX z d)=Q2 f d;rw[aBc,C4];cases d<;>simp[vQ,Q2,bX]
def M7{ys:List Str}(h:∀y∈ys,wN y=true){d}(hd:Cd d):DQ d (.tuple (ys.map aS)):=by
 obtain⟨_,_,_,_,b,a⟩:=tE (uK h (aN 8) (m:=0));exact⟨a,hd.lay,by have:=hd.dep;lia⟩
def B3{ys:List Str}(h:∀y∈ys,wN y=true){d:D}(hd:Cd d):DQ d (.tuple (ys.map aS++[.none])):=by
 obtain⟨_,_,_,_,b,a⟩:=tE (aAz (uK h (aN 8) (m:=0)) (gB AS oF));exact⟨a,hd.lay,by have:=hd.dep;lia⟩
theorem A5:∀{ys:List Str}{z}{m:Nat},m<ys.idxOf z->ys[m]?≠some z
|[],z,m,h=>by simp at h
|y::ys,z,m,h=>by
 rw[List.idxOf_cons]at h;by_cases e:y=z
 ·subst e;simp at h
 ·have a:(y==z)=false:=by simpa using e
  rw[a]at h;simp only[cond_false]at h
  cases m with
  |zero=>simpa using e
  |succ m=>
   rw[J2];exact A5 (by lia)
noncomputable def iV(fs:List (Str×List Str))(d:D):Bool:=match d with | .tuple ts=>decide (ts.length=fs.length)&&(fs.zip ts).all (λp=>Q2 p.1 p.2) | _=>false
def aH0:oX:=λds Q=>∃(fs:List (Str×List Str))(an:List Str)(bs:List Int)(n:Nat),ds=[eZ fs an,.list (bs.map aW)]/\iB fs an/\yS n bs/\8<=n/\∀cs,iV fs (.tuple cs)=true->Q (.tuple cs)
def aHz:oX:=λds Q=>∃(fs:List (Str×List Str))(an:List Str)(bs:List Int)(n:Nat),ds=[eZ fs an,.list (bs.map aW)]/\iB fs an/\yS n bs/\8<=n/\∀cs a,iV fs (.tuple cs)=true->a∈an->Q (.tuple [.tuple cs,.str a])
section
variable{fs:List (Str×List Str)}{an:List Str}
def nO{cs:List D}(h:iV fs (.tuple cs)=true):cs.length=fs.length/\∀(k:Nat) f c,fs[k]?=some f->cs[k]?=some c->Q2 f c=true:=by
 unfold iV at h;simp only[dG,f9,fV]at h;refine⟨h.1,λk f c a b=>?_⟩;exact h.2 (f,c) (bH ((jV (z:=(f,c))).mpr ⟨a,b⟩))
def aAs{cs:List D}(d:cs.length=fs.length)(h:∀(k:Nat) f c,fs[k]?=some f->cs[k]?=some c->Q2 f c=true):iV fs (.tuple cs)=true:=by
 unfold iV;simp only[dG,f9,fV];refine⟨d,λp e=>?_⟩;obtain⟨k,hk⟩:=cT e;obtain⟨a,b⟩:=jV.mp hk;exact h k p.1 p.2 a b
def CZ(F:iB fs an){cs}(h:iV fs (.tuple cs)=true){n m:Nat}(hn:8<=n):∀c∈cs,Th n m c:=λc b=>by
 obtain⟨d,e⟩:=nO h;obtain⟨k,hk⟩:=cT b;have a:k<fs.length:=by rw[<- d];exact(aF.mp hk).1
 have:=e k fs[k] c (aD a) hk
 cases c with
 |none=>exact AS
 |str z=>exact jB (F.vals (fF a) z (c8 this)) hn
 |_=>cases this
end
noncomputable def dA(r:List D×Str):D:=.tuple [.tuple r.1,.str r.2]
def uA(fs:List (Str×List Str))(an:List Str)(r:List D×Str):Prop:=iV fs (.tuple r.1)=true/\r.2∈an
def iQ(fs:List (Str×List Str))(an:List Str)(a:List (List D×Str)):Prop:=∀r∈a,uA fs an r
def KM{fs an}(F:iB fs an){r}(h:uA fs an r):Th 92 2 (dA r):=by
 have n5:=F.n5;exact oP 45 1 2 (gB (oP 8 0 5 (CZ F h.1 (aN 8)) (by rw[(nO h.1).1];exact n5) (by decide) (by decide)) (gB (jB (F.an.2.1 _ h.2) (by decide)) oF)) (aC rfl) (by decide) (by decide)
noncomputable def qOk(f:Str×List Str)(k v:D):Bool:=match k,v with
|.str kk,.str z=>decide (z∈f.2)&&(decide (kk="is")||(decide (kk="upto")&&decide (f.2.idxOf z+1<f.2.length)))
|_,_=>false
noncomputable def isN(n:D)(f:Str×List Str):Bool:=match n with | .str z=>decide (f.1=z) | _=>false
noncomputable def U8(fs:List (Str×List Str))(d:D):Bool:=match d with
|.tuple [k,n,v]=>fs.any λf=>isN n f&&qOk f k v
|_=>false
noncomputable def J5(k:Str)(f:Str×List Str)(z:Str):D:=.tuple [.str k,.str f.1,.str z]
noncomputable def qN(f:Str×List Str):List Str:=if f.2.length=2 then f.2.take 1 else f.2
noncomputable def DP(f:Str×List Str):List Str:=(f.2.drop 1).take (f.2.length-3)
noncomputable def MY(f:Str×List Str):List D:=(qN f).map (J5 "is" f)++(DP f).map (J5 "upto" f)
noncomputable def eY(fs:List (Str×List Str)):List D:=(fs.map MY).flatten
def aIj:QK:=λds Q=>∃(fs:List (Str×List Str))(an:List Str),ds=[eZ fs an]/\iB fs an/\Q (eY fs)
def VC{ys:List Str}{z}{j:Nat}(h:ys[j]?=some z):ys.idxOf z<=j:=by
 by_cases q:ys.idxOf z<=j
 ·exact q
 ·exact c7 h (A5 (by lia))
def UM{f:Str×List Str}{z}(h:z∈DP f):z∈f.2/\f.2.idxOf z+1<f.2.length:=by
 unfold DP at h;have a:z∈f.2:=vW (eE h);refine⟨a,?_⟩;obtain⟨i,hi⟩:=cT h;have b:=(aF.mp hi).1;rw[bL,eM]at b;rw[nD,b8 (by lia),nE]at hi;have:=VC hi;lia
def U7{fs f k z}(a:f∈fs)(h:qOk f (.str k) (.str z)=true):U8 fs (J5 k f z)=true:=by
 show(fs.any λg=>isN (.str f.1) g&&qOk g (.str k) (.str z))=true;rw[oN];refine⟨f,a,?_⟩;show(decide (f.1=f.1)&&qOk f (.str k) (.str z))=true;rw[h,c6 rfl];rfl
def CW{fs d}(h:d∈eY fs):∃f∈fs,(∃z∈f.2,d=J5 "is" f z)\/(∃z,z∈f.2/\f.2.idxOf z+1<f.2.length/\d=J5 "upto" f z):=by
 unfold eY at h;obtain⟨l,b,hd⟩:=List.mem_flatten.mp h;obtain⟨f,a,rfl⟩:=bC.mp b;refine⟨f,a,?_⟩;unfold MY at hd;rcases dQ.mp hd with q | q
 ·obtain⟨z,hz,rfl⟩:=bC.mp q;refine .inl ⟨z,?_,rfl⟩;unfold qN at hz;split at hz
  ·exact eE hz
  ·exact hz
 ·obtain⟨z,hz,rfl⟩:=bC.mp q;exact .inr ⟨z,(UM hz).1,(UM hz).2,rfl⟩
def LY{fs d}(h:d∈eY fs):U8 fs d=true:=by
 obtain⟨f,a,⟨z,hz,rfl⟩ | ⟨z,hz,hi,rfl⟩⟩:=CW h
 ·refine U7 a ?_;show(decide (z∈f.2)&&(decide (("is":Str)="is")||_))=true;rw[c6 hz];rfl
 ·refine U7 a ?_;show(decide (z∈f.2)&&(decide (("upto":Str)="is")||(decide (("upto":Str)="upto")&&decide (f.2.idxOf z+1<f.2.length))))=true;rw[c6 hz,c6 hi,c6 (rfl:("upto":Str)="upto")];simp
def aLk:wN "is"=true:=by decide +kernel
def ZJ:wN "upto"=true:=by decide +kernel
def aDp{fs an}(F:iB fs an){k}(hk:wN k=true){f:Str×List Str}(a:f∈fs){z}(hz:z∈f.2):Th 27 1 (J5 k f z):=
 oP 8 0 3 (gB (jB hk (aN _)) (gB (jB (F.name a) (aN _)) (gB (jB (F.vals a z hz) (aN _)) oF))) (aC rfl) (by decide) (by decide)
theorem mX{fs an}(F:iB fs an):∀a:List (Str×List Str),(∀g∈a,g∈fs)->(eY a).length<=7*a.length
|[],_=>aN _
|g::a,h=>by
 have d:=mX F a λx b=>h x (aJ _ b);obtain⟨_,e,_⟩:=F.vs g (h g (aO ..));show((MY g::a.map MY).flatten).length<=_;rw[iY,bO]
 have c:(MY g).length<=7:=by
  unfold MY qN DP;rw[bO,aB,aB,bL,eM];split
  ·rw[bL];lia
  ·lia
 have:(eY a).length=((a.map MY).flatten).length:=rfl;rw[dY];lia
def UL{l:List Str}{j:Nat}(b:j<l.length):((l.take (j+1)).drop 1).take (l.length-3)=((l.take j).drop 1).take (l.length-3)++(if 0<j/\j+2<l.length then[l[j]]else[]):=by
 have e:l.take (j+1)=l.take j++[l[j]]:=by rw[cM,aD b];rfl
 rw[e];have c:(l.take j).length=j:=by rw[bL];lia
 cases j with
 |zero=>simp
 |succ i=>
  rw[List.drop_append_of_le_length (by lia),List.take_append];congr 1;have hd:((l.take (i+1)).drop 1).length=i:=by rw[eM,c];lia
  rw[hd];by_cases a:i+1+2<l.length
  ·rw[b8 ⟨by lia,a⟩];have:l.length-3-i=(l.length-4-i)+1:=by lia
   rw[this,List.take_succ_cons,List.take_nil]
  ·rw[a8 λh=>a h.2];have:l.length-3-i=0:=by lia
   rw[this];rfl
def UK{fs an}(F:iB fs an){f g:Str×List Str}(d:f∈fs)(h:g∈fs)(e:g.1=f.1):g=f:=by
 obtain⟨i,hi⟩:=cT d;obtain⟨j,a⟩:=cT h;have b:(fs.map (·.1))[i]?=some f.1:=by rw[aL,hi];rfl
 have c:(fs.map (·.1))[j]?=some f.1:=by rw[aL,a,Option.map_some,e]
 obtain⟨k,l⟩:=aF.mp b;obtain⟨n,m⟩:=aF.mp c;have:i=j:=(W0 k F.nd.2.2).mp (b.trans c.symm);subst this;rw[hi]at a;exact(d7 a).symm
def uR{ys:List Str}(c:∀y∈ys,wN y=true){z}(hz:z∈ys):K7 (ys.map aS) (.str z) (ys.idxOf z):=by
 have d:ys.idxOf z<ys.length:=nA.mpr hz;obtain⟨_,_,_,_,e,d6⟩:=tE (uK c (aN 8) (m:=0));refine⟨d6,(jB (c z hz) (aN 8) (m:=0)).lay,by lia,⟨.str z,?_,?_⟩,λm t hm a=>?_⟩
 ·rw[aL,aD d,qK d];rfl
 ·show(z==z)=true;simp
 ·rw[aL]at a
  cases b:ys[m]? with
  |none=>rw[b]at a;cases a
  |some y=>
   rw[b]at a;cases a;show(y==z)=false
   have:y≠z:=λq=>by
    subst q;exact A5 hm b
   simpa using this
inductive Tr | say (a:Str) | ask (k n v s:Str) (y m:Tr)
noncomputable def mK:Tr->D
|.say a=>.tuple [.str "say",.str a]
|.ask k n v s y m=>.tuple [.str "ask",.tuple [.str k,.str n,.str v],.str s,mK y,mK m]
noncomputable def Tr.dep:Tr->Nat
|.say _=>0
|.ask _ _ _ _ y m=>max y.dep m.dep+1
noncomputable def Tr.kn:Tr->Nat
|.say _=>0
|.ask _ _ _ _ y m=>y.kn+m.kn+1
noncomputable def Tr.nodes:Tr->Nat
|.say _=>1
|.ask _ _ _ _ y m=>y.nodes+m.nodes+1
def AF(fs:List (Str×List Str))(an:List Str):Tr->Prop
|.say a=>a∈an
|.ask k n v s y m=>U8 fs (.tuple [.str k,.str n,.str v])=true/\(s="yes"\/s="no")/\AF fs an y/\AF fs an m
def A3{fs}{k n v:Str}(h:U8 fs (.tuple [.str k,.str n,.str v])=true):∃f∈fs,f.1=n/\v∈f.2/\(k="is"\/(k="upto"/\f.2.idxOf v+1<f.2.length)):=by
 obtain⟨f,c,b⟩:=oN.mp (h:(fs.any λf=>isN (.str n) f&&qOk f (.str k) (.str v))=true);rw[dG]at b;have a:(decide (v∈f.2)&&(decide (k="is")||(decide (k="upto")&&decide (f.2.idxOf v+1<f.2.length))))=true:=b.2;simp only[dG,DJ,f9]at a;exact⟨f,c,c8 b.1,a.1,a.2⟩
def UA:wN "yes"=true:=by decide +kernel
def aCk:wN "no"=true:=by decide +kernel
def aE4:wN "say"=true:=by decide +kernel
def UB:wN "ask"=true:=by decide +kernel
def XQ{fs an}(F:iB fs an){k n v}(h:U8 fs (.tuple [.str k,.str n,.str v])=true):Th 27 1 (.tuple [.str k,.str n,.str v]):=by
 obtain⟨f,a,rfl,b,hk⟩:=A3 h;refine aDp F ?_ a b;rcases hk with rfl | ⟨rfl,_⟩
 ·exact aLk
 ·exact ZJ
theorem XR{fs an}(F:iB fs an):∀t:Tr,AF fs an t->Th (68*t.kn+18) (t.dep+1) (mK t)
|.say a,h=>oP 8 0 2 (gB (jB aE4 (aN _)) (gB (jB (F.an.2.1 a h) (aN _)) oF)) (aC rfl) (by show 2*(8+1)<=68*0+18;decide) (aN _)
|.ask k n v s y m,h=>by
 obtain⟨l,hs,o,hm⟩:=h;have d:=XR F y o;have c:=XR F m hm;have q:=XQ F l
 have sn:wN s=true:=by
  rcases hs with rfl | rfl
  ·exact UA
  ·exact aCk
 have sl:=jB sn (n:=8) (m:=0) (aN _);have b:=jB UB (n:=8) (m:=0) (aN _);have i:PyData.bulk (mK (.ask k n v s y m))=(aS "ask").bulk+1+((fA [.str k,.str n,.str v]).bulk+1+((aS s).bulk+1+((mK y).bulk+1+((mK m).bulk+1+0)))):=rfl;have j:PyData.depth (mK (.ask k n v s y m))=max (aS "ask").depth (max (fA [.str k,.str n,.str v]).depth (max (aS s).depth (max (mK y).depth (max (mK m).depth 0))))+1:=rfl;refine⟨?_,?_,?_,?_,?_,?_⟩
 ·rw[i];have e:=d.bulk;have a2:=c.bulk;have f:=q.bulk;have a4:=sl.bulk;have g:=b.bulk;show _<=68*(y.kn+m.kn+1)+18;lia
 ·show((aS "ask").leavesShort 110&&((fA [.str k,.str n,.str v]).leavesShort 110&&((aS s).leavesShort 110&&((mK y).leavesShort 110&&((mK m).leavesShort 110&&true)))))=true;rw[b.fit,q.fit,sl.fit,d.fit,c.fit];rfl
 ·show((aS "ask").showable&&((fA [.str k,.str n,.str v]).showable&&((aS s).showable&&((mK y).showable&&((mK m).showable&&true)))))=true;rw[b.shw,q.shw,sl.shw,d.shw,c.shw];rfl
 ·show((aS "ask").hasDict||((fA [.str k,.str n,.str v]).hasDict||((aS s).hasDict||((mK y).hasDict||((mK m).hasDict||false)))))=false;rw[b.nodict,q.nodict,sl.nodict,d.nodict,c.nodict];rfl
 ·rw[j];have e:=d.depth;have a2:=c.depth;have f:=q.depth;have a4:=sl.depth;have g:=b.depth;show _<=max y.dep m.dep+1+1;lia
 ·show((aS "ask").canLay0&&((fA [.str k,.str n,.str v]).canLay0&&((aS s).canLay0&&((mK y).canLay0&&((mK m).canLay0&&true)))))=true;rw[b.lay,q.lay,sl.lay,d.lay,c.lay];rfl
theorem Tr.nodes_kn:∀t:Tr,t.nodes=2*t.kn+1
|.say _=>rfl
|.ask _ _ _ _ y m=>by
 show y.nodes+m.nodes+1=2*(y.kn+m.kn+1)+1;have:=nodes_kn y;have:=nodes_kn m;lia
theorem Tr.kn_dep:∀t:Tr,t.kn<2^t.dep
|.say _=>by show 0<2^0;decide
|.ask _ _ _ _ y m=>by
 have:=kn_dep y;have:=kn_dep m;show y.kn+m.kn+1<2^(max y.dep m.dep+1);have a:2^y.dep<=2^(max y.dep m.dep):=fT (by decide) (aC9 ..);have b:2^m.dep<=2^(max y.dep m.dep):=fT (by decide) (aA6 ..);rw[aMt];lia
def Tr.nodes_pos(t:Tr):1<=t.nodes:=by rw[t.nodes_kn];lia
def OW{c:vD}{tb u DT σ}(P:Nat->List Sl->Prop)(d:Nat)(e:P d σ)
  (hs:∀n d8,P n d8->∃b:Bool,(∀q:Bool->Prop,q b->c d8 q)/\(if b=true then tb { DT with nx:=λa=>∃m,m<n/\P m a,ct:=λa=>∃m,m<n/\P m a,bk:=u DT } d8 else u DT d8)):hZ (SG c tb) u DT σ:=
 ⟨P,⟨d,e⟩,λn d8 f=>let ⟨_,h1,h2⟩:=hs n d8 f;h1 _ h2⟩
def aAq(ys:List Str)(h:2<=ys.length):mW ys (some 1) (some (-2))=(ys.drop 1).take (ys.length-3):=by
 unfold mW
 have a:HT.sIx ys.length 0 (some 1)=1:=by
  show(if(1:Int)<0 then((1:Int)+(ys.length:Int)).toNat else min (1:Int).toNat ys.length)=_;rw[a8 (by decide)];show min 1 ys.length=1;lia
 have b:HT.sIx ys.length ys.length (some (-2))=ys.length-2:=by
  show(if(-2:Int)<0 then((-2:Int)+(ys.length:Int)).toNat else min (-2:Int).toNat ys.length)=_;rw[b8 (by decide)];lia
 rw[a,b];congr 1
def aAp(ys:List Str)(h:2<=ys.length):mW ys none (some 1)=ys.take 1:=qQ ys 1
def aIi:QK:=λds Q=>∃f:Str×List Str,ds=[lW f]/\2<=f.2.length/\f.2.length<=5/\Q (MY f)
abbrev Rw:=List D×Str
noncomputable def pW(b:List Rw)(a:Str):Nat:=b.countP λr=>decide (r.2=a)
noncomputable def jJ(an:List Str)(b:List Rw):List Int:=an.map λa=>(pW b a:Int)
noncomputable def yX(ss a:List Rw):Nat:=(ss.map λr=>a.countP λo=>decide (o.2≠r.2)).sum
noncomputable def US(a b:Nat):D:=.tuple [.int ((a / a.gcd b:Nat):Int),.int ((b / a.gcd b:Nat):Int)]
def C6(an:List Str)(c:List Rw)(a:Str):Prop:=∃k,an[k]?=some a/\(∀(j:Nat) b,an[j]?=some b->pW c b<=pW c a)/\∀(j:Nat) b,j<k->an[j]?=some b->pW c b<pW c a
def aBo:oX:=λds Q=>∃a b:Nat,ds=[.int a,.int b]/\0<b/\a<2^190/\b<2^190/\Q (US a b)
def aIp:QK:=λds Q=>∃(fs:List (Str×List Str))(an:List Str)(a:List Rw),ds=[eZ fs an,.list (a.map dA)]/\iB fs an/\iQ fs an a/\a.length<=60/\Q ((jJ an a).map aW)
def aBp:oX:=λds Q=>∃(fs:List (Str×List Str))(an:List Str)(b:List Rw),ds=[eZ fs an,.list (b.map dA)]/\iB fs an/\iQ fs an b/\b.length<=60/\∀a,C6 an b a->Q (.str a)
def aIo:oX:=λds Q=>∃(fs:List (Str×List Str))(an:List Str)(a:List Rw),ds=[eZ fs an,.list (a.map dA)]/\iB fs an/\iQ fs an a/\a.length<=60/\Q (US (yX a a) (max 1 a.length))
theorem F3:∀(ss a:List Rw),yX ss a<=ss.length*a.length
|[],a=>by show 0<=_;lia
|s::ss,a=>by
 have:=F3 ss a;have b:a.countP (λo=>decide (o.2≠s.2))<=a.length:=MH;show a.countP (λo=>decide (o.2≠s.2))+yX ss a<=(ss.length+1)*a.length;rw[rX,aNh];lia
def V9(b:List Rw)(a:Str):pW b a<=b.length:=MH
theorem JH{a:Type}[DecidableEq a]:∀(l:List a)(x:a),x∈l->∃k:Nat,l[k]?=some x/\∀j:Nat,j<k->l[j]?≠some x
|y::l,x,h=>by
 by_cases e:y=x
 ·exact⟨0,by rw[e];rfl,λj d=>by lia⟩
 ·obtain⟨k,b,c⟩:=JH l x ((aP.mp h).resolve_left λz=>e z.symm);refine⟨k+1,b,λj d=>?_⟩
  cases j with
  |zero=>exactλz=>e (d7 z)
  |succ j=>exact c j (by lia)
noncomputable def aNx(a:Str)(x:D):Bool:=match x with | .tuple [_,.str b]=>!decide (b=a) | _=>false
noncomputable def FW(f:Str×List Str)(k v st:Str)(c:D):Str:=match c with
|.none=>st
|.str z=>if k="is" then(if z=v then "yes" else "no")else if f.2.idxOf z<=f.2.idxOf v then "yes" else "no"
|_=>""
noncomputable def kM(fs:List (Str×List Str))(k n v st:Str)(cs:List D):Str:=match fs[(fs.map (·.1)).idxOf n]?,cs[(fs.map (·.1)).idxOf n]? with
|some f,some c=>FW f k v st c
|_,_=>""
def aBn:oX:=λds Q=>∃(fs:List (Str×List Str))(an:List Str)(k n v st:Str)(cs:List D),ds=[eZ fs an,.tuple [.str k,.str n,.str v],.str st,.tuple cs]/\iB fs an/\U8 fs (.tuple [.str k,.str n,.str v])=true/\(st="yes"\/st="no")/\iV fs (.tuple cs)=true/\Q (.str (kM fs k n v st cs))
def aHy:oX:=aBn
noncomputable def tR(fs:List (Str×List Str))(k n v st:Str)(a:List (List D×Str))(w:Str)(x:D):Bool:=match x with
|.int i=>match L2.atI a i with | some r=>decide (kM fs k n v st r.1=w) | none=>false
|_=>false
noncomputable def iU(fs:List (Str×List Str))(k n v st:Str)(a:List (List D×Str))(w:Str):List D:=(eI a.length).filter (tR fs k n v st a w)
def aId:SpP:=λds Q=>∃(fs:List (Str×List Str))(an:List Str)(k n v st:Str)(a:List (List D×Str)),ds=[eZ fs an,.tuple [.str k,.str n,.str v],.str st,.list (a.map dA)]/\iB fs an/\U8 fs (.tuple [.str k,.str n,.str v])=true/\(st="yes"\/st="no")/\iQ fs an a/\a.length<=60/\Q (iU fs k n v st a "yes") (iU fs k n v st a "no")
def NG{fs:List (Str×List Str)}{an}(F:iB fs an){j:Nat}{f:Str×List Str}(h:fs[j]?=some f):(fs.map (·.1)).idxOf f.1=j:=by
 have hm:f.1∈fs.map (·.1):=bC.mpr ⟨f,bH h,rfl⟩;have hi:(fs.map (·.1)).idxOf f.1<(fs.map (·.1)).length:=nA.mpr hm;have a:(fs.map (·.1))[(fs.map (·.1)).idxOf f.1]?=some f.1:=by rw[aD hi,qK hi]
 have b:(fs.map (·.1))[j]?=some f.1:=by rw[aL,h];rfl
 exact(W0 hi F.nd.2.2).mp (a.trans b.symm)
def BM{fs an}(F:iB fs an){k n v st cs}{j:Nat}{f:Str×List Str}{c}(a:fs[j]?=some f)(b:cs[j]?=some c)(hn:f.1=n):kM fs k n v st cs=FW f k v st c:=by
 subst hn;unfold kM;rw[NG F a,a,b]
noncomputable def sdD(fs:List (Str×List Str))(k n v st:Str)(x:D):D:=match x with | .tuple [.tuple cs,_]=>.str (kM fs k n v st cs) | _=>.none
def IK{te:ET}{DT:zQ}{σ:List Sl}{i:Nat}{ts us:List D}(a:σ[i]?=some (.own ts))(hz:ts.length+us.length<=100000)(h:∀q:D->Prop,q (.list us)->te σ q)(k:DT.nx (σ.set i (.own (ts++us)))):aBt i te DT σ:=⟨ts,a,h _ ⟨us,rfl,hz,k⟩⟩
def O6{fs k n v st rs w}{j:Nat}{r:List D×Str}(h:rs[j]?=some r):tR fs k n v st rs w (.int (j:Int))=decide (kM fs k n v st r.1=w):=by
 show(match L2.atI rs (j:Int)with | some r=>decide (kM fs k n v st r.1=w) | none=>false)=_;rw[L2.gH h]
noncomputable def CI(k v:Str)(f:Str×List Str):List Str:=if k="is" then[v]else f.2.take (f.2.idxOf v+1)
def aIe:oX:=λds Q=>∃(k n v:Str)(f:Str×List Str),ds=[.tuple [.str k,.str n,.str v],lW f]/\(∀y∈f.2,wN y=true)/\v∈f.2/\f.2.length<=5/\Q (.tuple ((CI k v f).map aS))
def PV{f:Str×List Str}{k v st z:Str}(hz:z∈f.2):(if vQ (CI k v f) (.str z)=true then("yes":Str)else "no")=FW f k v st (.str z):=by
 show(if decide (z∈CI k v f)=true then("yes":Str)else "no")=if k="is" then(if z=v then("yes":Str)else "no")else if f.2.idxOf z<=f.2.idxOf v then("yes":Str)else "no";unfold CI;by_cases hk:k="is"
 ·rw[b8 hk,b8 hk];by_cases e:z=v
  ·rw[b8 e,b8 (c6 (bM.mpr e))]
  ·rw[a8 e,a8 (λq=>e (bM.mp (c8 q)))]
 ·rw[a8 hk,a8 hk];have hi:f.2.idxOf z<f.2.length:=nA.mpr hz;by_cases e:f.2.idxOf z<=f.2.idxOf v
  ·rw[b8 e,b8];refine c6 (bH (i:=f.2.idxOf z) ?_);rw[nD,b8 (by lia),aD hi,qK hi]
  ·rw[a8 e,a8];intro q;obtain⟨i,a⟩:=cT (c8 q);have b:=(aF.mp a).1;rw[bL]at b;rw[nD,b8 (by lia)]at a;have:=VC a;lia
def JF{f:Str×List Str}{k v y}(a:v∈f.2)(h:y∈CI k v f):y∈f.2:=by
 unfold CI at h;split at h
 ·rw[bM.mp h];exact a
 ·exact eE h
noncomputable def vN(k v st:Str)(f:Str×List Str):List D:=(CI k v f).map aS++(if st="yes" then[AO]else[])
def aIf:oX:=λds Q=>∃(k n v st:Str)(f:Str×List Str),ds=[.tuple [.str k,.str n,.str v],.str st,lW f]/\(∀y∈f.2,wN y=true)/\v∈f.2/\f.2.length<=5/\Q (.tuple (vN k v st f))
def aIg:oX:=λds Q=>∃(fs:List (Str×List Str))(an:List Str)(k n v:Str)(f:Str×List Str)(j:Nat),ds=[eZ fs an,.tuple [.str k,.str n,.str v]]/\iB fs an/\fs[j]?=some f/\f.1=n/\Q (.int (j:Int))
def VE{k v}{f:Str×List Str}(h:f.2.length<=5):(CI k v f).length<=5:=by
 unfold CI;split
 ·show 1<=5;decide
 ·rw[bL];lia
def VA{k v st:Str}{f}(a:st="yes"\/st="no"){c}(b:Q2 f c=true):(if PR c (.tuple (vN k v st f))=true then("yes":Str)else "no")=FW f k v st c:=by
 have e:PR c (.tuple (vN k v st f))=(vQ (CI k v f) c||((if st="yes" then[AO]else[]).any λz=>bX z c)):=by
  show((vN k v st f).any λz=>bX z c)=_;unfold vN;rw[aBc,C4]
 cases c with
 |none=>
  rw[e];rcases a with rfl | rfl<;>rfl
 |str z=>
  have hz:z∈f.2:=c8 b
  have d:((if st="yes" then[AO]else[]).any λx=>bX x (.str z))=false:=by
   rcases a with rfl | rfl<;>rfl
  rw[e,d,aGm];exact PV hz
 |_=>cases b
def TY{k v st}{f:Str×List Str}(b:∀y∈f.2,wN y=true)(c:v∈f.2){d}(hd:Cd d):DQ d (.tuple (vN k v st f)):=by
 unfold vN;split
 ·exact B3 (λy a=>b y (JF c a)) hd
 ·rw[cJ];exact M7 (λy a=>b y (JF c a)) hd
noncomputable def onW(w:Str)(x:D):Bool:=match x with | .tuple [_,.str s]=>decide (s=w) | _=>false
noncomputable def Z0(ss:List Str)(w:Str)(x:D):Bool:=match x with | .int i=>(match L2.atI ss i with | some s=>decide (s=w) | none=>false) | _=>false
noncomputable def atS(ss:List Str)(x:D):D:=match x with | .int i=>(match L2.atI ss i with | some s=>.str s | none=>.none) | _=>.none
noncomputable def aFn(x:D):D:=match x with | .tuple [a,_]=>a | _=>x
def E5(ss:List Str):zH (ss.map aS)=(eI ss.length).map λx=>.tuple [x,atS ss x]:=by
 apply mC;intro i
 cases h:ss[i]? with
 |none=>
  have b:=HD.mp h;rw[eW (by rw[rM,aB];exact b),eW (by rw[aB,iW];exact b)]
 |some s=>
  have b:=(aF.mp h).1;rw[yK (a:=.str s) (by rw[aL,h];rfl),aL];unfold eI;rw[aL,kT b];show _=some (fA [.int (i:Int),match L2.atI ss (i:Int)with | some s=>.str s | none=>.none]);rw[L2.gH h]
def JJ(ss:List Str)(w:Str):((zH (ss.map aS)).filter (onW w)).map aFn=(eI ss.length).filter (Z0 ss w):=by
 rw[E5,DH,bN];have a:(aFn∘λx=>fA [x,atS ss x])=id:=by funext x;rfl
 have b:(onW w∘λx=>fA [x,atS ss x])=Z0 ss w:=by
  funext x
  cases x with
  |int i=>
   show onW w (.tuple [.int i,(match L2.atI ss i with | some s=>aS s | none=>.none)])=(match L2.atI ss i with | some s=>decide (s=w) | none=>false);cases L2.atI ss i<;>rfl
  |_=>rfl
 rw[a,b,C9]
def aIc:QK:=λds Q=>∃(w:Str)(ss:List Str),ds=[.str w,.list (ss.map aS)]/\ss.length<=60/\Q ((eI ss.length).filter (Z0 ss w))
def MR{fs k n v st}{a:List (List D×Str)}(w:Str):(eI (a.map λr=>kM fs k n v st r.1).length).filter (Z0 (a.map λr=>kM fs k n v st r.1) w)=iU fs k n v st a w:=by
 unfold iU;rw[aB];apply rR;intro x d;obtain⟨j,c⟩:=cT d;obtain⟨e,rfl⟩:=gX c;have b:a[j]?=some a[j]:=aD e;rw[O6 b];show(match L2.atI (a.map λr=>kM fs k n v st r.1) (j:Int)with | some s=>decide (s=w) | none=>false)=_;rw[L2.gH (v:=kM fs k n v st a[j].1) (by rw[aL,b];rfl)]
noncomputable def WA(b:List Rw)(x:D):D:=match x with | .str a=>.int ((pW b a:Nat):Int) | _=>.none
def KL(b:List Rw)(a:Str):((b.map λr=>aS r.2).countP λt=>bX t (.str a))=pW b a:=by
 rw[aBb];unfold pW;congr 1
def UW:∀{ys:List Str},(∀y∈ys,wN y=true)->eL (ys.map aS)=true/\eV (ys.map aS)<=0:=λh=>by
 obtain⟨_,_,_,_,a,b⟩:=tE (uK h (aN 8) (m:=0));exact⟨b,a⟩
theorem I0:∀ns:List Int,eL (ns.map aW)=true/\eV (ns.map aW)=0
|[]=>⟨rfl,rfl⟩
|n::ns=>by
 have:=I0 ns;refine⟨?_,?_⟩
 ·show(true&&eL (ns.map aW))=true;rw[this.1];rfl
 ·show max 0 (eV (ns.map aW))=0;rw[this.2];rfl
def O7{ns:List Int}{m:Int}{j:Nat}(h:ns[j]?=some m)(d:∀i:Nat,i<j->ns[i]?≠some m):K7 (ns.map aW) (.int m) j:=by
 obtain⟨b,c⟩:=I0 ns;refine⟨b,rfl,by rw[c];lia,⟨.int m,by rw[aL,h];rfl,?_⟩,λi t hi a=>?_⟩
 ·show(m==m)=true;simp
 ·rw[aL]at a
  cases e:ns[i]? with
  |none=>rw[e]at a;cases a
  |some n=>
   rw[e]at a;cases a;show(n==m)=false;have:n≠m:=λz=>d i hi (by rw[e,z]);simpa using this
def aIn:oX:=λds Q=>∃a b:Nat,ds=[.int a,.int b]/\Q (.int ((a.gcd b:Nat):Int))
def X0{an:List Str}(hn:an.Nodup)(g:Str->Int){b}(h:b∈an):(an.map λa=>if b=a then g a else 0).sum=g b:=by
 induction an with
 |nil=>simp at h
 |cons a an j=>
  rw[bR,gI];obtain⟨i,d⟩:=iZ.mp hn;by_cases e:b=a
  ·subst e
   have z:(an.map λa=>if b=a then g a else 0).sum=0:=by
    have:∀l:List Str,b∉l->(l.map λa=>if b=a then g a else 0).sum=0:=λl=>by
     induction l with
     |nil=>intro _;rfl
     |cons c l f=>
      intro hb;rw[bR,gI,f λq=>hb (aJ _ q),a8 λ(q:b=c)=>hb (by rw[q];exact aO ..)];rfl
    exact this an i
   rw[z,b8 rfl];lia
  ·rw[a8 e,j d ((aP.mp h).resolve_left e)];lia
def X1(an:List Str)(f g:Str->Int):(an.map λa=>f a+g a).sum=(an.map f).sum+(an.map g).sum:=by
 induction an with
 |nil=>rfl
 |cons a an b=>rw[bR,bR,bR,gI,gI,gI,b];lia
theorem BI{an:List Str}(hn:an.Nodup)(g:Str->Int):∀ss:List Rw,(∀r∈ss,r.2∈an)->(an.map λa=>(pW ss a:Int)*g a).sum=(ss.map λr=>g r.2).sum
|[],_=>by
 have:∀l:List Str,(l.map λa=>((pW [] a:Nat):Int)*g a).sum=0:=λl=>by
  induction l with
  |nil=>rfl
  |cons c l b=>
   rw[bR,gI,b];show((0:Nat):Int)*g c+0=0;simp
 exact this an
|r::ss,h=>by
 have f:=BI hn g ss λx d=>h x (aJ _ d)
 have e:(λa=>((pW (r::ss) a:Nat):Int)*g a)=λa=>(if r.2=a then g a else 0)+(pW ss a:Int)*g a:=by
  funext a;unfold pW;rw[List.countP_cons];by_cases q:r.2=a
  ·rw[b8 q,b8 (c6 q),lY,QW];show _+1*g a=_;rw[Int.one_mul,Int.add_comm]
  ·rw[a8 q,a8 (by simpa using q),Nat.add_zero,Int.zero_add]
 rw[e,X1,X0 hn g (h r (aO ..)),f,bR,gI]
def O1(b:List Rw)(a:Str):((b.countP λo=>decide (o.2≠a):Nat):Int)=(b.length:Int)-(pW b a:Int):=by
 unfold pW
 have:b.length=(b.countP λo=>decide (o.2=a))+(b.countP λo=>decide (o.2≠a)):=by
  rw[zS (λo:Rw=>decide (o.2=a))];congr 2;funext o;by_cases q:o.2=a<;>simp[q]
 lia
theorem UI:∀l:List Nat,((l.sum:Nat):Int)=(l.map λ(n:Nat)=>(n:Int)).sum
|[]=>rfl
|n::l=>by rw[gI,bR,gI,lY,UI l]
def M2{an:List Str}(hn:an.Nodup){b:List Rw}(h:∀r∈b,r.2∈an):((jJ an b).map λc=>c*((b.length:Int)-c)).sum=((yX b b:Nat):Int):=by
 have d:=BI hn (λa=>(b.length:Int)-(pW b a:Int)) b h;unfold jJ yX;rw[bN,UI,bN];refine d.trans ?_;congr 1;apply fK;intro r _;exact(O1 b r.2).symm
noncomputable def aB0(n:Int)(x:D):D:=match x with | .int c=>.int (c*(n-c)) | _=>.none
noncomputable def aOh(x:D):D:=match x with | .tuple [_,b]=>b | _=>x
noncomputable def U6:Tr->Bool
|.say _=>true
|.ask _ _ _ _ _ _=>false
def aH6:oX:=λds Q=>∃t:Tr,ds=[mK t]/\Q (.bool (U6 t))
noncomputable def KP(fs:List (Str×List Str)):Tr->List D->List Str
|.say _,_=>[]
|.ask k n v s y m,cs=>kM fs k n v s cs::(if kM fs k n v s cs="yes" then KP fs y cs else KP fs m cs)
section
variable{fs:List (Str×List Str)}{an:List Str}
def YI(F:iB fs an){k n v st:Str}{cs}(m:U8 fs (.tuple [.str k,.str n,.str v])=true)(h:st="yes"\/st="no")(i:iV fs (.tuple cs)=true):kM fs k n v st cs="yes"\/kM fs k n v st cs="no":=by
 obtain⟨f,l,o,q,hk⟩:=A3 m;obtain⟨j,d⟩:=cT l;obtain⟨p,g⟩:=nO i;have r:=(aF.mp d).1;have e:cs[j]?=some cs[j]:=aD (by lia)
 generalize cs[j]=c at e
 rw[BM F d e o];have hok:=g j f c d e
 cases c with
 |none=>exact h
 |str z=>
  show(if k="is" then(if z=v then("yes":Str)else "no")else if f.2.idxOf z<=f.2.idxOf v then("yes":Str)else "no")="yes"\/_;by_cases b:k="is"
  ·by_cases a:z=v
   ·exact .inl (by rw[b8 b,b8 a])
   ·exact .inr (by show(if k="is" then(if z=v then("yes":Str)else "no")else if f.2.idxOf z<=f.2.idxOf v then("yes":Str)else "no")="no";rw[b8 b,a8 a])
  ·by_cases a:f.2.idxOf z<=f.2.idxOf v
   ·exact .inl (by rw[a8 b,b8 a])
   ·exact .inr (by show(if k="is" then(if z=v then("yes":Str)else "no")else if f.2.idxOf z<=f.2.idxOf v then("yes":Str)else "no")="no";rw[a8 b,a8 a])
 |_=>cases hok
end
noncomputable def there(fs:List (Str×List Str))(t:Tr)(a:List (List D×Str))(pl:List Str)(x:D):Bool:=match x with
|.int i=>(match L2.atI a i with | some r=>decide ((KP fs t r.1).take pl.length=pl) | none=>false)
|_=>false
def aIq:oX:=λds Q=>∃f:Str×List Str,ds=[lW f]/\f.2.length<=5/\Q (.tuple (f.2.map aS++[.none]))
def BK:oX:=λds Q=>∃ns:List Int,ds=[.list (ns.map aW)]/\ns.length<=63/\Q (.bool true)
noncomputable def F7(fs:List (Str×List Str))(k n v st:Str)(r:List D×Str):Bool:=decide (kM fs k n v st r.1="yes")
def iQ.filt{fs an}{a:List (List D×Str)}(h:iQ fs an a)(p:List D×Str->Bool):iQ fs an (a.filter p):=λr b=>h r (cC.mp b).1
def aHu:oX:=λds Q=>∃(fs:List (Str×List Str))(an:List Str)(k n v st:Str)(a:List (List D×Str)),ds=[eZ fs an,.tuple [.str k,.str n,.str v],.str st,.list (a.map dA)]/\iB fs an/\U8 fs (.tuple [.str k,.str n,.str v])=true/\(st="yes"\/st="no")/\iQ fs an a/\a.length<=60/\Q (.tuple [.list ((a.filter (F7 fs k n v st)).map dA),.list ((a.filter λr=>!F7 fs k n v st r).map dA)])
noncomputable def BQ(a:List (List D×Str))(x:D):D:=match x with | .int i=>(match L2.atI a i with | some r=>dA r | none=>.none) | _=>.none
def N3{a:List (List D×Str)}{r}{i:Nat}(h:i<a.length):L2.atI (a++[r]) (i:Int)=L2.atI a (i:Int):=by
 rw[L2.gH (aD h),L2.gH (xs:=a++[r]) (v:=a[i]) (by rw[eK h];exact aD h)]
theorem ZV(fs:List (Str×List Str))(k n v st w:Str):∀(m:Nat)(a:List (List D×Str)),a.length=m->(iU fs k n v st a w).map (BQ a)=(a.filter λr=>decide (kM fs k n v st r.1=w)).map dA
|0,a,h=>by rw[sU.mp h];rfl
|m+1,a,h=>by
 obtain⟨xs,r,rfl⟩:∃xs r,a=xs++[r]:=⟨a.dropLast,a.getLast (λe=>by rw[e]at h;cases h),(List.dropLast_concat_getLast _).symm⟩;have p:xs.length=m:=by rw[bO]at h;simpa using h
 have f:=ZV fs k n v st w m xs p;unfold iU at f |-
 have i:eI (xs++[r]).length=eI xs.length++[.int (xs.length:Int)]:=by
  unfold eI;rw[bO,oM,DD,bQ];rfl
 have g:L2.atI (xs++[r]) (xs.length:Int)=some r:=L2.gH (by rw[eX (aN _),aMs];rfl)
 have l:(eI xs.length).filter (tR fs k n v st (xs++[r]) w)=(eI xs.length).filter (tR fs k n v st xs w):=rR λx c=>by
  obtain⟨j,b,rfl⟩:=bC.mp c;show(match L2.atI (xs++[r]) (j:Int)with | some r=>decide (kM fs k n v st r.1=w) | none=>false)=match L2.atI xs (j:Int)with | some r=>decide (kM fs k n v st r.1=w) | none=>false
  rw[N3 (by simpa using b)]
 have o:((eI xs.length).filter (tR fs k n v st xs w)).map (BQ (xs++[r]))=((eI xs.length).filter (tR fs k n v st xs w)).map (BQ xs):=fK λx c=>by
  obtain⟨j,b,rfl⟩:=bC.mp (cC.mp c).1;show(match L2.atI (xs++[r]) (j:Int)with | some r=>dA r | none=>.none)=match L2.atI xs (j:Int)with | some r=>dA r | none=>.none
  rw[N3 (by simpa using b)]
 have d:tR fs k n v st (xs++[r]) w (.int (xs.length:Int))=decide (kM fs k n v st r.1=w):=by
  show(match L2.atI (xs++[r]) (xs.length:Int)with | some r=>decide (kM fs k n v st r.1=w) | none=>false)=_;rw[g]
 have q:BQ (xs++[r]) (.int (xs.length:Int))=dA r:=by
  show(match L2.atI (xs++[r]) (xs.length:Int)with | some r=>dA r | none=>.none)=_;rw[g]
 rw[i,fB,bQ,l,o,f,fB,bQ];congr 1;by_cases hs:kM fs k n v st r.1=w
 ·rw[dM,b8 (by rw[d];exact c6 hs),dM,b8 (c6 hs)];show[BQ (xs++[r]) (.int (xs.length:Int))]=[dA r];rw[q]
 ·rw[dM,a8 (by rw[d,c9 hs];decide),dM,a8 (by rw[c9 hs];decide)]
  rfl
def aH9:oX:=λds Q=>∃(fs:List (Str×List Str))(k n v st w:Str)(a:List (List D×Str)),ds=[.list (a.map dA),.list (iU fs k n v st a w)]/\a.length<=60/\Q (.list ((a.filter λr=>decide (kM fs k n v st r.1=w)).map dA))
def F9{fs an}(F:iB fs an){k n v st:Str}(d:U8 fs (.tuple [.str k,.str n,.str v])=true)(c:st="yes"\/st="no"){a:List (List D×Str)}(b:iQ fs an a):(a.filter λr=>decide (kM fs k n v st r.1="no"))=a.filter λr=>!F7 fs k n v st r:=rR λr f=>by
 unfold F7;rcases YI F d c (b r f).1 with e | e
 ·rw[e];decide +kernel
 ·rw[e];decide +kernel
def aHw:oX:=aBp
def VS{an:List Str}(h:0<an.length)(c:List (List D×Str)):∃a,C6 an c a:=by
 have i:∀(l:List Str),0<l.length->∃k a,l[k]?=some a/\(∀(j:Nat) b,l[j]?=some b->pW c b<=pW c a)/\∀(j:Nat) b,j<k->l[j]?=some b->pW c b<pW c a:=λl=>by
  induction l with
  |nil=>intro h;exact c7 h (by decide)
  |cons x l n=>
   intro _
   cases l with
   |nil=>exact⟨0,x,rfl,λj b hb=>by
     cases j with
     |zero=>cases hb;exact aN _
     |succ j=>simp at hb,λj b e _=>c7 e (pV _)⟩
   |cons y l=>
    obtain⟨k,a,f,d,g⟩:=n (by simp);by_cases m:pW c a<=pW c x
    ·refine⟨0,x,rfl,λj b hb=>?_,λj b e _=>c7 e (pV _)⟩
     cases j with
     |zero=>cases hb;exact aN _
     |succ j=>exact aX (d j b (by simpa using hb)) m
    ·refine⟨k+1,a,by simpa using f,λj b hb=>?_,λj b e hb=>?_⟩
     ·cases j with
      |zero=>cases hb;lia
      |succ j=>exact d j b (by simpa using hb)
     ·cases j with
      |zero=>cases hb;lia
      |succ j=>exact g j b (by lia) (by simpa using hb)
 obtain⟨k,a,f,d,g⟩:=i an h;exact⟨a,k,f,d,g⟩
abbrev Fs:=List (Str×List Str)
abbrev Qn:=Str×Str×Str
abbrev Ch:=Qn×Str
noncomputable def qD(q:Qn):D:=.tuple [.str q.1,.str q.2.1,.str q.2.2]
noncomputable def tq(d:D):Qn:=match d with | .tuple [.str k,.str n,.str v]=>(k,n,v) | _=>("","","")
noncomputable def qs(fs:Fs):List Qn:=(eY fs).map tq
def AV(fs:Fs):(qs fs).map qD=eY fs:=by
 unfold qs;rw[bN]
 have:∀d∈eY fs,(qD∘tq) d=id d:=λd hd=>by
  obtain⟨f,a,⟨z,hz,rfl⟩ | ⟨z,hz,hi,rfl⟩⟩:=CW hd<;>rfl
 rw[fK this,C9]
def BU{fs}{q:Qn}(h:q∈qs fs):U8 fs (.tuple [.str q.1,.str q.2.1,.str q.2.2])=true:=by
 have:qD q∈(qs fs).map qD:=bC.mpr ⟨q,h,rfl⟩;rw[AV]at this;exact LY this
noncomputable def qL(q:Qn):List Ch:=[(q,"yes"),(q,"no")]
noncomputable def DB(fs:Fs):List Ch:=(qs fs).flatMap qL
def GP{fs}{c:Ch}(h:c∈DB fs):c.1∈qs fs/\(c.2="yes"\/c.2="no"):=by
 obtain⟨q,b,a⟩:=List.mem_flatMap.mp h;simp only[qL,aP,cO,l9]at a;rcases a with rfl | rfl
 ·exact⟨b,.inl rfl⟩
 ·exact⟨b,.inr rfl⟩
def GQ(fs:Fs):(DB fs).length=2*(eY fs).length:=by
 unfold DB qs
 generalize (eY fs)=l
 induction l with
 |nil=>rfl
 |cons x l a=>
  rw[bR,W1,bO,a];show 2+_=2*(l.length+1);lia
noncomputable def onC(fs:Fs)(c:Ch)(r:Rw):Bool:=F7 fs c.1.1 c.1.2.1 c.1.2.2 c.2 r
noncomputable abbrev yR(fs:Fs)(c:Ch)(R:List Rw):List Rw:=R.filter (onC fs c)
noncomputable abbrev nR(fs:Fs)(c:Ch)(R:List Rw):List Rw:=R.filter λr=>!onC fs c r
noncomputable def chQ(c:Ch):D:=.tuple [qD c.1,.str c.2]
def aIh:oX:=λds Q=>∃(fs:Fs)(an:List Str),ds=[eZ fs an]/\iB fs an/\Q (.list ((DB fs).map chQ))
def aDr{i:Int}(a:-999999999999<=i)(b:i<=999999999999){m:Nat}:Th 0 m (.int i):=by
 have hz:i.natAbs<10^12:=by lia
 refine⟨aN _,?_,?_,rfl,cU _,rfl⟩
 ·have:=PyData.shown_int_le hz;show decide ((PyData.shown (.int i)).length<=110)=true;exact c6 (by lia)
 ·show decide (i.natAbs.log2<1920)=true;refine c6 ?_;by_cases e:i.natAbs=0
  ·rw[e];decide
  ·refine(aNi e).mpr (bP hz ?_);exact aX (show 10^12<=2^40 by decide) (fT (aC rfl) (aC rfl))
def RY{n:Nat}(h:n<=999999999999){m:Nat}:Th 0 m (.int (n:Nat)):=aDr (by lia) (by lia)
noncomputable def low(a b:Nat):Nat×Nat:=(a / a.gcd b,b / a.gcd b)
noncomputable def DR(x:Nat×Nat):D:=.tuple [.int (x.1:Nat),.int (x.2:Nat)]
noncomputable def wP(R:List Rw):Nat×Nat:=low (yX R R) (max 1 R.length)
noncomputable def X2(x y:Nat×Nat):Nat×Nat:=low (x.1*y.2+y.1*x.2) (x.2*y.2)
noncomputable def dC(fs:Fs)(R:List Rw)(c:Ch):Nat×Nat:=X2 (wP (yR fs c R)) (wP (nR fs c R))
noncomputable def okC(fs:Fs)(R:List Rw)(m:Int)(c:Ch):Bool:=decide (m<=((yR fs c R).length:Int))&&decide (m<=((nR fs c R).length:Int))
noncomputable def iA(fs:Fs)(R:List Rw)(m:Int):List Ch:=(DB fs).filter (okC fs R m)
noncomputable def LW(fs:Fs)(R:List Rw)(c:Ch):D:=.tuple [qD c.1,.str c.2,DR (dC fs R c)]
noncomputable def wK(l:List (Nat×Nat)):Nat:=l.foldl (λc x=>c.lcm x.2) 1
noncomputable def PM(B:Nat)(x:Nat×Nat):Int:=(x.1:Int)*((B:Int) / (x.2:Int))
noncomputable def Q3(fs:Fs)(R:List Rw)(m:Int):List (Nat×Nat):=(iA fs R m).map (dC fs R)
noncomputable def CD(fs:Fs)(R:List Rw)(m:Int):List Int:=(Q3 fs R m).map (PM (wK (Q3 fs R m)))
noncomputable def CS(fs:Fs)(R:List Rw)(m:Int):List D:=(iA fs R m).map (LW fs R)
def Rkd(fs:Fs)(R:List Rw)(m:Int)(J:List Nat):Prop:=SS.HG (iA fs R m).length (λi=>(CD fs R m).getD i 0) J
noncomputable def aEt(fs:Fs)(R:List Rw)(m:Int)(J:List Nat):List D:=J.map λi=>(CS fs R m).getD i .none
def A2{a b:Nat}(h:0<b):0<(low a b).2:=Nat.div_pos (aGt h (AQ a b)) (sQ a h)
def UQ(a b:Nat):(low a b).1<=a/\(low a b).2<=b:=⟨aDa _ _,aDa _ _⟩
structure Sml(x:Nat×Nat)(a b:Nat):Prop where
 top:x.1<=a
 pos:0<x.2
 bot:x.2<=b
def xP{R:List Rw}(h:R.length<=60):Sml (wP R) 3600 60:=by
 have a:=UQ (yX R R) (max 1 R.length);have b:=F3 R R;have c:R.length*R.length<=60*60:=iD h h;exact⟨by show(low _ _).1<=_;lia,A2 (by lia),by show(low _ _).2<=_;lia⟩
def MM{x y:Nat×Nat}(a:Sml x 3600 60)(b:Sml y 3600 60):x.1*y.2+y.1*x.2<=432000/\x.2*y.2<=3600/\0<x.2*y.2:=by
 have c:x.1*y.2<=3600*60:=iD a.top b.bot;have d:y.1*x.2<=3600*60:=iD b.top a.bot;have e:x.2*y.2<=60*60:=iD a.bot b.bot;exact⟨by lia,by lia,rV a.pos b.pos⟩
def R8{x y}(e:Sml x 3600 60)(f:Sml y 3600 60):Sml (X2 x y) 432000 3600:=by
 obtain⟨b,c,d⟩:=MM e f;have a:=UQ (x.1*y.2+y.1*x.2) (x.2*y.2);exact⟨aX a.1 b,A2 d,aX a.2 c⟩
def yL{fs}{R:List Rw}(h:R.length<=60)(c:Ch):Sml (dC fs R c) 432000 3600:=
 R8 (xP (aX (bK _ _) h)) (xP (aX (bK _ _) h))
theorem JT:∀(l:List (Nat×Nat))(c:Nat),c ∣ l.foldl (λc x=>c.lcm x.2) c/\∀x∈l,x.2 ∣ l.foldl (λc x=>c.lcm x.2) c
|[],c=>⟨Nat.dvd_refl _,λx hx=>by cases hx⟩
|y::l,c=>by
 obtain⟨a,b⟩:=JT l (c.lcm y.2);refine⟨aGu (Nat.dvd_lcm_left _ _) a,λx hx=>?_⟩;rcases aP.mp hx with rfl | hx
 ·exact aGu (Nat.dvd_lcm_right _ _) a
 ·exact b x hx
theorem JS:∀(l:List (Nat×Nat))(c:Nat),0<c->(∀x∈l,0<x.2)->0<l.foldl (λc x=>c.lcm x.2) c
|[],c,h,_=>h
|y::l,c,h,g=>JS l _ (Nat.lcm_pos h (g y (aO ..))) λx a=>g x (aJ _ a)
def JD{B:Nat}{x:Nat×Nat}:PM B x=((x.1*(B / x.2):Nat):Int):=by
 unfold PM;rw[eO,tD]
def ZT{B:Nat}{x y:Nat×Nat}(k:0<B)(l:x.2 ∣ B)(m:y.2 ∣ B)(e:0<x.2)(f:0<y.2):PM B x<PM B y↔x.1*y.2<y.1*x.2:=by
 rw[JD,JD,aMy];obtain⟨a,ha⟩:=l;obtain⟨b,hb⟩:=m;have g:B / x.2=a:=by rw[ha];exact J9 a e
 have i:B / y.2=b:=by rw[hb];exact J9 b f
 rw[g,i];have c:x.1*a*(x.2*y.2)=B*(x.1*y.2):=by rw[ha];simp only[jL,jK,gF]
 have d:y.1*b*(x.2*y.2)=B*(y.1*x.2):=by rw[hb];simp only[jL,jK,gF]
 have j:0<x.2*y.2:=rV e f;constructor
 ·intro h;have:=pX h j;rw[c,d]at this;exact Nat.lt_of_mul_lt_mul_left this
 ·intro h;have:=Nat.mul_lt_mul_of_pos_left h k;rw[<- c,<- d]at this;exact qX this
def WD{fs an}(F:iB fs an)(R:List Rw)(m:Int):(iA fs R m).length<=100:=by
 have c:=mX F fs λg b=>b;have a:=bK (okC fs R m) (DB fs);rw[GQ]at a;have n5:=F.n5;show((DB fs).filter _).length<=_;lia
def U4(fs:Fs)(R:List Rw)(m:Int):(CD fs R m).length=(iA fs R m).length:=by unfold CD Q3;rw[aB,aB]
def tZ(fs:Fs)(R:List Rw)(m:Int):(CS fs R m).length=(iA fs R m).length:=by unfold CS;rw[aB]
def GC{fs R}{m:Int}{i:Nat}(h:i<(iA fs R m).length):(CD fs R m).getD i 0=PM (wK (Q3 fs R m)) (dC fs R (iA fs R m)[i]):=by
 unfold CD;rw[cL,aL];unfold Q3;rw[aL,aD h];rfl
def NV{fs R}{m:Int}{i:Nat}(h:i<(iA fs R m).length):(CS fs R m).getD i .none=LW fs R (iA fs R m)[i]:=by
 unfold CS;rw[cL,aL,aD h];rfl
def aE9{fs}{R:List Rw}{m:Int}(a:R.length<=60){i j:Nat}(hi:i<(iA fs R m).length)(b:j<(iA fs R m).length) :
  (CD fs R m).getD i 0<(CD fs R m).getD j 0↔(dC fs R (iA fs R m)[i]).1*(dC fs R (iA fs R m)[j]).2<(dC fs R (iA fs R m)[j]).1*(dC fs R (iA fs R m)[i]).2:=by
 rw[GC hi,GC b]
 have d:∀x∈Q3 fs R m,0<x.2:=λx e=>by
  obtain⟨c,_,rfl⟩:=bC.mp e;exact(yL a c).pos
 have hd:=(JT (Q3 fs R m) 1).2;exact ZT (JS _ _ (by decide) d) (hd _ (QS (fF hi))) (hd _ (QS (fF b))) (yL a _).pos (yL a _).pos
theorem EU:∀(n:Nat)(J:List Nat),J.Nodup->(∀i∈J,i<n)->J.length<=n
|0,J,_,h=>by
 cases J with
 |nil=>exact aN _
 |cons j J=>exact c7 (h j (aO ..)) (pV _)
|n+1,J,nd,h=>by
 have d:=EU n (J.filter (· != n)) (nd.filter _) λi hi=>by
  obtain⟨a,b⟩:=cC.mp hi;have:=h i a;have c:i≠n:=by simpa using b
  lia
 have e:J.length=(J.filter (· != n)).length+J.count n:=by
  rw[List.count,<- DI,zS (p:=λx=>x != n)];congr 1;apply List.countP_congr;intro x _;simp
 have f:=List.nodup_iff_count.mp nd n;lia
def OQ{n:Nat}{k:Nat->Int}{J:List Nat}(h:SS.HG n k J):J.Nodup:=h.ord.imp λ{a b} q z=>by
 subst z;lia
def X9{n:Nat}{k:Nat->Int}{J}(h:SS.HG n k J){i:Nat}(hi:i<n):i∈J:=by
 by_cases e:i∈J
 ·exact e
 ·have:=EU n (i::J) (iZ.mpr ⟨e,OQ h⟩) λx hx=>by
   rcases aP.mp hx with rfl | hx
   ·exact hi
   ·exact h.lt x hx
  rw[dY,h.len]at this;lia
def aIb:oX:=λds Q=>∃(as bs:List D)(m:Int),ds=[.tuple [.list as,.list bs],.int m]/\Q (.bool (decide (m<=(as.length:Int))&&decide (m<=(bs.length:Int))))
def aIm:oX:=λds Q=>∃x y:Nat×Nat,ds=[DR x,DR y]/\Sml x 3600 60/\Sml y 3600 60/\Q (DR (X2 x y))
def aIk:oX:=λds Q=>∃l:List (Nat×Nat),ds=[.list (l.map DR)]/\(∀x∈l,0<x.2/\x.2<=1000000)/\Q (.int (wK l:Nat))
def aIa:QK:=λds Q=>∃(fs:Fs)(an:List Str)(a:List Rw)(m:Int),ds=[eZ fs an,.list (a.map dA),.int m]/\iB fs an/\iQ fs an a/\a.length<=60/\∀J,Rkd fs a m J->Q (aEt fs a m J)
def OV:∀(l:List Sl)(a b c x y z:Sl),((((((l.set 0 a).set 1 b).set 2 c).set 0 x).set 1 y).set 2 z)=((l.set 0 x).set 1 y).set 2 z
|[],_,_,_,_,_,_=>rfl
|[_],_,_,_,_,_,_=>rfl
|[_,_],_,_,_,_,_,_=>rfl
|_::_::_::_,_,_,_,_,_,_=>rfl
def ZO{fr ti}{te:ET}{σ}{Q:D->Prop}{ts:List D}(l:sM ti σ ts)(f:D->D)(hz:ts.length<=100000)(g:∀x∈ts,∃a b c,x=.tuple [a,b,c])(j:∀(a b c:D)(q:D->Prop),.tuple [a,b,c]∈ts->q (f (.tuple [a,b,c]))->te ((((jQ fr σ).set 0 (.val a)).set 1 (.val b)).set 2 (.val c)) q)(i:Q (.list (ts.map f))):P2 fr ti (gP3 0 1 2) zL te σ Q:=by
 refine l _ ⟨hz,λk d8 ds=>(∀x y z,((d8.set 0 (.val x)).set 1 (.val y)).set 2 (.val z)=(((jQ fr σ).set 0 (.val x)).set 1 (.val y)).set 2 (.val z))/\ds=(ts.take k).map f,⟨λ_ _ _=>rfl,rfl⟩,λk x d8 ds d h=>?_,λd8 ds h=>?_⟩
 ·obtain⟨e,rfl⟩:=h;have hm:x∈ts:=bH d;obtain⟨a,b,c,rfl⟩:=g x hm;refine⟨a,b,c,rfl,?_⟩;show te (((d8.set 0 (.val a)).set 1 (.val b)).set 2 (.val c)) _;rw[e a b c];refine j a b c _ hm ⟨λx y z=>OV _ _ _ _ _ _ _,?_⟩;rw[cM,d,bQ];rfl
 ·obtain⟨_,rfl⟩:=h;rw[dF];exact i
noncomputable def nW(x y:Nat×Nat):Bool:=decide (x.1*y.2<y.1*x.2)
noncomputable def nK(fs:Fs)(R:List Rw)(b x:Ch):Ch:=if nW (dC fs R x) (dC fs R b)=true then x else b
noncomputable def W5(fs:Fs)(R:List Rw):List Ch->Option Ch
|[]=>none
|c::l=>some (l.foldl (nK fs R) c)
noncomputable def mN(fs:Fs)(R:List Rw)(m:Int):Option Ch:=(W5 fs R (iA fs R m)).filter λc=>nW (dC fs R c) (wP R)
noncomputable def aKi(fs:Fs)(R:List Rw):Option Ch->D
|some c=>LW fs R c
|none=>.none
def IsF(k:Nat->Int)(n p:Nat):Prop:=p<n/\(∀q,q<n->k p<=k q)/\∀q,q<p->k p<k q
def U9{k:Nat->Int}{n p q:Nat}(c:IsF k n p)(d:IsF k n q):p=q:=by
 rcases oB p q with z | z | z
 ·have a:=d.2.2 p z;have b:=c.2.1 q d.1;lia
 ·exact z
 ·have a:=c.2.2 q z;have b:=d.2.1 p c.1;lia
def R9{n:Nat}{k:Nat->Int}{i:Nat}{J}(h:SS.HG n k (i::J)):IsF k n i:=by
 obtain⟨b,a2⟩:=List.pairwise_cons.mp h.ord
 have lo:∀q,q<n->q≠i->k i<k q\/(k i=k q/\i<q):=λq a c=>by
  rcases aP.mp (X9 h a)with z | z
  ·exact c7 z c
  ·exact b q z
 refine⟨h.lt i (aO ..),λq a=>?_,λq a=>?_⟩
 ·by_cases e:q=i
  ·rw[e];exact pI _
  ·have:=lo q a e;lia
 ·have hi:=h.lt i (aO ..);have:=lo q (by lia) (by lia);lia
theorem WH{fs}{R:List Rw}(g:R.length<=60)(m:Int):∀(n:Nat)(hn:n<(iA fs R m).length),∃p,∃f:p<(iA fs R m).length,IsF (λi=>(CD fs R m).getD i 0) (n+1) p/\(((iA fs R m).drop 1).take n).foldl (nK fs R) ((iA fs R m)[0]'(by lia))=(iA fs R m)[p]
|0,hn=>⟨0,by lia,⟨by lia,λq b=>by rw[show q=0 by lia];exact pI _,λq b=>by lia⟩,by rw[FL];rfl⟩
|n+1,hn=>by
 obtain⟨p,f,⟨o,d,j⟩,k⟩:=WH g m n (Nat.lt_of_succ_lt hn)
 have h:((iA fs R m).drop 1).take (n+1)=((iA fs R m).drop 1).take n++[(iA fs R m)[n+1]]:=by
  rw[cM,nE,aMw 1 n,aD hn];rfl
 have kl:=aE9 (fs:=fs) (m:=m) g hn f
 have a:(((iA fs R m).drop 1).take (n+1)).foldl (nK fs R) ((iA fs R m)[0]'(by lia))=nK fs R (iA fs R m)[p] (iA fs R m)[n+1]:=by
  rw[h,zU,k];rfl
 unfold nK nW at a;by_cases c:(dC fs R (iA fs R m)[n+1]).1*(dC fs R (iA fs R m)[p]).2<(dC fs R (iA fs R m)[p]).1*(dC fs R (iA fs R m)[n+1]).2
 ·rw[b8 (c6 c)]at a;have l:=kl.mpr c;refine⟨n+1,hn,⟨by lia,λq b=>?_,λq b=>?_⟩,a⟩
  ·by_cases e:q=n+1
   ·rw[e];exact pI _
   ·have:=d q (by lia);dsimp only at this |-
    lia
  ·have:=d q (by lia);dsimp only at this |-
   lia
 ·rw[a8 (by rw[c9 c];decide)]at a;have l:¬(CD fs R m).getD (n+1) 0<(CD fs R m).getD p 0:=λz=>c (kl.mp z);refine⟨p,f,⟨by lia,λq b=>?_,j⟩,a⟩;by_cases e:q=n+1
  ·rw[e];dsimp only;lia
  ·exact d q (by lia)
def WI{fs}{R:List Rw}(n:R.length<=60){m:Int}{i:Nat}{J}(h:Rkd fs R m (i::J)):W5 fs R (iA fs R m)=some ((iA fs R m)[i]'(h.lt i (aO ..))):=by
 have hi:=h.lt i (aO ..);have c:0<(iA fs R m).length:=by lia
 obtain⟨p,o,f,d⟩:=WH n m ((iA fs R m).length-1) (Nat.sub_lt c Nat.one_pos);rw[Nat.sub_add_cancel c]at f;have e:=U9 f (R9 h);subst e;have g:((iA fs R m).drop 1).take ((iA fs R m).length-1)=(iA fs R m).drop 1:=lM (by rw[eM];exact aN _);rw[g]at d
 obtain⟨a,l,b⟩:∃a l,iA fs R m=a::l:=by
  cases b:iA fs R m with
  |nil=>rw[b]at c;cases c
  |cons a l=>exact⟨a,l,rfl⟩
 have j:(iA fs R m)[0]=a:=by simp[b]
 have k:(iA fs R m).drop 1=l:=by rw[b];rfl
 rw[j,k]at d;have hb:W5 fs R (iA fs R m)=some (l.foldl (nK fs R) a):=by rw[b];rfl
 rw[hb,d]
def aAv{fs R}{m:Int}(h:Rkd fs R m []):W5 fs R (iA fs R m)=none:=by
 have:(iA fs R m).length=0:=by have:=h.len;simpa using this.symm
 rw[sU.mp this];rfl
def yO{fs R}{m:Int}{c}(h:mN fs R m=some c):c∈iA fs R m:=by
 unfold mN at h;have f:=Option.filter_eq_some_iff.mp h;have b:=f.1
 cases d:iA fs R m with
 |nil=>rw[d]at b;cases b
 |cons a l=>
  rw[d]at b;have e:l.foldl (nK fs R) a=c:=d7 b
  have:∀(l:List Ch)(a:Ch),l.foldl (nK fs R) a∈a::l:=by
   intro l
   induction l with
   |nil=>intro a;exact aO ..
   |cons x l g=>
    intro a;rw[kC];rcases aP.mp (g (nK fs R a x))with z | z
    ·rw[z];unfold nK;split
     ·exact aJ _ (aO ..)
     ·exact aO ..
    ·exact aJ _ (aJ _ z)
  rw[<- e];exact this l a
def aIl:oX:=λds Q=>∃x y:Nat×Nat,ds=[DR x,DR y]/\x.1<=1000000/\y.1<=1000000/\Q (.bool (nW x y))
def aH8:oX:=λds Q=>∃(fs:Fs)(an:List Str)(a:List Rw)(m:Int),ds=[eZ fs an,.list (a.map dA),.int m]/\iB fs an/\iQ fs an a/\a.length<=60/\Q (aKi fs a (mN fs a m))
def Gr(fs:Fs)(an:List Str)(m:Int):Nat->List Rw->Tr->Prop
|0,R,t=>∃a,C6 an R a/\t=.say a
|d+1,R,t=>match mN fs R m with
 |none=>∃a,C6 an R a/\t=.say a
 |some c=>∃y n,Gr fs an m d (yR fs c R) y/\Gr fs an m d (nR fs c R) n/\t=.ask c.1.1 c.1.2.1 c.1.2.2 c.2 y n
def JM{R S:List Rw}(h:R.Perm S)(z:Str):pW R z=pW S z:=h.countP_eq _
def TD{R S:List Rw}(h:R.Perm S):yX R R=yX S S:=by
 unfold yX;have e:(λr:Rw=>R.countP λo=>decide (o.2≠r.2))=λr:Rw=>S.countP λo=>decide (o.2≠r.2):=funext λr=>h.countP_eq _;rw[e];exact(h.map _).sum_nat
def CV{R S:List Rw}(h:R.Perm S):wP R=wP S:=by unfold wP;rw[TD h,h.length_eq]
def QG{fs}{R S:List Rw}(h:R.Perm S)(m:Int):mN fs R m=mN fs S m:=by
 have a:dC fs R=dC fs S:=funext λc=>by unfold dC;rw[CV (h.filter _),CV (h.filter (λr=>!onC fs c r))]
 have d:okC fs R m=okC fs S m:=funext λc=>by unfold okC;rw[(h.filter (onC fs c)).length_eq,(h.filter (λr=>!onC fs c r)).length_eq]
 have e:nK fs R=nK fs S:=funext λb=>funext λx=>by unfold nK;rw[a]
 have f:∀l,W5 fs R l=W5 fs S l:=λl=>by cases l<;>simp only[W5,e]
 unfold mN iA;rw[d,f,a,CV h]
def CL{an}{R S:List Rw}(h:R.Perm S){a b}(e:C6 an R a)(f:C6 an S b):a=b:=by
 obtain⟨k,d,l,g⟩:=e;obtain⟨j,c,m,i⟩:=f;have ca:=JM h a;have n:=JM h b;rcases oB k j with q | rfl | q
 ·have x:=i k a q d;have y:=l j b c;lia
 ·rw[d]at c;cases c;rfl
 ·have x:=g j b q c;have y:=m k a d;lia
theorem A6{fs an}{m:Int}:∀(d:Nat){R S:List Rw}{t u},R.Perm S->Gr fs an m d R t->Gr fs an m d S u->t=u
|0,R,S,t,u,h,⟨a,f,i⟩,⟨b,g,j⟩=>by rw[i,j,CL h f g]
|d+1,R,S,t,u,h,f,g=>by
 unfold Gr at f g;rw[QG h]at f
 cases e:mN fs S m with
 |none=>
  rw[e]at f g;obtain⟨a,f,i⟩:=f;obtain⟨b,g,j⟩:=g;rw[i,j,CL h f g]
 |some c=>
  rw[e]at f g;obtain⟨p,n1,k,l,rfl⟩:=f;obtain⟨q,o,a2,n,rfl⟩:=g;rw[A6 d (h.filter _) k a2,A6 d (h.filter _) l n]
theorem NR{fs an}{m:Int}:∀(d:Nat){R}{t:Tr},Gr fs an m d R t->AF fs an t/\t.dep<=d
|0,R,t,h=>by
 obtain⟨a,⟨k,e,_⟩,rfl⟩:=h;exact⟨bH e,aN _⟩
|d+1,R,t,h=>by
 unfold Gr at h
 cases e:mN fs R m with
 |none=>
  rw[e]at h;obtain⟨a,⟨k,e,_⟩,rfl⟩:=h;exact⟨bH e,cU _⟩
 |some c=>
  rw[e]at h;obtain⟨y,n,g,i,rfl⟩:=h;obtain⟨b,a2⟩:=NR d g;obtain⟨f,l⟩:=NR d i;obtain⟨j,hs⟩:=GP (cC.mp (yO e)).1;exact⟨⟨BU j,hs,b,f⟩,by show max y.dep n.dep+1<=d+1;lia⟩
def tJ(dd:Nat):oX:=λds Q=>∃(fs:Fs)(an:List Str)(a:List Rw)(d:Nat)(m:Int),ds=[eZ fs an,.list (a.map dA),.int d,.int m]/\iB fs an/\iQ fs an a/\a.length<=60/\d<dd/\∀t,Gr fs an m d a t->Q (mK t)
def aH7:oX:=tJ 7
def UG{ds}{Q:D->Prop}(h:tJ 0 ds Q):False:=by
 obtain⟨fs,an,f,d,m,e,F,a,b,c,h⟩:=h;lia
noncomputable def pB(fs:List (Str×List Str))(an:List Str)(d:D):Bool:=match d with | .tuple [c,a]=>iV fs c&&vQ an a | _=>false
def aIs:oX:=λds Q=>∃(fs:List (Str×List Str))(an:List Str)(d:D),ds=[eZ fs an,d]/\iB fs an/\Cd d/\Q (.bool (iV fs d))
def aIr:oX:=λds Q=>∃(fs:List (Str×List Str))(an:List Str)(d:D),ds=[eZ fs an,d]/\iB fs an/\Cd d/\Q (.bool (pB fs an d))
noncomputable def okD:D->Bool
|.tuple [.tuple [_,.tuple vs],v]=>PR v (.tuple (vs++[.none]))
|_=>false
def ZF(fs:List (Str×List Str))(ts:List D):((zW (fs.map lW) ts).map okD).all id=(fs.zip ts).all λp=>Q2 p.1 p.2:=by
 unfold zW;rw[bN,aGw,List.zip_map_left,aGw];apply j5 (λg=>List.all (fs.zip ts) g);funext p;exact LO p.1 p.2
noncomputable def jP(pl:List Str):D:=.tuple (pl.map aS)
noncomputable def plY(x:List Str):List Str:="yes"::x
noncomputable def plN(x:List Str):List Str:="no"::x
noncomputable def AB:Tr->Tr->List (List Str)
|.say a,.say b=>if a=b then[]else[[]]
|.say _,.ask _ _ _ _ _ _=>[[]]
|.ask _ _ _ _ _ _,.say _=>[[]]
|.ask k n v s y m,.ask k' n' v' s' y' m'=>if k=k'/\n=n'/\v=v'/\s=s' then(AB y y').map plY++(AB m m').map plN else[[]]
noncomputable def NQ:Tr->Tr->Bool
|.ask k n v s _ _,.ask k' n' v' s' _ _=>decide (k=k'/\n=n'/\v=v'/\s=s')
|_,_=>false
def aF6{t u}(h:NQ t u=false):(t=u->AB t u=[])/\(t≠u->AB t u=[[]]):=by
 cases t with
 |say a=>
  cases u with
  |say b=>
   refine⟨λe=>?_,λe=>?_⟩
   ·cases e;exact b8 rfl
   ·exact a8 λz=>e (by rw[z])
  |ask k n v s y m=>exact⟨(λe=>nomatch e),λ_=>rfl⟩
 |ask k n v s y m=>
  cases u with
  |say b=>exact⟨(λe=>nomatch e),λ_=>rfl⟩
  |ask d n' f s' g m'=>
   have c:=t7 h;refine⟨λe=>?_,λ_=>a8 c⟩;cases e;exact c7 ⟨rfl,rfl,rfl,rfl⟩ c
def aAr{k n v s y m y' m'}:AB (.ask k n v s y m) (.ask k n v s y' m')=(AB y y').map plY++(AB m m').map plN:=b8 ⟨rfl,rfl,rfl,rfl⟩
theorem qF:∀t u:Tr,(AB t u).length<=t.nodes
|.say a,.say b=>by
 show(if a=b then[]else[[]]:List (List Str)).length<=1;split<;>simp
|.say _,.ask _ _ _ _ _ _=>aN 1
|.ask k n v s y m,.say _=>(Tr.ask k n v s y m).nodes_pos
|.ask k n v s y m,.ask k' n' v' s' y' m'=>by
 show(if k=k'/\n=n'/\v=v'/\s=s' then(AB y y').map plY++(AB m m').map plN else[[]]).length<=y.nodes+m.nodes+1;have c:=qF y y';have d:=qF m m';split
 ·rw[bO,aB,aB];lia
 ·simp
theorem uY:∀(t u:Tr),∀p∈AB t u,p.length<=t.dep
|.say a,.say b=>λp c=>by
 have hp':p∈(if a=b then[]else[[]]:List (List Str)):=c;split at hp'
 ·simp at hp'
 ·rw[bM.mp hp'];exact aN 0
|.say _,.ask _ _ _ _ _ _=>λp c=>by rw[bM.mp c];exact aN 0
|.ask k n v s y m,.say _=>λp c=>by rw[bM.mp c];exact cU _
|.ask k n v s y m,.ask k' n' v' s' y' m'=>λp c=>by
 have hp':p∈(if k=k'/\n=n'/\v=v'/\s=s' then(AB y y').map plY++(AB m m').map plN else[[]]):=c;show p.length<=max y.dep m.dep+1;split at hp'
 ·rcases dQ.mp hp' with hp' | hp'
  ·obtain⟨q,d,rfl⟩:=bC.mp hp';have:=uY y y' q d;show q.length+1<=_;lia
  ·obtain⟨q,d,rfl⟩:=bC.mp hp';have:=uY m m' q d;show q.length+1<=_;lia
 ·rw[bM.mp hp'];exact cU _
def EQ(t:Tr):t.nodes<=2*2^t.dep:=by
 rw[t.nodes_kn];have:=t.kn_dep;lia
def tU{t:Tr}(h:t.dep<=12):t.nodes<=8192:=by
 have a:=EQ t;have b:2^t.dep<=2^12:=fT (by decide) h;lia
def VZ(k n v a n' b:Str):bX (.tuple [.str k,.str n,.str v]) (.tuple [.str a,.str n',.str b])=decide (k=a/\n=n'/\v=b):=by
 show((k==a)&&((n==n')&&((v==b)&&true)))=_;rw[eN];simp
theorem GI:∀t u:Tr,bX (mK t) (mK u)=true↔t=u
|.say a,.say b=>by
 show((("say":Str)=="say")&&((a==b)&&true))=true↔_;simp
|.say a,.ask k n v s y m=>by
 refine⟨λh=>?_,λh=>nomatch h⟩;have h':((("say":Str)=="ask")&&((bX (.str a) (.tuple [.str k,.str n,.str v]))&&false))=true:=h;rw[show(("say":Str)=="ask")=false by decide +kernel]at h';cases h'
|.ask k n v s y m,.say a=>by
 refine⟨λh=>?_,λh=>nomatch h⟩;have h':((("ask":Str)=="say")&&((bX (.tuple [.str k,.str n,.str v]) (.str a))&&false))=true:=h;rw[show(("ask":Str)=="say")=false by decide +kernel]at h';cases h'
|.ask k n v s y m,.ask k' n' v' s' y' m'=>by
 show((("ask":Str)=="ask")&&(bX (.tuple [.str k,.str n,.str v]) (.tuple [.str k',.str n',.str v'])&&((s==s')&&(bX (mK y) (mK y')&&(bX (mK m) (mK m')&&true)))))=true↔_;rw[VZ];simp only[dG,f9,lr,GI y y',GI m m',and_true,Tr.ask.injEq];exact⟨λ⟨_,⟨a,b,c⟩,d,e,f⟩=>⟨a,b,c,d,e,f⟩,λ⟨a,b,c,d,e,f⟩=>⟨trivial,⟨a,b,c⟩,d,e,f⟩⟩
def V0{k n v s a n' b s':Str}:bX (.tuple [.str "ask",.tuple [.str k,.str n,.str v],.str s]) (.tuple [.str "ask",.tuple [.str a,.str n',.str b],.str s'])=decide (k=a/\n=n'/\v=b/\s=s'):=by
 show((("ask":Str)=="ask")&&(bX (.tuple [.str k,.str n,.str v]) (.tuple [.str a,.str n',.str b])&&((s==s')&&true)))=_;rw[VZ,eN];simp[and_assoc]
section
variable{fs:List (Str×List Str)}{an:List Str}
def aC2(F:iB fs an){t:Tr}(h:AF fs an t)(hd:t.dep<=40):Cd (mK t):=(XR F t h).cd (by lia)
def M9{x y}(a:Cd x)(b:Cd y):ZE x y:=⟨a.lay,b.lay,by have:=a.dep;lia⟩
def NE{s:Str}(h:s="yes"\/s="no"):wN s=true:=by
 rcases h with rfl | rfl
 ·exact UA
 ·exact aCk
def N2(F:iB fs an){k n v s:Str}{y m}(h:AF fs an (.ask k n v s y m)):Cd (.tuple [.str "ask",.tuple [.str k,.str n,.str v],.str s]):=
 (oP 27 1 3 (gB (jB UB (by decide)) (gB (XQ F h.1) (gB (jB (NE h.2.1) (by decide)) oF))) (aN _) (aN _) (aN _)).cd (by decide)
end
def Pl(p:List Str):Prop:=p.length<=50000/\∀w∈p,w="yes"\/w="no"
def aF5:∀(t u:Tr),t.dep<=40->∀p∈AB t u,Pl p:=λt u g p c=>by
 refine⟨by have:=uY t u p c;lia,?_⟩;clear g
 induction t generalizing u p with
 |say a=>
  cases u with
  |say b=>
   have hp':p∈(if a=b then[]else[[]]:List (List Str)):=c;split at hp'
   ·simp at hp'
   ·rw[bM.mp hp'];exactλw hw=>by simp at hw
  |ask k n v s y m=>rw[bM.mp (show p∈[[]]from c)];exactλw hw=>by simp at hw
 |ask k n v s y m e f=>
  cases u with
  |say b=>rw[bM.mp (show p∈[[]]from c)];exactλw hw=>by simp at hw
  |ask h n' i s' j m'=>
   have hp':p∈(if k=h/\n=n'/\v=i/\s=s' then(AB y j).map plY++(AB m m').map plN else[[]]):=c;split at hp'
   ·rcases dQ.mp hp' with hp' | hp'
    ·obtain⟨q,d,rfl⟩:=bC.mp hp';intro w hw;rcases aP.mp (show w∈("yes":Str)::q from hw)with rfl | hw
     ·exact .inl rfl
     ·exact e _ _ d w hw
    ·obtain⟨q,d,rfl⟩:=bC.mp hp';intro w hw;rcases aP.mp (show w∈("no":Str)::q from hw)with rfl | hw
     ·exact .inr rfl
     ·exact f _ _ d w hw
   ·rw[bM.mp hp'];exactλw hw=>by simp at hw
def tI(dd:Nat):QK:=λds Q=>∃(fs:List (Str×List Str))(an:List Str)(t u:Tr),ds=[mK t,mK u]/\iB fs an/\AF fs an t/\AF fs an u/\t.dep<dd/\t.dep<=12/\u.dep<=12/\Q ((AB t u).map jP)
def aH5:QK:=tI 13
def UF{ds}{Q:List D->Prop}(h:tI 0 ds Q):False:=by
 obtain⟨_,_,_,_,_,_,_,_,h,_⟩:=h;lia
def YL{c:vD}{f u:vE}{DT σ}(R:Bool->Prop)(P:List Sl->Prop)(h:∀q:Bool->Prop,(∀b,R b->q b)->c σ q)(ha:R true->∀a:zQ,(∀d8,P d8->a.nx d8)->f a σ)(hb:R false->P σ)(e:∀d8,P d8->u DT d8):hZ (YT c f mY) u DT σ:=h _ λb d=>by
 cases b with
 |true=>exact ha d { DT with nx:=u DT } e
 |false=>exact e _ (hb d)
def HX{te:ET}{u DT}{σ:List Sl}{i j l:Nat}{a b c}(h:∀q:D->Prop,q (.tuple [a,b,c])->te σ q)(k:u DT (((σ.set i (.val a)).set j (.val b)).set l (.val c))):hZ (MT te (gP3 i j l)) u DT σ:=h _ ⟨a,b,c,rfl,k⟩
def WO(b:Bool):L2.atI [aS "no",.str "yes"] (if b then 1 else 0)=some (.str (if b then "yes" else "no")):=by cases b<;>rfl
noncomputable def kK(ks:List (Nat×Rw)):List (Int×D):=ks.map λe=>((e.1:Int),dA e.2)
noncomputable def B4(ks:List (Nat×Rw)):List D:=ks.map λe=>.tuple [.int (e.1:Nat),dA e.2]
def aOb(C:Addr):HH (kX C):=λa n ds Q=>∃T:Bk,a=nQ T/\ds=[nQ T]/\Q n n.st
def aN9(C:Addr):HH (kX C):=λa n ds Q=>∃(T:Bk)(j:Int)(d:D),a=nQ T/\ds=[nQ T,.int j]/\oS n.kvs j=some d/\Q n .none
def aOa(C:Addr):HH (kX C):=λa n ds Q=>∃(fs:List (Str×List Str))(an:List Str)(T:Bk)(d:D),a=nQ T/\ds=[nQ T,d]/\iB fs an/\T.fm=eZ fs an/\Cd d/\pB fs an d=true/\Q n .none
noncomputable def lT(k:Nat)(ks:List (Nat×Rw)):List (Nat×Rw):=ks.filter λe=>decide (e.1≠k)
noncomputable def oZ(k:Nat)(r:Rw)(ks:List (Nat×Rw)):List (Nat×Rw):=ks.map λe=>if e.1=k then(e.1,r)else e
noncomputable def rK(k:Nat)(ks:List (Nat×Rw)):Option Rw:=(ks.find? λe=>decide (e.1=k)).map (·.2)
def tV{fs an r}(h:uA fs an r):pB fs an (dA r)=true:=by
 show(iV fs (.tuple r.1)&&vQ an (.str r.2))=true;rw[h.1,show vQ an (.str r.2)=true from c6 h.2];rfl
theorem LL{k:Nat}:∀(ks:List (Nat×Rw)),((kK ks).any λe=>decide (e.1=(k:Int)))=ks.any λe=>decide (e.1=k)
|[]=>rfl
|e::ks=>by
 show(decide ((e.1:Int)=(k:Int))||(kK ks).any _)=(decide (e.1=k)||ks.any _);rw[LL ks];congr 1;rw[eN,f9,f9];lia
def wZ{ks}{k:Nat}{r}(h:∀e∈ks,e.1≠k):zY (kK ks) (k:Nat) (dA r)=kK (ks++[(k,r)]):=by
 unfold zY
 rw[LL,a8 (by
  rw[oN];rintro⟨e,he,z⟩;exact h e he (c8 z))]
 unfold kK;rw[bQ];rfl
def sG{ks}{k:Nat}{r}:rK k ks=some r->oS (kK ks) (k:Nat)=some (dA r):=by
 unfold rK oS kK;rw[aDb];intro h;obtain⟨e,b,rfl⟩:=dL.mp h
 have a:((λe:Int×D=>decide (e.1=(k:Int)))∘λe:Nat×Rw=>((e.1:Int),dA e.2))=λe:Nat×Rw=>decide (e.1=k):=by
  funext e;show decide ((e.1:Int)=(k:Int))=decide (e.1=k);rw[eN,f9,f9];lia
 rw[a,b];rfl
def xJ{ks}{k:Nat}{r}(h:rK k ks=some r):(k,r)∈ks:=by
 obtain⟨e,a,rfl⟩:=dL.mp h;have b:=List.mem_of_find?_eq_some a;have c:e.1=k:=c8 (List.find?_some (p:=λe:Nat×Rw=>decide (e.1=k)) a);rw[<- c];exact b
def S3{ks}{k:Nat}{r r2}(h:rK k ks=some r):zY (kK ks) (k:Nat) (dA r2)=kK (oZ k r2 ks):=by
 unfold zY;rw[LL,b8 (oN.mpr ⟨_,xJ h,c6 rfl⟩)];unfold kK oZ;rw[bN,bN];apply fK;intro e _;show(if(e.1:Int)=(k:Int)then((e.1:Int),dA r2)else((e.1:Int),dA e.2))=(λe:Nat×Rw=>((e.1:Int),dA e.2)) (if e.1=k then(e.1,r2)else e);by_cases z:e.1=k
 ·rw[b8 z,b8 (by lia)]
 ·rw[a8 z,a8 (by lia)]
def CT(k:Nat)(ks:List (Nat×Rw)):zI (kK ks) (k:Nat)=kK (lT k ks):=by
 unfold zI kK lT;rw[DH];congr 1;apply rR;intro e _;show decide ((e.1:Int)≠(k:Int))=decide (e.1≠k);rw[eN,f9,f9];lia
def EG{fs an}{ks:List (Nat×Rw)}{k:Nat}{r}(h:iQ fs an (ks.map (·.2)))(a:uA fs an r):iQ fs an ((ks++[(k,r)]).map (·.2)):=λx hx=>by
 rw[bQ]at hx;rcases dQ.mp hx with hx | hx
 ·exact h x hx
 ·rw[show x=r from bM.mp hx];exact a
def EH{fs an}{ks:List (Nat×Rw)}{k:Nat}(h:iQ fs an (ks.map (·.2))):iQ fs an ((lT k ks).map (·.2)):=λx b=>by
 obtain⟨e,a,rfl⟩:=bC.mp b;exact h _ (bC.mpr ⟨e,(cC.mp a).1,rfl⟩)
def SO{fs an}{ks:List (Nat×Rw)}{k:Nat}{r}(h:iQ fs an (ks.map (·.2)))(d:uA fs an r):iQ fs an ((oZ k r ks).map (·.2)):=λx f=>by
 obtain⟨e,c,rfl⟩:=bC.mp f;obtain⟨a,b,rfl⟩:=bC.mp c;by_cases z:a.1=k
 ·rw[b8 z];exact d
 ·rw[a8 z];exact h _ (bC.mpr ⟨a,b,rfl⟩)
noncomputable def xM(C:Addr):D:=.dict [(.int (C:Nat),.none)]
def aOg:oX:=λds Q=>∃(fs:Fs)(an:List Str)(d:Nat)(m:Int),ds=[eZ fs an,.int (d:Nat),.int m]/\iB fs an/\d<=6/\∀t,Gr fs an m d [] t->Q (mK t)
def aD3{fs an}(F:iB fs an){a:List Rw}(h:iQ fs an a):(a.length:Int)*(a.length:Int)-((jJ an a).map λc=>c*c).sum=((yX a a:Nat):Int):=by
 have hm:∀r∈a,r.2∈an:=λr j=>(h r j).2;have b:=M2 F.an.2.2 hm;have e:=BI F.an.2.2 (λ_=>(a.length:Int)) a hm
 have f:∀l:List Rw,(l.map λ_=>(a.length:Int)).sum=(l.length:Int)*(a.length:Int):=λl=>by
  induction l with
  |nil=>simp
  |cons x l d=>rw[bR,gI,d,dY,lY,QW];show _=_+1*_;lia
 have g:∀l:List Int,(l.map λc=>c*((a.length:Int)-c)).sum=(l.map λc=>c*(a.length:Int)).sum-(l.map λc=>c*c).sum:=λl=>by
  induction l with
  |nil=>rfl
  |cons x l d=>simp only[bR,gI];rw[d,Int.mul_sub];lia
 rw[f]at e;rw[g]at b
 have i:((jJ an a).map λc=>c*(a.length:Int)).sum=(a.length:Int)*(a.length:Int):=by
  unfold jJ;rw[bN];exact e
 rw[i]at b;exact b
noncomputable def SK(fs:Fs)(R:List Rw)(c:Ch):Nat:=yX (yR fs c R) (yR fs c R)*(nR fs c R).length+yX (nR fs c R) (nR fs c R)*(yR fs c R).length
noncomputable def SL(fs:Fs)(R:List Rw)(c:Ch):Nat:=(yR fs c R).length*(nR fs c R).length
def UR(a b:Nat):(low a b).1*b=a*(low a b).2:=by
 show a / a.gcd b*b=a*(b / a.gcd b);obtain⟨x,c⟩:=Nat.gcd_dvd_left a b;obtain⟨y,d⟩:=AQ a b;by_cases h:a.gcd b=0
 ·rw[h,aMv,aMv,aMr,Nat.mul_zero]
 ·have e:0<a.gcd b:=Nat.pos_of_ne_zero h;have f:a / a.gcd b=x:=by rw[HB e c]
  have i:b / a.gcd b=y:=by rw[HB e d]
  rw[f,i]
  generalize a.gcd b=g at c d
  subst c d;simp only[jK,gF,jL]
def SR{x y:Nat×Nat}{a b c d:Nat}(g:x.1*b=a*x.2)(i:y.1*d=c*y.2)(l:0<x.2)(m:0<y.2)(pb:0<b)(pd:0<d):nW x y=decide (a*d<c*b):=by
 unfold nW;rw[u8]
 have e:x.1*y.2*(b*d)=a*d*(x.2*y.2):=by
  calc x.1*y.2*(b*d)=(x.1*b)*(y.2*d):=by simp only[jK,gF,jL]
   _=(a*x.2)*(y.2*d):=by rw[g]
   _=_:=by simp only[jK,gF,jL]
 have f:y.1*x.2*(b*d)=c*b*(x.2*y.2):=by
  calc y.1*x.2*(b*d)=(y.1*d)*(x.2*b):=by simp only[jK,gF,jL]
   _=(c*y.2)*(x.2*b):=by rw[i]
   _=_:=by simp only[jK,gF,jL]
 have j:0<b*d:=rV pb pd;have k:0<x.2*y.2:=rV l m;refine⟨λh=>?_,λh=>?_⟩
 ·have:=pX h j;rw[e,f]at this;exact qX this
 ·have:=pX h k;rw[<- e,<- f]at this;exact qX this
def GL{R:List Rw}(h:0<R.length):(wP R).1*R.length=yX R R*(wP R).2/\0<(wP R).2:=by
 have e:max 1 R.length=R.length:=by lia
 unfold wP;rw[e];exact⟨UR _ _,A2 h⟩
def LX{fs R c}(b:0<(yR fs c R).length)(hn:0<(nR fs c R).length):(dC fs R c).1*SL fs R c=SK fs R c*(dC fs R c).2/\0<(dC fs R c).2/\0<SL fs R c:=by
 obtain⟨a,g⟩:=GL b;obtain⟨n1,f⟩:=GL hn;unfold dC X2 SL SK
 generalize wP (yR fs c R)=x at a g
 generalize wP (nR fs c R)=z at n1 f
 generalize (yR fs c R).length=y at a b
 generalize (nR fs c R).length=n at n1 hn
 generalize yX (yR fs c R) (yR fs c R)=p at a
 generalize yX (nR fs c R) (nR fs c R)=q at n1
 have e:0<x.2*z.2:=rV g f;have d:=UR (x.1*z.2+z.1*x.2) (x.2*z.2);refine⟨?_,A2 e,rV b hn⟩
 generalize low (x.1*z.2+z.1*x.2) (x.2*z.2)=S at d
 apply Nat.eq_of_mul_eq_mul_right e
 calc S.1*(y*n)*(x.2*z.2)=(S.1*(x.2*z.2))*(y*n):=by simp only[jK,gF,jL]
  _=((x.1*z.2+z.1*x.2)*S.2)*(y*n):=by rw[d]
  _=(x.1*y)*(z.2*n*S.2)+(z.1*n)*(x.2*y*S.2):=by rw[rX,rX];simp only[jK,gF,jL]
  _=(p*x.2)*(z.2*n*S.2)+(q*z.2)*(x.2*y*S.2):=by rw[a,n1]
  _=(p*n+q*y)*S.2*(x.2*z.2):=by rw[rX,rX];simp only[jK,gF,jL]
def AY{fs R}{m:Int}(hm:1<=m){c}(h:okC fs R m c=true):0<(yR fs c R).length/\0<(nR fs c R).length:=by
 have h':=dG _ _▸h;have a:=c8 h'.1;have b:=c8 h'.2;lia
def aEd{fs}{R:List Rw}(a:R.length<=60)(c:Ch):SL fs R c<=3600:=
 iD (aX (bK _ _) a) (aX (bK _ _) a)
def IP(ks:List (Nat×Rw)):(B4 ks).length=ks.length:=by unfold B4;rw[aB]
def LZ{fs an}(F:iB fs an){r}(h:uA fs an r):Cd (dA r):=(KM F h).cd (by decide)
def zn{F:sX}{τ}{DC:vV F}{n σ}(h:DC.nx n σ):MI τ DC n σ:=h
def WC{fs cs}(h:iV fs (.tuple cs)=true):∀c∈cs,c=.none\/∃f∈fs,∃z∈f.2,c=.str z:=λc b=>by
 obtain⟨d,e⟩:=nO h;obtain⟨k,hk⟩:=cT b;have a:k<fs.length:=by rw[<- d];exact(aF.mp hk).1
 have:=e k fs[k] c (aD a) hk
 cases c with
 |none=>exact .inl rfl
 |str z=>exact .inr ⟨_,fF a,z,c8 this,rfl⟩
 |_=>cases this
def RT(k:Nat)(r:Rw)(ks:List (Nat×Rw)):(oZ k r ks).length=ks.length:=by unfold oZ;rw[aB]
def XI{F:sX}{i:Nat}{te:EZ F}{τ}{DC:vV F}{n}{σ:List Sl}(v:D)(h:∀q:F.S->D->Prop,q n v->te τ n σ q)(k:DC.nx n (σ.set i (.val v))):aDd i te τ DC n σ:=h (λn1 d=>DC.nx n1 (σ.set i (.val d))) k
noncomputable def xA(t0 t:Tr):List D:=(AB t0 t).map jP
def aOc(C:Addr):W7 (kX C):=λa n ds Q=>∃(T:Bk)(ks:List (Nat×Rw)),a=nQ T/\ds=[nQ T]/\n.kvs=kK ks/\Q n id (B4 ks)
structure Bkk(fs:Fs)(an:List Str)(d:Nat)(m:Int)(T:Bk)(ks:List (Nat×Rw))(t0:Tr)(n:XA):Prop where
 F:iB fs an
 fm:T.fm=eZ fs an
 dp:T.dp=(d:Nat)
 ls:T.ls=m
 d6:d<=6
 kv:n.kvs=kK ks
 ok:iQ fs an (ks.map (·.2))
 st:n.st=mK t0
 tr:AF fs an t0
 dep:t0.dep<=6
def aN8(C:Addr):W7 (kX C):=λa n ds Q=>∃(fs:Fs)(an:List Str)(d:Nat)(m:Int)(T:Bk)(ks:List (Nat×Rw))(t0:Tr),a=nQ T/\ds=[nQ T]/\Bkk fs an d m T ks t0 n/\ks.length<=60 /\
 ∀t,Gr fs an m d (ks.map (·.2)) t->Q { n with st:=mK t } id (xA t0 t)
noncomputable def inT(d x:D):D:=.tuple [d,x]
def aOf(C:Addr):W7 (kX C):=λa n ds Q=>∃(fs:Fs)(an:List Str)(d:Nat)(m:Int)(T:Bk)(ks:List (Nat×Rw))(k:Nat)(r:Rw)(t0:Tr),a=nQ T/\ds=[nQ T,dA r]/\Bkk fs an d m T ks t0 n/\ks.length<60/\n.fol=(k:Nat)/\k<=1000/\(∀e∈ks,e.1≠k)/\uA fs an r /\
 ∀t,Gr fs an m d ((ks++[(k,r)]).map (·.2)) t->Q ⟨kK (ks++[(k,r)]),((k+1:Nat):Int),mK t⟩ (inT (.int (k:Nat))) (xA t0 t)
def aOe(C:Addr):W7 (kX C):=λa n ds Q=>∃(fs:Fs)(an:List Str)(d:Nat)(m:Int)(T:Bk)(ks:List (Nat×Rw))(k:Nat)(r:Rw)(t0:Tr),a=nQ T/\ds=[nQ T,.int (k:Nat)]/\Bkk fs an d m T ks t0 n/\ks.length<=60/\rK k ks=some r /\
 ∀t,Gr fs an m d ((lT k ks).map (·.2)) t->Q ⟨kK (lT k ks),n.fol,mK t⟩ (inT (dA r)) (xA t0 t)
def aOd(C:Addr):W7 (kX C):=λb n ds Q=>∃(fs:Fs)(an:List Str)(d:Nat)(m:Int)(T:Bk)(ks:List (Nat×Rw))(k:Nat)(r a:Rw)(t0:Tr),b=nQ T/\ds=[nQ T,.int (k:Nat),dA a]/\Bkk fs an d m T ks t0 n/\ks.length<=60/\rK k ks=some r/\uA fs an a /\
 ∀t,Gr fs an m d ((oZ k a ks).map (·.2)) t->Q ⟨kK (oZ k a ks),n.fol,mK t⟩ (inT (dA r)) (xA t0 t)
def pZ(C b e:Addr):HH (kX C):=λc n ds a=>∃(fs:Fs)(an:List Str)(T:Bk)(d:D),c=nQ T/\ds=[nQ T,d]/\iB fs an/\T.fm=eZ fs an/\Cd d/\pB fs an d=false/\a n (xM b)
def oH(C d b:Addr):HH (kX C):=λc n ds a=>∃(T:Bk)(j:Int),c=nQ T/\ds=[nQ T,.int j]/\oS n.kvs j=none/\a n (xM b)
def YE(C a b:Addr):HH (kX C):=pZ C a b
def YF(C a b:Addr):HH (kX C):=oH C a b
def SE(C b c:Addr):HH (kX C):=λf n ds a=>∃(fs:Fs)(an:List Str)(T:Bk)(j:Int)(d:D),f=nQ T/\ds=[nQ T,.int j,d]/\iB fs an/\T.fm=eZ fs an/\Cd d/\((oS n.kvs j=none/\a n (xM c))\/(∃e,oS n.kvs j=some e/\pB fs an d=false/\a n (xM b)))
def aHx:oX:=λds Q=>∃(fs:Fs)(an:List Str),ds=[eZ fs an]/\iB fs an/\Q (.list (eY fs))
def aHv:oX:=λds Q=>∃(fs:Fs)(an:List Str)(a:List Rw),ds=[eZ fs an,.list (a.map dA)]/\iB fs an/\iQ fs an a/\a.length<=60/\Q (.tuple [.int ((yX a a:Nat):Int),.int ((max 1 a.length:Nat):Int)])
noncomputable def DL(fs:Fs)(R:List Rw):Option Ch->D
|none=>.none
|some c=>.tuple [.tuple [.int ((SK fs R c:Nat):Int),.int ((SL fs R c:Nat):Int)],qD c.1,.str c.2]
def aHt:oX:=λds Q=>∃(fs:Fs)(an:List Str)(a:List Rw)(m:Int),ds=[eZ fs an,.list (a.map dA),.int m]/\iB fs an/\iQ fs an a/\a.length<=60/\1<=m/\Q (DL fs a (mN fs a m))
def tH(dd:Nat):oX:=λds Q=>∃(fs:Fs)(an:List Str)(a:List Rw)(d:Nat)(m:Int),ds=[eZ fs an,.list (a.map dA),.int d,.int m]/\iB fs an/\iQ fs an a/\a.length<=60/\d<dd/\1<=m/\∀t,Gr fs an m d a t->Q (mK t)
def aHs:oX:=tH 7
def UE{ds}{Q:D->Prop}(h:tH 0 ds Q):False:=by
 obtain⟨fs,an,f,d,m,e,F,a,b,c,h⟩:=h;lia
noncomputable def bcm(pl:List Str)(t u:Tr):List D:=(AB t u).map λp=>jP (pl++p)
def tG(dd:Nat):oX:=λds Q=>∃(fs:Fs)(an:List Str)(t u:Tr)(pl:List Str),ds=[mK t,mK u,jP pl]/\iB fs an/\AF fs an t/\AF fs an u/\t.dep<dd/\u.dep<=6/\pl.length+t.dep<=10/\Q (.list (bcm pl t u))
def aHr:oX:=tG 7
def UD{ds}{Q:D->Prop}(h:tG 0 ds Q):False:=by
 obtain⟨fs,an,t,u,pl,e,F,a,b,c,h⟩:=h;lia
noncomputable def AR(fs:Fs)(R:List Rw)(m:Int)(s:Option Ch)(c:Ch):Option Ch:=if okC fs R m c=true then some (match s with | none=>c | some b=>nK fs R b c)else s
theorem ML(fs:Fs)(R:List Rw)(m:Int):∀(l:List Ch)(s:Option Ch),l.foldl (AR fs R m) s=(l.filter (okC fs R m)).foldl (AR fs R m) s
|[],s=>rfl
|c::l,s=>by
 rw[kC,ML fs R m l,dM];by_cases z:okC fs R m c=true
 ·rw[b8 z,kC]
 ·rw[a8 z];have:AR fs R m s c=s:=a8 z;rw[this]
theorem MK{fs R}{m:Int}:∀(l:List Ch)(b:Ch),(∀c∈l,okC fs R m c=true)->l.foldl (AR fs R m) (some b)=some (l.foldl (nK fs R) b)
|[],b,_=>rfl
|c::l,b,h=>by
 rw[kC,kC];have:AR fs R m (some b) c=some (nK fs R b c):=b8 (h c (aO ..));rw[this];exact MK l _ λx a=>h x (aJ _ a)
def aHe(fs:Fs)(R:List Rw)(m:Int):(DB fs).foldl (AR fs R m) none=W5 fs R (iA fs R m):=by
 rw[ML];unfold iA;have a:∀c∈(DB fs).filter (okC fs R m),okC fs R m c=true:=λc b=>(cC.mp b).2
 generalize (DB fs).filter (okC fs R m)=l at a
 cases l with
 |nil=>rfl
 |cons c l=>
  rw[kC];have:AR fs R m none c=some c:=b8 (a c (aO ..));rw[this,MK l c λx d=>a x (aJ _ d)];rfl
theorem KJ{fs R}{m:Int}:∀(l:List Ch)(s:Option Ch),(∀b,s=some b->okC fs R m b=true)->∀b,l.foldl (AR fs R m) s=some b->okC fs R m b=true
|[],s,h,b,e=>h b e
|c::l,s,h,b,e=>by
 rw[kC]at e;refine KJ l _ (λx a=>?_) b e;unfold AR at a;by_cases z:okC fs R m c=true
 ·rw[b8 z]at a
  cases s with
  |none=>cases a;exact z
  |some y=>
   have e:nK fs R y c=x:=d7 a;by_cases q:nW (dC fs R c) (dC fs R y)=true
   ·rw[<- e,show nK fs R y c=c from b8 q];exact z
   ·rw[<- e,show nK fs R y c=y from a8 q];exact h y rfl
 ·rw[a8 z]at a;exact h x a
def WN(fs:Fs)(m:Int):mN fs [] m=none:=by
 unfold mN;rw[Option.filter_eq_none_iff];intro c _;have e:wP []=(0,1):=by decide
 rw[e];show¬decide (_<0*_)=true;rw[aMr]
 exactλz=>c7 (c8 z) (pV _)
def C7(fs:Fs)(an:List Str)(a:D)(rt:Bool):Prop:=(rt=true/\∃r:Rw,uA fs an r/\a=dA r)\/(rt=false/\Cd a/\pB fs an a=false)
def aHq:oX:=λds Q=>∃(fs:Fs)(an:List Str)(bs:List Int)(g:Nat),ds=[eZ fs an,.list (bs.map aW),.int (g:Nat)]/\iB fs an/\yS 14 bs/\g<=1000/\∀(w j:Int)(a:D)(rt:Bool),(w=0\/w=1\/w=2)->C7 fs an a rt->Q (.tuple [.int w,.int j,a,.bool rt])
def G6(fs:Fs)(an:List Str)(ks:List (Nat×Rw))(f:Nat)(w j:Int)(g:D)(a:List (Nat×Rw))(b:Nat)(d:D):Prop:=
 (w=0/\∃r:Rw,g=dA r/\uA fs an r/\ks.length<60/\(∀e∈ks,e.1≠f)/\a=ks++[(f,r)]/\b=f+1/\d=.int (f:Nat)) \/
 (w=1/\∃(k:Nat)(r:Rw),j=(k:Nat)/\rK k ks=some r/\a=lT k ks/\b=f/\d=dA r) \/
 (w=2/\∃(k:Nat)(r c:Rw),j=(k:Nat)/\g=dA c/\uA fs an c/\rK k ks=some r/\a=oZ k c ks/\b=f/\d=dA r)
def noK(ks:List (Nat×Rw))(j:Int):Prop:=∀e∈ks,(e.1:Int)≠j
noncomputable def dnT(d x:D):D:=.tuple [.tuple [d,x],.str ""]
def aHp(C:Addr):W7 (kX C):=λe n ds Q=>∃(fs:Fs)(an:List Str)(d:Nat)(m:Int)(T:Bk)(ks:List (Nat×Rw))(t0:Tr)(f:Nat)(w j:Int)(b:D)(a:List (Nat×Rw))(c:Nat)(x:D),e=nQ T/\ds=[nQ T,.int w,.int j,b]/\Bkk fs an d m T ks t0 n/\ks.length<=60/\n.fol=(f:Nat)/\f<=1000/\G6 fs an ks f w j b a c x /\
 ∀t,Gr fs an m d (a.map (·.2)) t->Q ⟨kK a,(c:Nat),mK t⟩ (dnT x) (xA t0 t)
def WS(fs:Fs)(an:List Str)(ks:List (Nat×Rw))(w j:Int)(a:D)(z:Str):Prop:=
 ((w=1\/w=2)/\noK ks j/\z="such")\/((w=0\/(w=2/\∃(k:Nat)(r:Rw),j=(k:Nat)/\rK k ks=some r))/\pB fs an a=false/\z="row")
def DN(C:Addr):HH (kX C):=λb n ds Q=>∃(fs:Fs)(an:List Str)(T:Bk)(ks:List (Nat×Rw))(w j:Int)(a:D)(z:Str),b=nQ T/\ds=[nQ T,.int w,.int j,a]/\iB fs an/\T.fm=eZ fs an/\n.kvs=kK ks/\Cd a/\WS fs an ks w j a z/\Q n (.tuple [.none,.str z])
def aHo:oX:=λds Q=>∃(fs:Fs)(an:List Str)(kl ks:List (Nat×Rw))(f:Nat)(w j:Int)(a:D)(rt:Bool),ds=[wO (kK kl),.int (f:Nat),.int w,.int j,a,.bool rt]/\kl.Perm ks/\(ks.map (·.1)).Nodup/\ks.length<=60/\(rt=true->w=1\/pB fs an a=true)/\(rt=false->w=1\/pB fs an a=false) /\
 ((∃z,WS fs an ks w j a z/\Q (.tuple [wO (kK kl),.none,.str z])) \/
  (∃c d x,G6 fs an ks f w j a c d x/\∀b,b.Perm c->Q (.tuple [wO (kK b),x,.str ""])))
def QL(ks:List (Nat×Rw)):Prop:=ks.Pairwise λa b=>a.1<b.1
structure G4(fs:Fs)(an:List Str)(d:Nat)(m:Int)(T:Bk)(ks kl:List (Nat×Rw))(t:Tr)(f:Nat)(n:XA):Prop where
 bk:Bkk fs an d m T ks t n
 gr:Gr fs an m d (ks.map (·.2)) t
 fol:n.fol=(f:Nat)
 ris:QL ks
 lt:∀e∈ks,e.1<f
 pm:kl.Perm ks
 few:ks.length<=f
def aHn(C:Addr):HH (kX C):=λa n ds Q=>∃(fs:Fs)(an:List Str)(d:Nat)(m:Int)(T:Bk)(ns:List Int)(N:Nat)(t0:Tr),a=nQ T/\ds=[nQ T,.list (ns.map aW),eZ fs an,.int (N:Nat)]/\ns.length<=63/\N<=22/\G4 fs an d m T [] [] t0 0 n /\
 ∀ks t n1,G4 fs an d m T ks ks t N n1->ks.length=N->Q n1 (wO (kK ks))
def aHm:oX:=λds Q=>∃kl ks:List (Nat×Rw),ds=[wO (kK kl)]/\kl.Perm ks/\QL ks/\ks.length<=60/\Q (.list (B4 ks))
def aHl(C:Addr):HH (kX C):=λa n ds Q=>∃(fs:Fs)(an:List Str)(d:Nat)(m:Int)(T:Bk)(ks kl:List (Nat×Rw))(t:Tr),a=nQ T/\ds=[nQ T,wO (kK kl),mK t]/\Bkk fs an d m T ks t n/\QL ks/\(∀e∈ks,e.1<1000)/\kl.Perm ks/\ks.length<=60/\Q n (.bool true)
noncomputable def Z2(a:Str)(x:D):Bool:=match x with | .tuple [_,.str b]=>decide (b=a) | _=>false
def JG(a:Str)(b:List Rw):(((b.map dA).filter (Z2 a)).map id).length=pW b a:=by
 rw[C9,DH,aB,<- DI];rfl
def AA{a:Nat}{j:Int}(h:a<=1000000000):J0 (a:Nat) j:=.inl ⟨by lia,by lia⟩
def LR{n k:Nat}{p:D->Bool}(hk:k<n)(d:p (.int (k:Nat))=true)(hn:∀j:Nat,j<k->p (.int (j:Nat))=false):((eI n).filter p)[0]?=some (.int (k:Nat)):=by
 rw[<- List.head?_eq_getElem?,List.head?_filter,List.find?_eq_some_iff_getElem];have a:(eI n).length=n:=iW n;refine⟨d,k,by rw[a];exact hk,?_,λj c=>?_⟩
 ·have:=(gX (aD (l:=eI n) (i:=k) (by rw[a];exact hk))).2;exact this
 ·have b:j<(eI n).length:=by rw[a];lia
  rw[(gX (aD (l:=eI n) (i:=j) b)).2,hn j c];rfl
noncomputable def isC(cs:List Int)(m:Int)(x:D):Bool:=match x with | .int i=>decide (cs.getD i.toNat (m+1)=m) | _=>false
def aDn{fs R}{m:Int}(hm:1<=m){b c}(hb:okC fs R m b=true)(h:okC fs R m c=true):nW (dC fs R c) (dC fs R b)=decide (SK fs R c*SL fs R b<SK fs R b*SL fs R c):=by
 obtain⟨i,j⟩:=AY hm h;obtain⟨k,l⟩:=AY hm hb;obtain⟨a,a2,d⟩:=LX i j;obtain⟨e,f,g⟩:=LX k l;exact SR a e a2 f d g
def aDo{fs}{R:List Rw}{m:Int}(hm:1<=m){c}(h:okC fs R m c=true):0<R.length/\nW (dC fs R c) (wP R)=decide (SK fs R c*R.length<yX R R*SL fs R c):=by
 obtain⟨b,i⟩:=AY hm h;have a:0<R.length:=bP b (bK _ _);obtain⟨d,a2,e⟩:=LX b i;obtain⟨f,g⟩:=GL a;exact⟨a,SR d f a2 g e a⟩
def tM{R:List Rw}(h:R.length<=60):yX R R<=3600:=aX (F3 R R) (iD h h)
def aEc{fs}{R:List Rw}(h:R.length<=60)(c:Ch):SK fs R c<=432000:=by
 have a:(yR fs c R).length<=60:=aX (bK _ _) h;have hn:(nR fs c R).length<=60:=aX (bK _ _) h;have:=iD (tM a) hn;have:=iD (tM hn) a;unfold SK;lia
def SQ{kl ks:List (Nat×Rw)}{us:List Int}(c:us.Pairwise (·<·))(d:us.Perm ((kK kl).map (·.1)))(f:kl.Perm ks)(g:QL ks):us=ks.map λe=>(e.1:Int):=by
 refine oO.eq_of_pairwise (le:=(·<=·)) (λa b _ _ ha hb=>Int.le_antisymm ha hb) (c.imp λh=>by lia) ?_ (d.trans ?_)
 ·rw[nX];exact g.imp λh=>by lia
 ·unfold kK;rw[bN];exact f.map _
def FX{ks:List (Nat×Rw)}(h:QL ks):(ks.map (·.1)).Nodup:=by
 unfold aNj;rw[nX];exact h.imp λh=>by lia
theorem uW:∀{ks:List (Nat×Rw)},(ks.map (·.1)).Nodup->∀{e:Nat×Rw},e∈ks->rK e.1 ks=some e.2
|a::ks,h,e,he=>by
 obtain⟨b,c⟩:=iZ.mp h;unfold rK;rw[jA];by_cases z:a.1=e.1
 ·rw[c6 z];rcases aP.mp he with rfl | he
  ·rfl
  ·exact c7 (bC.mpr ⟨e,he,z.symm⟩) b
 ·rw[c9 z];rcases aP.mp he with rfl | he
  ·exact c7 rfl z
  ·exact uW c he
def NS{kl ks:List (Nat×Rw)}(a:kl.Perm ks)(c:QL ks){e:Nat×Rw}(b:e∈ks):rK e.1 kl=some e.2:=
 uW ((a.map _).nodup_iff.mpr (FX c)) (a.mem_iff.mpr b)
noncomputable def KS(ks:List (Nat×Rw))(x:D):D:=match x with | .int i=>(match rK i.toNat ks with | some r=>.tuple [.int i,dA r] | none=>.none) | _=>.none
def wX{ks}(b:QL ks){e:Nat×Rw}(a:e∈ks):KS ks (.int (e.1:Nat))=.tuple [.int (e.1:Nat),dA e.2]:=by
 show(match rK ((e.1:Nat):Int).toNat ks with | some r=>fA [.int (e.1:Nat),dA r] | none=>.none)=_;rw[iF,uW (FX b) a]
noncomputable def aOu(s:Sl):Bool:=match s with | .dic _ _=>false | _=>true
def aCj{σ:List Sl}(h:σ.all aOu=true):∀(j:Nat)(hs:List Int)(kvs:List (D×D)),σ[j]?≠some (.dic hs kvs):=λj hs kvs e=>by
 have:=fV.mp h _ (bH e);cases this
def noA{kl ks:List (Nat×Rw)}{j:Int}(b:kl.Perm ks)(h:noK ks j):oS (kK kl) j=none:=by
 unfold oS kK;rw[aDb,Option.map_map,Option.map_eq_none_iff,List.find?_eq_none];intro e a z;exact h e (b.mem_iff.mp a) (c8 z)
def Z7{kl ks:List (Nat×Rw)}(a:kl.Perm ks)(hn:(ks.map (·.1)).Nodup){k:Nat}{r}(h:rK k ks=some r):rK k kl=some r:=
 uW (e:=(k,r)) ((a.map _).nodup_iff.mpr hn) (a.mem_iff.mpr (xJ h))
def aAm(k:Nat)(ks:List (Nat×Rw)):∀e∈lT k ks,e.1≠k:=λe a=>c8 (cC.mp a).2
theorem E6{k:Nat}:∀{ks:List (Nat×Rw)},k∉ks.map (·.1)->lT k ks=ks/\∀b,oZ k b ks=ks
|[],_=>⟨rfl,λ_=>rfl⟩
|a::ks,h=>by
 have c:a.1≠k:=λz=>h (by rw[<- z];exact aO ..);obtain⟨d,e⟩:=E6 (k:=k) (ks:=ks) λz=>h (aJ _ z);refine⟨?_,λb=>?_⟩
 ·show OF _ (a::ks)=_;rw[dM,b8 (c6 c)];exact j5 (a::·) d
 ·show(if a.1=k then(a.1,b)else a)::oZ k b ks=_;rw[a8 c,e]
theorem MJ{k:Nat}{r2}:∀{ks:List (Nat×Rw)},(ks.map (·.1)).Nodup->k∈ks.map (·.1)->(lT k ks++[(k,r2)]).Perm (oZ k r2 ks)
|a::ks,hn,hk=>by
 obtain⟨d,e⟩:=iZ.mp hn;show(OF _ (a::ks)++_).Perm ((if a.1=k then(a.1,r2)else a)::oZ k r2 ks);rw[dM];by_cases z:a.1=k
 ·rw[a8 (by rw[cq];exactλw=>w z),b8 z];obtain⟨b,c⟩:=E6 (k:=k) (ks:=ks) (by rw[<- z];exact d);rw[c,z];show(lT k ks++_).Perm _;rw[b];exact List.perm_append_singleton ..
 ·rw[b8 (c6 z),a8 z];exact(MJ e ((aP.mp hk).resolve_left λw=>z w.symm)).cons a
def aEe{fs an cs}(h:iV fs (.tuple cs)=true):pB fs an (.tuple cs)=false:=by
 match cs,h with
 |[],_=>rfl
 |[_],_=>rfl
 |[c,a],h=>
  rcases WC h c (aO ..)with rfl | ⟨_,_,_,_,rfl⟩
  ·rfl
  ·rfl
 |_::_::_::_,_=>rfl
def aLi{fs an}(F:iB fs an):vQ an (.str "Zz")=false:=c9 λz=>by
 have h:=F.an.2.1 _ z;exact c7 h (by decide +kernel)
def P3{fs an}(F:iB fs an){cs:List D}{a:Str}(c:iV fs (.tuple cs)=true)(ha:a∈an):∀x∈[fA [.tuple cs,.str "Zz"],.tuple [.tuple (cs.drop 1),.str a],.none,.list [.tuple cs,.str a],.tuple cs],Cd x/\pB fs an x=false:=by
 have n1:=F.n1;have n5:=F.n5;obtain⟨h,_⟩:=nO c;have it:=CZ F c (m:=0) (aN 8);have d:Th 45 1 (.str a):=jB (F.an.2.1 a ha) (by decide);have b:Th 45 1 (.tuple cs):=oP 8 0 5 it (by lia) (by decide) (by decide);have f:Th 45 1 (.tuple (cs.drop 1)):=oP 8 0 5 (λt g=>it t (vW g)) (by rw[eM];lia) (by decide) (by decide);intro x e;simp only[aP,cO,l9]at e;rcases e with rfl | rfl | rfl | rfl | rfl
 ·refine⟨(oP 45 1 2 (N:=1000) (M:=5) (gB b (gB (aDq (by decide +kernel)) oF)) (aN _) (by decide) (by decide)).cd (by decide),?_⟩;show(_&&vQ an (.str "Zz"))=false;rw[aLi F,aDc]
 ·refine⟨(oP 45 1 2 (N:=1000) (M:=5) (gB f (gB d oF)) (aN _) (by decide) (by decide)).cd (by decide),?_⟩;show((decide ((cs.drop 1).length=fs.length)&&_)&&_)=false;rw[c9 (by rw[eM];lia)];rfl
 ·exact⟨(AS (n:=0) (m:=0)).cd (by decide),rfl⟩
 ·exact⟨(KN 45 1 2 (N:=1000) (M:=5) (gB b (gB d oF)) (aN _) (by decide) (by decide)).cd (by decide),rfl⟩
 ·exact⟨b.cd (by decide),aEe c⟩
def HZ{ks}{f:Nat}(h:QL ks)(lt:∀e∈ks,e.1<f)(r:Rw):QL (ks++[(f,r)]):=by
 unfold QL;rw[List.pairwise_append];exact⟨h,List.pairwise_singleton _ _,λa ha b hb=>by rw[bM.mp hb];exact lt a ha⟩
def BF(k:Nat)(r:Rw)(e:Nat×Rw):(if e.1=k then(e.1,r)else e).1=e.1:=by split<;>rfl
def G4.deed{fs an}{d:Nat}{m:Int}{T ks kl t}{f:Nat}{n}(kp:G4 fs an d m T ks kl t f n){w j:Int}{dr}{a l:List (Nat×Rw)}{c:Nat}{x}(hd:G6 fs an ks f w j dr a c x){t'}(o:Gr fs an m d (a.map (·.2)) t')(u:l.Perm a):G4 fs an d m T a l t' c ⟨kK a,(c:Nat),mK t'⟩/\c<=f+1/\(w≠0->c=f):=by
 have b:=kp.bk;obtain⟨q,C⟩:=NR d o;have d6:=b.d6;have few:=kp.few
 have i:iQ fs an (a.map (·.2))/\QL a/\(∀e∈a,e.1<c)/\a.length<=c/\c<=f+1/\(w≠0->c=f):=by
  rcases hd with⟨rfl,r,rfl,g,A,B,rfl,rfl,rfl⟩ | ⟨rfl,k,r,rfl,hk,rfl,rfl,rfl⟩ | ⟨rfl,k,r,E,rfl,rfl,g,hk,rfl,rfl,rfl⟩
  ·refine⟨EG b.ok g,HZ kp.ris kp.lt r,λe he=>?_,by rw[bO];show _+1<=_;lia,aN _,λz=>c7 rfl z⟩;rcases dQ.mp he with he | he
   ·have:=kp.lt e he;lia
   ·rw[bM.mp he];exact mR _
  ·exact⟨EH b.ok,kp.ris.filter _,λe he=>kp.lt e (cC.mp he).1,aX (bK _ _) few,wM _,λ_=>rfl⟩
  ·refine⟨SO b.ok g,?_,λe he=>?_,by rw[RT];exact few,wM _,λ_=>rfl⟩
   ·unfold QL oZ;rw[nX];exact kp.ris.imp λh=>by rw[BF,BF];exact h
   ·obtain⟨p,s,rfl⟩:=bC.mp he;rw[BF];exact kp.lt p s
 obtain⟨k1,k2,k3,v,k5,y⟩:=i;exact⟨⟨⟨b.F,b.fm,b.dp,b.ls,b.d6,rfl,k1,rfl,q,by lia⟩,o,rfl,k2,k3,u,v⟩,k5,y⟩
def ON{fs an}(F:iB fs an){ks:List (Nat×Rw)}(h:iQ fs an (ks.map (·.2)))(b:∀e∈ks,e.1<1000)(c:ks.length<=60):N4 (.list (B4 ks)):=by
 refine KN 200 3 60 (λx f=>?_) (by rw[IP];exact c) (by decide) (by decide);obtain⟨e,a,rfl⟩:=bC.mp f;have d:=h _ (bC.mpr ⟨e,a,rfl⟩);have:=b e a;exact oP 92 2 2 (gB ((RY (by lia) (m:=0)).mono (by decide) (by decide)) (gB (KM F d) oF)) (aN _) (by decide) (by decide)
theorem kn_dep:∀t:Tr,t.kn<2^t.dep
|.say _=>by show 0<1;decide
|.ask k n v s y m=>by
 have b:=kn_dep y;have c:=kn_dep m;have a:=fT (show 0<2 by decide) (show y.dep<=max y.dep m.dep by lia);have a2:=fT (show 0<2 by decide) (show m.dep<=max y.dep m.dep by lia);show y.kn+m.kn+1<2^(max y.dep m.dep+1);rw[aMt];lia
def RV{fs an}(F:iB fs an){t:Tr}(h:AF fs an t)(hd:t.dep<=6):N4 (mK t):=by
 have a:=kn_dep t;have b:=fT (show 0<2 by decide) hd;exact(XR F t h).mono (by lia) (by lia)
def RX{t u:Tr}(h:t.dep<=6):Th 20000 3 (.list (xA t u)):=by
 have d:=qF t u
 have e:t.nodes<=128:=by
  have:=EQ t;have:=fT (show 0<2 by decide) h;lia
 refine KN 100 1 128 (λx b=>?_) (by unfold xA;rw[aB];lia) (by decide) (by decide);obtain⟨p,a,rfl⟩:=bC.mp b;have f:=uY t u p a;exact oP 8 0 8 (uK (λy c=>NE ((aF5 t u (by lia) p a).2 y c)) (aN 8)) (by rw[aB];lia) (by decide) (by decide)
def VN{fs:Fs}{an}(F:WV fs an){k:Nat}(c:1<=k)(d:k<=4):iB (fs.take k) an:=by
 have n1:=F.n1;have n5:=F.n5;refine⟨by rw[bL];lia,by rw[bL];lia,⟨by rw[aB],λy a=>?_,?_⟩,λf b=>F.vs f (eE b),F.a2,F.a4,F.an,by rw[bL];lia⟩
 ·rw[xV]at a;exact F.nd.2.1 y (eE a)
 ·rw[xV];exact F.nd.2.2.sublist (zR _ _)
def E3{an a}(h:C6 an [] a):an[0]?=some a:=by
 obtain⟨k,hk,_,c⟩:=h
 cases k with
 |zero=>exact hk
 |succ k=>
  have b:0<an.length:=by have:=(aF.mp hk).1;lia
  have:=c 0 _ (Nat.succ_pos _) (aD b);exact c7 this (pV _)
def aFk{fs an}{m:Int}:∀{d:Nat}{t},Gr fs an m d [] t->∃a,an[0]?=some a/\t=.say a
|0,t,⟨a,h,e⟩=>⟨a,E3 h,e⟩
|d+1,t,h=>by
 unfold Gr at h;rw[WN]at h;obtain⟨a,h,e⟩:=h;exact⟨a,E3 h,e⟩
def aLm{i:Nat}{σ}{Q:D->Prop}{kl ks:List (Nat×Rw)}(f:σ[i]?=some (.val (wO (kK kl))))(d:kl.Perm ks)(b:QL ks)(m:ks.length<=60)(h:Q (.list ((ks.map (·.2)).map dA))):P2 [none,some i] (aLr (V1 (rN i))) (gN 0) zL (aC1 (rN 1) (rN 0)) σ Q:=by
 have n:(kK kl).length=ks.length:=by unfold kK;rw[aB,d.length_eq]
 have c:(jQ [none,some i] σ)=[.un,.val (wO (kK kl))]:=by
  unfold jQ;simp[FC,f]
 refine lA (ts:=(ks.map λe=>(e.1:Int)).map aW) (λR h=>⟨_,f,kK kl,rfl,by lia,λus c k=>⟨_,rfl,by rw[SQ c k d b];exact h⟩⟩) (λx=>match KS ks x with | .tuple [_,r]=>r | _=>.none) (by rw[aB,aB];lia) (λx q l g=>?_) ?_
 ·obtain⟨_,j,rfl⟩:=bC.mp l;obtain⟨e,a,rfl⟩:=bC.mp j;rw[wX b a]at g;rw[c];exact⟨_,rfl,_,rfl,kK kl,(e.1:Nat),dA e.2,rfl,rfl,sG (NS d b a),g⟩
 ·have e:((ks.map λe=>(e.1:Int)).map aW).map (λx=>match KS ks x with | .tuple [_,r]=>r | _=>.none)=(ks.map (·.2)).map dA:=by
   rw[bN,bN,bN];apply fK;intro e a;show(match KS ks (.int (e.1:Nat))with | .tuple [_,r]=>r | _=>.none)=dA e.2;rw[wX b a]
  rw[e];exact h
def aAn{fs an}{ks:List (Nat×Rw)}{f:Nat}{w j:Int}{dr}{rt:Bool}(hw:w=0\/w=1\/w=2)(hd:C7 fs an dr rt)(l:ks.length<60)(d:∀e∈ks,e.1<f)(hn:(ks.map (·.1)).Nodup):(∃z,WS fs an ks w j dr z)\/∃g i x,G6 fs an ks f w j dr g i x:=by
 have b:noK ks j\/∃(k:Nat)(r:Rw),j=(k:Nat)/\rK k ks=some r:=by
  by_cases h:∃e∈ks,(e.1:Int)=j
  ·obtain⟨e,a,rfl⟩:=h;exact .inr ⟨e.1,e.2,rfl,uW hn a⟩
  ·exact .inl λe a z=>h ⟨e,a,z⟩
 rcases hw with rfl | rfl | rfl
 ·rcases hd with⟨_,r,c,rfl⟩ | ⟨_,_,hi⟩
  ·exact .inr ⟨_,_,_,.inl ⟨rfl,r,rfl,c,l,λe a=>by have:=d e a;lia,rfl,rfl,rfl⟩⟩
  ·exact .inl ⟨_,.inr ⟨.inl rfl,hi,rfl⟩⟩
 ·rcases b with h | ⟨k,r,rfl,hk⟩
  ·exact .inl ⟨_,.inl ⟨.inl rfl,h,rfl⟩⟩
  ·exact .inr ⟨_,_,_,.inr (.inl ⟨rfl,k,r,rfl,hk,rfl,rfl,rfl⟩)⟩
 ·rcases b with h | ⟨k,r,rfl,hk⟩
  ·exact .inl ⟨_,.inl ⟨.inr rfl,h,rfl⟩⟩
  ·rcases hd with⟨_,m,c,rfl⟩ | ⟨_,_,hi⟩
   ·exact .inr ⟨_,_,_,.inr (.inr ⟨rfl,k,r,m,rfl,rfl,c,hk,rfl,rfl,rfl⟩)⟩
   ·exact .inl ⟨_,.inr ⟨.inr ⟨rfl,k,r,rfl,hk⟩,hi,rfl⟩⟩
def G6.fol{fs an ks bo}{f a:Nat}{w j:Int}{dr x}(h:G6 fs an ks f w j dr bo a x):((a:Nat):Int)=((f:Nat):Int)+(if decide (w=0)=true then 1 else 0):=by
 rcases h with⟨rfl,_,_,_,_,_,_,rfl,_⟩ | ⟨rfl,_,_,_,_,_,rfl,_⟩ | ⟨rfl,_,_,_,_,_,_,_,_,rfl,_⟩
 ·exact Int.natCast_succ _
 ·exact(aMz _).symm
 ·exact(aMz _).symm
def G6.thx{fs an}(F:iB fs an){ks b:List (Nat×Rw)}{f c:Nat}{w j:Int}{dr x}(h:G6 fs an ks f w j dr b c x)(hok:iQ fs an (ks.map (·.2)))(d:f<=1000):Th 92 2 x:=by
 have a:∀{k:Nat}{r:Rw},rK k ks=some r->Th 92 2 (dA r):=λhk=>KM F (hok _ (bC.mpr ⟨_,xJ hk,rfl⟩));rcases h with⟨rfl,_,_,_,_,_,_,_,rfl⟩ | ⟨rfl,_,_,_,hk,_,_,rfl⟩ | ⟨rfl,_,_,_,_,_,_,hk,_,_,rfl⟩
 ·exact(RY (by lia) (m:=0)).mono (by decide) (by decide)
 ·exact a hk
 ·exact a hk
def C7.cd{fs an}(F:iB fs an){dr}{rt:Bool}(h:C7 fs an dr rt):Cd dr/\(rt=true->pB fs an dr=true)/\(rt=false->pB fs an dr=false):=by
 rcases h with⟨rfl,r,a,rfl⟩ | ⟨rfl,b,hi⟩
 ·exact⟨LZ F a,λ_=>tV a,λz=>by cases z⟩
 ·exact⟨b,(λz=>by cases z),λ_=>hi⟩
def WS.ne{fs an ks}{w j:Int}{dr}{z:Str}(h:WS fs an ks w j dr z):z="such"\/z="row":=by
 rcases h with⟨_,_,rfl⟩ | ⟨_,_,rfl⟩
 ·exact .inl rfl
 ·exact .inr rfl
def D3{F:sX}{c:TZ F}{t u τ DC n σ}(h:∀q:F.S->Bool->Prop,q n false->c τ n σ q)(k:u τ DC n σ):vK (zIf c t MI) u τ DC n σ:=KD false h (λz=>by cases z) λ_=>k
def aGx{F:sX}{c:TZ F}{t e u τ DC n σ}(h:∀q:F.S->Bool->Prop,q n true->c τ n σ q)(k:t τ { DC with nx:=u τ DC } n σ):vK (zIf c t e) u τ DC n σ:=KD true h (λ_=>k) λz=>by cases z
def oQ{c:vD}{t u DT σ}(h:∀q:Bool->Prop,(∀b,b=false->q b)->c σ q)(k:u DT σ):hZ (YT c t mY) u DT σ:=lN _ h (λz=>by cases z) λ_=>k
def nI{c:vD}{t e u DT σ}(h:∀q:Bool->Prop,(∀b,b=true->q b)->c σ q)(k:t { DT with nx:=u DT } σ):hZ (YT c t e) u DT σ:=lN _ h (λ_=>k) λz=>by cases z
def F6{c:vD}{t e DT σ}(h:∀q:Bool->Prop,(∀b,b=true->q b)->c σ q)(k:t DT σ):YT c t e DT σ:=pN _ h (λ_=>k) λz=>by cases z
set_option maxHeartbeats 4000000
open PySem L2 TL
local macro_rules | `(tactic| walk_at "rd")=>`(tactic| simp only[QI,MA,hZ,KQ,YS,aEb,SH,zX,YT,aEa,mY,rN,eC,P1,aL5,aF0,aF2,pO,eSl,IN,IM,aL8,eOr,GK,V2,G2,sS,JR,aMf,aMg,cOr,gP,fI,fI0,fB0,VU,aFq,fEq,fNe,eqF,aFr,fIx,fSl,fIn,aFp,f1,f2,aFl,LP,aCu,aFm,aO5,aCt,aLt,aCv,aCs,iH,bR,jI,dY,DG,XG,DF,dW,List.getElem?_cons_zero,J2,List.set_cons_zero,List.set_cons_succ,Option.some.injEq,Sl.val.injEq,Sl.own.injEq,exists_eq_left',exists_eq_left,aW.injEq,J8.injEq,aS.injEq,fA.injEq,mD.injEq,and_true,true_and,fC,v9,x8,aGn,Bool.not_false,↓reduceIte,Nat.reduceAdd,Nat.reduceSub,Nat.reduceLeDiff,Int.reduceNeg,reduceCtorEq])
def aJ2:bW ["field"] ["field"] (bB (top 10)):=nM
def aJ4:bW ["form","thing","fields"] ["form","thing"] (bB (top 8)):=nM
def aJ3:bW ["form","thing"] ["form","thing"] (bB (top 9)):=nM
def aJg:bW ["tree"] ["tree"] (bB (top 38)):=nM
def aJf:bW ["one","other","on_yes","on_no"] ["one","other"] (bB (top 42)):=nM
def aOj:bW ["thing","fewest","most"] ["thing","fewest","most"] (bB (top 6)):=nM
def aJn:bW ["question","field"] ["question","field"] (bB (top 28)):=nM
def aJp:bW ["form","question"] ["form","question"] (bB (top 26)):=nM
def aJo:bW ["question","stray","field"] ["question","stray","field"] (bB (top 27)):=nM
def aJq:bW ["form","question","stray","case","number"] ["form","question","stray","case"] (bB (top 25)):=nM
def aJl:bW ["side","sides"] ["side","sides"] (bB (top 30)):=nM
def aJm:bW ["form","question","stray","rows","sides"] ["form","question","stray","rows"] (bB (top 29)):=nM
def aJ1:bW ["form","rows","told"] ["form","rows"] (bB (top 12)):=nM
def aJ0:bW ["form","rows","counts"] ["form","rows"] (bB (top 13)):=nM
def aJx:bW ["one","other","rest"] ["one","other"] (bB (top 16)):=nM
def aJy:bW ["top","bottom","shared"] ["top","bottom"] (bB (top 15)):=nM
def aJz:bW ["form","rows","many"] ["form","rows"] (bB (top 14)):=nM
def aJj:bW ["rows","numbers"] ["rows","numbers"] (bB (top 34)):=nM
def aJs:bW ["field","name","values","told_by_is","told_by_upto"] ["field"] (bB (top 23)):=nM
def aJt:bW ["form","questions","field"] ["form"] (bB (top 22)):=nM
def aJr:bW ["form","choices","question"] ["form"] (bB (top 24)):=nM
def aJk:bW ["sides","fewest"] ["sides","fewest"] (bB (top 31)):=nM
def aJw:bW ["one","other"] ["one","other"] (bB (top 17)):=nM
def aJu:bW ["fractions","common","found"] ["fractions"] (bB (top 19)):=nM
def aBq:bW ["form","rows","least","told","question","stray","sides","doubts","bottom"] ["form","rows","least"] (bB (top 33)):=nM
def aJv:bW ["one","other"] ["one","other"] (bB (top 18)):=nM
def aJi:bW ["form","rows","least","told"] ["form","rows","least"] (bB (top 35)):=nM
def aJh:bW ["form","rows","deep","least","found","sides","parts"] ["form","rows","deep","least"] (bB (top 36)):=nM
def aJb:bW ["self"] ["self"] (bB (lP (top 41) 4)):=nM
def aOk:bW ["self"] ["self"] (bB (lP (top 41) 5)):=nM
def aD8:bW ["self","number"] ["self","number"] (bB (lP (top 41) 7)):=nM
def aD9:bW ["self","thing"] ["self","thing"] (bB (lP (top 41) 6)):=nM
def aIt:bW ["self","stood"] ["self"] (bB (lP (top 41) 8)):=nM
def YO:bW ["self","row","number"] ["self","row"] (bB (lP (top 41) 1)):=nM
def YN:bW ["self","number","row"] ["self","number"] (bB (lP (top 41) 2)):=nM
def YM:bW ["self","number","row","stood"] ["self","number","row"] (bB (lP (top 41) 3)):=nM
def aJ5:bW ["self","form","deep","least"] ["self","form","deep","least"] (bB (lP (top 41) 0)):=nM
def aJe:bW ["_law_cell","_law_k","_law_turn"] ["_law_cell","_law_k"] (bB (top 44)):=nM
def aJd:bW ["_law_script","_law_k","_law_seed"] ["_law_script","_law_k"] (bB (top 45)):=nM
def aJc:bW ["_law_cell","_law_many","_law_found","_law_left","_law_k"] ["_law_cell","_law_many"] (bB (top 46)):=nM
def aJa:bW ["_law_drawn_here","_law_at","_law_many","_law_letters","_law_word","_law_turn","_law_names_here","_law_place","_law_k","_law_sign"] ["_law_drawn_here","_law_at","_law_many"] (bB (top 47)):=nM
def aI9:bW ["_law_script","_law_drawn_here","_law_names_here","_law_fields","_law_k","_law_bits"] ["_law_script"] (bB (top 48)):=nM
def aI8:bW ["_law_form_here","_law_bits","_law_case_here","_law_k","_law_values"] ["_law_form_here","_law_bits"] (bB (top 49)):=nM
def aI7:bW ["_law_form_here","_law_bits","_law_case_here","_law_number","_law_k"] ["_law_form_here","_law_bits"] (bB (top 50)):=nM
def aI6:bW ["_law_form_here","_law_question","_law_stray","_law_case_here","_law_kind","_law_name","_law_value","_law_k","_law_values"] ["_law_form_here","_law_question","_law_stray","_law_case_here"] (bB (top 51)):=nM
def aI5:bW ["_law_form_here","_law_found","_law_name","_law_values","_law_value","_law_k"] ["_law_form_here"] (bB (top 52)):=nM
def aI2:bW ["_law_form_here","_law_question","_law_stray","_law_rows","_law_ones","_law_others","_law_row_here"] ["_law_form_here","_law_question","_law_stray","_law_rows"] (bB (top 55)):=nM
def aI3:bW ["_law_form_here","_law_rows","_law_pairs","_law_answer","_law_many"] ["_law_form_here","_law_rows"] (bB (top 54)):=nM
def aI4:bW ["_law_form_here","_law_rows","_law_counts"] ["_law_form_here","_law_rows"] (bB (top 53)):=nM
def aI1:bW ["_law_form_here","_law_rows","_law_few","_law_top_here","_law_question","_law_stray","_law_ones","_law_others","_law_one","_law_other","_law_both","_law_now"] ["_law_form_here","_law_rows","_law_few"] (bB (top 56)):=nM
def aI0:bW ["_law_form_here","_law_rows","_law_deep","_law_few","_law_top_here","_law_ones","_law_others","_law_yes"] ["_law_form_here","_law_rows","_law_deep","_law_few"] (bB (top 57)):=nM
def aIz:bW ["_law_one","_law_other","_law_place","_law_found"] ["_law_one","_law_other","_law_place"] (bB (top 58)):=nM
def aIv:bW ["_law_rows"] ["_law_rows"] (bB (top 63)):=nM
def aIx:bW ["_law_rows","_law_given","_law_way","_law_number","_law_row_here","_law_right","_law_behind","_law_gone"] ["_law_rows","_law_given","_law_way","_law_number","_law_row_here","_law_right"] (bB (top 61)):=nM
def aIy:bW ["_law_form_here","_law_more","_law_given","_law_row_here","_law_right","_law_number"] ["_law_form_here","_law_more","_law_given"] (bB (top 59)):=nM
def SF:bW ["_law_book","_law_way","_law_number","_law_row_here","_law_told","_law_caught","e"] ["_law_book","_law_way","_law_number","_law_row_here"] (bB (top 60)):=nM
def aIw:bW ["_law_book","_law_script","_law_form_here","_law_many","_law_rows","_law_number"] ["_law_book","_law_script","_law_form_here","_law_many"] (bB (top 62)):=nM
def aIu:bW ["_law_book","_law_rows","_law_tree","_law_told"] ["_law_book","_law_rows","_law_tree"] (bB (top 64)):=nM
def aD7:bW ["_law_script","_law_form_here","_law_bits","_law_wide","_law_deep","_law_few","_law_book","_law_rows","_law_given","_law_tree","_law_k","_law_more","_law_way","_law_number","_law_row_here","_law_right","_law_told","_law_caught","_law_behind","_law_first_here","_law_refused","_law_fresh"] ["_law_script"] (bB (top 65)):=nM
section
variable{P:dD}{w:j0}{K:aI}{mg:Str->Option Value}{base:Heap}{o8 z6 i5 f8:Addr}{Ft Ek El Em Fu Fv En Eo Fw Hy xg xh xi xj xl xm xn xo xp xq xt xu xw xx xy xz ya yb yc yd ye yf yg yh oj yi om yj yk yl ym yn yo yp yq yr yt yu yw yx on oo yy rh yz uq za oq mh:Addr}{Ic Gc Gd Ge Ie Ig Gf Gg Ih Ii zh zi zj zk zl zm zo zp zr zt zu zv zw zx zy gV Aa Ab Ac Ad Ae ux Af Ag oy Ah ph Ai Aj Ak Al Am An Ao Ap Aq As Au Av Aw pj pq Ax sj Ay uy Az qb jv:iK}{e9:Addr}{t_SIDES:Addr}{ck:Tok}(T:Txt K mg o8 z6 i5 f8 Ft Ek El Em Fu Fv En Eo Fw Hy xg xh xi xj xl xm xn xo xp xq xt xu xw xx xy xz ya yb yc yd ye yf yg yh oj yi om yj yk yl ym yn yo yp yq yr yt yu yw yx on oo yy rh yz uq za oq mh Ic Gc Gd Ge Ie Ig Gf Gg Ih Ii zh zi zj zk zl zm zo zp zr zt zu zv zw zx zy gV Aa Ab Ac Ad Ae ux Af Ag oy Ah ph Ai Aj Ak Al Am An Ao Ap Aq As Au Av Aw pj pq Ax sj Ay uy Az qb jv e9 t_SIDES ck)
include T
def aLb:dP P w K mg base iL 1 xi zj ["field"] (dB K aIq):=by
 refine rS T.D_12.F aJ2 λb nd ds Q h=>?_;obtain⟨f,rfl,a,h⟩:=h;refine⟨_,(bS (dS (cA dE iP (bJ aU cD (aH 0) aK) (eR (aA kQ aM))))),?_⟩;show zX _ _ [.val (lW f)];refine⟨_,rfl,_,rfl,aC rfl,?_,h⟩;rw[aB];simp only[dY,DG];lia
def aKl:dP P w K mg base iL 1 Hy Ii ["thing","fewest","most"] (dB K aN7):=by
 refine rS T.D_9.F aOj λb nd ds Q h=>?_;obtain⟨d,lo,hi,rfl,a,h⟩:=h;refine⟨_,(bS (dS (LV (aFy (PL _) (aH 0) (λh=>kN WE rfl T.b_isinstance mM (fP h (fP (Y7 rfl T.b_tuple xR rfl) jX)))) (LU (VY TW TW rH rH (aH 1) (cB iX (aA (aH 0) aM) cG T.b_len fQ) (aH 2)))))),?_⟩;show zX _ _ [.val d,.val (.int lo),.val (.int hi)];refine⟨_,rfl,?_⟩
 cases d with
 |tuple ts=>
  show(if true=true then _ else Q (.bool false));rw[b8 rfl];refine⟨_,rfl,_,rfl,?_⟩;show(if decide (lo<=(ts.length:Int))=true then _ else Q (.bool false));have e:vP (.tuple ts) lo hi=(decide (lo<=(ts.length:Int))&&decide ((ts.length:Int)<=hi)):=rfl;rw[e]at h
  cases hb:decide (lo<=(ts.length:Int))with
  |true=>
   rw[hb]at h;rw[b8 rfl];exact⟨_,rfl,h⟩
  |false=>
   rw[hb]at h;rw[a8 (by decide)];exact h
 |dict kvs=>cases a
 |_=>exact h
def aLc:dP P w K mg base iL 2 xg zh ["form","thing"] (dB K aIs):=by
 refine rS T.D_10.F aJ4 λi nd ds Q h=>?_;obtain⟨fs,an,d,rfl,F,hd,h⟩:=h;refine⟨_,(bD (ss 2 nd (bJ aU cD (aH 0) aK))
 (bD (iO (xY (tv (cd (aKl T) T.D_9 i (aA (aH 1) (aA (cB iX (aA (aH 2) aM) cG T.b_len fQ) (aA (cB iX (aA (aH 2) aM) cG T.b_len fQ) aM))))))
 (bS (dS tY))
 fW)
 (bS (dS (cB aMe (aA (el (fr:=[none,none]) (N':=["field","value"]) (aFf (aA (aH 2) (aA (aH 1) aM)) (λh=>aEm rfl T.b_zip h)) (λb=>⟨(qC (nY rfl (eD (pk 0) (eD (pk 1) mF)))),jY,(nN (K5 i) T6 (aH 1) (cd (aLb T) T.D_12 i (aA (aH 0) aM)))⟩)) aM) (GW rfl) T.b_all aGa))))),?_⟩
 show hZ _ _ _ [.val (eZ fs an),.val d,.un];have l:(fs.map lW).length=fs.length:=aB ..
 have m:vP d ((fs.map lW).length:Int) ((fs.map lW).length:Int)=false->iV fs d=false:=λe=>by
  cases d with
  |tuple ts=>
   have:¬ts.length=fs.length:=λz=>by
    simp only[vP,l,z,pI,du,Bool.and_true]at e;cases e
   simp only[iV,c9 this,FP]
  |_=>rfl
 refine cK (.tuple (fs.map lW)) (λq c=>⟨_,rfl,_,rfl,c⟩) ?_;refine lN (λb=>b=!vP d ((fs.map lW).length:Int) ((fs.map lW).length:Int)) (λq c=>⟨_,rfl,_,rfl,_,rfl,d,_,_,rfl,nZ hd.1,c _ rfl⟩) (λg=>?_) λr=>?_
 ·have:=m (by simpa using g.symm);rw[this]at h;exact h
 ·try unfold mY
  dsimp only;have g:vP d ((fs.map lW).length:Int) ((fs.map lW).length:Int)=true:=by simpa using r.symm
  cases d with
  |tuple ts=>
   have t:ts.length=fs.length:=by
    simp only[vP,l,dG,f9]at g;lia
   show pO (f1 aFm) _ _ Q;dsimp only[pO,sS,G2];have n5:=F.n5;refine ZP (ts:=zW (fs.map lW) ts) (λR h=>⟨_,rfl,_,rfl,_,_,rfl,h⟩) (λx=>.bool (okD x)) (by rw[wR];lia) (λx s=>?_) (λa b q hm c=>?_) ?_
   ·obtain⟨k,hk⟩:=cT s;obtain⟨a,b,_,_,rfl⟩:=HK hk;exact⟨a,b,rfl⟩
   ·obtain⟨k,hk⟩:=cT hm;obtain⟨u,v,n,o,e⟩:=HK hk;cases e;obtain⟨f,j,rfl⟩:=bC.mp (bH n);exact⟨_,rfl,_,rfl,f,rfl,(F.vs f j).2.1,CM (B3 (F.vals j) (hd.item (bH o))) c⟩
   ·refine⟨(zW (fs.map lW) ts).map okD,by rw[bN];rfl,?_⟩;rw[ZF]
    have e:iV fs (.tuple ts)=(fs.zip ts).all λp=>Q2 p.1 p.2:=by
     simp only[iV,c6 t,xW]
    rw[e]at h;exact h
  |_=>exact c7 g (by simp[vP])
def M8:dP P w K mg base iL 3 xh zi ["form","thing"] (dB K aIr):=by
 refine rS T.D_11.F aJ3 λg nd ds Q h=>?_;obtain⟨fs,an,d,rfl,F,hd,h⟩:=h;refine⟨_,(bD (iO (xY (tv (cd (aKl T) T.D_9 g (aA (aH 1) (aA aK (aA aK aM))))))
 (bS (dS tY))
 fW)
 (bS (dS (LV (cd (aLc T) T.D_10 g (aA (aH 0) (aA (bJ aU cD (aH 1) aK) aM))) (LU (nN (K5 g) T6 (bJ aU cD (aH 1) aK) (bJ aU cD (aH 0) aK))))))),?_⟩
 show hZ _ _ _ [.val (eZ fs an),.val d];rcases aDk d with⟨c,a,rfl⟩ | ⟨e,b⟩
 ·refine oQ (λq f=>⟨_,rfl,_,_,_,rfl,nZ hd.1,f _ rfl⟩) ?_;refine⟨_,rfl,_,rfl,_,rfl,fs,an,c,rfl,F,hd.item (by simp),?_⟩;show(if iV fs c=true then _ else _);have e:pB fs an (.tuple [c,a])=(iV fs c&&vQ an a):=rfl;rw[e]at h
  cases i:iV fs c with
  |true=>
   rw[b8 rfl];rw[i]at h;refine⟨_,rfl,_,rfl,_,rfl,_,rfl,CM (M7 F.an.2.1 (hd.item (by simp))) ?_⟩;show Q (.bool ((an.map aS).any λz=>bX z a));rw[C4];exact h
  |false=>
   rw[a8 (by decide)];rw[i]at h;exact h
 ·refine nI (λq f=>⟨_,rfl,d,_,_,rfl,nZ hd.1,f _ (by rw[e];rfl)⟩) ?_
  have:pB fs an d=false:=by
   unfold aCo at b;unfold pB;split at b
   ·cases b
   ·rfl
  rw[this]at h;exact h
def aB9:dP P w K mg base iL 1 yi Ah ["tree"] (dB K aH6):=by
 refine rS T.D_35.F aJg λb nd ds Q h=>?_;obtain⟨t,rfl,h⟩:=h;refine⟨_,(bS (dS (nN jF mL (bJ aU cD (aH 0) aK) eA))),?_⟩
 cases t with
 |say a=>exact⟨_,rfl,_,rfl,h⟩
 |ask k n v s y m=>exact⟨_,rfl,_,rfl,h⟩
def X6(dd:Nat)
  (G:dP P w K mg base iL (2+dd) om ph ["one","other"] (iS K (tI dd))):dP P w K mg base iL (2+dd+1) om ph ["one","other"] (iS K (tI (dd+1))):=by
 refine fnF T.D_36.F aJf λf nd ds Q h=>?_;obtain⟨fs,an,t,u,rfl,F,r,A,W,O,S,h⟩:=h;refine⟨_,(bD (iO (vM (D9 (tv (cd (hk:=by lia) (aB9 T) T.D_35 f (aA (aH 0) aM))) (D9 (tv (cd (hk:=by lia) (aB9 T) T.D_35 f (aA (aH 1) aM))) (FR (dZ (BZ f) yF (jU nH xC (aH 0) mS (kH aK)) (jU nH xC (aH 1) mS (kH aK)))))))
 (bS (uN (aLv (dZ (aEx f) yF (aH 0) (aH 1)) (VJ aM) (VJ (aA (eR aM) aM)))))
 fW)
 (bD (rD (i:=2) (fr:=[none]) (N':=["place"]) (gU (zG (cF (hk:=by lia) G T.D_36 f (aA (bJ aU cD (aH 0) aK) (aA (bJ aU cD (aH 1) aK) aM))))) (λb=>⟨(eB (pk 0)),jY,(cA dE iP (eR (aA eA aM)) (aH 0))⟩) (λhi C=>pJ (show sR _ (bB (top 42)) ["one","other","on_yes","on_no"] ["place"] [none]=true from by decide +kernel) nd rfl (by first | exact y9 rfl | exact v8 rfl) rfl hi C rfl))
 (bD (rD (i:=3) (fr:=[none]) (N':=["place"]) (gU (zG (cF (hk:=by lia) G T.D_36 f (aA (bJ aU cD (aH 0) aK) (aA (bJ aU cD (aH 1) aK) aM))))) (λb=>⟨(eB (pk 0)),jY,(cA dE iP (eR (aA eA aM)) (aH 0))⟩) (λhi C=>pJ (show sR _ (bB (top 42)) ["one","other","on_yes","on_no"] ["place"] [none]=true from by decide +kernel) nd rfl (by first | exact y9 rfl | exact v8 rfl) rfl hi C rfl))
 (bS (uN (VL (aH 2) (aH 3))))))),?_⟩
 show hZ _ _ _ [.val (mK t),.val (mK u),.un,.un];refine lN (λb=>b=!NQ t u) (λq c=>?_) (λI=>?_) λB=>?_
 ·refine⟨_,rfl,t,rfl,?_⟩;show(if U6 t=true then q true else _)
  cases t with
  |say a=>exact(b8 rfl).mpr (c _ rfl)
  |ask k n v s y m=>
   refine(a8 (λz=>by cases z)).mpr ?_;refine⟨_,rfl,u,rfl,?_⟩;show(if U6 u=true then q true else _)
   cases u with
   |say b=>exact(b8 rfl).mpr (c _ rfl)
   |ask j n' l s' d m'=>
    refine(a8 (λz=>by cases z)).mpr ?_;refine⟨_,rfl,_,rfl,M9 (N2 F r) (N2 F A),?_⟩;show q (!bX (.tuple [.str "ask",.tuple [.str k,.str n,.str v],.str s]) (.tuple [.str "ask",.tuple [.str j,.str n',.str l],.str s']));rw[V0];exact c _ rfl
 ·have E:NQ t u=false:=by
   cases g:NQ t u with
   |false=>rfl
   |true=>rw[g]at I;cases I
  obtain⟨c1,M⟩:=aF6 E;refine⟨_,rfl,_,rfl,M9 (aC2 F r (by lia)) (aC2 F A (by lia)),?_⟩;show(if bX (mK t) (mK u)=true then _ else _);by_cases e:t=u
  ·rw[b8 ((GI t u).mpr e)];rw[c1 e]at h;exact⟨(aC rfl),h⟩
  ·rw[a8 (λz=>e ((GI t u).mp z))];rw[M e]at h;exact⟨(aC rfl),(aC rfl),h⟩
 ·unfold mY;dsimp only
  cases t with
  |say a=>cases B
  |ask k n v s y m=>
   cases u with
   |say b=>cases B
   |ask j n' l s' d m'=>
    have H:false=!decide (k=j/\n=n'/\v=l/\s=s'):=B
    have E:k=j/\n=n'/\v=l/\s=s':=by
     by_cases e:k=j/\n=n'/\v=l/\s=s'
     ·exact e
     ·rw[c9 e]at H;cases H
    obtain⟨rfl,rfl,rfl,rfl⟩:=E;obtain⟨_,_,N,hm⟩:=r;obtain⟨_,_,J,L⟩:=A;have X:(Tr.ask k n v s y m).dep=max y.dep m.dep+1:=rfl;have U:(Tr.ask k n v s d m').dep=max d.dep m'.dep+1:=rfl;rw[aAr,bQ]at h;have Y:=qF y d;have Z:=qF m m';have n1:=tU (t:=y) (by lia);have n2:=tU (t:=m) (by lia);have one:∀(w:Str)(p:List Str)(q:D->Prop),p.length<=12->q (jP (w::p))->VU (.tuple [.str w]) (jP p) q:=λw p q o c=>⟨by rw[aB];show 1+_<=_;lia,c⟩;refine cK (.list (((AB y d).map plY).map jP)) (λq c=>?_) ?_
    ·refine lA (ts:=(AB y d).map jP) (λR h=>⟨_,rfl,_,rfl,_,rfl,_,rfl,fs,an,y,d,rfl,F,N,J,by lia,by lia,by lia,_,rfl,h⟩) (λx=>match x with | .tuple ts=>.tuple (.str "yes"::ts) | _=>x) (by rw[aB];lia) (λx q g c=>?_) ?_
     ·obtain⟨p,o,rfl⟩:=bC.mp g;have:=uY y d p o;exact⟨(aC rfl),_,rfl,one "yes" p q (by lia) c⟩
     ·rw[bN];rw[bN]at c;exact c
    refine cK (.list (((AB m m').map plN).map jP)) (λq c=>?_) ?_
    ·refine lA (ts:=(AB m m').map jP) (λR h=>⟨_,rfl,_,rfl,_,rfl,_,rfl,fs,an,m,m',rfl,F,hm,L,by lia,by lia,by lia,_,rfl,h⟩) (λx=>match x with | .tuple ts=>.tuple (.str "no"::ts) | _=>x) (by rw[aB];lia) (λx q g c=>?_) ?_
     ·obtain⟨p,o,rfl⟩:=bC.mp g;have:=uY m m' p o;exact⟨(aC rfl),_,rfl,one "no" p q (by lia) c⟩
     ·rw[bN];rw[bN]at c;exact c
    exact⟨_,rfl,_,rfl,_,_,rfl,rfl,by simp only[aB];lia,h⟩
def aB8:dP P w K mg base iL 15 om ph ["one","other"] (iS K aH5):=by
 have h:∀dd:Nat,dP P w K mg base iL (2+dd) om ph ["one","other"] (iS K (tI dd)):=λdd=>by
  induction dd with
  |zero=>exact aAb PY λds Q h=>UF h
  |succ dd a=>exact X6 T dd a
 exact h 13
def aK0:dP P w K mg base iL 1 yb Ab ["question","field"] (dB K aIe):=by
 refine rS T.D_27.F aJn λg nd ds Q h=>?_;obtain⟨k,n,v,f,rfl,hn,i,j,h⟩:=h;refine⟨_,(bD (iO (dZ jF mL (bJ aU cD (aH 0) aK) eA)
 (bS (dS (eR (aA (bJ aU cD (aH 0) aK) aM))))
 fW)
 (bS (dS (jU nH xC (bJ aU cD (aH 1) aK) mS (kH (cA dE iP (xN (bJ aU cD (aH 1) aK) (aA (bJ aU cD (aH 0) aK) aM) (λh ha=>lF mQ mP mO (xD g) h ha)) aK)))))),?_⟩
 show hZ _ _ _ [.val (.tuple [.str k,.str n,.str v]),.val (lW f)];unfold CI at h;refine lN (λb=>b=decide (k="is")) (λq d=>⟨_,rfl,_,rfl,d _ rfl⟩) (λc=>?_) λa=>?_
 ·rw[b8 (c8 c.symm)]at h;exact⟨_,rfl,_,rfl,aC rfl,h⟩
 ·try unfold mY
  dsimp only;rw[a8 (t7 a.symm)]at h;refine⟨_,rfl,_,rfl,_,rfl,_,rfl,_,rfl,_,rfl,_,rfl,_,_,rfl,uR hn i,?_⟩;show Q (.tuple (mW (f.2.map aS) none (some ((f.2.idxOf v:Int)+1))));have e:((f.2.idxOf v:Nat):Int)+1=((f.2.idxOf v+1:Nat):Int):=rfl;rw[e,pG,qQ];exact h
def aK2:dP P w K mg base iL 1 xz gV ["form","question"] (dB K aIg):=by
 refine rS T.D_25.F aJp λm nd ds Q h=>?_;obtain⟨fs,an,k,n,v,i,j,rfl,F,a,c,h⟩:=h;refine⟨_,(bS (dS (E4 (el (fr:=[none]) (N':=["field"]) (gU (bJ aU cD (aH 0) aK)) (λb=>⟨(eB (pk 0)),jY,(bJ aU cD (aH 0) aK)⟩)) (aA (bJ aU cD (aH 1) aK) aM) (λh ha=>lF bY FI FH (ES m) h ha)))),?_⟩;have n5:=F.n5;have r:=(aF.mp a).1;have g:(fs.map (·.1)).idxOf n=j:=by rw[<- c];exact NG F a
 have d:n∈fs.map (·.1):=bC.mpr ⟨i,bH a,c⟩;show GJ _ _ _ Q;dsimp only[GJ];refine lA (ts:=fs.map lW) (λR h=>⟨_,rfl,_,rfl,_,rfl,h⟩) fst (by rw[aB];lia) (λx q o l=>?_) ?_
 ·obtain⟨f,p,rfl⟩:=bC.mp o;exact⟨_,rfl,_,rfl,l⟩
 ·have e:(fs.map lW).map fst=(fs.map (·.1)).map aS:=by rw[bN,bN];rfl
  rw[e];have:=uR F.nd.2.1 d;rw[g]at this;exact⟨_,rfl,_,rfl,_,rfl,_,j,rfl,this,by lia,h⟩
def aK1:dP P w K mg base iL 2 ya Aa ["question","stray","field"] (dB K aIf):=by
 refine rS T.D_26.F aJo λb nd ds Q h=>?_;obtain⟨k,n,v,st,f,rfl,hn,c,a,h⟩:=h;refine⟨_,(bS (dS (cA dE iP (cd (aK0 T) T.D_27 b (aA (aH 0) (aA (aH 2) aM))) (NU (dZ jF mL (aH 1) eA) (eR (aA kQ aM)) (eR aM))))),?_⟩;have d:=VE (k:=k) (v:=v) a;refine⟨_,rfl,_,rfl,k,n,v,f,rfl,hn,c,a,_,rfl,?_⟩;unfold vN at h;show(if decide (st="yes")=true then _ else _);by_cases e:st="yes"
 ·rw[b8 (c6 e)];rw[b8 e]at h;exact⟨aC rfl,by rw[aB];show _+1<=_;lia,h⟩
 ·rw[a8 (by simpa using e)];rw[a8 e]at h;exact⟨aC rfl,by rw[aB];show _+0<=_;lia,h⟩
def aK3:dP P w K mg base iL 3 xy zy ["form","question","stray","case"] (dB K aBn):=by
 refine rS T.D_24.F aJq λg nd ds Q h=>?_;obtain⟨fs,an,k,n,v,st,cs,rfl,F,f,s,u,h⟩:=h;refine⟨_,(bD (ss 4 nd (cd (aK2 T) T.D_25 g (aA (aH 0) (aA (aH 1) aM))))
 (bS (dS (NU (dZ (K5 g) T6 (bJ aU cD (aH 3) (aH 4)) (cd (aK1 T) T.D_26 g (aA (aH 1) (aA (aH 2) (aA (bJ aU cD (bJ aU cD (aH 0) aK) (aH 4)) aM))))) eA eA)))),?_⟩
 show hZ _ _ _ [.val (eZ fs an),.val (.tuple [.str k,.str n,.str v]),.val (.str st),.val (.tuple cs),.un];obtain⟨A,o⟩:=nO u;obtain⟨a,b,l,i,y⟩:=A3 f;obtain⟨j,d⟩:=cT b;have B:=(aF.mp d).1;have e:cs[j]?=some cs[j]:=aD (by lia)
 generalize x:cs[j]=c at e
 have p:L2.atI cs (j:Int)=some c:=L2.gH e;have r:L2.atI (fs.map lW) (j:Int)=some (lW a):=L2.gH (by rw[aL,d];rfl);have hok:=o j a c d e;rw[BM F d e l]at h
 have t:Cd c:=by
  cases c with
  |none=>exact(AS (n:=8) (m:=0)).cd (by decide)
  |str z=>exact(jB (F.vals b z (c8 hok)) (n:=8) (m:=0) (aN _)).cd (by decide)
  |_=>cases hok
 refine cK (.int (j:Int)) (λq f=>⟨_,rfl,_,rfl,fs,an,k,n,v,a,j,rfl,F,d,l,f⟩) ?_;refine⟨_,rfl,_,rfl,_,p,_,rfl,_,rfl,_,rfl,_,rfl,_,rfl,_,r,k,n,v,st,a,rfl,F.vals b,i,(F.vs a b).2.1,CM (TY (F.vals b) i t) ?_⟩;rw[<- VA s hok]at h;show(if PR c (.tuple (vN k v st a))=true then _ else _)
 cases hb:PR c (.tuple (vN k v st a))with
 |true=>rw[b8 rfl];rw[hb,b8 rfl]at h;exact h
 |false=>rw[a8 (by decide)];rw[hb,a8 (by decide)]at h;exact h
def aCb:dP P w K mg base iL 1 yd Ad ["side","sides"] (iS K aIc):=by
 refine fnF T.D_29.F aJl λg nd ds Q h=>?_;obtain⟨w,ss,rfl,f,h⟩:=h;refine⟨_,(bS (uN (fl (fr:=[none,none,some 0]) (N':=["number","found","side"]) (ZX (aA (aH 1) aM) (λh=>Y5 rfl T.b_enumerate h)) (λb=>⟨(qC (nY rfl (eD (pk 0) (eD (pk 1) mF)))),(GE (dZ jF mL (aH 1) (aH 2))),(aH 0)⟩)))),?_⟩;rw[<- JJ]at h;refine VT (UT (ts:=zH (ss.map aS)) (λR h=>⟨_,rfl,_,rfl,h⟩) (onW w) aFn (by rw[rM,aB];lia) (λx d=>?_) (λa b q hm c=>?_) (λa b q hm c=>?_) h)
 ·rw[E5]at d;obtain⟨y,_,rfl⟩:=bC.mp d;exact⟨_,_,rfl⟩
 ·obtain⟨i,hi⟩:=cT hm;have e:=(aF.mp hi).1;rw[rM,aB]at e;rw[yK (a:=.str ss[i]) (by rw[aL,aD e];rfl)]at hi;cases hi;exact⟨_,rfl,_,rfl,c⟩
 ·exact⟨_,rfl,c⟩
def aCc:dP P w K mg base iL 4 yc Ac ["form","question","stray","rows"] (uS K aId):=by
 refine fnP T.D_28.F aJm λa nd ds Q h=>?_;obtain⟨fs,an,k,n,v,st,c,rfl,F,l,g,hok,f,h⟩:=h;refine⟨_,(bD (rD (i:=4) (fr:=[none,some 0,some 1,some 2]) (N':=["row","form","question","stray"]) (gU (aH 3)) (λb=>⟨(eB (pk 0)),jY,(cd (aK3 T) T.D_24 a (aA (aH 1) (aA (aH 2) (aA (aH 3) (aA (bJ aU cD (aH 0) aK) aM)))))⟩) (λhi j=>pJ (show sR _ (bB (top 29)) ["form","question","stray","rows","sides"] ["row","form","question","stray"] [none,some 0,some 1,some 2]=true from by decide +kernel) nd rfl (by first | exact y9 rfl | exact v8 rfl) rfl hi j rfl))
 (bS (HU (cF (aCb T) T.D_29 a (aA eA (aA (aH 4) aM))) (cF (aCb T) T.D_29 a (aA eA (aA (aH 4) aM)))))),?_⟩
 show hZ _ _ _ [.val (eZ fs an),.val (.tuple [.str k,.str n,.str v]),.val (.str st),.val (.list (c.map dA)),.un];have e:(c.map dA).map (sdD fs k n v st)=(c.map λr=>kM fs k n v st r.1).map aS:=by rw[bN,bN];rfl
 refine cK (.list ((c.map λr=>kM fs k n v st r.1).map aS)) (λq d=>?_) ?_
 ·refine lA (ts:=c.map dA) (λR h=>⟨_,rfl,_,rfl,h⟩) (sdD fs k n v st) (by rw[aB];lia) (λx q m d=>?_) ?_
  ·obtain⟨r,a,rfl⟩:=bC.mp m;exact⟨_,rfl,_,rfl,_,rfl,_,rfl,_,rfl,fs,an,k,n,v,st,r.1,rfl,F,l,g,(hok r a).1,d⟩
  ·rw[e];exact d
 rw[<- MR,<- MR]at h;exact⟨_,rfl,"yes",_,rfl,by rw[aB];exact f,_,rfl,"no",_,rfl,by rw[aB];exact f,h⟩
def aCg:dP P w K mg base iL 1 xj zk ["form","rows"] (iS K aIp):=by
 refine fnF T.D_13.F aJ1 λf nd ds Q h=>?_;obtain⟨fs,an,c,rfl,F,hok,l,h⟩:=h;refine⟨_,(bD (ss 2 nd (el (fr:=[none]) (N':=["row"]) (gU (aH 1)) (λb=>⟨(eB (pk 0)),jY,(bJ aU cD (aH 0) aK)⟩)))
 (bS (uN (fl (fr:=[none,some 2]) (N':=["answer","told"]) (gU (bJ aU cD (aH 0) aK)) (λb=>⟨(eB (pk 0)),jY,(P0 (aH 1) (aA (aH 0) aM) (λh ha=>lF bY PySem.F.slot_list_count PySem.F.type_list_count (O9 f) h ha))⟩))))),?_⟩
 show hZ _ _ _ [.val (eZ fs an),.val (.list (c.map dA)),.un];have a4:=F.a4;refine cK (.list (c.map λr=>aS r.2)) (λq d=>?_) ?_
 ·refine lA (ts:=c.map dA) (λR h=>⟨_,rfl,_,rfl,h⟩) aOh (by rw[aB];lia) (λx q g d=>?_) ?_
  ·obtain⟨r,f,rfl⟩:=bC.mp g;exact⟨_,rfl,_,rfl,d⟩
  ·rw[bN];exact d
 have j:=UW (ys:=c.map λr=>r.2) λy k=>by
  obtain⟨r,f,rfl⟩:=bC.mp k;exact F.an.2.1 _ (hok r f).2
 rw[bN]at j;refine VT (lA (ts:=an.map aS) (λR h=>⟨_,rfl,_,rfl,_,rfl,h⟩) (WA c) (by rw[aB];lia) (λx q g d=>?_) ?_)
 ·obtain⟨a,ha,rfl⟩:=bC.mp g;have i:=jB (F.an.2.1 a ha) (n:=8) (m:=0) (aN _);refine⟨_,rfl,_,rfl,_,rfl,_,rfl,⟨j.1,i.lay,by have:=i.depth;lia⟩,?_⟩;rw[KL];exact d
 ·show Q _
  have e:(an.map aS).map (WA c)=(jJ an c).map aW:=by
   unfold jJ;rw[bN,bN];rfl
  rw[e];exact h
def aLa:dP P w K mg base iL 2 xl zl ["form","rows"] (dB K aBp):=by
 refine rS T.D_14.F aJ0 λg nd ds Q h=>?_;obtain⟨fs,an,a,rfl,F,hok,p,h⟩:=h;refine⟨_,(bD (ss 2 nd (zG (cF (aCg T) T.D_13 g (aA (aH 0) (aA (aH 1) aM)))))
 (bS (dS (bJ aU cD (bJ aU cD (aH 0) aK) (E4 (aH 2) (aA (cB aC3 (aA (aH 2) aM) (vS rfl) T.b_max GY) aM) (λh ha=>lF bY FI FH (ES g) h ha)))))),?_⟩
 show hZ _ _ _ [.val (eZ fs an),.val (.list (a.map dA)),.un];have a2:=F.a2;refine cK (.list ((jJ an a).map aW)) (λq o=>⟨_,rfl,_,rfl,fs,an,a,rfl,F,hok,p,o⟩) ?_
 have n:jJ an a≠[]:=λz=>by
  have:=j5 lK z;unfold jJ at this;rw[aB]at this;simp at this;rw[this]at a2;simp at a2
 refine⟨_,rfl,_,rfl,_,rfl,_,rfl,_,rfl,_,rfl,n,λm hm f=>?_⟩;obtain⟨j,d,k⟩:=JH (jJ an a) m hm;have u:=(aF.mp d).1;have v:(jJ an a).length=an.length:=by unfold jJ;rw[aB]
 have a4:=F.a4;have c:an[j]?=some an[j]:=aD (by lia);have l:(jJ an a)[j]?=some ((pW a an[j]:Nat):Int):=by unfold jJ;rw[aL,c];rfl
 rw[d]at l;have r:m=((pW a an[j]:Nat):Int):=d7 l;refine⟨_,j,rfl,O7 d k,by lia,_,L2.gH (by rw[aL,c];rfl),h _ ⟨j,c,λi b hb=>?_,λi b hi hb=>?_⟩⟩
 ·have:=f ((pW a b:Nat):Int) (bH (i:=i) (by unfold jJ;rw[aL,hb];rfl));lia
 ·have e:(jJ an a)[i]?=some ((pW a b:Nat):Int):=by unfold jJ;rw[aL,hb];rfl
  have s:=f _ (bH e);have t:((pW a b:Nat):Int)≠m:=λz=>k i hi (by rw[e,z]);lia
def aCd:dP P w K mg base iL 1 xo zp ["one","other"] (dB K aIn):=by
 refine rS T.D_17.F aJx λj nd ds Q h=>?_;obtain⟨a,b,rfl,h⟩:=h;refine⟨_,(bD (SA (dZ B2 rH (aH 1) aK)
 (bD (ss 2 nd (cA gA qZ (aH 0) (aH 1)))
 (bD (ss 0 nd (aH 1))
 (bS (ss 1 nd (aH 2))))) (λi hb=>S9 bf i hb))
 (bS (dS (aH 0)))),?_⟩
 show hZ _ _ _ [.val (.int a),.val (.int b),.un];refine OW (λy σ=>∃(x:Nat)(s2:Sl),σ=[.val (.int x),.val (.int y),s2]/\x.gcd y=a.gcd b) b ⟨a,_,rfl,rfl⟩ λy d8 g=>?_;obtain⟨x,s2,rfl,d⟩:=g;refine⟨decide (0<y),λq c=>⟨_,rfl,?_⟩,?_⟩
 ·show q (decide ((y:Int)>0));have:decide ((y:Int)>0)=decide (0<y):=by rw[u8];lia
  rw[this];exact c
 by_cases e:0<y
 ·rw[b8 (c6 e)];refine cK (.int ((x%y:Nat):Int)) (λq c=>⟨_,rfl,_,rfl,(show(0:Int)<(y:Int) by lia),?_⟩) ?_
  ·rw[<- Int.natCast_emod];exact c
  refine cK (.int y) (λq c=>⟨_,rfl,c⟩) ?_;refine mT (.int ((x%y:Nat):Int)) (λq c=>⟨_,rfl,c⟩) ⟨x%y,Nat.mod_lt _ e,y,_,rfl,?_⟩;rw[<- d,aMu x y,Nat.gcd_rec y x,aMu]
 ·rw[a8 (by simpa using e)];have f:y=0:=by lia
  subst f;rw[Nat.gcd_zero_right]at d;subst d;exact⟨_,rfl,h⟩
def aCe:dP P w K mg base iL 2 xn zo ["top","bottom"] (dB K aBo):=by
 refine rS T.D_16.F aJy λg nd ds Q h=>?_;obtain⟨a,b,rfl,hb,i,d,h⟩:=h;refine⟨_,(bD (ss 2 nd (cd (aCd T) T.D_17 g (aA (aH 0) (aA (aH 1) aM))))
 (bS (dS (eR (aA (cA IJ qZ (aH 0) (aH 2)) (aA (cA IJ qZ (aH 1) (aH 2)) aM)))))),?_⟩
 show hZ _ _ _ [.val (.int a),.val (.int b),.un];refine cK (.int ((a.gcd b:Nat):Int)) (λq f=>⟨_,rfl,_,rfl,a,b,rfl,f⟩) ?_;have j:0<a.gcd b:=sQ _ hb;have c:a.gcd b<=b:=Nat.gcd_le_right _ hb
 have hd:(0:Int)<((a.gcd b:Nat):Int)/\((a.gcd b:Nat):Int)<2^200:=⟨by lia,by
  have:(a.gcd b)<2^190:=qY c d;have e:(2^190:Nat)<=2^200:=fT (by decide) (by decide)
  exact_mod_cast bP this e⟩
 refine⟨_,rfl,_,rfl,hd,_,rfl,_,rfl,hd,aC rfl,?_⟩;show Q (.tuple [.int ((a:Int) / ((a.gcd b:Nat):Int)),.int ((b:Int) / ((a.gcd b:Nat):Int))]);rw[<- tD,<- tD];exact h
def aCf:dP P w K mg base iL 3 xm zm ["form","rows"] (dB K aIo):=by
 refine rS T.D_15.F aJz λi nd ds Q h=>?_;obtain⟨fs,an,d,rfl,F,hok,j,h⟩:=h;refine⟨_,(bD (ss 2 nd (cB iX (aA (aH 1) aM) cG T.b_len fQ))
 (bD (iO (dZ jF mL (aH 2) aK)
 (bS (dS (eR (aA aK (aA aK aM)))))
 fW)
 (bS (dS (cd (aCe T) T.D_16 i (aA (cB aMd (aA (el (fr:=[none,some 2]) (N':=["count","many"]) (gU (zG (cF (aCg T) T.D_13 i (aA (aH 0) (aA (aH 1) aM))))) (λb=>⟨(eB (pk 0)),jY,(cA eG kW (aH 0) (cA sC F8 (aH 1) (aH 0)))⟩)) aM) (DU rfl) T.b_sum aF9) (aA (aH 2) aM))))))),?_⟩
 show hZ _ _ _ [.val (eZ fs an),.val (.list (d.map dA)),.un];have a4:=F.a4;refine cK (.int (d.length:Int)) (λq g=>⟨_,rfl,?_⟩) ?_
 ·show q (.int ((d.map dA).length:Int));rw[aB];exact g
 refine lN (λb=>b=decide ((d.length:Int)=0)) (λq g=>⟨_,rfl,g _ rfl⟩) (λt=>?_) λs=>?_
 ·have l:d.length=0:=by have:=c8 t.symm;lia
  have:d=[]:=sU.mp l;subst this
  have o:US (yX [] []) (max 1 ([]:List Rw).length)=.tuple [.int 0,.int 1]:=by
   show US 0 1=_;unfold US;rw[Nat.gcd_zero_left];rfl
  rw[o]at h;exact⟨aC rfl,h⟩
 ·try unfold mY
  dsimp only;have l:¬d.length=0:=λz=>by have:=t7 s.symm;lia
  have p:max 1 d.length=d.length:=by lia
  rw[p]at h;have y:=F3 d d;have v:d.length*d.length<=60*60:=iD j j;have m:(jJ an d).length=an.length:=by unfold jJ;rw[aB]
  have k:∀c∈jJ an d,0<=c/\c<=(d.length:Int):=λc f=>by
   unfold jJ at f;obtain⟨a,_,rfl⟩:=bC.mp f;have:=V9 d a;lia
  show pO aBo _ _ Q;dsimp only[pO,sS,G2];refine lA (ts:=(jJ an d).map aW) (λR h=>⟨_,rfl,_,rfl,fs,an,d,rfl,F,hok,j,_,rfl,h⟩) (aB0 d.length) (by rw[aB,m];lia) (λx q u g=>?_) ?_
  ·obtain⟨c,f,rfl⟩:=bC.mp u;have:=k c f;exact⟨_,rfl,_,rfl,_,rfl,.inl ⟨by lia,by lia⟩,g⟩
  ·have e:((jJ an d).map aW).map (aB0 d.length)=((jJ an d).map λc=>c*((d.length:Int)-c)).map aW:=by
    rw[bN,bN];rfl
   rw[e];refine⟨_,rfl,λn hn=>?_,by rw[aB,m];lia,?_⟩
   ·obtain⟨c,f,rfl⟩:=bC.mp hn;have:=k c f;have A:0<=c*((d.length:Int)-c):=Int.mul_nonneg (by lia) (by lia);have B:c*((d.length:Int)-c)<=60*60:=Int.mul_le_mul (by lia) (by lia) (by lia) (by decide);lia
   ·rw[M2 F.an.2.2 λr i=>(hok r i).2];exact⟨_,rfl,_,_,rfl,by lia,qY (show yX d d<=3600 by lia) (by decide),qY (show d.length<=60 from j) (by decide),h⟩
def aCa:dP P w K mg base iL 1 yg Af ["rows","numbers"] (dB K aH9):=by
 refine rS T.D_32.F aJj λe nd ds Q h=>?_;obtain⟨fs,k,n,v,st,w,a,rfl,l,h⟩:=h;refine⟨_,(bS (dS (el (fr:=[none,some 0]) (N':=["number","rows"]) (gU (aH 1)) (λb=>⟨(eB (pk 0)),jY,(bJ aU cD (aH 1) (aH 0))⟩)))),?_⟩;show zX _ _ [.val (.list (a.map dA)),.val (.list (iU fs k n v st a w))]
 have hz:(iU fs k n v st a w).length<=60:=by
  unfold iU;have:=bK (tR fs k n v st a w) (eI a.length);rw[iW]at this;lia
 refine lA (ts:=iU fs k n v st a w) (λR h=>⟨_,rfl,_,rfl,h⟩) (BQ a) (by lia) (λx q g d=>?_) ?_
 ·obtain⟨j,f,rfl⟩:=bC.mp (cC.mp g).1;have c:j<a.length:=by simpa using f
  have i:L2.atI (a.map dA) (j:Int)=some (dA a[j]):=L2.gH (by rw[aL,aD c];rfl)
  have e:BQ a (.int (j:Int))=dA a[j]:=by
   show(match L2.atI a (j:Int)with | some r=>dA r | none=>.none)=_;rw[L2.gH (aD c)]
  rw[e]at d;exact⟨_,rfl,_,rfl,_,i,d⟩
 ·rw[ZV fs k n v st w a.length a rfl];exact h
def aK5:dP P w K mg base iL 1 xw zw ["field"] (iS K aIi):=by
 refine fnF T.D_22.F aJs λi nd ds Q h=>?_;obtain⟨f,rfl,c,g,h⟩:=h;refine⟨_,(bD (ss 1 nd (bJ aU cD (aH 0) aK))
 (bD (ss 2 nd (bJ aU cD (aH 0) aK))
 (bD (ss 3 nd (NU (dZ jF mL (cB iX (aA (aH 2) aM) cG T.b_len fQ) aK) (jU nH xC (aH 2) mS (kH aK)) (aH 2)))
 (bD (ss 4 nd (jU nH xC (aH 2) (kH aK) (kH (aFw aK))))
 (bS (uN (VL (el (fr:=[none,some 1]) (N':=["value","name"]) (gU (aH 3)) (λb=>⟨(eB (pk 0)),jY,(eR (aA eA (aA (aH 1) (aA (aH 0) aM))))⟩)) (el (fr:=[none,some 1]) (N':=["value","name"]) (gU (aH 4)) (λb=>⟨(eB (pk 0)),jY,(eR (aA eA (aA (aH 1) (aA (aH 0) aM))))⟩))))))))),?_⟩
 show hZ _ _ _ [.val (lW f),.un,.un,.un,.un];refine cK (.str f.1) (λq a=>⟨_,rfl,_,rfl,a⟩) ?_;refine cK (.tuple (f.2.map aS)) (λq a=>⟨_,rfl,_,rfl,a⟩) ?_;refine cK (.tuple ((qN f).map aS)) (λq a=>⟨_,rfl,?_⟩) ?_
 ·show(if decide (((f.2.map aS).length:Int)=2)=true then _ else _);unfold qN at a;rw[aB];by_cases e:f.2.length=2
  ·rw[b8 (c6 (by lia))];rw[b8 e]at a;refine⟨_,rfl,?_⟩;show q (.tuple (mW (f.2.map aS) none (some 1)));rw[pG,aAp _ c];exact a
  ·rw[a8 (by simpa using(by lia:¬(f.2.length:Int)=2))];rw[a8 e]at a;exact⟨_,rfl,a⟩
 refine cK (.tuple ((DP f).map aS)) (λq a=>⟨_,rfl,?_⟩) ?_
 ·show q (.tuple (mW (f.2.map aS) (some 1) (some (-2))));rw[pG,aAq _ c];exact a
 have k:(qN f).length<=5:=by
  unfold qN;split
  ·rw[bL];lia
  ·lia
 have j:(DP f).length<=5:=by
  unfold DP;rw[bL,eM];lia
 dsimp only[aBr,aCx];refine lA (ts:=(qN f).map aS) (λR h=>⟨_,rfl,_,rfl,h⟩) (λx=>.tuple [.str "is",.str f.1,x]) (by rw[aB];lia) (λx q d a=>⟨_,rfl,_,rfl,aC rfl,a⟩) ?_;refine lA (ts:=(DP f).map aS) (λR h=>⟨_,rfl,_,rfl,h⟩) (λx=>.tuple [.str "upto",.str f.1,x]) (by rw[aB];lia) (λx q d a=>⟨_,rfl,_,rfl,aC rfl,a⟩) ?_;refine⟨_,_,rfl,rfl,by simp only[aB];lia,?_⟩;rw[bN,bN];exact h
def aK6:dP P w K mg base iL 2 xu zv ["form"] (iS K aIj):=by
 refine fnF T.D_21.F aJt λm nd ds Q h=>?_;obtain⟨fs,an,rfl,F,h⟩:=h;refine⟨_,(bD (so 1 nd aM)
 (bD (sf (gU (bJ aU cD (aH 0) aK)) (eB (pn 2 nd))
 (bS (MO (i:=1) (pv 1) (zG (cF (aK5 T) T.D_22 m (aA (aH 2) aM))) (pb:=λh=>fN (lF bY D1 D0 NI (pv 1) h)))))
 (bS (OR (pv 1))))),?_⟩
 show hZ _ _ _ [.val (eZ fs an),.un,.un];have n5:=F.n5;refine pE [] (by decide) (λq b=>b) ?_
 refine mE (ts:=fs.map lW) (λR h=>⟨_,rfl,_,rfl,_,rfl,h⟩)
  (λk σ=>∃s2:Sl,σ=[.val (eZ fs an),.own (eY (fs.take k)),s2]) ⟨_,rfl⟩ (λk x d8 d a=>?_) λd8 a=>?_
 ·obtain⟨s2,rfl⟩:=a;rw[aL]at d;obtain⟨f,c,rfl⟩:=dL.mp d;have j:f∈fs:=bH c;obtain⟨n,o,p⟩:=F.vs f j;have s:=mX F (fs.take k) λg l=>eE l;have t:(fs.take k).length<=5:=by rw[bL];lia
  have r:(MY f).length<=10:=by
   unfold MY qN DP;rw[bO,aB,aB,bL,eM];split
   ·rw[bL];lia
   ·lia
  refine IK (ts:=eY (fs.take k)) (us:=MY f) rfl (by lia) (λq b=>⟨_,rfl,f,rfl,n,o,b⟩) ⟨.val (lW f),?_⟩
  have e:eY (fs.take (k+1))=eY (fs.take k)++MY f:=by
   unfold eY;rw[cM,c,bQ,QT];show _++[MY f].flatten=_;rw[KA]
  rw[e];rfl
 ·obtain⟨s2,rfl⟩:=a;rw[aB,dF];exact⟨_,rfl,h⟩
def aK4:dP P w K mg base iL 3 xx zx ["form"] (dB K aIh):=by
 refine rS T.D_23.F aJr λc nd ds Q h=>?_;obtain⟨fs,an,rfl,F,h⟩:=h;refine⟨_,(bD (so 1 nd aM)
 (bD (sf (gU (zG (cF (aK6 T) T.D_21 c (aA (aH 0) aM)))) (eB (pn 2 nd))
 (bS (MO (i:=1) (pv 1) (el (fr:=[none,some 2]) (N':=["stray","question"]) (gU (aAi rfl T.c_SIDES T.t_SIDES)) (λb=>⟨(eB (pk 0)),jY,(eR (aA (aH 1) (aA (aH 0) aM)))⟩)) (pb:=λh=>fN (lF bY D1 D0 NI (pv 1) h)))))
 (nG 1 (bS (dS (aH 1)))))),?_⟩
 show hZ _ _ _ [.val (eZ fs an),.un,.un];have n5:=F.n5;have t:=mX F fs λg j=>j;have p:(qs fs).length=(eY fs).length:=by rw[<- AV,aB]
 refine pE [] (by decide) (λq m=>m) ?_
 refine mE (ts:=(qs fs).map qD) (λR h=>⟨_,rfl,fs,an,rfl,F,_,rfl,by rw[<- AV];exact h⟩)
  (λk σ=>∃s2:Sl,σ=[.val (eZ fs an),.own ((((qs fs).take k).flatMap qL).map chQ),s2]) ⟨_,rfl⟩ (λk x d8 d a=>?_) λd8 a=>?_
 ·obtain⟨s2,rfl⟩:=a;rw[aL]at d;obtain⟨q,e,rfl⟩:=dL.mp d
  have o:((((qs fs).take k).flatMap qL).map chQ).length=2*((qs fs).take k).length:=by
   rw[aB]
   generalize (qs fs).take k=l
   induction l with
   |nil=>rfl
   |cons x l n=>rw[W1,bO,n,dY];show 2+_=_;lia
  have s:((qs fs).take k).length<=50:=by rw[bL];lia
  refine IK (us:=[chQ (q,"yes"),chQ (q,"no")]) rfl (by rw[o];show _+2<=_;lia) (λr c=>?_) ⟨.val (qD q),?_⟩
  ·refine lA (ts:=[.str "yes",.str "no"]) (λR h=>⟨_,rfl,h⟩) (λx=>.tuple [qD q,x]) (by decide) (λx u d f=>⟨_,rfl,_,rfl,(aC rfl),f⟩) c
  ·rw[cM,e];show _=[_,Sl.own (((((qs fs).take k)++[q]).flatMap qL).map chQ),_];rw[QU,bQ];rfl
 ·obtain⟨s2,rfl⟩:=a;rw[aB,dF];exact⟨_,rfl,_,rfl,h⟩
def aKz:dP P w K mg base iL 1 ye Ae ["sides","fewest"] (dB K aIb):=by
 refine rS T.D_30.F aJk λa nd ds Q h=>?_;obtain⟨as,bs,m,rfl,h⟩:=h;refine⟨_,(bS (dS (LV (nN II rH (cB iX (aA (bJ aU cD (aH 0) aK) aM) cG T.b_len fQ) (aH 1)) (LU (nN II rH (cB iX (aA (bJ aU cD (aH 0) aK) aM) cG T.b_len fQ) (aH 1)))))),?_⟩;show zX _ _ [.val (.tuple [.list as,.list bs]),.val (.int m)];refine⟨_,rfl,_,rfl,_,rfl,?_⟩;show(if decide (m<=(as.length:Int))=true then _ else _)
 cases e:decide (m<=(as.length:Int))with
 |false=>
  rw[a8 (by decide)];rw[e]at h;exact h
 |true=>
  rw[b8 rfl];rw[e]at h;exact⟨_,rfl,_,rfl,_,rfl,h⟩
def aK9:dP P w K mg base iL 3 xp zr ["one","other"] (dB K aIm):=by
 refine rS T.D_18.F aJw λd nd ds Q h=>?_;obtain⟨x,y,rfl,a,b,h⟩:=h;refine⟨_,(bS (dS (cd (aCe T) T.D_16 d (aA (cA dE iP (cA eG kW (bJ aU cD (aH 0) aK) (bJ aU cD (aH 1) aK)) (cA eG kW (bJ aU cD (aH 1) aK) (bJ aU cD (aH 0) aK))) (aA (cA eG kW (bJ aU cD (aH 0) aK) (bJ aU cD (aH 1) aK)) aM))))),?_⟩;show zX _ _ [.val (DR x),.val (DR y)];have i:=a.top;have j:=a.bot;have k:=b.top;have l:=b.bot;obtain⟨f,g,c⟩:=MM a b;have big:(1000000000000:Nat)<2^190:=by decide +kernel
 have e:[aW ((x.1:Int)*(y.2:Int)+(y.1:Int)*(x.2:Int)),.int ((x.2:Int)*(y.2:Int))]=[.int ((x.1*y.2+y.1*x.2:Nat):Int),.int ((x.2*y.2:Nat):Int)]:=by
  rw[lY,eO,eO,eO]
 refine⟨_,rfl,_,rfl,_,rfl,_,rfl,.inl ⟨by lia,by lia⟩,_,rfl,_,rfl,_,rfl,_,rfl,.inl ⟨by lia,by lia⟩,_,rfl,_,rfl,_,rfl,_,rfl,.inl ⟨by lia,by lia⟩,_,_,e,c,by lia,by lia,h⟩
def aK7:dP P w K mg base iL 2 xt zu ["fractions"] (dB K aIk):=by
 refine rS T.D_20.F aJu λj nd ds Q h=>?_;obtain⟨l,rfl,i,h⟩:=h;refine⟨_,(bD (ss 1 nd aK)
 (bD (sf (gU (aH 0)) (eB (pn 2 nd))
 (bS (ss 1 nd (cA pF qZ (cA eG kW (aH 1) (bJ aU cD (aH 2) aK)) (cd (aCd T) T.D_17 j (aA (aH 1) (aA (bJ aU cD (aH 2) aK) aM)))))))
 (bS (dS (aH 1))))),?_⟩
 show hZ _ _ _ [.val (.list (l.map DR)),.un,.un];refine cK (.int 1) (λq a=>a) ?_
 refine mE (ts:=l.map DR) (λR h=>⟨_,rfl,_,rfl,h⟩)
  (λk σ=>∃s2:Sl,σ=[.val (.list (l.map DR)),.val (.int ((wK (l.take k):Nat):Int)),s2]) ⟨_,rfl⟩ (λk x d8 c b=>?_) λd8 b=>?_
 ·obtain⟨s2,rfl⟩:=b;rw[aL]at c;obtain⟨y,d,rfl⟩:=dL.mp c;obtain⟨e,o⟩:=i y (bH d);have n:(wK (l.take k)).gcd y.2<=y.2:=aGt e (AQ _ _);have m:0<(wK (l.take k)).gcd y.2:=sQ _ e
  have g:wK (l.take (k+1))=(wK (l.take k)).lcm y.2:=by
   unfold wK;rw[cM,d,zU];rfl
  refine mT (.int ((wK (l.take (k+1)):Nat):Int)) (λq a=>⟨_,rfl,_,rfl,_,rfl,.inr ⟨by lia,by lia⟩,_,rfl,_,rfl,_,rfl,_,_,rfl,⟨by lia,by lia⟩,?_⟩) ⟨_,rfl⟩;rw[g]at a
  have f:((wK (l.take k):Nat):Int)*(y.2:Int) / (((wK (l.take k)).gcd y.2:Nat):Int)=(((wK (l.take k)).lcm y.2:Nat):Int):=by
   rw[<- eO,<- tD];rfl
  rw[f];exact a
 ·obtain⟨s2,rfl⟩:=b;rw[aB,dF];exact⟨_,rfl,h⟩
def aKy:dP P w K mg base iL 6 yf ux ["form","rows","least"] (iS K aIa):=by
 refine fnL T.L_31 T.D_31.F aBq (λds Q h=>by obtain⟨fs,an,f,m,rfl,F,p,j,h⟩:=h;rfl) λt6 lc Ar outer s H E n ds Q h=>?_;obtain⟨fs,an,f,m,rfl,F,p,j,h⟩:=h;have nd:=aBq.nd;refine⟨_,(bD (so 3 nd aM)
 (bD (sf (gU (cd (aK4 T) T.D_23 n (aA (aH 0) aM))) (qC (nY rfl (eD (pn 4 nd) (eD (pn 5 nd) mF))))
 (bD (ss 6 nd (aCz (cQ (aCc T) T.D_28 n (aA (aH 0) (aA (aH 4) (aA (aH 5) (aA (aH 1) aM)))))))
 (bS (iO (tv (cd (aKz T) T.D_30 n (aA (aH 6) (aA (aH 2) aM))))
 (bD (rD (i:=7) (fr:=[none,some 0,some 1]) (N':=["numbers","form","rows"]) (gU (aH 6)) (λb=>⟨(eB (pk 0)),jY,(cd (aCf T) T.D_15 n (aA (aH 1) (aA (cd (aCa T) T.D_32 n (aA (aH 2) (aA (aH 0) aM))) aM)))⟩) (λhi hY=>pJ (show sR _ (bB (top 33)) ["form","rows","least","told","question","stray","sides","doubts","bottom"] ["numbers","form","rows"] [none,some 0,some 1]=true from by decide +kernel) nd rfl (by first | exact y9 rfl | exact v8 rfl) rfl hi hY rfl))
 (bS (pM (i:=3) (pv 3) (eR (aA (aH 4) (aA (aH 5) (aA (cd (aK9 T) T.D_18 n (aA (bJ aU cD (aH 7) aK) (aA (bJ aU cD (aH 7) aK) aM))) aM)))) (pb:=λh=>fN (lF bY cX cW iR (pv 3) h)))))
 fW))))
 (nG 3 (bD (ss 8 nd (cd (aK7 T) T.D_20 n (aA (el (fr:=[none,none,none]) (N':=["question","stray","doubt"]) (gU (aH 3)) (λb=>⟨(uV (nY rfl (eD (pk 0) (eD (pk 1) (eD (pk 2) mF))))),jY,(aH 2)⟩)) aM)))
 (bS (uN (VI (k:=0) (ib:=8) (n.mono (by lia)) lc rfl rfl rfl rfl T.b_sorted uZ (aA (aH 3) aM)))))))),?_⟩
 show hZ _ _ _ [.val (eZ fs an),.val (.list (f.map dA)),.val (.int m),.un,.un,.un,.un,.un,.un]
 have er:(iA fs f m).length<=60:=by
  have G:=mX F fs λg L=>L;have n4:=F.n4;have h2:=bK (okC fs f m) (DB fs);rw[GQ]at h2;show((DB fs).filter (okC fs f m)).length<=60;lia
 have Rv:(DB fs).length<=100:=by
  have G:=mX F fs λg L=>L;have n5:=F.n5;rw[GQ];lia
 refine pE [] (by decide) (λq t=>t) ?_
 refine mE (ts:=(DB fs).map chQ) (λR h=>⟨_,rfl,fs,an,rfl,F,_,rfl,h⟩)
  (λk σ=>∃A B C u:Sl,σ=[.val (eZ fs an),.val (.list (f.map dA)),.val (.int m),.own ((((DB fs).take k).filter (okC fs f m)).map (LW fs f)),A,B,C,u,.un]) ⟨_,_,_,_,rfl⟩ (λk x d8 l I=>?_) λd8 I=>?_
 ·obtain⟨A,B,C,u,rfl⟩:=I;rw[aL]at l;obtain⟨c,M,rfl⟩:=dL.mp l;have hc:=bH M;obtain⟨t,hs⟩:=GP hc;have r:=BU t
  have Mu:(iU fs c.1.1 c.1.2.1 c.1.2.2 c.2 f "yes").length=(yR fs c f).length:=by
   have:=j5 lK (ZV fs c.1.1 c.1.2.1 c.1.2.2 c.2 "yes" f.length f rfl);rw[aB,aB]at this;exact this
  have Ms:(iU fs c.1.1 c.1.2.1 c.1.2.2 c.2 f "no").length=(nR fs c f).length:=by
   have:=j5 lK (ZV fs c.1.1 c.1.2.1 c.1.2.2 c.2 "no" f.length f rfl);rw[aB,aB,F9 F r hs p]at this;exact this
  have U:((DB fs).take (k+1)).filter (okC fs f m)=((DB fs).take k).filter (okC fs f m)++(if okC fs f m c=true then[c]else[]):=by
   rw[cM,M,fB];congr 1;show OF _ [c]=_;rw[dM];rfl
  have Ww:((((DB fs).take k).filter (okC fs f m)).map (LW fs f)).length<=100:=by
   rw[aB];exact aX (bK _ _) (by rw[bL];lia)
  refine⟨qD c.1,.str c.2,rfl,?_⟩;dsimp only;refine cK (.tuple [.list (iU fs c.1.1 c.1.2.1 c.1.2.2 c.2 f "yes"),.list (iU fs c.1.1 c.1.2.1 c.1.2.2 c.2 f "no")]) (λq o=>⟨_,rfl,_,rfl,_,rfl,_,rfl,fs,an,c.1.1,c.1.2.1,c.1.2.2,c.2,f,rfl,F,r,hs,p,j,o⟩) ?_;refine pN (λb=>b=okC fs f m c) (λq o=>⟨_,rfl,_,rfl,_,_,m,rfl,?_⟩) (λhT=>?_) λhF=>?_
  ·refine o _ ?_;rw[Mu,Ms];rfl
  ·refine cK (.list [DR (wP (yR fs c f)),DR (wP (nR fs c f))]) (λq o=>?_) ?_
   ·refine LJ (ts:=[.list (iU fs c.1.1 c.1.2.1 c.1.2.2 c.2 f "yes"),.list (iU fs c.1.1 c.1.2.1 c.1.2.2 c.2 f "no")]) (λR h=>⟨_,rfl,_,rfl,h⟩) (λi _ y=>(i=0->y=DR (wP (yR fs c f)))/\(i=1->y=DR (wP (nR fs c f)))) (aC rfl) (λi x q l N=>?_) λys Hj v=>?_
    ·have hi:i<2:=(aF.mp l).1;rcases(show i=0\/i=1 by lia)with rfl | rfl
     ·cases l;exact⟨_,rfl,_,rfl,_,rfl,fs,c.1.1,c.1.2.1,c.1.2.2,c.2,"yes",f,rfl,j,fs,an,_,rfl,F,p.filt _,aX (bK _ _) j,N _ ⟨λ_=>rfl,λz=>by cases z⟩⟩
     ·cases l;refine⟨_,rfl,_,rfl,_,rfl,fs,c.1.1,c.1.2.1,c.1.2.2,c.2,"no",f,rfl,j,?_⟩;rw[F9 F r hs p];exact⟨fs,an,_,rfl,F,p.filt _,aX (bK _ _) j,N _ ⟨(λz=>by cases z),λ_=>rfl⟩⟩
    ·match ys,Hj,v with
     |[a,b],_,v=>
      have h0:=(v 0 _ a rfl rfl).1 rfl;have G:=(v 1 _ b rfl rfl).2 rfl;rw[h0,G];exact o
   ·have Z:(yR fs c f).length<=60:=aX (bK _ _) j;have Y:(nR fs c f).length<=60:=aX (bK _ _) j;refine qA (LW fs f c) rfl (by lia) (λq o=>⟨_,rfl,_,rfl,_,rfl,_,rfl,_,rfl,_,rfl,_,_,rfl,xP Z,xP Y,(aC rfl),o⟩) ⟨.val (qD c.1),.val (.str c.2),.val (.tuple [.list (iU fs c.1.1 c.1.2.1 c.1.2.2 c.2 f "yes"),.list (iU fs c.1.1 c.1.2.1 c.1.2.2 c.2 f "no")]),.val (.list [DR (wP (yR fs c f)),DR (wP (nR fs c f))]),?_⟩;rw[U,b8 hT.symm,bQ];rfl
  ·try unfold mY
   dsimp only;refine⟨.val (qD c.1),.val (.str c.2),.val (.tuple [.list (iU fs c.1.1 c.1.2.1 c.1.2.2 c.2 f "yes"),.list (iU fs c.1.1 c.1.2.1 c.1.2.2 c.2 f "no")]),u,?_⟩;rw[U,a8 (by rw[<- hF];decide),cJ];rfl
 ·obtain⟨A,B,C,u,rfl⟩:=I;rw[aB,dF];refine⟨_,rfl,?_⟩;show hZ _ _ _ [.val (eZ fs an),.val (.list (f.map dA)),.val (.int m),.val (.list (CS fs f m)),A,B,C,u,.un]
  have sv:∀x∈Q3 fs f m,0<x.2/\x.2<=1000000:=λx l=>by
   obtain⟨c,_,rfl⟩:=bC.mp l;have:=yL (fs:=fs) j c;exact⟨this.pos,aX this.bot (by decide)⟩
  refine cK (.int (wK (Q3 fs f m):Nat)) (λq t=>?_) ?_
  ·dsimp only[pO,sS,G2];refine ZO (ts:=CS fs f m) (λR h=>⟨_,rfl,_,rfl,h⟩) (λx=>match x with | .tuple [_,_,d]=>d | _=>.none) (by rw[tZ];lia) (λx l=>?_) (λa b c q' hm r=>⟨_,rfl,r⟩) ?_
   ·obtain⟨c,_,rfl⟩:=bC.mp l;exact⟨_,_,_,rfl⟩
   ·have e:(CS fs f m).map (λx=>match x with | .tuple [_,_,d]=>d | _=>.none)=(Q3 fs f m).map DR:=by
     unfold CS Q3;rw[bN,bN];rfl
    rw[e];exact⟨_,rfl,sv,t⟩
  ·refine⟨_,rfl,CS fs f m,(wK (Q3 fs f m):Nat),CD fs f m,rfl,by rw[tZ];lia,rfl,by rw[tZ,U4],λi e k X hk=>?_,λJ W=>?_⟩
   ·have hi:i<(iA fs f m).length:=by rw[<- tZ];exact(aF.mp X).1
    have O:=NV (fs:=fs) (R:=f) (m:=m) hi;rw[cL,X]at O;have S:=GC (fs:=fs) (R:=f) (m:=m) hi;rw[cL,hk]at S;have sm:=yL (fs:=fs) j (iA fs f m)[i];have s1:=sm.top;have s2:=sm.pos;have s3:=sm.bot;exact⟨_,_,_,_,O,⟨by lia,by lia⟩,.inl ⟨by lia,by lia⟩,S⟩
   ·rw[tZ]at W;exact h J W
def aK8:dP P w K mg base iL 1 xq zt ["one","other"] (dB K aIl):=by
 refine rS T.D_19.F aJv λa nd ds Q h=>?_;obtain⟨x,y,rfl,b,c,h⟩:=h;refine⟨_,(bS (dS (nN IH rH (cA eG kW (bJ aU cD (aH 0) aK) (bJ aU cD (aH 1) aK)) (cA eG kW (bJ aU cD (aH 1) aK) (bJ aU cD (aH 0) aK))))),?_⟩;show zX _ _ [.val (DR x),.val (DR y)];refine⟨_,rfl,_,rfl,_,rfl,_,rfl,.inl ⟨by lia,by lia⟩,_,rfl,_,rfl,_,rfl,_,rfl,.inl ⟨by lia,by lia⟩,?_⟩;show Q (.bool (decide ((x.1:Int)*(y.2:Int)<(y.1:Int)*(x.2:Int))))
 have e:decide ((x.1:Int)*(y.2:Int)<(y.1:Int)*(x.2:Int))=decide (x.1*y.2<y.1*x.2):=by
  rw[u8,<- eO,<- eO];lia
 rw[e];exact h
def aKx:dP P w K mg base iL 7 yh Ag ["form","rows","least"] (dB K aH8):=by
 refine rS T.D_33.F aJi λn nd ds Q h=>?_;obtain⟨fs,an,a,m,rfl,F,o,f,h⟩:=h;refine⟨_,(bD (ss 3 nd (zG (cF (aKy T) T.D_31 n (aA (aH 0) (aA (aH 1) (aA (aH 2) aM))))))
 (bD (iO (vM (xX (OM (aH 3) (λh=>S4 h (λ_=>rfl))) (uJ (tv (cd (aK8 T) T.D_19 n (aA (bJ aU cD (bJ aU cD (aH 3) aK) aK) (aA (cd (aCf T) T.D_15 n (aA (aH 0) (aA (aH 1) aM))) aM)))))))
 (bS (dS (bJ aU cD (aH 3) aK)))
 fW)
 (bS (dS kQ)))),?_⟩
 show hZ _ _ _ [.val (eZ fs an),.val (.list (a.map dA)),.val (.int m),.un];have y:=WD F a m;have t:∀c:Ch,(dC fs a c).1<=1000000:=λc=>aX (yL (fs:=fs) f c).top (by decide);have s:(wP a).1<=1000000:=aX (xP f).top (by decide)
 have r:∀{i:Nat}{J:List Nat},Rkd fs a m (i::J)->∃c,W5 fs a (iA fs a m)=some c/\L2.atI (aEt fs a m (i::J)) 0=some (LW fs a c):=λ{i J} d=>by
  refine⟨_,WI f d,?_⟩;refine L2.gH (j:=0) ?_;show some ((CS fs a m).getD i .none)=_;rw[NV (d.lt i (aO ..))]
 have u:∀c,W5 fs a (iA fs a m)=some c->mN fs a m=if nW (dC fs a c) (wP a)=true then some c else none:=λc l=>by
  unfold mN;rw[l];rfl
 refine iG (λv=>∃J,Rkd fs a m J/\v=.list (aEt fs a m J)) (λq g=>⟨_,rfl,_,rfl,_,rfl,fs,an,a,m,rfl,F,o,f,λJ d=>g _ ⟨J,d,rfl⟩⟩) ?_;rintro _ ⟨J,d,rfl⟩
 cases J with
 |nil=>
  have e:mN fs a m=none:=by unfold mN;rw[aAv d];rfl
  rw[e]at h;refine lN (λb=>b=false) (λq g=>?_) (λk=>by cases k) λ_=>?_
  ·refine⟨_,rfl,[],rfl,?_⟩;show(if(false:Bool)=true then _ else q false);rw[a8 (by decide)];exact g _ rfl
  ·try unfold mY
   dsimp only;exact h
 |cons i J=>
  obtain⟨c,l,p⟩:=r d;rw[u c l]at h;refine lN (λb=>b=nW (dC fs a c) (wP a)) (λq g=>?_) (λk=>?_) λx=>?_
  ·refine⟨_,rfl,_,rfl,?_⟩;show(if(true:Bool)=true then _ else q false);rw[b8 rfl];exact⟨_,rfl,_,p,_,rfl,_,rfl,_,rfl,fs,an,a,rfl,F,o,f,_,_,rfl,t c,s,g _ rfl⟩
  ·rw[b8 k.symm]at h;exact⟨_,rfl,_,p,h⟩
  ·rw[a8 (by rw[<- x];decide)]at h
   try unfold mY
   dsimp only;exact h
def X7(dd:Nat)
  (H:dP P w K mg base iL (8+dd) oj oy ["form","rows","deep","least"] (dB K (tJ dd))):dP P w K mg base iL (8+dd+1) oj oy ["form","rows","deep","least"] (dB K (tJ (dd+1))):=by
 refine rS T.D_34.F aJh λl nd ds Q h=>?_;obtain⟨fs,an,f,d,m,rfl,F,k,j,hd,h⟩:=h;refine⟨_,(bD (ss 4 nd (NU (dZ B2 rH (aH 2) aK) (cd (hk:=by lia) (aKx T) T.D_33 l (aA (aH 0) (aA (aH 1) (aA (aH 3) aM)))) kQ))
 (bD (iO (dZ B1 IL (aH 4) kQ)
 (bS (dS (eR (aA eA (aA (cd (hk:=by lia) (aLa T) T.D_14 l (aA (aH 0) (aA (aH 1) aM))) aM)))))
 fW)
 (bD (ss 5 nd (aCz (cQ (hk:=by lia) (aCc T) T.D_28 l (aA (aH 0) (aA (bJ aU cD (aH 4) aK) (aA (bJ aU cD (aH 4) aK) (aA (aH 1) aM)))))))
 (bD (rD (i:=6) (fr:=[none,some 0,some 3,some 1,some 2]) (N':=["numbers","form","least","rows","deep"]) (gU (aH 5)) (λb=>⟨(eB (pk 0)),jY,(cd (hk:=by lia) H T.D_34 l (aA (aH 1) (aA (cd (hk:=by lia) (aCa T) T.D_32 l (aA (aH 3) (aA (aH 0) aM))) (aA (cA sC F8 (aH 4) aK) (aA (aH 2) aM)))))⟩) (λhi I=>pJ (show sR _ (bB (top 36)) ["form","rows","deep","least","found","sides","parts"] ["numbers","form","least","rows","deep"] [none,some 0,some 3,some 1,some 2]=true from by decide +kernel) nd rfl (by first | exact y9 rfl | exact v8 rfl) rfl hi I rfl))
 (bS (dS (eR (aA eA (aA (bJ aU cD (aH 4) aK) (aA (bJ aU cD (aH 4) aK) (aA (bJ aU cD (aH 6) aK) (aA (bJ aU cD (aH 6) aK) aM)))))))))))),?_⟩
 show hZ _ _ _ [.val (eZ fs an),.val (.list (f.map dA)),.val (.int d),.val (.int m),.un,.un,.un]
 cases d with
 |zero=>
  refine cK .none (λq g=>⟨_,rfl,g⟩) ?_;refine nI (λq g=>⟨_,rfl,g _ rfl⟩) ?_;exact⟨_,rfl,_,rfl,fs,an,f,rfl,F,k,j,λa ha=>⟨(aC rfl),h (.say a) ⟨a,ha,rfl⟩⟩⟩
 |succ e=>
  refine cK (aKi fs f (mN fs f m)) (λq g=>⟨_,rfl,?_⟩) ?_
  ·show(if decide ((0:Int)<((e+1:Nat):Int))=true then _ else q .none);rw[b8 (c6 (by lia))];exact⟨_,rfl,_,rfl,_,rfl,fs,an,f,m,rfl,F,k,j,g⟩
  cases r:mN fs f m with
  |none=>
   refine nI (λq g=>⟨_,rfl,g _ rfl⟩) ?_;refine⟨_,rfl,_,rfl,fs,an,f,rfl,F,k,j,λa ha=>⟨(aC rfl),h (.say a) ?_⟩⟩;unfold Gr;rw[r];exact⟨a,ha,rfl⟩
  |some c=>
   have J:=(cC.mp (yO r)).1;obtain⟨g,hs⟩:=GP J;have E:=BU g;refine oQ (λq g=>⟨_,rfl,g _ rfl⟩) ?_;refine cK (.tuple [.list (iU fs c.1.1 c.1.2.1 c.1.2.2 c.2 f "yes"),.list (iU fs c.1.1 c.1.2.1 c.1.2.2 c.2 f "no")]) (λq p=>⟨_,rfl,_,rfl,_,rfl,_,rfl,_,rfl,_,rfl,fs,an,c.1.1,c.1.2.1,c.1.2.2,c.2,f,rfl,F,E,hs,k,j,p⟩) ?_;refine iG (λv=>∃y n,Gr fs an m e (yR fs c f) y/\Gr fs an m e (nR fs c f) n/\v=.list [mK y,mK n]) (λq p=>?_) ?_
   ·have es:((e+1:Nat):Int)-1=((e:Nat):Int):=by lia
    refine LJ (ts:=[.list (iU fs c.1.1 c.1.2.1 c.1.2.2 c.2 f "yes"),.list (iU fs c.1.1 c.1.2.1 c.1.2.2 c.2 f "no")]) (λR h=>⟨_,rfl,_,rfl,h⟩) (λi _ y=>(i=0->∃t,Gr fs an m e (yR fs c f) t/\y=mK t)/\(i=1->∃t,Gr fs an m e (nR fs c f) t/\y=mK t)) (aC rfl) (λi x q B C=>?_) λys G o=>?_
    ·have hi:i<2:=(aF.mp B).1;rcases(show i=0\/i=1 by lia)with rfl | rfl
     ·cases B;exact⟨_,rfl,_,rfl,_,rfl,fs,c.1.1,c.1.2.1,c.1.2.2,c.2,"yes",f,rfl,j,_,rfl,_,rfl,fs,an,_,e,m,by rw[<- es]<;>rfl,F,k.filt _,aX (bK _ _) j,by lia,λt A=>C _ ⟨λ_=>⟨t,A,rfl⟩,λz=>by cases z⟩⟩
     ·cases B;refine⟨_,rfl,_,rfl,_,rfl,fs,c.1.1,c.1.2.1,c.1.2.2,c.2,"no",f,rfl,j,?_⟩;rw[F9 F E hs k];exact⟨_,rfl,_,rfl,fs,an,_,e,m,by rw[<- es]<;>rfl,F,k.filt _,aX (bK _ _) j,by lia,λt A=>C _ ⟨(λz=>by cases z),λ_=>⟨t,A,rfl⟩⟩⟩
    ·match ys,G,o with
     |[a,b],_,o=>
      obtain⟨y,s,rfl⟩:=(o 0 _ a rfl rfl).1 rfl;obtain⟨n,u,rfl⟩:=(o 1 _ b rfl rfl).2 rfl;exact p _ ⟨y,n,s,u,rfl⟩
   ·rintro _ ⟨y,n,s,u,rfl⟩;refine⟨_,rfl,_,rfl,_,rfl,_,rfl,_,rfl,_,rfl,_,rfl,_,rfl,(aC rfl),h (.ask c.1.1 c.1.2.1 c.1.2.2 c.2 y n) ?_⟩;unfold Gr;rw[r];exact⟨y,n,s,u,rfl⟩
def T4:dP P w K mg base iL 15 oj oy ["form","rows","deep","least"] (dB K aH7):=by
 have h:∀dd:Nat,dP P w K mg base iL (8+dd) oj oy ["form","rows","deep","least"] (dB K (tJ dd)):=λdd=>by
  induction dd with
  |zero=>exact LQ CK λds Q h=>UG h
  |succ dd a=>exact X7 T dd a
 exact h 7
def aKw:dP P w K mg base iL 1 Fu Ie ["self"] (kO K (aOc e9)):=by
 refine PZ (F:=kX e9) T.D_4.F aJb (λe n ds Q h=>by obtain⟨a,ks,b,rfl,hk,h⟩:=h;rfl) λt6 c outer s H E d Tp n ds Q h=>?_;obtain⟨a,ks,b,rfl,hk,h⟩:=h;have nd:=aJb.nd;refine⟨_,(BW (T7 T.C_Book T.n_Book_numbered (aH 0) (pc:=λh=>uQ (yN rfl) rfl T.b_list GZ (fP (TU mZ FJ PySem.F.type_dict_items PB h) jX)))),?_⟩;obtain rfl:Tp=a:=iM b;refine⟨_,rfl,rfl,?_⟩;rw[hk];unfold kK;rw[bN];exact h
def aOp:dP P w K mg base iL 1 Fv Ig ["self"] (mH K (aOb e9)):=by
 refine fnZ (F:=kX e9) T.D_5.F aOk λc nd Tp n ds Q h=>?_;obtain⟨a,b,rfl,h⟩:=h;refine⟨_,(gK (nF (sJ T.C_Book T.n_Book_standing (aH 0)))),?_⟩;obtain rfl:Tp=a:=iM b;exact⟨_,rfl,rfl,Tp,_,rfl,rfl,h⟩
def ZC:dP P w K mg base iL 2 Eo Gg ["self","number"] (mH K (aN9 e9)):=by
 refine fnZ (F:=kX e9) T.D_7.F aD8 λc nd Tp n ds Q h=>?_;obtain⟨a,j,d,e,rfl,b,h⟩:=h;refine⟨_,(gK (pL (RN c.u1 T.C_Book T.n_Book_numbered (aH 1) (aH 0))
 (gK (lV rE))
 mU)),?_⟩
 obtain rfl:Tp=a:=iM e;refine⟨_,rfl,j,rfl,_,rfl,rfl,?_⟩;rw[b];exact h
def ZD:dP P w K mg base iL 4 En Gf ["self","thing"] (mH K (aOa e9)):=by
 refine fnZ (F:=kX e9) T.D_6.F aD9 λa nd Tp n ds Q h=>?_;obtain⟨fs,an,b,d,e,rfl,F,c,hd,hw,h⟩:=h;refine⟨_,(gK (pL (BE (BD (CN (M8 T) T.D_11.m T.D_11.k T.D_11.d (a.mono (by decide)) (eU (sJ T.C_Book T.n_Book_form (aH 0)) (eU (lB (aH 1)) oV)) (λh=>mG (M8 T) (a.mono (by decide)) rfl T.D_11.m T.D_11.k T.D_11.d .nil jE h)) (λh=>yC h)))
 (gK (lV rE))
 mU)),?_⟩
 obtain rfl:Tp=b:=iM e;refine⟨_,rfl,rfl,Tp,_,rfl,rfl,_,rfl,fs,an,d,by rw[c],F,hd,?_⟩;rw[hw];exact h
def aE1:dP P w K mg base iL 16 Fw Ih ["self"] (kO K (aN8 e9)):=by
 refine PZ (F:=kX e9) T.D_8.F aIt (λr n ds Q h=>by obtain⟨fs,an,d,m,c,ks,t0,g,rfl,b,f,h⟩:=h;rfl) λt6 o outer s H E a Tp n ds Q h=>?_;obtain⟨fs,an,d,m,c,ks,t0,g,rfl,b,f,h⟩:=h;have nd:=aIt.nd;refine⟨_,(kZ (BH (i:=1) (sJ T.C_Book T.n_Book_standing (aH 0)) (λh=>lO h (pn 1 nd)))
 (kZ (XX T.C_Book T.n_Book_standing (aH 0) (CN (T4 T) T.D_34.m T.D_34.k T.D_34.d (a.mono (by decide)) (eU (sJ T.C_Book T.n_Book_form (aH 0)) (eU (aAe T.C_Book T.n_Book_numbered (aH 0) (pc:=λh=>uQ (AC rfl) rfl T.b_list GZ (fP (TU mZ D2 PySem.F.type_dict_values LC h) jX))) (eU (sJ T.C_Book T.n_Book_deep (aH 0)) (eU (sJ T.C_Book T.n_Book_least (aH 0)) oV)))) (λh=>mG (T4 T) (a.mono (by decide)) rfl T.D_34.m T.D_34.k T.D_34.d .nil jE h)))
 (BW (T8 (eU (lB (aH 1)) (eU (sJ T.C_Book T.n_Book_standing (aH 0)) oV)) (λh=>mG (aB8 T) (a.mono (by decide)) rfl T.D_36.m T.D_36.k T.D_36.d .nil jE h))))),?_⟩
 obtain rfl:Tp=c:=iM g;have l:n.kvs.map (·.2)=(ks.map (·.2)).map dA:=by rw[b.kv];unfold kK;rw[bN,bN];rfl
 have d6:=b.d6;have p:=b.dep;refine⟨_,rfl,rfl,Tp,_,rfl,rfl,?_⟩;refine⟨_,rfl,rfl,Tp,_,rfl,rfl,_,rfl,rfl,_,rfl,rfl,Tp,_,rfl,rfl,_,rfl,rfl,Tp,_,rfl,rfl,?_⟩;refine⟨fs,an,ks.map (·.2),d,m,by rw[b.fm,l,b.dp,b.ls],b.F,b.ok,by rw[aB];exact f,by lia,λt e=>?_⟩;obtain⟨j,q⟩:=NR d e;refine⟨_,rfl,rfl,?_⟩;dsimp only;refine⟨_,rfl,_,rfl,rfl,Tp,_,rfl,rfl,fs,an,t0,t,by rw[b.st],b.F,b.tr,j,by lia,by lia,by lia,h t e⟩
def aLd:dP P w K mg base iL 17 Ek Gc ["self","row"] (kO K (aOf e9)):=by
 refine PZ (F:=kX e9) T.D_1.F YO (λB n ds Q h=>by obtain⟨fs,an,d,m,j,ks,k,r,t0,o,rfl,b,x,f,u,l,c,h⟩:=h;rfl) λt6 y outer s H E g Tp n ds Q h=>?_;obtain⟨fs,an,d,m,j,ks,k,r,t0,o,rfl,b,x,f,u,l,c,h⟩:=h;have nd:=YO.nd;refine⟨_,(kZ (pY (qE (by decide +kernel) (aH 0) (sL (aA (aH 1) aM)) (λh ha=>kG h T.C_Book T.M_6 (ZD T) (g.mono (by decide)) T.D_6.d .nil jE ha)) (λh=>fN h))
 (kZ (pL (RO II rH (aFt T.C_Book T.n_Book_numbered (aH 0) (pc:=λh=>kN FB rfl T.b_len fQ (fP h jX))) (lB (aAj rfl T.c_MOST_ROWS)))
 (gK (lV rE))
 mU)
 (kZ (BH (i:=2) (sJ T.C_Book T.n_Book_following (aH 0)) (λh=>lO h (pn 2 nd)))
 (kZ (XY T.C_Book T.n_Book_following (aH 0) aK)
 (kZ (R5 g.u1 T.C_Book T.n_Book_numbered (aH 0) (aH 2) (aH 1))
 (BW (K9 (aH 2) (tS (by decide +kernel) (aH 0) (λh=>rG h T.C_Book T.M_8 (aE1 T) (g.mono (by decide)) T.D_8.d .nil jE))))))))),?_⟩
 obtain rfl:Tp=j:=iM o;have hk:=b.kv;refine⟨_,rfl,rfl,_,rfl,fs,an,Tp,dA r,rfl,rfl,b.F,b.fm,LZ b.F c,tV c,?_⟩;have A:n.kvs.length=ks.length:=by rw[hk];unfold kK;rw[aB]
 dsimp only;refine BA false (λq a=>⟨_,rfl,rfl,?_⟩) (λz=>by cases z) λ_=>?_
 ·have e:decide ((60:Int)<=(n.kvs.length:Nat))=false:=c9 (by lia);rw[<- e]at a;exact a
 unfold MI;dsimp only;refine XI (.int (k:Nat)) (λq a=>⟨_,rfl,rfl,Tp,_,rfl,rfl,by rw[f];exact a⟩) ?_;refine⟨_,rfl,rfl,1,rfl,?_⟩;refine⟨_,rfl,_,rfl,rfl,_,rfl,(k:Nat),rfl,by show n.kvs.length<=_;lia,?_⟩;have p:zY n.kvs (k:Nat) (dA r)=kK (ks++[(k,r)]):=by rw[hk];exact wZ l
 refine⟨_,rfl,_,rfl,rfl,fs,an,d,m,Tp,ks++[(k,r)],t0,rfl,rfl,⟨b.F,b.fm,b.dp,b.ls,b.d6,p,EG b.ok c,b.st,b.tr,b.dep⟩,by rw[bO];show _+1<=60;lia,λt v=>?_⟩;have e:(⟨kK (ks++[(k,r)]),((k+1:Nat):Int),mK t⟩:XA)=⟨zY n.kvs (k:Nat) (dA r),n.fol+1,mK t⟩:=by rw[p,f];rfl
 have a:=h t v;rw[e]at a;exact a
def aOr:dP P w K mg base iL 17 El Gd ["self","number"] (kO K (aOe e9)):=by
 refine PZ (F:=kX e9) T.D_2.F YN (λu n ds Q h=>by obtain⟨fs,an,d,m,a,ks,k,r,t0,o,rfl,b,g,f,h⟩:=h;rfl) λt6 q outer s H E l Tp n ds Q h=>?_;obtain⟨fs,an,d,m,a,ks,k,r,t0,o,rfl,b,g,f,h⟩:=h;have nd:=YN.nd;refine⟨_,(kZ (pY (qE (by decide +kernel) (aH 0) (sL (aA (aH 1) aM)) (λh ha=>kG h T.C_Book T.M_7 (ZC T) (l.mono (by decide)) T.D_7.d .nil jE ha)) (λh=>fN h))
 (kZ (BH (i:=2) (aFs T.C_Book T.n_Book_numbered (aH 0) (aH 1) (pc:=λh ha=>lF mZ sZ HI NH h (fP ha jX))) (λh=>lO h (pn 2 nd)))
 (BW (K9 (aH 2) (tS (by decide +kernel) (aH 0) (λh=>rG h T.C_Book T.M_8 (aE1 T) (l.mono (by decide)) T.D_8.d .nil jE)))))),?_⟩
 obtain rfl:Tp=a:=iM o;have e:oS n.kvs (k:Nat)=some (dA r):=by rw[b.kv];exact sG f
 refine⟨_,rfl,rfl,_,rfl,Tp,(k:Nat),dA r,rfl,rfl,e,?_⟩;dsimp only;refine⟨_,rfl,rfl,_,rfl,(k:Nat),dA r,rfl,e,?_⟩;have c:zI n.kvs (k:Nat)=kK (lT k ks):=by rw[b.kv];exact CT k ks
 refine⟨_,rfl,_,rfl,rfl,fs,an,d,m,Tp,lT k ks,t0,rfl,rfl,⟨b.F,b.fm,b.dp,b.ls,b.d6,c,EH b.ok,b.st,b.tr,b.dep⟩,aX (bK _ _) g,λt p=>?_⟩;have j:=h t p;rw[<- c]at j;exact j
def aOq:dP P w K mg base iL 17 Em Ge ["self","number","row"] (kO K (aOd e9)):=by
 refine PZ (F:=kX e9) T.D_3.F YM (λy n ds Q h=>by obtain⟨fs,an,d,m,g,ks,k,r,c,t0,p,rfl,b,l,f,e,h⟩:=h;rfl) λt6 v outer s H E a Tp n ds Q h=>?_;obtain⟨fs,an,d,m,g,ks,k,r,c,t0,p,rfl,b,l,f,e,h⟩:=h;have nd:=YM.nd;refine⟨_,(kZ (pY (qE (by decide +kernel) (aH 0) (sL (aA (aH 1) aM)) (λh ha=>kG h T.C_Book T.M_7 (ZC T) (a.mono (by decide)) T.D_7.d .nil jE ha)) (λh=>fN h))
 (kZ (pY (qE (by decide +kernel) (aH 0) (sL (aA (aH 2) aM)) (λh ha=>kG h T.C_Book T.M_6 (ZD T) (a.mono (by decide)) T.D_6.d .nil jE ha)) (λh=>fN h))
 (kZ (BH (i:=3) (aFu a.u1 T.C_Book T.n_Book_numbered (aH 0) (aH 1)) (λh=>lO h (pn 3 nd)))
 (kZ (R5 a.u1 T.C_Book T.n_Book_numbered (aH 0) (aH 1) (aH 2))
 (BW (K9 (aH 3) (tS (by decide +kernel) (aH 0) (λh=>rG h T.C_Book T.M_8 (aE1 T) (a.mono (by decide)) T.D_8.d .nil jE)))))))),?_⟩
 obtain rfl:Tp=g:=iM p;have hk:=b.kv;have j:oS n.kvs (k:Nat)=some (dA r):=by rw[hk];exact sG f
 refine⟨_,rfl,rfl,_,rfl,Tp,(k:Nat),dA r,rfl,rfl,j,?_⟩;dsimp only;refine⟨_,rfl,rfl,_,rfl,fs,an,Tp,dA c,rfl,rfl,b.F,b.fm,LZ b.F e,tV e,?_⟩;dsimp only;refine⟨_,rfl,rfl,_,rfl,(k:Nat),dA r,rfl,j,?_⟩;have x:n.kvs.length=ks.length:=by rw[hk];unfold kK;rw[aB]
 refine⟨_,rfl,_,rfl,rfl,_,rfl,(k:Nat),rfl,by lia,?_⟩;have q:zY n.kvs (k:Nat) (dA c)=kK (oZ k c ks):=by rw[hk];exact S3 f
 refine⟨_,rfl,_,rfl,rfl,fs,an,d,m,Tp,oZ k c ks,t0,rfl,rfl,⟨b.F,b.fm,b.dp,b.ls,b.d6,q,SO b.ok e,b.st,b.tr,b.dep⟩,by unfold oZ;rw[aB];exact l,λt u=>?_⟩;have o:=h t u;rw[<- q]at o;exact o
def aOs:dP P w K mg base iL 16 Ft Ic ["self","form","deep","least"] (GA e9 K aOg):=by
 refine fnB (C:=e9) T.D_0.F aJ5 rfl T.C_Book T.n_Book_form T.n_Book_deep T.n_Book_least T.n_Book_numbered T.n_Book_following T.n_Book_standing λt6 g outer s H E e i fm dp ls Q h=>?_;obtain⟨fs,an,d,m,a,F,hd,h⟩:=h;have nd:=aJ5.nd;refine⟨_,_,(cd (T4 T) T.D_34 e (aA (aH 1) (aA (oU aM) (aA (aH 2) (aA (aH 3) aM))))),(λh=>(lE (wC (pv 0) (pv 1) rfl) (lE (wC (pv 0) (pv 2) rfl) (lE (wC (pv 0) (pv 3) rfl) (lE (wC (pv 0) BY rfl) (lE (wC (pv 0) yE rfl) (sA (wC (pv 0) h rfl)))))))),?_⟩;injection a with f a
 injection a with b a
 injection a with c _
 injection b with b
 injection c with c
 subst f b c;exact⟨_,rfl,(aC rfl),_,rfl,_,rfl,fs,an,[],d,_,rfl,F,(λr e=>by cases e),(cU _),by lia,h⟩
def aB7:dP P w K mg base iL 1 yj Ai ["_law_cell","_law_k"] (dB K aBm):=by
 refine rS T.D_37.F aJe λm nd ds Q h=>?_;obtain⟨c,k,rfl,j,l,h⟩:=h;refine⟨_,(bD (ss 2 nd (cA gA qZ (cA dE iP (cA dE iP (cA eG kW (cA gA qZ (aH 0) aK) aK) (cA eG kW (aH 1) aK)) aK) aK))
 (bS (dS (cA gA qZ (cA eG kW (cA gA qZ (cA eG kW (aH 2) (aH 2)) aK) aK) aK)))),?_⟩
 walk_at "rd"
 have b:=cN c (show(1000000007:Int)≠0 by decide);have d:=cH c (show(0:Int)<1000000007 by decide)
 generalize n:(c%1000000007*48271+k*7919+101)=x
 have e:=cN x (show(2147483647:Int)≠0 by decide);have f:=cH x (show(0:Int)<2147483647 by decide)
 generalize o:x%2147483647=y at *
 have g:=cN (y*y) (show(2147483629:Int)≠0 by decide);have i:=cH (y*y) (show(0:Int)<2147483629 by decide)
 generalize hz:y*y%2147483629=z at *
 have a:(2:Int)^64=18446744073709551616:=by decide
 refine⟨by decide,.inl ⟨by lia,by lia⟩,.inl ⟨by lia,by lia⟩,by decide,.inl ⟨by lia,by lia⟩,by decide,.inl ⟨by lia,by lia⟩,by decide,h _ ?_ ?_⟩
 ·exact cN _ (by decide)
 ·exact cH _ (by decide)
def EL:dP P w K mg base iL 2 yk Aj ["_law_script","_law_k"] (dB K aH4):=by
 refine rS T.D_38.F aJd λj nd ds Q h=>?_;obtain⟨ns,k,rfl,l,f,g,h⟩:=h;refine⟨_,(bD (iO (dZ IH rH (aH 1) (cB iX (aA (aH 0) aM) cG T.b_len fQ))
 (bS (dS (bJ aU cD (aH 0) (aH 1))))
 fW)
 (bD (ss 2 nd aK)
 (bD (iO (dZ B2 rH (cB iX (aA (aH 0) aM) cG T.b_len fQ) aK)
 (bS (ss 2 nd (bJ aU cD (aH 0) (cA gA qZ (aH 1) (cB iX (aA (aH 0) aM) cG T.b_len fQ)))))
 fW)
 (bS (dS (cA dE iP (cA eG kW aK (cd (aB7 T) T.D_37 j (aA (aH 2) (aA (aH 1) aM)))) aK)))))),?_⟩
 walk_at "rd"
 have fin:∀c:Int,aBm [.int c,.int k] λy=>aFq (.int 2) y λx=>VU x (.int 1) Q:=λc=>
  ⟨c,k,rfl,f,g,λr _ _=>⟨.inl ⟨by decide,by decide⟩,h _⟩⟩
 rw[aB];by_cases e:k<(ns.length:Int)
 ·rw[b8 (c6 e)];obtain⟨a,hm,ha,_⟩:=qT (xs:=ns.map aW) (i:=k) f (by rw[aB];exact e);obtain⟨b,_,rfl⟩:=bC.mp hm;exact⟨_,ha,h b⟩
 ·rw[a8 (by simpa using e)];by_cases d:0<(ns.length:Int)
  ·rw[b8 (c6 d)];refine⟨d,?_⟩;obtain⟨a,hm,ha,_⟩:=qT (xs:=ns.map aW) (i:=k%(ns.length:Int)) (cN _ (by lia)) (by rw[aB];exact cH _ d);obtain⟨b,_,rfl⟩:=bC.mp hm;exact⟨_,ha,fin b⟩
  ·rw[a8 (by simpa using d)];exact fin 0
def EK:dP P w K mg base iL 2 yl Ak ["_law_cell","_law_many"] (dB K aH3):=by
 refine rS T.D_39.F aJc λm nd ds Q h=>?_;obtain⟨c,n,rfl,hn,h⟩:=h;refine⟨_,(bD (so 2 nd aM)
 (bD (ss 3 nd (cA pF qZ (aH 0) aK))
 (bD (sf (lH (aA (aH 1) aM) (λh=>jR rfl T.b_range h)) (eB (pn 4 nd))
 (bS (iO (dZ jF mL (cA gA qZ (aH 0) aK) aK)
 (bD (pM (i:=2) (pv 2) (cA gA qZ (aH 3) aK) (pb:=λh=>fN (lF bY cX cW iR (pv 2) h)))
 (bS (ss 3 nd (cA pF qZ (aH 3) aK))))
 (bS (pM (i:=2) (pv 2) (cA gA qZ (cA pF qZ (cd (aB7 T) T.D_37 m (aA (cA pF qZ (aH 0) aK) (aA (aH 4) aM))) aK) aK) (pb:=λh=>fN (lF bY cX cW iR (pv 2) h)))))))
 (nG 2 (bS (dS (aH 2))))))),?_⟩
 walk_at "rd"
 refine⟨⟨by decide,by decide⟩,VM (ts:=eI n) (λR h=>⟨_,rfl,(n:Int),rfl,by lia,by lia,by simpa using h⟩)
  (λk σ=>∃(bs:List Int)(l:Int)(sl:Sl),σ=[.val (.int c),.val (.int n),.own (bs.map aW),.val (.int l),sl]/\yS k bs) ⟨[],_,_,rfl,rfl,λb hb=>by simp at hb⟩ (λk x d8 o d=>?_) λd8 d=>?_⟩
 ·obtain⟨hk,rfl⟩:=gX o;obtain⟨bs,l,sl,rfl,a⟩:=d;have f:(bs.map aW).length<=100000:=by rw[aB,a.1];lia
  have more:∀b:Int,0<=b->b<4096->yS (k+1) (bs++[b]):=λb g j=>⟨by rw[bO,a.1];rfl,λe p=>by
   rcases dQ.mp p with z | z
   ·exact a.2 e z
   ·have:e=b:=by simpa using z
    subst this;exact⟨g,j⟩⟩
  show YT _ _ _ _ [.val (.int c),.val (.int n),.own (bs.map aW),.val (.int l),.val (.int k)]
  walk_at "rd"
  refine⟨by decide,?_⟩;split
  ·refine⟨by decide,f,⟨by decide,by decide⟩,⟨bs++[l%4096],_,_,by rw[bQ];rfl,more _ (cN _ (by decide)) (cH _ (by decide))⟩⟩
  ·refine⟨⟨by decide,by decide⟩,_,_,rfl,by lia,by lia,λr _ _=>?_⟩;exact⟨⟨by decide,by decide⟩,by decide,f,⟨bs++[r / 3%4096],_,_,by rw[bQ];rfl,more _ (cN _ (by decide)) (cH _ (by decide))⟩⟩
 ·obtain⟨bs,l,sl,rfl,a⟩:=d;rw[iW]at a;exact⟨_,rfl,_,rfl,h bs a⟩
def T3:dP P w K mg base iL 1 ym Al ["_law_drawn_here","_law_at","_law_many"] (dB K aH2):=by
 refine rS T.D_40.F aJa λhr nd ds Q h=>?_;obtain⟨bs,n,m,k,rfl,hb,hk,hn,hm,h⟩:=h;refine⟨_,(bD (ss 3 nd eA)
 (bD (ss 4 nd (aAh eA (aA (el (fr:=[none,some 3,some 0,some 1]) (N':=["_law_k","_law_letters","_law_drawn_here","_law_at"]) (lH (aA aK aM) (λh=>jR rfl T.b_range h)) (λb=>⟨(eB (pk 0)),jY,(bJ aU cD (aH 1) (cA gA qZ (bJ aU cD (aH 2) (cA dE iP (cA dE iP (aH 3) aK) (aH 0))) aK))⟩)) aM) (λh ha=>lF PySem.F.plainAttrs_str PySem.F.slot_str_join PySem.F.type_str_join ZM h ha)))
 (bD (ss 5 nd (cA gA qZ (cA pF qZ (bJ aU cD (aH 0) (aH 1)) aK) aK))
 (bD (ss 6 nd (oU (aA eA (aA eA (aA eA (aA eA (aA eA (aA eA (aA eA (aA eA aM))))))))))
 (bD (iO (dZ jF mL (cA gA qZ (bJ aU cD (aH 0) (aH 1)) aK) aK)
 (bS (rD (i:=6) (fr:=[none,some 4]) (N':=["_law_k","_law_word"]) (lH (aA aK aM) (λh=>jR rfl T.b_range h)) (λb=>⟨(eB (pk 0)),jY,(jU nH xC (aH 1) mS (kH (cA dE iP (aH 0) aK)))⟩) (λhi hY=>pJ (show sR _ (bB (top 47)) ["_law_drawn_here","_law_at","_law_many","_law_letters","_law_word","_law_turn","_law_names_here","_law_place","_law_k","_law_sign"] ["_law_k","_law_word"] [none,some 4]=true from by decide +kernel) nd rfl (by first | exact y9 rfl | exact v8 rfl) rfl hi hY rfl)))
 fW)
 (bD (iO (dZ jF mL (cA gA qZ (bJ aU cD (aH 0) (aH 1)) aK) aK)
 (bD (ss 7 nd (cA gA qZ (bJ aU cD (aH 0) (cA dE iP (aH 1) aK)) (cA dE iP (aH 5) aK)))
 (bD (so 6 nd aM)
 (bD (sf (lH (aA aK aM) (λh=>jR rfl T.b_range h)) (eB (pn 8 nd))
 (bD (ss 9 nd (bJ aU cD (aH 3) (cA gA qZ (cA dE iP (bJ aU cD (aH 0) (cA dE iP (aH 1) aK)) (cA eG kW aK (aH 8))) aK)))
 (bS (pM (i:=6) (pv 6) (cA dE iP (cA dE iP (jU nH xC (aH 4) mS (kH (aH 7))) (aH 9)) (jU nH xC (aH 4) (kH (cA dE iP (aH 7) aK)) (kH (cA dE iP (aH 5) aK)))) (pb:=λh=>fN (lF bY cX cW iR (pv 6) h))))))
 (nG 6 fW))))
 fW)
 (bS (dS (cY GX (aA (jU nH xC (cA dE iP (jU nH xC (aH 6) (kH (aH 5)) mS) (jU nH xC (aH 6) mS (kH (aH 5)))) mS (kH (aH 2))) aM) qR T.b_tuple xR))))))))),?_⟩
 show hZ _ _ _ [.val (.list (bs.map aW)),.val (.int k),.val (.int m),.un,.un,.un,.un,.un,.un,.un];obtain⟨v,Jx,Jy,C⟩:=gY hb (i:=(k:Int)) (by lia) (by lia);obtain⟨b9,Qw,Qx,Kl⟩:=gY hb (i:=(k:Int)+9) (by lia) (by lia);obtain⟨E,Qm,Qo,Dc⟩:=gY hb (i:=(k:Int)+10) (by lia) (by lia);have Pm:(0:Int)<26:=by decide
 have p8:(0:Int)<8:=by decide
 have W:(0:Int)<3:=by decide
 refine cK (.str kJ) (λq f=>f) ?_;refine iG (λd=>∃z:Str,d=.str z/\z.cps.toList.length=8/\∀c∈z.cps.toList,c∈kJ.cps.toList) (λq f=>?_) ?_
 ·refine⟨_,rfl,?_⟩;refine LJ (ts:=eI 8) (λR h=>⟨8,rfl,by decide,by decide,h⟩) (λ_ _ y=>∃c,c∈kJ.cps.toList/\y=.str ⟨#[c]⟩) (by decide) (λj x q A f=>?_) λys J B=>?_
  ·obtain⟨s,rfl⟩:=gX A;obtain⟨b,h0,h1,Rp⟩:=gY hb (i:=(k:Int)+1+(j:Int)) (by lia) (by lia);obtain⟨c,o,Gk,_⟩:=qT (xs:=kJ.cps.toList) (i:=b%26) (cN _ (by decide)) (cH _ (by decide));exact⟨_,rfl,_,rfl,_,rfl,_,rfl,_,Rp,Pm,by decide,c,Gk,f _ ⟨c,o,rfl⟩⟩
  ·obtain⟨cs,rfl,er⟩:=HV (ys:=ys) λy Bi=>by
    obtain⟨j,s,rfl⟩:=vX.mp Bi;have So:j<(eI 8).length:=by rw[<- J];exact s
    exact B j (eI 8)[j] _ (aD So) (aD s)
   have G:cs.length=8:=by rw[aB,iW]at J;exact J
   refine⟨cs.map λc=>⟨#[c]⟩,by rw[bN];rfl,?_,f _ ⟨_,rfl,?_,?_⟩⟩
   ·rw[aB,bN,G]
    have:(FM ((λx:Str=>x.length)∘λc=>(⟨#[c]⟩:Str)) cs).sum=cs.length:=by
     clear G J B er
     induction cs with
     |nil=>rfl
     |cons a l ih=>rw[bR,gI,ih,dY];show 1+_=_;lia
    rw[this,G];decide
   ·rw[show(Txt.join (e8 "") (cs.map λc=>⟨#[c]⟩)).cps.toList=cs from CF cs];exact G
   ·rw[show(Txt.join (e8 "") (cs.map λc=>⟨#[c]⟩)).cps.toList=cs from CF cs];exact er
 rintro _ ⟨z,rfl,Ml,L⟩
 have hz:z.length<=100000:=by
  have:z.length=z.cps.toList.length:=by simp[bx]
  lia
 generalize S:v / 3%8=t
 have Ly:0<=t:=by rw[<- S];exact cN _ (by decide)
 have Xb:t<8:=by rw[<- S];exact cH _ (by decide)
 refine cK (.int t) (λq f=>⟨_,rfl,_,rfl,_,C,⟨by decide,by decide⟩,p8,by rw[S];exact f⟩) ?_;refine cK (.list (UJ.map aS)) (λq f=>⟨by decide,f⟩) ?_
 have U:∀(ys:List Str)σ,L9 8 ys->σ[6]?=some (.val (.list (ys.map aS)))->σ[5]?=some (.val (.int t))->σ[2]?=some (.val (.int m)) ->
   zX (pO (f1 LP) (sS (eSl fSl (P1 VU (eSl fSl (rN 6) (IM (rN 5)) IN) (eSl fSl (rN 6) IN (IM (rN 5)))) IN (IM (rN 2))) G2)) { nx:=λ_=>Q .none,rt:=Q } σ:=λys σ B e6 H r=>by
  refine⟨_,e6,_,H,_,e6,_,H,?_,_,r,?_⟩
  ·rw[pG,pG,aB,aB];have:=B.1;unfold mW;simp only[bL,eM];lia
  ·show Q (.tuple (mW (mW (ys.map aS) (some t) none++mW (ys.map aS) none (some t)) none (some (m:Int))));rw[pG,pG,<- bQ,pG];have et:t=((t.toNat:Nat):Int):=by lia
   rw[et,V8,qQ,qQ];exact h _ (aLj B _ hm)
 refine lN (λb=>b=decide (v%3=0)) (λq f=>⟨_,rfl,_,rfl,_,C,W,f _ rfl⟩) (λI=>?_) λhF=>?_
 ·have Z:v%3=0:=c8 I.symm;refine mT (.list (((fZ 8).map λ(j:Nat)=>Txt.slice z none (some ((j:Int)+1))).map aS)) (λq f=>?_) ?_
  ·refine lA (ts:=eI 8) (λR h=>⟨8,rfl,by decide,by decide,h⟩) (λx=>match x with | .int j=>.str (Txt.slice z none (some (j+1))) | _=>.none) (by decide) (λx q A f=>?_) ?_
   ·obtain⟨j,s,rfl⟩:=bC.mp A;exact⟨_,rfl,_,rfl,hz,f⟩
   ·unfold eI;rw[bN];rw[bN]at f;exact f
  ·dsimp only;refine lN (λb=>b=false) (λq f=>⟨_,rfl,_,rfl,_,C,W,f _ (by rw[Z];rfl)⟩) (λI=>by cases I) λ_=>?_;refine U _ _ (ER _ (λi hi=>?_) λi j hi s e=>?_) rfl rfl rfl
   ·have e:(Txt.slice z none (some ((i:Int)+1))).cps.toList=z.cps.toList.take (i+1):=by
     rw[oI];exact qQ _ (i+1)
    refine UC ?_ ?_ λc o=>?_
    ·rw[e,bL];lia
    ·rw[e,bL];lia
    ·rw[e]at o;exact L c (eE o)
   ·have p:(Txt.slice z none (some ((i:Int)+1))).cps.toList=z.cps.toList.take (i+1):=by
     rw[oI];exact qQ _ (i+1)
    have r:(Txt.slice z none (some ((j:Int)+1))).cps.toList=z.cps.toList.take (j+1):=by
     rw[oI];exact qQ _ (j+1)
    rw[e]at p;have:=j5 lK (p.symm.trans r);rw[bL,bL]at this;lia
 ·have Z:¬v%3=0:=t7 hF.symm;unfold mY;dsimp only;refine lN (λb=>b=decide (v%3=1)) (λq f=>⟨_,rfl,_,rfl,_,C,W,f _ rfl⟩) (λI=>?_) λhF=>?_
  ·generalize M:b9%(t+1)=pl
   have Hf:0<=pl:=by rw[<- M];exact cN _ (by lia)
   have wy:pl<t+1:=by rw[<- M];exact cH _ (by lia)
   refine cK (.int pl) (λq f=>⟨_,rfl,_,rfl,_,Kl,_,rfl,(show(0:Int)<t+1 by lia),by rw[M];exact f⟩) ?_;refine pE [] (by decide) (λq f=>f) ?_
   have g:∀j:Nat,∃c,c∈kJ.cps.toList/\atI kJ.cps.toList ((E+5*(j:Int))%26)=some c/\kJ.cps.toList[((E+5*(j:Int))%26).toNat]?=some c:=λj=>
    qT (cN _ (by decide)) (cH _ (by decide))
   let F:Nat->Str:=λj=>Txt.slice z none (some pl)++⟨#[i0 (g j)]⟩++Txt.slice z (some (pl+1)) (some (t+1))
   have u:∀j,(F j).cps.toList=z.cps.toList.take pl.toNat++(i0 (g j)::(z.cps.toList.drop (pl.toNat+1)).take (t.toNat-pl.toNat)):=λj=>by
    show(Txt.slice z none (some pl)++⟨#[i0 (g j)]⟩++Txt.slice z (some (pl+1)) (some (t+1))).cps.toList=_;rw[vB,vB,oI,oI];have p:pl=((pl.toNat:Nat):Int):=by lia
    have r:pl+1=((pl.toNat+1:Nat):Int):=by lia
    have N:t+1=((t.toNat+1:Nat):Int):=by lia
    rw[r,N,aF4]
    have e4:mW z.cps.toList none (some pl)=z.cps.toList.take pl.toNat:=by
     have:=qQ z.cps.toList pl.toNat
     rwa [<- p]at this
    rw[e4];have H:t.toNat+1-(pl.toNat+1)=t.toNat-pl.toNat:=by lia
    rw[H];simp
   refine mE (ts:=eI 8) (λR h=>⟨8,rfl,by decide,by decide,h⟩)
    (λj σ=>∃X Y:Sl,σ=[.val (.list (bs.map aW)),.val (.int k),.val (.int m),.val (.str kJ),.val (.str z),.val (.int t),.own (((fZ j).map F).map aS),.val (.int pl),X,Y]) ⟨_,_,rfl⟩ (λj x d8 A O=>?_) λd8 O=>?_
   ·obtain⟨s,rfl⟩:=gX A;obtain⟨X,Y,rfl⟩:=O;have o:=d9 (g j);refine cK (.str ⟨#[i0 (g j)]⟩) (λq f=>⟨_,rfl,_,rfl,_,rfl,_,Dc,_,rfl,.inl ⟨by decide,by decide⟩,Pm,by decide,_,o.2.1,f⟩) ?_;refine qA (ts:=((fZ j).map F).map aS) (.str (F j)) rfl (by simp;lia) (λq f=>?_) ⟨.val (.int j),.val (.str ⟨#[i0 (g j)]⟩),?_⟩
    ·refine⟨_,rfl,_,rfl,hz,_,rfl,?_,_,rfl,_,rfl,_,rfl,hz,?_,f⟩
     ·have:=Txt.slice_le z none (some pl);show(Txt.slice z none (some pl)).length+1<=100000;have:z.length=z.cps.toList.length:=by simp[bx]
      lia
     ·have a1:=Txt.slice_le z none (some pl);have a2:=Txt.slice_le z (some (pl+1)) (some (t+1));have a3:z.length=z.cps.toList.length:=by simp[bx]
      show(Txt.slice z none (some pl)++⟨#[i0 (g j)]⟩).length+_<=100000
      have a4:(Txt.slice z none (some pl)++(⟨#[i0 (g j)]⟩:Str)).length=(Txt.slice z none (some pl)).length+1:=by
       show((Txt.slice z none (some pl)).cps++#[_]).size=_;rw[RD];rfl
      rw[a4];lia
    ·rw[DD,bQ,bQ];rfl
   ·obtain⟨X,Y,rfl⟩:=O;rw[iW];refine⟨_,rfl,?_⟩;refine U _ _ (ER F (λi hi=>?_) λi j hi s e=>?_) rfl rfl rfl
    ·have o:=d9 (g i);refine UC ?_ ?_ λc br=>?_
     ·rw[u];simp only[bO,dY];lia
     ·rw[u];simp only[bO,bL,dY,eM];lia
     ·rw[u]at br;rcases dQ.mp br with q | q
      ·exact L c (eE q)
      ·rcases aP.mp q with q | q
       ·rw[q];exact o.1
       ·exact L c (vW (eE q))
    ·have p:=u i;rw[e,u j]at p;have r:=List.append_cancel_left p;have N:i0 (g j)=i0 (g i):=(List.cons.inj r).1;have q1:=(d9 (g i)).2.2;have q2:=(d9 (g j)).2.2;rw[N]at q2;have e4:=ZI LH q1 q2;have:=cN (E+5*(i:Int)) (show(26:Int)≠0 by decide);have:=cN (E+5*(j:Int)) (show(26:Int)≠0 by decide);lia
  ·exact U _ _ aOv rfl rfl rfl
def aKv:dP P w K mg base iL 3 yn Am ["_law_script"] (dB K aH1):=by
 refine rS T.D_41.F aI9 λb nd ds Q h=>?_;obtain⟨ns,rfl,t,h⟩:=h;refine⟨_,(bD (ss 1 nd (cd (EK T) T.D_39 b (aA (cd (EL T) T.D_38 b (aA (aH 0) (aA aK aM))) (aA aK aM))))
 (bD (ss 2 nd (cd (T3 T) T.D_40 b (aA (aH 1) (aA aK (aA (bJ aU cD (oU (aA aK (aA aK (aA aK (aA aK (aA aK (aA aK (aA aK (aA aK aM))))))))) (cA gA qZ (bJ aU cD (aH 1) aK) aK)) aM)))))
 (bD (so 3 nd aM)
 (bD (sf (lH (aA (cB iX (aA (aH 2) aM) cG T.b_len fQ) aM) (λh=>jR rfl T.b_range h)) (eB (pn 4 nd))
 (bD (ss 5 nd (cd (EK T) T.D_39 b (aA (cd (EL T) T.D_38 b (aA (aH 0) (aA (cA dE iP aK (aH 4)) aM))) (aA aK aM))))
 (bS (pM (i:=3) (pv 3) (eR (aA (bJ aU cD (aH 2) (aH 4)) (aA (cd (T3 T) T.D_40 b (aA (aH 5) (aA aK (aA (bJ aU cD (oU (aA aK (aA aK (aA aK (aA aK (aA aK (aA aK aM))))))) (cA gA qZ (bJ aU cD (aH 5) aK) aK)) aM)))) aM))) (pb:=λh=>fN (lF bY cX cW iR (pv 3) h))))))
 (bD (ss 5 nd (cd (EK T) T.D_39 b (aA (cd (EL T) T.D_38 b (aA (aH 0) (aA aK aM))) (aA aK aM))))
 (nG 3 (bS (dS (eR (aA (cY GX (aA (aH 3) aM) qR T.b_tuple xR) (aA (cd (T3 T) T.D_40 b (aA (aH 5) (aA aK (aA (bJ aU cD (oU (aA aK (aA aK (aA aK (aA aK aM))))) (cA gA qZ (bJ aU cD (aH 5) aK) aK)) aM)))) aM))))))))))),?_⟩
 have I:(0:Int)<8:=by decide
 have H:(0:Int)<6:=by decide
 have G:(0:Int)<4:=by decide
 show hZ _ _ _ [.val (.list (ns.map aW)),.un,.un,.un,.un,.un];refine iG (λd=>∃bs,yS 20 bs/\d=.list (bs.map aW)) (λq a=>⟨_,rfl,ns,0,rfl,t,by decide,by decide,λr=>⟨r,20,rfl,by decide,λbs hb=>a _ ⟨bs,hb,rfl⟩⟩⟩) ?_;rintro _ ⟨bs,hb,rfl⟩;obtain⟨S,C,E,J⟩:=gY hb (i:=0) (by decide) (by decide);obtain⟨m,X,W,hm⟩:=aEl (xs:=[1,2,2,3,3,3,4,5]) (lo:=1) (hi:=5) (by decide) (i:=S%8) (cN _ (by decide)) (cH _ I);refine iG (λd=>∃ys,L9 m.toNat ys/\d=.tuple (ys.map aS)) (λq a=>?_) ?_
 ·refine⟨_,rfl,by decide,_,rfl,_,J,I,_,hm,bs,20,m.toNat,1,?_,hb,by decide,by decide,by lia,λys j=>a _ ⟨ys,j,rfl⟩⟩;rw[show((m.toNat:Nat):Int)=m by lia];rfl
 rintro _ ⟨ys,j,rfl⟩;have M:ys.length=m.toNat:=j.1;refine pE [] (by decide) (λq a=>a) ?_
 refine mE (ts:=eI ys.length) (λR h=>⟨_,rfl,_,rfl,by rw[aB];lia,by rw[aB];lia,by simpa using h⟩)
  (λk σ=>∃(fs:List (Str×List Str))(y A:Sl),σ=[.val (.list (ns.map aW)),.val (.list (bs.map aW)),.val (.tuple (ys.map aS)),.own (fs.map lW),y,A]/\fs.map (·.1)=ys.take k/\∀f∈fs,2<=f.2.length/\f.2.length<=5/\L9 f.2.length f.2)
  ⟨[],_,_,rfl,by simp,λf s=>by simp at s⟩ (λk x d8 U p=>?_) λd8 p=>?_
 ·obtain⟨hk,rfl⟩:=gX U;obtain⟨fs,y,A,rfl,e,n⟩:=p
  have B:fs.length=k:=by
   have:=j5 lK e;rw[aB,bL]at this;lia
  refine iG (λd=>∃bs,yS 12 bs/\d=.list (bs.map aW)) (λq a=>⟨_,rfl,_,rfl,ns,1+(k:Int),rfl,t,by lia,by lia,λr=>⟨r,12,rfl,by decide,λbs hb=>a _ ⟨bs,hb,rfl⟩⟩⟩) ?_;rintro _ ⟨cs,g,rfl⟩;obtain⟨o,C,E,l⟩:=gY g (i:=0) (by decide) (by decide);obtain⟨v,L,N,u⟩:=aEl (xs:=[2,2,3,3,4,5]) (lo:=2) (hi:=5) (by decide) (i:=o%6) (cN _ (by decide)) (cH _ H);refine⟨fs.map lW,rfl,_,rfl,_,rfl,_,WP hk,_,rfl,by decide,_,rfl,_,l,H,_,u,cs,12,v.toNat,1,?_,g,by decide,by decide,by lia,λvs c=>?_⟩
  ·rw[show((v.toNat:Nat):Int)=v by lia];rfl
  ·refine⟨aC rfl,by rw[aB];lia,fs++[(ys[k],vs)],.val (.int k),.val (.list (cs.map aW)),?_,?_,λf s=>?_⟩
   ·rw[bQ];rfl
   ·rw[bQ,e,cM,aD hk];rfl
   ·rcases dQ.mp s with z | z
    ·exact n f z
    ·have:f=(ys[k],vs):=by simpa using z
     subst this;have O:=c.1;refine⟨by show 2<=vs.length;lia,by show vs.length<=5;lia,?_⟩;show L9 vs.length vs;rw[O];exact c
 ·obtain⟨fs,y,A,rfl,e,n⟩:=p;rw[iW,dF]at e;have B:fs.length=ys.length:=by rw[<- e,aB]
  refine iG (λd=>∃bs,yS 12 bs/\d=.list (bs.map aW)) (λq a=>⟨_,rfl,ns,6,rfl,t,by decide,by decide,λr=>⟨r,12,rfl,by decide,λbs hb=>a _ ⟨bs,hb,rfl⟩⟩⟩) ?_;rintro _ ⟨cs,g,rfl⟩;obtain⟨o,C,E,l⟩:=gY g (i:=0) (by decide) (by decide);obtain⟨v,L,N,u⟩:=aEl (xs:=[2,2,3,4]) (lo:=2) (hi:=4) (by decide) (i:=o%4) (cN _ (by decide)) (cH _ G);refine⟨_,rfl,_,rfl,_,rfl,by decide,_,rfl,_,l,G,_,u,cs,12,v.toNat,1,?_,g,by decide,by decide,by lia,λvs c=>⟨aC rfl,h fs vs ⟨by lia,by lia,?_,n,?_,?_,?_⟩⟩⟩
  ·rw[show((v.toNat:Nat):Int)=v by lia];rfl
  ·rw[e,B,M];exact j
  ·have:=c.1;lia
  ·have:=c.1;lia
  ·have:=c.1;rw[this];exact c
def aKu:dP P w K mg base iL 1 yo An ["_law_form_here","_law_bits"] (dB K aH0):=by
 refine rS T.D_42.F aI8 λI nd ds Q h=>?_;obtain⟨fs,an,bs,n,rfl,F,hb,hn,h⟩:=h;refine⟨_,(bD (so 2 nd aM)
 (bD (sf (lH (aA (cB iX (aA (bJ aU cD (aH 0) aK) aM) cG T.b_len fQ) aM) (λh=>jR rfl T.b_range h)) (eB (pn 3 nd))
 (bD (ss 4 nd (bJ aU cD (bJ aU cD (bJ aU cD (aH 0) aK) (aH 3)) aK))
 (bS (iO (dZ jF mL (cA gA qZ (bJ aU cD (aH 1) (aH 3)) aK) aK)
 (bS (pM (i:=2) (pv 2) kQ (pb:=λh=>fN (lF bY cX cW iR (pv 2) h))))
 (bS (pM (i:=2) (pv 2) (bJ aU cD (aH 4) (cA gA qZ (cA pF qZ (bJ aU cD (aH 1) (aH 3)) aK) (cB iX (aA (aH 4) aM) cG T.b_len fQ))) (pb:=λh=>fN (lF bY cX cW iR (pv 2) h))))))))
 (nG 2 (bS (dS (cY GX (aA (aH 2) aM) qR T.b_tuple xR)))))),?_⟩
 show hZ _ _ _ [.val (eZ fs an),.val (.list (bs.map aW)),.un,.un,.un];have n5:=F.n5;refine pE [] (by decide) (λq a=>a) ?_
 refine mE (ts:=eI fs.length) (λR h=>⟨_,rfl,_,rfl,_,rfl,by rw[aB];lia,by rw[aB];lia,by simpa using h⟩)
  (λk σ=>∃(cs:List D)(s3 r:Sl),σ=[.val (eZ fs an),.val (.list (bs.map aW)),.own cs,s3,r]/\cs.length=k/\∀(j:Nat) f c,fs[j]?=some f->cs[j]?=some c->Q2 f c=true)
  ⟨[],_,_,rfl,rfl,λj f c _ g=>by simp at g⟩ (λk x d8 A p=>?_) λd8 p=>?_
 ·obtain⟨hk,rfl⟩:=gX A;obtain⟨cs,s3,r,rfl,e,l⟩:=p;obtain⟨b,E,H,t⟩:=gY hb (i:=(k:Int)) (by lia) (by lia);have s:fs[k]?=some fs[k]:=aD hk;have C:fs[k]∈fs:=fF hk;obtain⟨J,L,G⟩:=F.vs _ C;have B:L2.atI (fs.map lW) (k:Int)=some (lW fs[k]):=L2.gH (by rw[aL,s];rfl)
  have more:∀c:D,Q2 fs[k] c=true->∀(j:Nat) f c',fs[j]?=some f->(cs++[c])[j]?=some c'->Q2 f c'=true:=λc g j f c' o d=>by
   by_cases y:j<cs.length
   ·rw[eK y]at d;exact l j f c' o d
   ·rw[eX (by lia)]at d
    have:j=k:=by
     cases q:j-cs.length with
     |zero=>lia
     |succ m=>rw[q]at d;simp at d
    subst this;rw[s]at o;cases o;rw[e,aMs]at d;simp at d;rw[<- d];exact g
  refine cK (.tuple (fs[k].2.map aS)) (λq a=>⟨_,rfl,_,rfl,_,rfl,_,B,_,rfl,a⟩) ?_;refine pN (λb=>True) (λq a=>⟨_,rfl,_,rfl,_,t,(show(0:Int)<6 by decide),a _ trivial⟩) (λ_=>?_) λ_=>?_
  ·refine qA (ts:=cs) .none rfl (by lia) (λq a=>a) ⟨cs++[.none],_,_,rfl,by rw[bO,e];rfl,more .none rfl⟩
  ·have u:(0:Int)<((fs[k].2.map aS).length:Int):=by rw[aB];lia
   obtain⟨c,g,v,_⟩:=qT (xs:=fs[k].2.map aS) (i:=b / 6%((fs[k].2.map aS).length:Int)) (cN _ (by lia)) (cH _ u);obtain⟨z,hz,rfl⟩:=bC.mp g;refine qA (ts:=cs) (.str z) rfl (by lia) (λq a=>⟨_,rfl,_,rfl,_,rfl,_,t,⟨by decide,by decide⟩,_,rfl,u,_,v,a⟩) ⟨cs++[.str z],_,_,rfl,by rw[bO,e];rfl,more (.str z) (c6 hz)⟩
 ·obtain⟨cs,s3,r,rfl,e,l⟩:=p;rw[iW]at e;exact⟨_,rfl,_,rfl,h cs (aAs e l)⟩
def aB6:dP P w K mg base iL 2 yp Ao ["_law_form_here","_law_bits"] (dB K aHz):=by
 refine rS T.D_43.F aI7 λG nd ds Q h=>?_;obtain⟨fs,an,bs,n,rfl,F,hb,hn,h⟩:=h;refine⟨_,(bD (ss 2 nd (cd (aKu T) T.D_42 G (aA (aH 0) (aA (aH 1) aM))))
 (bD (ss 3 nd (bJ aU cD (aH 1) aK))
 (bD (iO (dZ B2 rH (cA gA qZ (bJ aU cD (aH 1) aK) aK) aK)
 (bD (ss 3 nd (cA gA qZ (cA pF qZ (bJ aU cD (aH 1) aK) aK) aK))
 (bS (sf (lH (aA (cB iX (aA (aH 2) aM) cG T.b_len fQ) aM) (λh=>jR rfl T.b_range h)) (eB (pn 4 nd))
 (bS (iO (dZ O3 T5 (bJ aU cD (aH 2) (aH 4)) kQ)
 (bS (ss 3 nd (cA dE iP (aH 3) (cA eG kW (xN (bJ aU cD (bJ aU cD (bJ aU cD (aH 0) aK) (aH 4)) aK) (aA (bJ aU cD (aH 2) (aH 4)) aM) (λh ha=>lF mQ mP mO (xD G) h ha)) (cA dE iP (aH 4) aK)))))
 fW)))))
 fW)
 (bS (dS (eR (aA (aH 2) (aA (bJ aU cD (bJ aU cD (aH 0) aK) (cA gA qZ (aH 3) (cB iX (aA (bJ aU cD (aH 0) aK) aM) cG T.b_len fQ))) aM)))))))),?_⟩
 show hZ _ _ _ [.val (eZ fs an),.val (.list (bs.map aW)),.un,.un,.un];have n5:=F.n5;obtain⟨B,Z,We,O⟩:=gY hb (i:=6) (by decide) (by lia);obtain⟨S,Wf,Wg,A⟩:=gY hb (i:=7) (by decide) (by lia);refine iG (λd=>∃cs,iV fs (.tuple cs)=true/\d=.tuple cs) (λq c=>⟨_,rfl,_,rfl,fs,an,bs,n,rfl,F,hb,hn,λcs l=>c _ ⟨cs,l,rfl⟩⟩) ?_;rintro _ ⟨cs,l,rfl⟩;obtain⟨er,L⟩:=nO l;refine cK (.int B) (λq c=>⟨_,rfl,_,O,c⟩) ?_
 have H:∀(x:Int)σ,σ[0]?=some (.val (eZ fs an))->σ[2]?=some (.val (.tuple cs))->σ[3]?=some (.val (.int x)) ->
   zX (aF0 (sS (rN 2) (sS (P1 fIx (P1 fIx (rN 0) (eC (.int 1))) (P1 (fI (λ_ j=>0<j) λi j=>i%j) (rN 3) (pO (f1 aFl) (sS (P1 fIx (rN 0) (eC (.int 1))) G2)))) G2))) { nx:=λ_=>Q .none,rt:=Q } σ:=λx σ C f U=>by
  have I:(0:Int)<((an.map aS).length:Int):=by rw[aB];have:=F.a2;lia
  obtain⟨a,ha,Y,_⟩:=qT (xs:=an.map aS) (i:=x%((an.map aS).length:Int)) (cN _ (by lia)) (cH _ I);obtain⟨y,X,rfl⟩:=bC.mp ha;exact⟨_,f,_,C,_,rfl,_,U,_,C,_,rfl,I,_,Y,aC rfl,h cs y l X⟩
 refine lN (λ_=>True) (λq c=>⟨_,rfl,_,A,(show(0:Int)<3 by decide),c _ trivial⟩) (λ_=>?_) λ_=>?_
 ·refine cK (.int (S / 3%2)) (λq c=>⟨_,rfl,_,A,⟨by decide,by decide⟩,(show(0:Int)<2 by decide),c⟩) ?_
  refine VM (ts:=eI cs.length) (λR h=>⟨_,rfl,_,rfl,by lia,by lia,by simpa using h⟩)
   (λk σ=>∃(x:Int)(u:Sl),σ=[.val (eZ fs an),.val (.list (bs.map aW)),.val (.tuple cs),.val (.int x),u]) ⟨_,_,rfl⟩ (λk x d8 W s=>?_) λd8 s=>?_
  ·obtain⟨hk,rfl⟩:=gX W;obtain⟨x,u,rfl⟩:=s;have r:k<fs.length:=by lia
   have p:L2.atI cs (k:Int)=some cs[k]:=L2.gH (aD hk);have N:L2.atI (fs.map lW) (k:Int)=some (lW fs[k]):=L2.gH (by rw[aL,aD r];rfl);have o:=L k fs[k] cs[k] (aD r) (aD hk);refine pN (λb=>b=!qB cs[k]) (λq c=>⟨_,rfl,_,rfl,_,p,c _ rfl⟩) (λE=>?_) λ_=>⟨_,_,rfl⟩
   cases e:cs[k]with
   |str z=>
    rw[e]at o p;have hz:z∈fs[k].2:=c8 o;have v:fs[k]∈fs:=fF r;obtain⟨v2,v5,Mf⟩:=F.vs _ v;have J:fs[k].2.idxOf z<fs[k].2.length:=nA.mpr hz;obtain⟨_,_,_,_,d5,d6⟩:=tE (uK (F.vals v) (aN 8) (m:=0))
    have M:K7 (fs[k].2.map aS) (.str z) (fs[k].2.idxOf z):=by
     refine⟨d6,(jB (F.vals v z hz) (aN 8) (m:=0)).lay,by lia,⟨.str z,?_,?_⟩,λm t hm g=>?_⟩
     ·rw[aL,aD J,qK J];rfl
     ·show(z==z)=true;simp
     ·rw[aL]at g
      cases f:fs[k].2[m]? with
      |none=>rw[f]at g;cases g
      |some y=>
       rw[f]at g;cases g;show(y==z)=false;have Wy:m<fs[k].2.length:=(aF.mp f).1
       have:y≠z:=λq=>by
        subst q;exact A5 hm f
       simpa using this
    refine mT (.int (x+(fs[k].2.idxOf z:Int)*((k:Int)+1))) (λq c=>⟨_,rfl,_,rfl,_,rfl,_,rfl,_,N,_,rfl,_,rfl,_,rfl,_,rfl,_,p,_,_,rfl,M,_,rfl,.inr ⟨by lia,by lia⟩,c⟩) ⟨_,_,rfl⟩
   |none=>rw[e]at E;cases E
   |_=>rw[e]at o;cases o
  ·obtain⟨x,u,rfl⟩:=s;exact H x _ rfl rfl rfl
 ·exact H B _ rfl rfl rfl
def aKt:dP P w K mg base iL 1 yq Ap ["_law_form_here","_law_question","_law_stray","_law_case_here"] (dB K aHy):=by
 refine rS T.D_44.F aI6 λJ nd ds Q h=>?_;obtain⟨fs,an,k,n,v,st,cs,rfl,F,d,fh,X,h⟩:=h;refine⟨_,(bD (uL (aH 1) (uV (nY rfl (eD (pn 4 nd) (eD (pn 5 nd) (eD (pn 6 nd) mF))))) (λY Z=>lO Y Z))
 (bD (sf (lH (aA (cB iX (aA (aH 3) aM) cG T.b_len fQ) aM) (λh=>jR rfl T.b_range h)) (eB (pn 7 nd))
 (bS (iO (dZ jF mL (bJ aU cD (bJ aU cD (bJ aU cD (aH 0) aK) (aH 7)) aK) (aH 5))
 (bD (ss 8 nd (bJ aU cD (bJ aU cD (bJ aU cD (aH 0) aK) (aH 7)) aK))
 (bD (iO (dZ B1 IL (bJ aU cD (aH 3) (aH 7)) kQ)
 (bS (dS (aH 2)))
 fW)
 (bD (iO (dZ jF mL (aH 4) eA)
 (bS (dS (bJ aU cD (oU (aA eA (aA eA aM))) (cY C2 (aA (nN jF mL (bJ aU cD (aH 3) (aH 7)) (aH 6)) aM) oA T.b_int wL))))
 fW)
 (bS (dS (bJ aU cD (oU (aA eA (aA eA aM))) (cY C2 (aA (nN TW rH (xN (aH 8) (aA (bJ aU cD (aH 3) (aH 7)) aM) (λh ha=>lF mQ mP mO (xD J) h ha)) (xN (aH 8) (aA (aH 6) aM) (λh ha=>lF mQ mP mO (xD J) h ha))) aM) oA T.b_int wL)))))))
 fW)))
 (bS (dS eA)))),?_⟩
 show hZ _ _ _ [.val (eZ fs an),.val (.tuple [.str k,.str n,.str v]),.val (.str st),.val (.tuple cs),.un,.un,.un,.un,.un];obtain⟨S,M⟩:=nO X;have n5:=F.n5;obtain⟨I,C,L,N,Gx⟩:=A3 d;refine HX (a:=.str k) (b:=.str n) (c:=.str v) (λq d=>⟨_,rfl,d⟩) ?_
 refine mE (ts:=eI cs.length) (λR h=>⟨_,rfl,_,rfl,by lia,by lia,by simpa using h⟩)
  (λm σ=>∃A B:Sl,σ=[.val (eZ fs an),.val (.tuple [.str k,.str n,.str v]),.val (.str st),.val (.tuple cs),.val (.str k),.val (.str n),.val (.str v),A,B]/\∀(j:Nat) f,j<m->fs[j]?=some f->f.1≠n) ⟨_,_,rfl,λj f i=>by lia⟩ (λm x d8 hx u=>?_) λd8 u=>?_
 ·obtain⟨hm,rfl⟩:=gX hx;obtain⟨A,B,rfl,l⟩:=u;have G:m<fs.length:=by lia
  have o:fs[m]?=some fs[m]:=aD G;have p:cs[m]?=some cs[m]:=aD hm;have E:L2.atI (fs.map lW) (m:Int)=some (lW fs[m]):=L2.gH (by rw[aL,o];rfl);have g:L2.atI cs (m:Int)=some cs[m]:=L2.gH p;have r:fs[m]∈fs:=fF G;have hok:=M m _ _ o p;refine pN (λb=>b=decide (fs[m].1=n)) (λq d=>⟨_,rfl,_,rfl,_,rfl,_,E,_,rfl,_,rfl,d _ rfl⟩) (λW=>?_) λU=>?_
  ·have H:fs[m].1=n:=c8 W.symm;rw[BM F o p H]at h;have O:fs[m]=I:=UK F C r (H.trans L.symm)
   generalize br:cs[m]=c at g hok h
   refine cK (.tuple (fs[m].2.map aS)) (λq d=>⟨_,rfl,_,rfl,_,rfl,_,E,_,rfl,d⟩) ?_;refine lN (λb=>b=qB c) (λq d=>⟨_,rfl,_,rfl,_,g,d _ rfl⟩) (λt=>?_) λt=>?_
   ·cases c with
    |none=>exact⟨_,rfl,h⟩
    |_=>cases t
   ·try unfold mY
    dsimp only
    cases c with
    |none=>cases t
    |str z=>
     have hz:z∈fs[m].2:=c8 hok;have h':Q (.str (if k="is" then(if z=v then "yes" else "no")else if fs[m].2.idxOf z<=fs[m].2.idxOf v then "yes" else "no")):=h;refine lN (λb=>b=decide (k="is")) (λq d=>⟨_,rfl,d _ rfl⟩) (λs=>?_) λs=>?_
     ·rw[b8 (c8 s.symm)]at h';refine⟨(aC rfl),_,rfl,_,rfl,_,g,_,rfl,_,WO (decide (z=v)),?_⟩;by_cases e:z=v
      ·rw[b8 e]at h';rw[c6 e];exact h'
      ·rw[a8 e]at h';rw[c9 e];exact h'
     ·try unfold mY
      dsimp only;rw[a8 (t7 s.symm)]at h';have i1:=uR (F.vals r) hz;have i2:=uR (F.vals r) (z:=v) (by rw[O];exact N);refine⟨(aC rfl),_,rfl,_,rfl,_,rfl,_,rfl,_,g,_,_,rfl,i1,_,rfl,_,rfl,_,rfl,_,_,rfl,i2,_,WO (decide ((fs[m].2.idxOf z:Int)<=(fs[m].2.idxOf v:Int))),?_⟩;by_cases e:fs[m].2.idxOf z<=fs[m].2.idxOf v
      ·rw[b8 e]at h';rw[c6 (by lia)];exact h'
      ·rw[a8 e]at h';rw[c9 (by lia)];exact h'
    |_=>cases hok
  ·refine⟨_,_,rfl,λj f i y=>?_⟩;by_cases z:j<m
   ·exact l j f z y
   ·have:j=m:=by lia
    subst this;rw[o]at y;cases y;exact t7 U.symm
 ·obtain⟨A,B,rfl,l⟩:=u;rw[iW,S]at l;obtain⟨j,i⟩:=cT C;exact c7 L (l j I (aF.mp i).1 i)
def aKs:dP P w K mg base iL 1 yr Aq ["_law_form_here"] (dB K aHx):=by
 refine rS T.D_45.F aI5 λI nd ds Q h=>?_;obtain⟨fs,an,rfl,F,h⟩:=h;refine⟨_,(bD (so 1 nd aM)
 (bD (sf (gU (bJ aU cD (aH 0) aK)) (qC (nY rfl (eD (pn 2 nd) (eD (pn 3 nd) mF))))
 (bD (sf (gU (jU nH xC (aH 3) mS (kH (bJ aU cD (oU (aA (cB iX (aA (aH 3) aM) cG T.b_len fQ) (aA aK aM))) (cY C2 (aA (nN jF mL (cB iX (aA (aH 3) aM) cG T.b_len fQ) aK) aM) oA T.b_int wL))))) (eB (pn 4 nd))
 (bS (pM (i:=1) (pv 1) (eR (aA eA (aA (aH 2) (aA (aH 4) aM)))) (pb:=λh=>fN (lF bY cX cW iR (pv 1) h)))))
 (bS (sf (lH (aA (cB iX (aA (aH 3) aM) cG T.b_len fQ) aM) (λh=>jR rfl T.b_range h)) (eB (pn 5 nd))
 (bS (iO (RU IH IH rH rH aK (aH 5) (cA sC F8 (cB iX (aA (aH 3) aM) cG T.b_len fQ) aK))
 (bS (pM (i:=1) (pv 1) (eR (aA eA (aA (aH 2) (aA (bJ aU cD (aH 3) (aH 5)) aM)))) (pb:=λh=>fN (lF bY cX cW iR (pv 1) h))))
 fW))))))
 (nG 1 (bS (dS (aH 1)))))),?_⟩
 show hZ _ _ _ [.val (eZ fs an),.un,.un,.un,.un,.un];have n5:=F.n5;refine pE [] (by decide) (λq d=>d) ?_
 refine mE (ts:=fs.map lW) (λR h=>⟨_,rfl,_,rfl,_,rfl,h⟩)
  (λk σ=>∃s2 s3 b c:Sl,σ=[.val (eZ fs an),.own (eY (fs.take k)),s2,s3,b,c]) ⟨_,_,_,_,rfl⟩ (λk x d8 l a=>?_) λd8 a=>?_
 ·obtain⟨s2,s3,b,c,rfl⟩:=a;rw[aL]at l;obtain⟨f,p,rfl⟩:=dL.mp l;have A:f∈fs:=bH p;obtain⟨L,M,E⟩:=F.vs f A;have H:=mX F (fs.take k) λg B=>eE B;have J:(fs.take k).length<=5:=by rw[bL];lia
  refine⟨_,_,rfl,?_⟩
  refine mE (ts:=(qN f).map aS) (λR h=>?_)
   (λj σ=>∃b:Sl,σ=[.val (eZ fs an),.own (eY (fs.take k)++((qN f).take j).map (J5 "is" f)),.val (.str f.1),.val (.tuple (f.2.map aS)),b,c]) ⟨b,by rw[FL,jI,cJ];rfl⟩ (λj x d8 l a=>?_) λd8 a=>?_
  ·have o:∃m:Nat,L2.atI [aW ((f.2.map aS).length:Int),.int 1] (if decide (((f.2.map aS).length:Int)=2)then 1 else 0)=some (.int (m:Int))/\f.2.take m=qN f:=by
    rw[aB];unfold qN;by_cases r:f.2.length=2
    ·rw[b8 (c6 (by lia)),b8 r];exact⟨1,rfl,rfl⟩
    ·rw[a8 (by simpa using(by lia:¬(f.2.length:Int)=2)),a8 r];exact⟨f.2.length,rfl,dF⟩
   obtain⟨m,o,hm⟩:=o;refine⟨_,rfl,_,rfl,aC rfl,_,rfl,_,o,_,rfl,?_⟩;rw[pG,qQ,hm];exact h
  ·obtain⟨b,rfl⟩:=a;rw[aL]at l;obtain⟨z,hz,rfl⟩:=dL.mp l;have n:=(aF.mp hz).1
   have:(qN f).length<=5:=by
    unfold qN;split
    ·rw[bL];lia
    ·lia
   refine qA (ts:=eY (fs.take k)++((qN f).take j).map (J5 "is" f)) (J5 "is" f z) rfl (by rw[bO,aB,bL];lia) (λq d=>⟨_,rfl,_,rfl,aC rfl,d⟩) ⟨.val (.str z),?_⟩;rw[cM,hz,bQ,hV];rfl
  ·obtain⟨b,rfl⟩:=a;rw[aB,dF]
   have G:(qN f).length<=5:=by
    unfold qN;split
    ·rw[bL];lia
    ·lia
   refine VM (ts:=eI f.2.length) (λR h=>⟨_,rfl,_,rfl,by rw[aB];lia,by rw[aB];lia,by simpa using h⟩)
    (λj σ=>∃c:Sl,σ=[.val (eZ fs an),.own (eY (fs.take k)++(qN f).map (J5 "is" f)++(((f.2.take j).drop 1).take (f.2.length-3)).map (J5 "upto" f)),.val (.str f.1),.val (.tuple (f.2.map aS)),b,c]) ⟨c,by simp⟩ (λj x d8 l a=>?_) λd8 a=>?_
   ·obtain⟨n,rfl⟩:=gX l;obtain⟨c,rfl⟩:=a;have hz:L2.atI (f.2.map aS) (j:Int)=some (.str f.2[j]):=L2.gH (by rw[aL,aD n];rfl);rw[UL n,bQ];refine pN (λt=>t=decide (0<j/\j+2<f.2.length)) (λq d=>?_) (λy=>?_) λv=>?_
    ·refine⟨_,rfl,?_⟩;show(if decide ((0:Int)<(j:Int))=true then _ else _);by_cases u:0<j
     ·rw[b8 (c6 (by lia))];refine⟨_,rfl,d _ ?_⟩;show decide ((j:Int)<((f.2.map aS).length:Int)-2)=_;rw[aB,u8];lia
     ·rw[a8 (by simpa using(by lia:j=0))];exact d _ (c9 λz=>u z.1).symm
    ·have C:0<j/\j+2<f.2.length:=c8 y.symm;rw[b8 C];refine qA (ts:=eY (fs.take k)++(qN f).map (J5 "is" f)++(((f.2.take j).drop 1).take (f.2.length-3)).map (J5 "upto" f)) (J5 "upto" f f.2[j]) rfl (by simp only[bO,aB,bL,eM];lia) (λq d=>⟨_,rfl,_,rfl,_,rfl,_,hz,aC rfl,d⟩) ⟨.val (.int j),?_⟩;rw[<- hV];rfl
    ·have s:¬(0<j/\j+2<f.2.length):=t7 v.symm;rw[a8 s];exact⟨.val (.int j),by rw[jI,cJ];rfl⟩
   ·obtain⟨c,rfl⟩:=a;rw[iW,dF];refine⟨.val (.str f.1),.val (.tuple (f.2.map aS)),b,c,?_⟩
    have e:eY (fs.take (k+1))=eY (fs.take k)++((qN f).map (J5 "is" f)++(DP f).map (J5 "upto" f)):=by
     unfold eY;rw[cM,p,bQ,QT];show _++[MY f].flatten=_;rw[KA];rfl
    rw[e,hV];rfl
 ·obtain⟨s2,s3,b,c,rfl⟩:=a;rw[aB,dF];exact⟨_,rfl,_,rfl,h⟩
def aB5:dP P w K mg base iL 2 yw Av ["_law_form_here","_law_question","_law_stray","_law_rows"] (dB K aHu):=by
 refine rS T.D_48.F aI2 λd nd ds Q h=>?_;obtain⟨fs,an,k,n,v,st,a,rfl,F,c,o,s,u,h⟩:=h;refine⟨_,(bD (so 4 nd aM)
 (bD (so 5 nd aM)
 (bD (sf (gU (aH 3)) (eB (pn 6 nd))
 (bS (iO (dZ jF mL (cd (aKt T) T.D_44 d (aA (aH 0) (aA (aH 1) (aA (aH 2) (aA (bJ aU cD (aH 6) aK) aM))))) eA)
 (bS (pM (i:=4) (pv 4) (aH 6) (pb:=λh=>fN (lF bY cX cW iR (pv 4) h))))
 (bS (pM (i:=5) (pv 5) (aH 6) (pb:=λh=>fN (lF bY cX cW iR (pv 5) h)))))))
 (nG 5 (nG 4 (bS (dS (eR (aA (aH 4) (aA (aH 5) aM)))))))))),?_⟩
 show hZ _ _ _ [.val (eZ fs an),.val (.tuple [.str k,.str n,.str v]),.val (.str st),.val (.list (a.map dA)),.un,.un,.un];refine pE [] (by decide) (λq c=>c) ?_;refine pE [] (by decide) (λq c=>c) ?_
 refine mE (ts:=a.map dA) (λR h=>⟨_,rfl,_,rfl,h⟩)
  (λi σ=>∃l:Sl,σ=[.val (eZ fs an),.val (.tuple [.str k,.str n,.str v]),.val (.str st),.val (.list (a.map dA)),.own (((a.take i).filter (F7 fs k n v st)).map dA),.own (((a.take i).filter λr=>!F7 fs k n v st r).map dA),l]) ⟨_,rfl⟩ (λi x d8 j g=>?_) λd8 g=>?_
 ·obtain⟨l,rfl⟩:=g;have hi:i<a.length:=by have:=(aF.mp j).1;rw[aB]at this;exact this
  have ex:x=dA a[i]:=by rw[aL,aD hi]at j;exact(d7 j).symm
  subst ex;have m:a.take (i+1)=a.take i++[a[i]]:=by rw[cM,aD hi];rfl
  have d:=s a[i] (fF hi)
  have y:(((a.take i).filter (F7 fs k n v st)).map dA).length<=60:=by
   rw[aB];have:=bK (F7 fs k n v st) (a.take i);rw[bL]at this;lia
  have z:(((a.take i).filter λr=>!F7 fs k n v st r).map dA).length<=60:=by
   rw[aB];have:=bK (λr=>!F7 fs k n v st r) (a.take i);rw[bL]at this;lia
  generalize a[i]=r at *
  by_cases e:kM fs k n v st r.1="yes"
  ·have hb:F7 fs k n v st r=true:=c6 e;refine F6 (λq f=>⟨_,rfl,_,rfl,_,rfl,_,rfl,_,rfl,fs,an,k,n,v,st,r.1,rfl,F,c,o,d.1,f _ (c6 e)⟩) ?_;refine qA (ts:=((a.take i).filter (F7 fs k n v st)).map dA) (dA r) rfl (by lia) (λq c=>⟨_,rfl,c⟩) ?_;refine⟨.val (dA r),?_⟩;rw[m,fB,fB,bQ,bQ,dM (p:=F7 fs k n v st),b8 hb,dM (p:=λr=>!F7 fs k n v st r),a8 (by rw[hb];decide),uI,uI,jI,cJ]
   rfl
  ·have hb:F7 fs k n v st r=false:=c9 e;refine pN (λb=>b=false) (λq f=>⟨_,rfl,_,rfl,_,rfl,_,rfl,_,rfl,fs,an,k,n,v,st,r.1,rfl,F,c,o,d.1,f _ (c9 e)⟩) (λt=>by cases t) λ_=>?_;refine qA (ts:=((a.take i).filter λr=>!F7 fs k n v st r).map dA) (dA r) rfl (by lia) (λq c=>⟨_,rfl,c⟩) ?_;refine⟨.val (dA r),?_⟩;rw[m,fB,fB,bQ,bQ,dM (p:=F7 fs k n v st),a8 (by rw[hb];decide),dM (p:=λr=>!F7 fs k n v st r),b8 (by rw[hb];rfl),uI,uI,jI,cJ]
   rfl
 ·obtain⟨l,rfl⟩:=g;rw[aB,dF];exact⟨_,rfl,_,rfl,_,rfl,_,rfl,(aC rfl),h⟩
def T2:dP P w K mg base iL 1 yu Au ["_law_form_here","_law_rows"] (dB K aHv):=by
 refine rS T.D_47.F aI3 λn nd ds Q h=>?_;obtain⟨fs,an,d,rfl,F,hok,p,h⟩:=h;refine⟨_,(bD (ss 2 nd (cA eG kW (cB iX (aA (aH 1) aM) cG T.b_len fQ) (cB iX (aA (aH 1) aM) cG T.b_len fQ)))
 (bD (sf (gU (bJ aU cD (aH 0) aK)) (eB (pn 3 nd))
 (bD (ss 4 nd (cB iX (aA (el (fr:=[none,some 3]) (N':=["_law_row_here","_law_answer"]) (gU (aH 1)) (λb=>⟨(eB (pk 0)),(GE (dZ jF mL (bJ aU cD (aH 0) aK) (aH 1))),(aH 0)⟩)) aM) cG T.b_len fQ))
 (bS (ss 2 nd (cA sC F8 (aH 2) (cA eG kW (aH 4) (aH 4)))))))
 (bS (dS (eR (aA (aH 2) (aA (cB WG (aA aK (aA (cB iX (aA (aH 1) aM) cG T.b_len fQ) aM)) (FA rfl) T.b_max GY) aM))))))),?_⟩
 show hZ _ _ _ [.val (eZ fs an),.val (.list (d.map dA)),.un,.un,.un];have a4:=F.a4;have m:(((d.map dA).length:Nat):Int)=(d.length:Int):=by rw[aB]
 refine cK (.int ((d.length:Int)*(d.length:Int))) (λq f=>⟨_,rfl,_,rfl,AA (by rw[aB];lia),by rw[<- m]at f;exact f⟩) ?_;have l:(d.length:Int)*(d.length:Int)=(d.length:Int)*(d.length:Int)-((jJ (an.take 0) d).map λc=>c*c).sum:=by rw[show((jJ (an.take 0) d).map λc=>c*c).sum=0 from rfl,Int.sub_zero]
 rw[l]
 refine mE (ts:=an.map aS) (λR h=>⟨_,rfl,_,rfl,_,rfl,h⟩)
  (λi σ=>∃s3 k:Sl,σ=[.val (eZ fs an),.val (.list (d.map dA)),.val (.int ((d.length:Int)*(d.length:Int)-((jJ (an.take i) d).map λc=>c*c).sum)),s3,k]) ⟨_,_,rfl⟩ (λi x d8 g j=>?_) λd8 j=>?_
 ·obtain⟨s3,k,rfl⟩:=j;rw[aL]at g;obtain⟨a,ha,rfl⟩:=dL.mp g;refine cK (.int ((pW d a:Nat):Int)) (λq f=>?_) ?_
  ·rw[<- JG]at f;dsimp only[pO,sS];refine CA (ts:=d.map dA) (λR h=>⟨_,rfl,_,rfl,h⟩) (Z2 a) id (by rw[aB];lia) (λx q g f=>?_) (λx q g f=>⟨_,rfl,f⟩) f;obtain⟨r,n,rfl⟩:=bC.mp g;exact⟨_,rfl,_,rfl,_,rfl,f⟩
  ·have o:=V9 d a;refine mT _ (λq f=>⟨_,rfl,_,rfl,_,rfl,AA (by lia),f⟩) ⟨.val (.str a),.val (.int ((pW d a:Nat):Int)),?_⟩
   have e:jJ (an.take (i+1)) d=jJ (an.take i) d++[((pW d a:Nat):Int)]:=by
    unfold jJ;rw[cM,ha,bQ];rfl
   rw[e,bQ,aA9,show([((pW d a:Nat):Int)].map λc=>c*c).sum=((pW d a:Nat):Int)*((pW d a:Nat):Int) by simp,<- Int.sub_sub]
   rfl
 ·obtain⟨s3,k,rfl⟩:=j;rw[aB,dF,aD3 F hok];refine⟨_,rfl,_,rfl,?_⟩
  have e:(if(((d.map dA).length:Nat):Int)>1 then(((d.map dA).length:Nat):Int)else 1)=((max 1 d.length:Nat):Int):=by
   rw[aB];split<;>lia
  show _/\Q (.tuple [_,.int (if(((d.map dA).length:Nat):Int)>1 then(((d.map dA).length:Nat):Int)else 1)]);rw[e];exact⟨(aC rfl),h⟩
def aKr:dP P w K mg base iL 1 yt As ["_law_form_here","_law_rows"] (dB K aHw):=by
 refine rS T.D_46.F aI4 λu nd ds Q h=>?_;obtain⟨fs,an,c,rfl,F,hok,C,h⟩:=h;refine⟨_,(bD (ss 2 nd (el (fr:=[none,some 1]) (N':=["_law_answer","_law_rows"]) (gU (bJ aU cD (aH 0) aK)) (λb=>⟨(eB (pk 0)),jY,(cB iX (aA (el (fr:=[none,some 0]) (N':=["_law_row_here","_law_answer"]) (gU (aH 1)) (λb=>⟨(eB (pk 0)),(GE (dZ jF mL (bJ aU cD (aH 0) aK) (aH 1))),(aH 0)⟩)) aM) cG T.b_len fQ)⟩)))
 (bS (dS (bJ aU cD (bJ aU cD (aH 0) aK) (bJ aU cD (el (fr:=[none,some 2]) (N':=["_law_k","_law_counts"]) (lH (aA (cB iX (aA (aH 2) aM) cG T.b_len fQ) aM) (λh=>jR rfl T.b_range h)) (λb=>⟨(eB (pk 0)),(GE (dZ jF mL (bJ aU cD (aH 1) (aH 0)) (cB aC3 (aA (aH 1) aM) (vS rfl) T.b_max GY))),(aH 0)⟩)) aK))))),?_⟩
 show hZ _ _ _ [.val (eZ fs an),.val (.list (c.map dA)),.un];have a2:=F.a2;have a4:=F.a4;refine cK (.list ((jJ an c).map aW)) (λq d=>?_) ?_
 ·refine lA (ts:=an.map aS) (λR h=>⟨_,rfl,_,rfl,_,rfl,h⟩) (WA c) (by rw[aB];lia) (λx q f d=>?_) ?_
  ·obtain⟨a,ha,rfl⟩:=bC.mp f;have e:WA c (.str a)=.int (((((c.map dA).filter (Z2 a)).map id).length:Nat):Int):=by rw[JG];rfl
   rw[e]at d;dsimp only[pO,sS];refine CA (ts:=c.map dA) (λR h=>⟨_,rfl,_,rfl,h⟩) (Z2 a) id (by rw[aB];lia) (λx q f d=>?_) (λx q f d=>⟨_,rfl,d⟩) d;obtain⟨r,u,rfl⟩:=bC.mp f;exact⟨_,rfl,_,rfl,_,rfl,d⟩
  ·have e:(an.map aS).map (WA c)=(jJ an c).map aW:=by unfold jJ;rw[bN,bN];rfl
   rw[e];exact d
 have s:jJ an c≠[]:=λz=>by
  have:=j5 lK z;unfold jJ at this;rw[aB]at this;simp at this;rw[this]at a2;simp at a2
 obtain⟨a,k,i,p,o⟩:=VS (show 0<an.length by lia) c;have v:=(aF.mp i).1;have y:(jJ an c).length=an.length:=by unfold jJ;rw[aB]
 have l:∀(j:Nat) b,an[j]?=some b->(jJ an c)[j]?=some ((pW c b:Nat):Int):=λj b hb=>by unfold jJ;rw[aL,hb];rfl
 have t:∀m:Int,m∈jJ an c->(∀x∈jJ an c,x<=m)->m=((pW c a:Nat):Int):=λm hm f=>by
  have A:=f _ (bH (l k a i));obtain⟨b,hb,rfl⟩:=bC.mp hm;obtain⟨j,g⟩:=cT hb;have B:=p j b g;lia
 refine⟨_,rfl,_,rfl,?_⟩;dsimp only[P1];refine CA (ts:=eI an.length) (λR h=>⟨_,rfl,((((jJ an c).map aW).length:Nat):Int),rfl,by rw[aB];lia,by rw[aB];lia,?_⟩) (isC (jJ an c) ((pW c a:Nat):Int)) id (by rw[iW];lia) (λx q f d=>?_) (λx q f d=>⟨_,rfl,d⟩) ?_
 ·rw[iF,aB,y];exact h
 ·obtain⟨j,g⟩:=cT f;obtain⟨n,rfl⟩:=gX g;have hb:=l j an[j] (aD n);refine⟨_,rfl,_,rfl,_,L2.gH (by rw[aL,hb];rfl),_,rfl,_,rfl,s,λm hm f=>?_⟩;rw[t m hm f]
  have e:isC (jJ an c) ((pW c a:Nat):Int) (.int (j:Nat))=decide (((pW c an[j]:Nat):Int)=((pW c a:Nat):Int)):=by
   show decide ((jJ an c).getD ((j:Nat):Int).toNat _=_)=_;rw[iF,cL,hb];rfl
  rw[e]at d;exact d
 ·rw[C9];refine⟨_,L2.gH (LR v ?_ λj g=>?_),_,L2.gH (by rw[aL,i];rfl),h a ⟨k,i,p,o⟩⟩
  ·refine c6 ?_;rw[iF,cL,l k a i];rfl
  ·refine c9 λz=>?_;have n:j<an.length:=by lia
   rw[iF,cL,l j _ (aD n)]at z;have:=o j _ g (aD n);have E:((pW c an[j]:Nat):Int)=((pW c a:Nat):Int):=z;lia
def aKq:dP P w K mg base iL 3 yx Aw ["_law_form_here","_law_rows","_law_few"] (dB K aHt):=by
 refine rS T.D_49.F aI1 λu nd ds Q h=>?_;obtain⟨fs,an,a,m,rfl,F,v,s,hm,h⟩:=h;refine⟨_,(bD (ss 3 nd kQ)
 (bD (sf (gU (cd (aKs T) T.D_45 u (aA (aH 0) aM))) (eB (pn 4 nd))
 (bS (sf (gU (oU (aA eA (aA eA aM)))) (eB (pn 5 nd))
 (bD (uL (cd (aB5 T) T.D_48 u (aA (aH 0) (aA (aH 4) (aA (aH 5) (aA (aH 1) aM))))) (qC (nY rfl (eD (pn 6 nd) (eD (pn 7 nd) mF)))) (λhe hg=>lO he hg))
 (bS (iO (dZ II rH (cB WF (aA (cB iX (aA (aH 6) aM) cG T.b_len fQ) (aA (cB iX (aA (aH 7) aM) cG T.b_len fQ) aM)) (E9 rfl) T.b_min WK) (aH 2))
 (bD (ss 8 nd (cd (T2 T) T.D_47 u (aA (aH 0) (aA (aH 6) aM))))
 (bD (ss 9 nd (cd (T2 T) T.D_47 u (aA (aH 0) (aA (aH 7) aM))))
 (bD (ss 10 nd (eR (aA (cA dE iP (cA eG kW (bJ aU cD (aH 8) aK) (bJ aU cD (aH 9) aK)) (cA eG kW (bJ aU cD (aH 9) aK) (bJ aU cD (aH 8) aK))) (aA (cA eG kW (bJ aU cD (aH 8) aK) (bJ aU cD (aH 9) aK)) aM))))
 (bS (iO (vM (D9 (dZ B1 IL (aH 3) kQ) (FR (dZ IH rH (cA eG kW (bJ aU cD (aH 10) aK) (bJ aU cD (bJ aU cD (aH 3) aK) aK)) (cA eG kW (bJ aU cD (bJ aU cD (aH 3) aK) aK) (bJ aU cD (aH 10) aK))))))
 (bS (ss 3 nd (eR (aA (aH 10) (aA (aH 4) (aA (aH 5) aM))))))
 fW)))))
 fW))))))
 (bD (ss 11 nd (cd (T2 T) T.D_47 u (aA (aH 0) (aA (aH 1) aM))))
 (bD (iO (vM (D9 (dZ B1 IL (aH 3) kQ) (FR (dZ II rH (cA eG kW (bJ aU cD (bJ aU cD (aH 3) aK) aK) (bJ aU cD (aH 11) aK)) (cA eG kW (bJ aU cD (aH 11) aK) (bJ aU cD (bJ aU cD (aH 3) aK) aK))))))
 (bS (dS kQ))
 fW)
 (bS (dS (aH 3))))))),?_⟩
 show hZ _ _ _ [.val (eZ fs an),.val (.list (a.map dA)),.val (.int m),.un,.un,.un,.un,.un,.un,.un,.un,.un];have C:=λc=>aEd (fs:=fs) s c;have G:=λc=>aEc (fs:=fs) s c;refine cK .none (λq t=>t) ?_
 refine mE (ts:=(qs fs).map qD) (λR h=>⟨_,rfl,fs,an,rfl,F,_,rfl,by rw[<- AV] ;exact h⟩)
  (λi σ=>∃I g l n o p f:Sl,σ=[.val (eZ fs an),.val (.list (a.map dA)),.val (.int m),.val (DL fs a ((((qs fs).take i).flatMap qL).foldl (AR fs a m) none)),I,g,l,n,o,p,f,.un]) ⟨_,_,_,_,_,_,_,rfl⟩ (λk x d8 O r=>?_) λd8 r=>?_
 ·obtain⟨I,g,l,n,o,p,f,rfl⟩:=r;rw[aL]at O;obtain⟨w,M,rfl⟩:=dL.mp O;have hw:=bH M;have X:=BU hw
  refine(VM (ts:=[.str "yes",.str "no"]) (λR h=>⟨(aC rfl),_,rfl,h⟩)
   (λj σ=>∃g l n o p f:Sl,σ=[.val (eZ fs an),.val (.list (a.map dA)),.val (.int m),.val (DL fs a ((((qs fs).take k).flatMap qL++(qL w).take j).foldl (AR fs a m) none)),.val (qD w),g,l,n,o,p,f,.un]) ⟨g,l,n,o,p,f,by rw[FL,cJ];rfl⟩ (λj y x6 H r=>?_) λx6 r=>?_)
  ·obtain⟨g,l,n,o,p,f,rfl⟩:=r;have hj:j<2:=(aF.mp H).1
   obtain⟨st,fh,rfl,sk⟩:∃st:Str,(st="yes"\/st="no")/\y=.str st/\(qL w)[j]?=some (w,st):=by
    rcases(show j=0\/j=1 by lia)with rfl | rfl
    ·cases H;exact⟨_,.inl rfl,rfl,rfl⟩
    ·cases H;exact⟨_,.inr rfl,rfl,rfl⟩
   have E:∀b,(((qs fs).take k).flatMap qL++(qL w).take j).foldl (AR fs a m) none=some b->okC fs a m b=true:=KJ _ none λb z=>by cases z
   have N:(((qs fs).take k).flatMap qL++(qL w).take (j+1)).foldl (AR fs a m) none=AR fs a m ((((qs fs).take k).flatMap qL++(qL w).take j).foldl (AR fs a m) none) (w,st):=by
    rw[cM,sk,<- hV,zU];rfl
   generalize (((qs fs).take k).flatMap qL++(qL w).take j).foldl (AR fs a m) none=S at *
   refine(show hZ (aEa _ _ _) _ _ _ from⟨_,rfl,_,rfl,_,rfl,_,rfl,fs,an,w.1,w.2.1,w.2.2,st,a,rfl,F,X,fh,v,s,_,_,rfl,?_⟩);dsimp only;have L:(yR fs (w,st) a).length<=60:=aX (bK _ _) s;have J:(nR fs (w,st) a).length<=60:=aX (bK _ _) s;refine pN (λb=>b=okC fs a m (w,st)) (λq d=>⟨_,rfl,_,rfl,_,rfl,?_⟩) (λhb=>?_) λhF=>?_
   ·refine d _ ?_;show decide (m<=(if((FM dA (nR fs (w,st) a)).length:Int)<((FM dA (yR fs (w,st) a)).length:Int)then((FM dA (nR fs (w,st) a)).length:Int)else((FM dA (yR fs (w,st) a)).length:Int)))=_;rw[aB,aB];unfold okC;rw[eN,dG,cq,cq,cq];split<;>lia
   ·have hok:=hb.symm;obtain⟨py,pn⟩:=AY hm hok;have y3:=tM L;have n3:=tM J;refine cK (.tuple [.int ((yX (yR fs (w,st) a) (yR fs (w,st) a):Nat):Int),.int (((yR fs (w,st) a).length:Nat):Int)]) (λq d=>⟨_,rfl,_,rfl,fs,an,_,rfl,F,v.filt _,L,by rw[show(yR fs (w,st) a).length=max 1 (yR fs (w,st) a).length by lia]at d;exact d⟩) ?_;refine cK (.tuple [.int ((yX (nR fs (w,st) a) (nR fs (w,st) a):Nat):Int),.int (((nR fs (w,st) a).length:Nat):Int)]) (λq d=>⟨_,rfl,_,rfl,fs,an,_,rfl,F,v.filt _,J,by rw[show(nR fs (w,st) a).length=max 1 (nR fs (w,st) a).length by lia]at d;exact d⟩) ?_;refine cK (.tuple [.int ((SK fs a (w,st):Nat):Int),.int ((SL fs a (w,st):Nat):Int)]) (λq d=>?_) ?_
    ·unfold SK SL at d;rw[lY,eO,eO,eO]at d;exact⟨_,rfl,_,rfl,_,rfl,_,rfl,AA (by lia),_,rfl,_,rfl,_,rfl,_,rfl,AA (by lia),_,rfl,_,rfl,_,rfl,_,rfl,AA (by lia),(aC rfl),d⟩
    ·have next:∀A:Option Ch,A=AR fs a m S (w,st)->(∃g l n o p f:Sl,[Sl.val (eZ fs an),.val (.list (a.map dA)),.val (.int m),.val (DL fs a A),.val (qD w),.val (.str st),.val (.list ((yR fs (w,st) a).map dA)),.val (.list ((nR fs (w,st) a).map dA)),.val (.tuple [.int ((yX (yR fs (w,st) a) (yR fs (w,st) a):Nat):Int),.int (((yR fs (w,st) a).length:Nat):Int)]),.val (.tuple [.int ((yX (nR fs (w,st) a) (nR fs (w,st) a):Nat):Int),.int (((nR fs (w,st) a).length:Nat):Int)]),.val (.tuple [.int ((SK fs a (w,st):Nat):Int),.int ((SL fs a (w,st):Nat):Int)]),.un]=[.val (eZ fs an),.val (.list (a.map dA)),.val (.int m),.val (DL fs a ((((qs fs).take k).flatMap qL++(qL w).take (j+1)).foldl (AR fs a m) none)),.val (qD w),g,l,n,o,p,f,.un]):=λA e=>by rw[N,<- e];exact⟨_,_,_,_,_,_,rfl⟩
     cases S with
     |none=>
      refine F6 (λq d=>⟨_,rfl,?_⟩) ?_
      ·exact d _ rfl
      ·exact mT (DL fs a (some (w,st))) (λq t=>⟨_,rfl,_,rfl,_,rfl,(aC rfl),t⟩) (next (some (w,st)) (b8 hok).symm)
     |some b=>
      have Y:=aDn hm (E b rfl) hok;have Wh:=C b;have Nq:=G b;have U:=C (w,st);have W:=G (w,st);refine pN (λz=>z=nW (dC fs a (w,st)) (dC fs a b)) (λq d=>⟨_,rfl,?_⟩) (λz=>?_) λz=>?_
      ·show(if false=true then q true else _);rw[a8 (by decide)];refine⟨_,rfl,_,rfl,_,rfl,_,rfl,_,rfl,AA (by lia),_,rfl,_,rfl,_,rfl,_,rfl,_,rfl,AA (by lia),d _ ?_⟩;rw[Y,<- eO,<- eO,u8];exact aMy
      ·exact mT (DL fs a (some (w,st))) (λq t=>⟨_,rfl,_,rfl,_,rfl,(aC rfl),t⟩) (next (some (w,st)) ((b8 hok).trans (j5 some (b8 z.symm))).symm)
      ·try unfold mY
       dsimp only;exact next (some b) ((b8 hok).trans (j5 some (a8 (by rw[<- z];decide)))).symm
   ·try unfold mY
    dsimp only;rw[N,show AR fs a m S (w,st)=S from a8 (by rw[<- hF];decide)];exact⟨_,_,_,_,_,_,rfl⟩
  ·obtain⟨g,l,n,o,p,f,rfl⟩:=r;refine⟨.val (qD w),g,l,n,o,p,f,?_⟩;rw[cM,M];show[_,_,_,Sl.val (DL fs a ((((qs fs).take k).flatMap qL++(qL w).take 2).foldl (AR fs a m) none)),_,_,_,_,_,_,_,_]=_;rw[QU];exact rfl
 ·obtain⟨I,g,l,n,o,p,f,rfl⟩:=r;rw[aB,dF];have E:∀b,(DB fs).foldl (AR fs a m) none=some b->okC fs a m b=true:=KJ _ none λb z=>by cases z
  have eb:mN fs a m=((DB fs).foldl (AR fs a m) none).filter λc=>nW (dC fs a c) (wP a):=by rw[aHe];rfl
  change hZ _ _ _ [_,_,_,.val (DL fs a ((DB fs).foldl (AR fs a m) none)),_,_,_,_,_,_,_,_]
  rw[eb]at h
  generalize (DB fs).foldl (AR fs a m) none=S at *
  have p6:=tM s;refine cK (.tuple [.int ((yX a a:Nat):Int),.int ((max 1 a.length:Nat):Int)]) (λq d=>⟨_,rfl,_,rfl,fs,an,_,rfl,F,v,s,d⟩) ?_
  cases S with
  |none=>
   refine nI (λq d=>⟨_,rfl,d _ rfl⟩) ?_;exact h
  |some c=>
   obtain⟨hR,Z⟩:=aDo hm (E c rfl);have U:=C c;have W:=G c;refine lN (λb=>b=!nW (dC fs a c) (wP a)) (λq d=>⟨_,rfl,?_⟩) (λz=>?_) λz=>?_
   ·show(if false=true then q true else _);rw[a8 (by decide)];refine⟨_,rfl,_,rfl,_,rfl,_,rfl,_,rfl,AA (by lia),_,rfl,_,rfl,_,rfl,_,rfl,_,rfl,AA (by lia),d _ ?_⟩;rw[Z,<- eO,<- eO,show max 1 a.length=a.length by lia,<- decide_not,u8,HA];exact Int.ofNat_le
   ·have B:nW (dC fs a c) (wP a)=false:=by cases q:nW (dC fs a c) (wP a)with | true=>rw[q]at z;cases z | false=>rfl
    rw[OE,B]at h;exact h
   ·have B:nW (dC fs a c) (wP a)=true:=by cases q:nW (dC fs a c) (wP a)with | false=>rw[q]at z;cases z | true=>rfl
    rw[OE,B]at h
    try unfold mY
    dsimp only;exact⟨_,rfl,h⟩
def X5(dd:Nat)
  (l:dP P w K mg base iL (4+dd) on pj ["_law_form_here","_law_rows","_law_deep","_law_few"] (dB K (tH dd))):dP P w K mg base iL (4+dd+1) on pj ["_law_form_here","_law_rows","_law_deep","_law_few"] (dB K (tH (dd+1))):=by
 refine rS T.D_50.F aI0 λj nd ds Q h=>?_;obtain⟨fs,an,f,d,m,rfl,F,g,i,hd,hm,h⟩:=h;refine⟨_,(bD (ss 4 nd kQ)
 (bD (iO (dZ B2 rH (aH 2) aK)
 (bS (ss 4 nd (cd (hk:=by lia) (aKq T) T.D_49 j (aA (aH 0) (aA (aH 1) (aA (aH 3) aM))))))
 fW)
 (bD (iO (dZ B1 IL (aH 4) kQ)
 (bS (dS (eR (aA eA (aA (cd (hk:=by lia) (aKr T) T.D_46 j (aA (aH 0) (aA (aH 1) aM))) aM)))))
 fW)
 (bD (uL (cd (hk:=by lia) (aB5 T) T.D_48 j (aA (aH 0) (aA (bJ aU cD (aH 4) aK) (aA (bJ aU cD (aH 4) aK) (aA (aH 1) aM))))) (qC (nY rfl (eD (pn 5 nd) (eD (pn 6 nd) mF)))) (λs u=>lO s u))
 (bD (ss 7 nd (cd (hk:=by lia) l T.D_50 j (aA (aH 0) (aA (aH 5) (aA (cA sC F8 (aH 2) aK) (aA (aH 3) aM))))))
 (bS (dS (eR (aA eA (aA (bJ aU cD (aH 4) aK) (aA (bJ aU cD (aH 4) aK) (aA (aH 7) (aA (cd (hk:=by lia) l T.D_50 j (aA (aH 0) (aA (aH 6) (aA (cA sC F8 (aH 2) aK) (aA (aH 3) aM))))) aM))))))))))))),?_⟩
 show hZ _ _ _ [.val (eZ fs an),.val (.list (f.map dA)),.val (.int d),.val (.int m),.un,.un,.un,.un];refine cK .none (λq b=>b) ?_
 cases d with
 |zero=>
  refine oQ (λq b=>⟨_,rfl,b _ rfl⟩) ?_;refine nI (λq b=>⟨_,rfl,b _ rfl⟩) ?_;exact⟨_,rfl,_,rfl,fs,an,f,rfl,F,g,i,λa ha=>⟨(aC rfl),h (.say a) ⟨a,ha,rfl⟩⟩⟩
 |succ e=>
  refine nI (λq b=>⟨_,rfl,b _ (c6 (by lia))⟩) ?_;refine mT (DL fs f (mN fs f m)) (λq b=>⟨_,rfl,_,rfl,_,rfl,fs,an,f,m,rfl,F,g,i,hm,b⟩) ?_
  cases k:mN fs f m with
  |none=>
   dsimp only;refine nI (λq b=>⟨_,rfl,b _ rfl⟩) ?_;refine⟨_,rfl,_,rfl,fs,an,f,rfl,F,g,i,λa ha=>⟨(aC rfl),h (.say a) ?_⟩⟩;unfold Gr;rw[k];exact⟨a,ha,rfl⟩
  |some c=>
   have r:=(cC.mp (yO k)).1;obtain⟨b,hs⟩:=GP r;have p:=BU b;have es:((e+1:Nat):Int)-1=((e:Nat):Int):=by lia
   dsimp only;refine oQ (λq b=>⟨_,rfl,b _ rfl⟩) ?_;refine(show hZ (aEa _ _ _) _ _ _ from⟨_,rfl,_,rfl,_,rfl,_,rfl,_,rfl,_,rfl,fs,an,c.1.1,c.1.2.1,c.1.2.2,c.2,f,rfl,F,p,hs,g,i,_,_,rfl,?_⟩);dsimp only;refine iG (λv=>∃y,Gr fs an m e (yR fs c f) y/\v=mK y) (λq o=>⟨_,rfl,_,rfl,_,rfl,_,rfl,fs,an,_,e,m,by rw[<- es]<;>rfl,F,g.filt _,aX (bK _ _) i,by lia,hm,λt x=>o _ ⟨t,x,rfl⟩⟩) ?_;rintro _ ⟨y,z,rfl⟩;refine⟨_,rfl,_,rfl,_,rfl,_,rfl,_,rfl,_,rfl,_,rfl,_,rfl,_,rfl,fs,an,_,e,m,by rw[<- es]<;>rfl,F,g.filt _,aX (bK _ _) i,by lia,hm,λn hn=>⟨(aC rfl),h (.ask c.1.1 c.1.2.1 c.1.2.2 c.2 y n) ?_⟩⟩;unfold Gr;rw[k];exact⟨y,n,z,hn,rfl⟩
def aB4:dP P w K mg base iL 11 on pj ["_law_form_here","_law_rows","_law_deep","_law_few"] (dB K aHs):=by
 have h:∀dd:Nat,dP P w K mg base iL (4+dd) on pj ["_law_form_here","_law_rows","_law_deep","_law_few"] (dB K (tH dd)):=λdd=>by
  induction dd with
  |zero=>exact LQ CK λds Q h=>UE h
  |succ dd a=>exact X5 T dd a
 exact h 7
def X4(dd:Nat)
  (x:dP P w K mg base iL (2+dd) oo pq ["_law_one","_law_other","_law_place"] (dB K (tG dd))):dP P w K mg base iL (2+dd+1) oo pq ["_law_one","_law_other","_law_place"] (dB K (tG (dd+1))):=by
 refine rS T.D_51.F aIz λl nd ds Q h=>?_;obtain⟨fs,an,t,u,pl,rfl,F,C,E,hd,M,S,h⟩:=h;refine⟨_,(bD (iO (vM (xX (dZ jF mL (cB iX (aA (aH 0) aM) cG T.b_len fQ) aK) (uJ (dZ jF mL (cB iX (aA (aH 1) aM) cG T.b_len fQ) aK))))
 (bS (dS (aAf (aA (aH 2) aM) (cY C2 (aA (nN (BZ l) yF (bJ aU cD (aH 0) aK) (bJ aU cD (aH 1) aK)) aM) oA T.b_int wL))))
 fW)
 (bD (iO (vM (D9 (dZ (BZ l) yF (cB iX (aA (aH 0) aM) cG T.b_len fQ) (cB iX (aA (aH 1) aM) cG T.b_len fQ)) (D9 (dZ (BZ l) yF (bJ aU cD (aH 0) aK) (bJ aU cD (aH 1) aK)) (FR (dZ (BZ l) yF (bJ aU cD (aH 0) aK) (bJ aU cD (aH 1) aK))))))
 (bS (dS (oU (aA (aH 2) aM))))
 fW)
 (bD (ss 3 nd (cd (hk:=by lia) x T.D_51 l (aA (bJ aU cD (aH 0) aK) (aA (bJ aU cD (aH 1) aK) (aA (cA dE iP (aH 2) (eR (aA eA aM))) aM)))))
 (bS (dS (cA dE iP (aH 3) (cd (hk:=by lia) x T.D_51 l (aA (bJ aU cD (aH 0) aK) (aA (bJ aU cD (aH 1) aK) (aA (cA dE iP (aH 2) (eR (aA eA aM))) aM)))))))))),?_⟩
 show hZ _ _ _ [.val (mK t),.val (mK u),.val (jP pl),.un];have r:∀i j:Int,bX (.int i) (.int j)=decide (i=j):=λi j=>by rw[eN];simp[bX]
 have es:∀i j:Str,bX (.str i) (.str j)=decide (i=j):=λi j=>by rw[eN];simp[bX]
 have A:∀{z H:Str},wN z=true->wN H=true->ZE (.str z) (.str H):=λh h'=>⟨(jB h (n:=8) (m:=0) (aN _)).lay,(jB h' (n:=8) (m:=0) (aN _)).lay,(aC rfl)⟩
 have o:bcm pl t u=[jP (pl++[])]->∀σ,σ[2]?=some (.val (jP pl))->zX (aF2 (sS (rN 2) G2)) { nx:=λ_=>Q .none,rt:=Q } σ:=λe σ U=>by
  refine⟨_,U,(aC rfl),?_⟩;rw[cJ]at e;rw[e]at h;exact h
 cases t with
 |say a=>
  cases u with
  |say b=>
   refine nI (λq c=>⟨_,rfl,?_⟩) ?_
   ·show(if true=true then _ else q false);rw[b8 rfl];exact⟨_,rfl,c _ rfl⟩
   ·refine⟨_,rfl,(aC rfl),_,rfl,_,rfl,_,rfl,_,rfl,A (F.an.2.1 a C) (F.an.2.1 b E),_,rfl,?_⟩;show 0<=(if(!bX (.str a) (.str b))=true then(1:Int)else 0)/\(if(!bX (.str a) (.str b))=true then(1:Int)else 0)<=1000/\Q (.list (dW (if(!bX (.str a) (.str b))=true then(1:Int)else 0).toNat [jP pl]).flatten);rw[es];have h':Q (.list ((if a=b then[]else[[]]).map λp=>jP (pl++p))):=h;by_cases z:a=b
    ·rw[b8 z]at h';rw[c6 z];exact⟨by decide,by decide,h'⟩
    ·rw[a8 z]at h';rw[c9 z];refine⟨by decide,by decide,?_⟩;have e:pl++[]=pl:=cJ _;rw[List.map_singleton,e]at h';exact h'
  |ask d n' f s' g m'=>
   refine oQ (λq c=>⟨_,rfl,?_⟩) ?_
   ·show(if true=true then _ else q false);rw[b8 rfl];exact⟨_,rfl,c _ rfl⟩
   refine nI (λq c=>⟨_,rfl,_,rfl,⟨rfl,rfl,(aC rfl)⟩,?_⟩) ?_
   ·show(if(!bX (.int (2:Nat)) (.int (5:Nat)))=true then q true else _);rw[r,b8 (by decide)];exact c _ rfl
   ·exact o rfl _ rfl
 |ask k n v s y m=>
  cases u with
  |say b=>
   refine oQ (λq c=>⟨_,rfl,?_⟩) ?_
   ·exact c _ rfl
   refine nI (λq c=>⟨_,rfl,_,rfl,⟨rfl,rfl,(aC rfl)⟩,?_⟩) ?_
   ·show(if(!bX (.int (5:Nat)) (.int (2:Nat)))=true then q true else _);rw[r,b8 (by decide)];exact c _ rfl
   ·exact o rfl _ rfl
  |ask d n' f s' g m'=>
   obtain⟨W,L,N,I⟩:=C;obtain⟨R,Y,O,J⟩:=E;have d1:max y.dep m.dep+1<dd+1:=hd;have d2:max g.dep m'.dep+1<=6:=M;have d3:pl.length+(max y.dep m.dep+1)<=10:=S;have G:=XQ F W;have X:=XQ F R;refine oQ (λq c=>⟨_,rfl,?_⟩) ?_
   ·exact c _ rfl
   refine lN (λb=>b=!decide ((k=d/\n=n'/\v=f)/\s=s')) (λq c=>⟨_,rfl,_,rfl,⟨rfl,rfl,(aC rfl)⟩,?_⟩) (λhb=>?_) λhb=>?_
   ·show(if(!bX (.int (5:Nat)) (.int (5:Nat)))=true then q true else _);rw[r,a8 (by decide)];refine⟨_,rfl,_,rfl,_,rfl,_,rfl,⟨G.lay,X.lay,aX (Nat.min_le_left _ _) (aX G.depth (by decide))⟩,?_⟩;show(if(!bX (.tuple [.str k,.str n,.str v]) (.tuple [.str d,.str n',.str f]))=true then q true else _);rw[VZ];by_cases z:k=d/\n=n'/\v=f
    ·rw[c6 z,a8 (by decide)];refine⟨_,rfl,_,rfl,_,rfl,_,rfl,A (NE L) (NE Y),c _ ?_⟩;show(!bX (.str s) (.str s'))=_;rw[es];congr 1;rw[u8];exact⟨λw=>⟨z,w⟩,λw=>w.2⟩
    ·rw[c9 z,b8 (by decide)];refine c _ ?_;rw[c9 λw=>z w.1];rfl
   ·have z:¬((k=d/\n=n'/\v=f)/\s=s'):=λz=>by rw[c6 z]at hb;cases hb
    refine o ?_ _ rfl;show((if k=d/\n=n'/\v=f/\s=s' then _ else[[]]).map _)=_;rw[a8 λw=>z ⟨⟨w.1,w.2.1,w.2.2.1⟩,w.2.2.2⟩];rfl
   ·have z:(k=d/\n=n'/\v=f)/\s=s':=by
     by_cases z:(k=d/\n=n'/\v=f)/\s=s'
     ·exact z
     ·rw[c9 z]at hb;cases hb
    try unfold mY
    dsimp only;have B:∀w:Str,fA (pl.map aS++[.str w])=jP (pl++[w]):=λw=>by unfold jP;rw[bQ];rfl
    have pm:∀w:Str,(pl++[w]).length=pl.length+1:=λw=>by rw[bO];rfl
    refine cK (.list (bcm (pl++[("yes":Str)]) y g)) (λq c=>⟨_,rfl,_,rfl,_,rfl,_,rfl,_,rfl,(aC rfl),by rw[aB];show _+1<=_;lia,fs,an,y,g,pl++[("yes":Str)],by rw[<- B],F,N,O,by lia,by lia,by rw[pm];lia,c⟩) ?_;refine⟨_,rfl,_,rfl,_,rfl,_,rfl,_,rfl,_,rfl,(aC rfl),by rw[aB];show _+1<=_;lia,fs,an,m,m',pl++[("no":Str)],by rw[<- B],F,I,J,by lia,by lia,by rw[pm];lia,?_,?_⟩
    ·have c1:=aX (qF y g) (tU (show y.dep<=12 by lia));have Z:=aX (qF m m') (tU (show m.dep<=12 by lia));unfold bcm;rw[aB,aB];lia
    ·have e:bcm pl (.ask k n v s y m) (.ask d n' f s' g m')=bcm (pl++[("yes":Str)]) y g++bcm (pl++[("no":Str)]) m m':=by
      show((if k=d/\n=n'/\v=f/\s=s' then(AB y g).map plY++(AB m m').map plN else[[]]).map λp=>jP (pl++p))=_;rw[b8 ⟨z.1.1,z.1.2.1,z.1.2.2,z.2⟩,bQ,bN,bN];unfold bcm;congr 1
      ·apply fK;intro p _;show jP (pl++("yes":Str)::p)=jP ((pl++[("yes":Str)])++p);rw[hV];rfl
      ·apply fK;intro p _;show jP (pl++("no":Str)::p)=jP ((pl++[("no":Str)])++p);rw[hV];rfl
     rw[e]at h;exact h
def aKp:dP P w K mg base iL 9 oo pq ["_law_one","_law_other","_law_place"] (dB K aHr):=by
 have h:∀dd:Nat,dP P w K mg base iL (2+dd) oo pq ["_law_one","_law_other","_law_place"] (dB K (tG dd)):=λdd=>by
  induction dd with
  |zero=>exact LQ CK λds Q h=>UD h
  |succ dd a=>exact X4 T dd a
 exact h 7
def aB2:dP P w K mg base iL 1 za Az ["_law_rows"] (dB K aHm):=by
 refine rS T.D_56.F aIv λl nd ds Q h=>?_;obtain⟨kl,ks,rfl,d,a,n,h⟩:=h;refine⟨_,(bS (dS (el (fr:=[none,some 0]) (N':=["_law_number","_law_rows"]) (gU (CO (aH 0) (pc:=λh=>kN (wJ rfl) rfl T.b_sorted uZ h))) (λb=>⟨(eB (pk 0)),jY,(eR (aA (aH 0) (aA (GG l.u1 (aH 1) (aH 0)) aM)))⟩)))),?_⟩;show zX _ _ [.val (wO (kK kl))];have o:(kK kl).length=ks.length:=by unfold kK;rw[aB,d.length_eq]
 refine lA (ts:=(ks.map λe=>(e.1:Int)).map aW) (λR h=>⟨_,rfl,kK kl,rfl,by lia,λus i j=>⟨_,rfl,by rw[SQ i j d a];exact h⟩⟩) (KS ks) (by rw[aB,aB];lia) (λx q m f=>?_) ?_
 ·obtain⟨_,g,rfl⟩:=bC.mp m;obtain⟨e,c,rfl⟩:=bC.mp g;have k:=NS d a c;rw[show KS ks (.int (e.1:Nat))=.tuple [.int (e.1:Nat),dA e.2]from wX a c]at f;exact⟨_,rfl,_,rfl,_,rfl,kK kl,(e.1:Nat),dA e.2,rfl,rfl,sG k,(aC rfl),f⟩
 ·have e:((ks.map λe=>(e.1:Int)).map aW).map (KS ks)=B4 ks:=by
   rw[bN,bN];apply fK;intro e c;exact wX a c
  rw[e];exact h
def aB3:dP P w K mg base iL 1 yz Ay ["_law_rows","_law_given","_law_way","_law_number","_law_row_here","_law_right"] (dB K aHo):=by
 refine rS T.D_54.F aIx λc nd ds Q h=>?_;obtain⟨fs,an,kl,ks,f,w,j,E,rt,rfl,g,hn,J,C,B,h⟩:=h;refine⟨_,(bD (SC (i:=6) (aH 0) (pc:=λh=>BV (i:=6) nd rfl (by first | exact y9 rfl | exact v8 rfl) (uQ L3 rfl T.b_dict aAx h)))
 (bD (iO (vM (xX (dZ B2 rH (aH 2) aK) (uJ (XO c.u1 (aH 3) (aH 0)))))
 (uM 6 (bS (dS (eR (aA (aH 6) (aA kQ (aA eA aM)))))))
 fW)
 (bD (iO (vM (xX (dZ B0 K8 (aH 2) aK) (uJ (xY (tv (aH 5))))))
 (uM 6 (bS (dS (eR (aA (aH 6) (aA kQ (aA eA aM)))))))
 fW)
 (bD (iO (dZ jF mL (aH 2) aK)
 (bD (FS (i:=6) c.u1 (pv 6) (aH 1) (aH 4))
 (uM 6 (bS (dS (eR (aA (aH 6) (aA (aH 1) (aA eA aM))))))))
 fW)
 (bD (YA (l:=7) (i:=6) (pv 6) (aH 3) (pc:=λh ha=>BV (i:=7) nd rfl (by first | exact y9 rfl | exact v8 rfl) (lF mZ sZ HI NH h ha)))
 (bD (iO (dZ jF mL (aH 2) aK)
 (bS (FS (i:=6) c.u1 (pv 6) (aH 3) (aH 4)))
 fW)
 (uM 6 (bS (dS (eR (aA (aH 6) (aA (aH 7) (aA eA aM))))))))))))),?_⟩
 show hZ _ _ _ [.val (wO (kK kl)),.val (.int (f:Nat)),.val (.int w),.val (.int j),.val E,.val (.bool rt),.un,.un];have s:(kK kl).length<=60:=by unfold kK;rw[aB,g.length_eq];exact J
 have t:∀{k:Nat}{r:Rw},rK k ks=some r->oS (kK kl) (k:Nat)=some (dA r):=λhk=>sG (Z7 g hn hk);refine(show hZ (SJ _ _) _ _ _ from⟨(show 6<8 by decide),aCj rfl,_,rfl,kK kl,rfl,?_⟩);dsimp only;refine lN (λb=>b=(decide (w>0)&&(oS (kK kl) j).isNone)) (λq a=>⟨_,rfl,?_⟩) (λhb=>?_) λhb=>?_
 ·show(if decide (w>0)=true then _ else q false);by_cases z:w>0
  ·rw[b8 (c6 z)];exact⟨_,rfl,_,rfl,kK kl,j,rfl,rfl,a _ (by rw[c6 z,xW])⟩
  ·rw[a8 λy=>z (c8 y)];exact a _ (by rw[c9 z,FP])
 ·have n:=dG _ _▸hb.symm;have m:=c8 n.1
  have p:∀{k:Nat}{r:Rw},j=(k:Nat)->rK k ks=some r->False:=λe hk=>by
   have:=n.2;rw[e,t hk]at this;cases this
  refine⟨kK kl,rfl,?_⟩;refine⟨_,rfl,(aC rfl),?_⟩;rcases h with⟨z,hz,h⟩ | ⟨u,v,x,hd,h⟩
  ·rcases hz with⟨_,_,rfl⟩ | ⟨hz | ⟨_,k,r,e,hk⟩,_⟩
   ·exact h
   ·lia
   ·exact(p e hk).elim
  ·rcases hd with⟨z,_⟩ | ⟨_,k,r,e,hk,_⟩ | ⟨_,k,r,A,e,_,_,hk,_⟩
   ·lia
   ·exact(p e hk).elim
   ·exact(p e hk).elim
 ·have d:(w=1\/w=2)->noK ks j->False:=λhw hk=>by
   rw[noA g hk,c6 (show w>0 by lia)]at hb;cases hb
  try unfold mY
  dsimp only;refine lN (λb=>b=(!decide (w=1)&&!rt)) (λq a=>⟨_,rfl,?_⟩) (λhb=>?_) λhb=>?_
  ·show(if(!decide (w=1))=true then _ else q false);by_cases z:w=1
   ·rw[c6 z,a8 (by decide)];exact a _ (by rw[c6 z];rfl)
   ·rw[c9 z,b8 (by decide)];exact⟨_,rfl,a _ (by rw[c9 z];rfl)⟩
  ·have n:=dG _ _▸hb.symm;have m:w≠1:=λz=>by rw[c6 z]at n;cases n.1
   have H:rt=false:=by cases rt with | true=>cases n.2 | false=>rfl
   have o:=(B H).resolve_left m;refine⟨kK kl,rfl,?_⟩;refine⟨_,rfl,(aC rfl),?_⟩;rcases h with⟨z,hz,h⟩ | ⟨u,v,x,hd,h⟩
   ·rcases hz with⟨hw,hk,_⟩ | ⟨_,_,rfl⟩
    ·exact(d hw hk).elim
    ·exact h
   ·rcases hd with⟨_,r,rfl,c,_⟩ | ⟨z,_⟩ | ⟨_,k,r,A,_,rfl,c,_⟩
    ·rw[tV c]at o;cases o
    ·exact c7 z m
    ·rw[tV c]at o;cases o
  ·try unfold mY
   dsimp only;rcases h with⟨z,hz,h⟩ | ⟨u,v,x,hd,h⟩
   ·exfalso;rcases hz with⟨hw,hk,_⟩ | ⟨hw,hi,rfl⟩
    ·exact d hw hk
    ·have m:w≠1:=by rcases hw with z | z<;>lia
     cases rt with
     |true=>
      rw[(C rfl).resolve_left m]at hi;cases hi
     |false=>rw[c9 m]at hb;cases hb
   ·rcases hd with⟨rfl,r,rfl,c,_,G,rfl,rfl,rfl⟩ | ⟨rfl,k,r,rfl,hk,rfl,rfl,rfl⟩ | ⟨rfl,k,r,A,rfl,rfl,c,hk,rfl,rfl,rfl⟩
    ·refine nI (λq a=>⟨_,rfl,a _ rfl⟩) ?_;refine(show hZ (MU _ _ _) _ _ _ from⟨kK kl,rfl,_,rfl,_,rfl,(f:Nat),rfl,by lia,?_⟩);dsimp only;rw[wZ λe I=>G e (g.mem_iff.mp I)];exact⟨_,rfl,_,rfl,_,rfl,(aC rfl),h _ (g.append_right _)⟩
    ·refine oQ (λq a=>⟨_,rfl,a _ rfl⟩) ?_;refine(show hZ (SI _ _ _) _ _ _ from⟨kK kl,rfl,by decide,_,rfl,(k:Nat),dA r,rfl,t hk,?_⟩);dsimp only;rw[CT];refine oQ (λq a=>⟨_,rfl,a _ rfl⟩) ?_;exact⟨_,rfl,_,rfl,_,rfl,(aC rfl),h _ (g.filter _)⟩
    ·refine oQ (λq a=>⟨_,rfl,a _ rfl⟩) ?_;refine(show hZ (SI _ _ _) _ _ _ from⟨kK kl,rfl,by decide,_,rfl,(k:Nat),dA r,rfl,t hk,?_⟩);dsimp only;rw[CT]
     have L:(kK (lT k kl)).length<=60:=by
      unfold kK at s |-
      rw[aB]at s |-
      exact aX (bK _ _) s
     refine nI (λq a=>⟨_,rfl,a _ rfl⟩) ?_;refine(show MU _ _ _ _ _ from⟨kK (lT k kl),rfl,_,rfl,_,rfl,(k:Nat),rfl,by lia,?_⟩);dsimp only;rw[wZ (aAm k kl)];exact⟨_,rfl,_,rfl,_,rfl,(aC rfl),h _ (((g.filter _).append_right _).trans (MJ hn (bC.mpr ⟨_,xJ hk,rfl⟩)))⟩
def aKo:dP P w K mg base iL 3 yy Ax ["_law_form_here","_law_more","_law_given"] (dB K aHq):=by
 refine rS T.D_52.F aIy λC nd ds Q h=>?_;obtain⟨fs,an,bs,g,rfl,F,hb,R,h⟩:=h;refine⟨_,(bD (ss 3 nd (cd (aB6 T) T.D_43 C (aA (aH 0) (aA (aH 1) aM))))
 (bD (ss 4 nd (nN B2 rH (cA gA qZ (bJ aU cD (aH 1) aK) aK) aK))
 (bD (iO (xY (tv (aH 4)))
 (bS (ss 3 nd (bJ aU cD (oU (aA (eR (aA (bJ aU cD (aH 3) aK) (aA eA aM))) (aA (eR (aA (jU nH xC (bJ aU cD (aH 3) aK) (kH aK) mS) (aA (bJ aU cD (aH 3) aK) aM))) (aA kQ (aA (cY aF8 (aA (aH 3) aM) GR T.b_list GZ) (aA (bJ aU cD (aH 3) aK) aM)))))) (cA gA qZ (bJ aU cD (aH 1) aK) aK))))
 fW)
 (bD (ss 5 nd (cA sC F8 (cA gA qZ (bJ aU cD (aH 1) aK) (cA dE iP (aH 2) aK)) (cY C2 (aA (nN jF mL (cA gA qZ (bJ aU cD (aH 1) aK) aK) aK) aM) oA T.b_int wL)))
 (bS (dS (eR (aA (bJ aU cD (oU (aA aK (aA aK (aA aK (aA aK (aA aK aM)))))) (cA gA qZ (bJ aU cD (aH 1) aK) aK)) (aA (aH 5) (aA (aH 3) (aA (aH 4) aM))))))))))),?_⟩
 show hZ _ _ _ [.val (eZ fs an),.val (.list (bs.map aW)),.val (.int (g:Nat)),.un,.un,.un];have n1:=F.n1;have n5:=F.n5;obtain⟨c,L,M,u⟩:=gY hb (i:=9) (by decide) (by decide);obtain⟨r,_,_,o⟩:=gY hb (i:=10) (by decide) (by decide);obtain⟨x,_,_,s⟩:=gY hb (i:=11) (by decide) (by decide);obtain⟨N,_,_,t⟩:=gY hb (i:=12) (by decide) (by decide);obtain⟨I,_,_,p⟩:=gY hb (i:=13) (by decide) (by decide);refine iG (λd=>∃cs a,iV fs (.tuple cs)=true/\a∈an/\d=.tuple [.tuple cs,.str a]) (λq e=>⟨_,rfl,_,rfl,fs,an,bs,14,rfl,F,hb,by decide,λcs a f ha=>e _ ⟨cs,a,f,ha,rfl⟩⟩) ?_;rintro _ ⟨cs,a,f,ha,rfl⟩;obtain⟨O,_⟩:=nO f;refine cK (.bool (decide (c%9>0))) (λq e=>⟨_,rfl,_,u,(show(0:Int)<9 by decide),e⟩) ?_;refine YL (λb=>b=!decide (c%9>0)) (λσ=>∃k,C7 fs an k (decide (c%9>0))/\σ=[.val (eZ fs an),.val (.list (bs.map aW)),.val (.int (g:Nat)),.val k,.val (.bool (decide (c%9>0))),.un]) (λq e=>⟨_,rfl,e _ rfl⟩) (λhb J B=>?_) (λhb=>?_) ?_
 ·have l:decide (c%9>0)=false:=by cases z:decide (c%9>0)with | false=>rfl | true=>(rw[z]at hb;cases hb)
  obtain⟨m,hm,n,_⟩:=qT (xs:=[fA [.tuple cs,.str "Zz"],.tuple [.tuple (cs.drop 1),.str a],.none,.list [.tuple cs,.str a],.tuple cs]) (i:=r%5) (cN _ (by decide)) (cH _ (by decide));obtain⟨G,H⟩:=P3 F f ha m hm;have A:mW cs (some 1) none=cs.drop 1:=V8 cs 1;rw[<- A]at n;exact⟨_,rfl,_,rfl,(aC rfl),_,rfl,_,rfl,_,rfl,_,rfl,(aC rfl),_,rfl,_,rfl,_,rfl,(aC rfl),_,rfl,_,o,(show(0:Int)<5 by decide),_,n,B _ ⟨m,.inr ⟨l,G,H⟩,rfl⟩⟩
 ·have l:decide (c%9>0)=true:=by cases z:decide (c%9>0)with | true=>rfl | false=>(rw[z]at hb;cases hb)
  exact⟨_,.inl ⟨l,(cs,a),⟨f,ha⟩,rfl⟩,rfl⟩
 rintro _ ⟨k,y,rfl⟩;refine iG (λd=>∃j:Int,d=.int j) (λq e=>⟨_,rfl,_,t,_,rfl,(show(0:Int)<(g:Int)+2 by lia),_,rfl,_,p,(show(0:Int)<8 by decide),e _ ⟨_,rfl⟩⟩) ?_;rintro _ ⟨j,rfl⟩;obtain⟨w,hm,hw,_⟩:=qT (xs:=[aW 0,.int 0,.int 0,.int 1,.int 2]) (i:=x%5) (cN _ (by decide)) (cH _ (by decide))
 obtain⟨v,rfl,E⟩:∃v:Int,w=.int v/\(v=0\/v=1\/v=2):=by
  simp only[aP,cO,l9]at hm;rcases hm with rfl | rfl | rfl | rfl | rfl
  ·exact⟨_,rfl,.inl rfl⟩
  ·exact⟨_,rfl,.inl rfl⟩
  ·exact⟨_,rfl,.inl rfl⟩
  ·exact⟨_,rfl,.inr (.inl rfl)⟩
  ·exact⟨_,rfl,.inr (.inr rfl)⟩
 exact⟨(aC rfl),_,rfl,_,s,(show(0:Int)<5 by decide),_,hw,_,rfl,_,rfl,_,rfl,(aC rfl),h v j k _ E y⟩
def aKn:dP P w K mg base iL 18 rh sj ["_law_book","_law_way","_law_number","_law_row_here"] (kO K (aHp e9)):=by
 refine PZ (F:=kX e9) T.D_53.F SF (λB n ds Q h=>by obtain⟨fs,an,d,m,o,ks,t0,f,w,j,g,v,f2,x,q,rfl,b,l,e,p,hd,h⟩:=h;rfl) λt6 A outer s H E a Tp n ds Q h=>?_;obtain⟨fs,an,d,m,o,ks,t0,f,w,j,g,v,f2,x,q,rfl,b,l,e,p,hd,h⟩:=h;have nd:=SF.nd;refine⟨_,(kZ (lV (ss 4 nd kQ))
 (kZ (lV (ss 5 nd eA))
 (aOo (i:=4) (YY (S8 (dZ jF mL (aH 1) aK)
 (AW (A0 (by decide +kernel) (aH 0) (sL (aA (aH 3) aM)) (λh ha=>kG h T.C_Book T.M_1 (aLd T) (a.mono (by decide)) T.D_1.d .nil jE ha)) (λh=>lO h (pn 4 nd)))
 (S8 (dZ jF mL (aH 1) aK)
 (AW (A0 (by decide +kernel) (aH 0) (sL (aA (aH 2) aM)) (λh ha=>kG h T.C_Book T.M_2 (aOr T) (a.mono (by decide)) T.D_2.d .nil jE ha)) (λh=>lO h (pn 4 nd)))
 (AW (A0 (by decide +kernel) (aH 0) (sL (aA (aH 2) (aA (aH 3) aM))) (λh ha=>kG h T.C_Book T.M_3 (aOq T) (a.mono (by decide)) T.D_3.d .nil jE ha)) (λh=>lO h (pn 4 nd))))) (λh=>Y0 wB h))
 (gK (nF (lB (eR (aA (aH 4) (aA (aH 5) aM))))))))),?_⟩
 obtain rfl:Tp=o:=iM q;rcases hd with⟨rfl,r,rfl,a,u,y,rfl,rfl,rfl⟩ | ⟨rfl,k,r,rfl,hk,rfl,rfl,rfl⟩ | ⟨rfl,k,r,z,rfl,rfl,a,hk,rfl,rfl,rfl⟩
 ·exact⟨_,rfl,_,rfl,rfl,_,rfl,fs,an,d,m,Tp,ks,f,r,t0,rfl,rfl,b,u,e,p,y,a,λt c g=>⟨_,rfl,_,rfl,(aC rfl),dnT (.int (f:Nat)),rfl,h t c⟩⟩
 ·exact⟨_,rfl,_,rfl,_,rfl,rfl,_,rfl,fs,an,d,m,Tp,ks,k,r,t0,rfl,rfl,b,l,hk,λt c g=>⟨_,rfl,_,rfl,(aC rfl),dnT (dA r),rfl,by rw[e];exact h t c⟩⟩
 ·exact⟨_,rfl,_,rfl,_,rfl,rfl,_,rfl,_,rfl,fs,an,d,m,Tp,ks,k,r,z,t0,rfl,rfl,b,l,hk,a,λt c g=>⟨_,rfl,_,rfl,(aC rfl),dnT (dA r),rfl,by rw[e];exact h t c⟩⟩
def aKm:dP P w K mg base iL 18 uq uy ["_law_book","_law_script","_law_form_here","_law_many"] (mH K (aHn e9)):=by
 refine fnZ (F:=kX e9) T.D_55.F aIw λb nd Tp n ds Q h=>?_;obtain⟨fs,an,d,m,q,ns,N,t0,v,rfl,A,C,kp,h⟩:=h;refine⟨_,(dR (lV (YB (i:=4) (λh=>lO h (pn 4 nd))))
 (dR (R6 (lH (aA (aH 3) aM) (λh=>jR rfl T.b_range h)) (eB (pn 5 nd))
 (dR (lV (FS (i:=4) b.u1 (pv 4) (aH 5) (cd (aB6 T) T.D_43 b (aA (aH 2) (aA (cd (EK T) T.D_39 b (aA (cd (EL T) T.D_38 b (aA (aH 1) (aA (cA dE iP aK (aH 5)) aM))) (aA aK aM))) aM)))))
 (gK (R7 (A0 (by decide +kernel) (aH 0) (sL (aA (VX (i:=4) b.u1 (pv 4) (aH 5)) aM)) (λh ha=>kG h T.C_Book T.M_1 (aLd T) (b.mono (by decide)) T.D_1.d .nil jE ha)) (λh=>fN h)))) (λhi k hb=>K0 bf rfl hi k hb))
 (OP 4 (gK (nF (lB (aH 4))))))),?_⟩
 obtain rfl:Tp=q:=iM v;show vK _ _ _ _ _ [.val (nQ Tp),.val (.list (ns.map aW)),.val (eZ fs an),.val (.int (N:Nat)),.un,.un];have F:=kp.bk.F;refine(show vK (zP (aBs 4)) _ _ _ _ _ from⟨(show 4<6 by decide),aCj rfl,?_⟩);dsimp only
 refine RF (ts:=eI N) (λR h=>⟨_,rfl,((N:Nat):Int),rfl,by lia,by lia,by rw[iF];exact h⟩)
  (λi f σ=>∃(ks:List (Nat×Rw))(t:Tr)(o:Sl),σ=[.val (nQ Tp),.val (.list (ns.map aW)),.val (eZ fs an),.val (.int (N:Nat)),HF (kK ks),o]/\G4 fs an d m Tp ks ks t i f/\ks.length=i) ⟨[],t0,_,rfl,kp,rfl⟩ (λi f x d8 y j=>?_) λf d8 j=>?_
 ·obtain⟨ks,t,o,rfl,kp,l⟩:=j;obtain⟨E,rfl⟩:=gX y;have g:∀e∈ks,e.1≠i:=λe u=>by have:=kp.lt e u;lia
  have B:(kK ks).length<=60:=by unfold kK;rw[aB];lia
  dsimp only[gN];refine gG ?_;refine(show hZ (MU _ _ _) _ _ _ from⟨kK ks,rfl,_,rfl,_,rfl,_,rfl,ns,30+((i:Nat):Int),rfl,A,by lia,by lia,λc=>⟨c,9,rfl,by decide,λbs hb=>⟨fs,an,bs,9,rfl,F,hb,by decide,λcs a p ha=>⟨_,rfl,((i:Nat):Int),rfl,by lia,?_⟩⟩⟩⟩);dsimp only;have hd:G6 fs an ks i 0 0 (dA (cs,a)) (ks++[(i,(cs,a))]) (i+1) (.int (i:Nat)):=.inl ⟨rfl,_,rfl,⟨p,ha⟩,by lia,g,rfl,rfl,rfl⟩;have z:zY (kK ks) (i:Nat) (.tuple [.tuple cs,.str a])=kK (ks++[(i,(cs,a))]):=wZ (r:=(cs,a)) g;rw[z];have s:oS (kK (ks++[(i,(cs,a))])) (i:Nat)=some (dA (cs,a)):=sG (uW (e:=(i,(cs,a))) (FX (HZ kp.ris kp.lt _)) (cZ _ (aO ..)));exact⟨_,rfl,rfl,_,rfl,_,rfl,(i:Nat),_,rfl,s,fs,an,d,m,Tp,ks,i,(cs,a),t,rfl,rfl,kp.bk,by lia,kp.fol,by lia,g,⟨p,ha⟩,λt' k=>⟨ks++[(i,(cs,a))],t',_,rfl,(kp.deed hd k (oO.refl _)).1,by rw[bO];show _+1=_;lia⟩⟩
 ·obtain⟨ks,t,o,rfl,kp,l⟩:=j;rw[iW]at l kp;exact⟨kK ks,rfl,_,rfl,h ks t f kp l⟩
def T1:dP P w K mg base iL 2 oq qb ["_law_book","_law_rows","_law_tree"] (mH K (aHl e9)):=by
 refine fnZ (F:=kX e9) T.D_57.F aIu λc nd Tp n ds Q h=>?_;obtain⟨fs,an,d,m,l,ks,kl,t,s,rfl,b,j,o,k,g,h⟩:=h;refine⟨_,(aN6 (i:=3) (AW (tS (by decide +kernel) (aH 0) (λh=>rG h T.C_Book T.M_4 (aKw T) (c.mono (by decide)) T.D_4.d .nil jE)) (λh=>lO h (pn 3 nd)))
 (dR (pL (aHc (aHd (aDj 3 (dZ B0 K8 (cB qS (aA (aH 3) aM) (jZ c) T.b_repr oE) (cB qS (aA (cd (aB2 T) T.D_56 c (aA (aH 1) aM)) aM) (jZ c) T.b_repr oE))) (aDh (aBh (RO B0 K8 (aCy qS (eU (VW (by decide +kernel) (aH 0) (λh=>rG h T.C_Book T.M_5 (aOp T) (c.mono (by decide)) T.D_5.d .nil jE)) oV) (λh=>kN (jZ c) rfl T.b_repr oE h)) (lB (cB qS (aA (aH 2) aM) (jZ c) T.b_repr oE)))))))
 (gK (nF (lB tY)))
 mU)
 (dR (XZ (i:=3) (pv 3) kQ (pb:=λh=>fN (lF bY cX cW iR (pv 3) h)))
 (gK (nF (aL1 (aFv jF mL (aCy qS (eU (VV (tS (by decide +kernel) (aH 0) (λh=>rG h T.C_Book T.M_4 (aKw T) (c.mono (by decide)) T.D_4.d .nil jE))) oV) (λh=>kN (jZ c) rfl T.b_repr oE h)) (lB (cB qS (aA (cd (aB2 T) T.D_56 c (aA (aH 1) aM)) aM) (jZ c) T.b_repr oE))))))))),?_⟩
 obtain rfl:Tp=l:=iM s;have F:=b.F;obtain⟨kvs,fol,st⟩:=n;obtain rfl:st=mK t:=b.st;refine⟨_,rfl,rfl,Tp,ks,rfl,rfl,b.kv,λp=>?_⟩;show vK (F:=wE (kX e9)) _ _ _ _ _ [.val (nQ Tp),.val (wO (kK kl)),.val (mK t),.val p];have a:=ON F b.ok o g;have e:=RV F b.tr b.dep;have f:∀z:Str,bX (.str z) (.str z)=true:=λz=>by simp[bX]
 have f:∀z:Str,(!decide (z=z))=false:=λz=>by rw[c6 rfl];rfl
 refine KD false (λq r=>⟨⟨_,_,rfl,rfl⟩,_,rfl,a.shw,a.nodict,aX a.depth (by decide),jD a,?_⟩) (λz=>by cases z) λ_=>?_
 ·refine⟨_,rfl,kl,ks,rfl,k,j,g,a.shw,a.nodict,aX a.depth (by decide),jD a,?_⟩;show(if(!decide ((mD (B4 ks)).shown=(mD (B4 ks)).shown))=true then _ else _);rw[f,a8 (by decide)];refine⟨_,_,rfl,_,rfl,rfl,Tp,rfl,rfl,e.shw,e.nodict,aX e.depth (by decide),jD e,_,rfl,e.shw,e.nodict,aX e.depth (by decide),jD e,?_⟩;show q _ (!decide ((mK t).shown=(mK t).shown));rw[f];exact r
 ·refine zn ?_;dsimp only;refine(show vK (F:=wE (kX e9)) (aBe (F:=kX e9) 3 _) _ _ _ _ _ from⟨⟨_,_,rfl,rfl⟩,by show(B4 ks).length<=_;rw[IP];lia,?_⟩);refine⟨_,_,rfl,_,rfl,rfl,Tp,ks,rfl,rfl,b.kv,rfl,a.shw,a.nodict,aX a.depth (by decide),jD a,_,rfl,kl,ks,rfl,k,j,g,a.shw,a.nodict,aX a.depth (by decide),jD a,?_⟩;show Q _ (.bool (decide ((mD (B4 ks)).shown=(mD (B4 ks)).shown)));rw[c6 rfl];exact h
def aCi:dP P w K mg base (Q6 P w) 4 En Gf ["self","thing"] (nL K (pZ e9 i5 f8)):=by
 refine VP (F:=kX e9) T.D_6.F aD9 (λl n ds Q h=>by obtain⟨fs,an,b,d,e,rfl,F,c,hd,hw,h⟩:=h;rfl) λt6 i outer s H E a ps Tp n ds j h f=>?_;obtain⟨fs,an,b,d,e,rfl,F,c,hd,hw,h⟩:=h;have nd:=aD9.nd;refine⟨_,(gK (pL (BE (BD (CN (M8 T) T.D_11.m T.D_11.k T.D_11.d (a.mono (by decide)) (eU (sJ T.C_Book T.n_Book_form (aH 0)) (eU (lB (aH 1)) oV)) (λh=>mG (M8 T) (a.mono (by decide)) rfl T.D_11.m T.D_11.k T.D_11.d .nil jE h)) (λh=>yC h)))
 (gK (HQ f T.X_NoRow (aA eA aM) (λh=>IB T.R_NoRow a rfl T.x_NoRow h)))
 mU)),?_⟩
 obtain rfl:Tp=b:=iM e;refine BA true (λq g=>⟨_,rfl,rfl,Tp,_,rfl,rfl,_,rfl,fs,an,d,by rw[c],F,hd,?_⟩) (λ_=>?_) λz=>by cases z
 ·rw[hw];exact g
 ·exact⟨(aC rfl),rfl,h,λB p0 hb=>hb⟩
def aCh:dP P w K mg base (Q6 P w) 2 Eo Gg ["self","number"] (nL K (oH e9 i5 f8)):=by
 refine VP (F:=kX e9) T.D_7.F aD8 (λk n ds Q h=>by obtain⟨a,j,d,rfl,b,h⟩:=h;rfl) λt6 g outer s H E c ps Tp n ds i h e=>?_;obtain⟨a,j,d,rfl,b,h⟩:=h;have nd:=aD8.nd;refine⟨_,(gK (pL (RN c.u1 T.C_Book T.n_Book_numbered (aH 1) (aH 0))
 (gK (HQ e T.X_NoSuch (aA eA aM) (λh=>IB T.R_NoSuch c rfl T.x_NoSuch h)))
 mU)),?_⟩
 obtain rfl:Tp=a:=iM d;refine BA true (λq f=>⟨_,rfl,j,rfl,_,rfl,rfl,?_⟩) (λ_=>?_) λz=>by cases z
 ·rw[b];exact f
 ·exact⟨(aC rfl),rfl,h,λB p0 hb=>hb⟩
def aLg:dP P w K mg base (Q6 P w) 17 Ek Gc ["self","row"] (nL K (YE e9 i5 f8)):=by
 refine VP (F:=kX e9) T.D_1.F YO (λj n ds Q h=>by obtain⟨fs,an,a,d,e,rfl,F,b,hd,hw,h⟩:=h;rfl) λt6 g outer s H E c ps Tp n ds i h f=>?_;obtain⟨fs,an,a,d,e,rfl,F,b,hd,hw,h⟩:=h;have nd:=YO.nd;refine⟨_,(dR (yP.or (pY (qE (by decide +kernel) (aH 0) (sL (aA (aH 1) aM)) (λh ha=>kG h T.C_Book T.M_6 (ZD T) (c.mono (by decide)) T.D_6.d .nil jE ha)) (λh=>fN h))
 (wV (xL f (by decide +kernel) (aH 0) (sL (aA (aH 1) aM)) (λh ha=>kG h T.C_Book T.M_6 (aCi T) (c.mono (by decide)) T.D_6.d .nil M5 ha)) (λh=>fN h)))
 (dR (lV rE)
 (dR (lV rE)
 (dR (lV rE)
 (dR (lV rE)
 (gK (lV rE))))))),?_⟩
 obtain rfl:Tp=a:=iM e;exact .inr ⟨⟨_,rfl,rfl,rfl,_,rfl,fs,an,Tp,d,rfl,rfl,F,b,hd,hw,h⟩,λB p0 hb=>hb⟩
def aLf:dP P w K mg base (Q6 P w) 17 El Gd ["self","number"] (nL K (YF e9 i5 f8)):=by
 refine VP (F:=kX e9) T.D_2.F YN (λk n ds Q h=>by obtain⟨a,j,e,rfl,b,h⟩:=h;rfl) λt6 g outer s H E c ps Tp n ds i h f=>?_;obtain⟨a,j,e,rfl,b,h⟩:=h;have nd:=YN.nd;refine⟨_,(dR (yP.or (pY (qE (by decide +kernel) (aH 0) (sL (aA (aH 1) aM)) (λh ha=>kG h T.C_Book T.M_7 (ZC T) (c.mono (by decide)) T.D_7.d .nil jE ha)) (λh=>fN h))
 (wV (xL f (by decide +kernel) (aH 0) (sL (aA (aH 1) aM)) (λh ha=>kG h T.C_Book T.M_7 (aCh T) (c.mono (by decide)) T.D_7.d .nil M5 ha)) (λh=>fN h)))
 (dR (lV rE)
 (gK (lV rE)))),?_⟩
 obtain rfl:Tp=a:=iM e;exact .inr ⟨⟨_,rfl,rfl,rfl,_,rfl,Tp,j,rfl,rfl,b,h⟩,λB p0 hb=>hb⟩
def aLe:dP P w K mg base (Q6 P w) 17 Em Ge ["self","number","row"] (nL K (SE e9 i5 f8)):=by
 refine VP (F:=kX e9) T.D_3.F YM (λm n ds Q h=>by obtain⟨fs,an,c,j,d,g,rfl,F,f,hd,h⟩:=h;rfl) λt6 k outer s H E a ps Tp n ds l h e=>?_;obtain⟨fs,an,c,j,d,g,rfl,F,f,hd,h⟩:=h;have nd:=YM.nd;refine⟨_,(dR (yP.or (pY (qE (by decide +kernel) (aH 0) (sL (aA (aH 1) aM)) (λh ha=>kG h T.C_Book T.M_7 (ZC T) (a.mono (by decide)) T.D_7.d .nil jE ha)) (λh=>fN h))
 (wV (xL e (by decide +kernel) (aH 0) (sL (aA (aH 1) aM)) (λh ha=>kG h T.C_Book T.M_7 (aCh T) (a.mono (by decide)) T.D_7.d .nil M5 ha)) (λh=>fN h)))
 (dR (yP.or (pY (qE (by decide +kernel) (aH 0) (sL (aA (aH 2) aM)) (λh ha=>kG h T.C_Book T.M_6 (ZD T) (a.mono (by decide)) T.D_6.d .nil jE ha)) (λh=>fN h))
 (wV (xL e (by decide +kernel) (aH 0) (sL (aA (aH 2) aM)) (λh ha=>kG h T.C_Book T.M_6 (aCi T) (a.mono (by decide)) T.D_6.d .nil M5 ha)) (λh=>fN h)))
 (dR (lV rE)
 (dR (lV rE)
 (gK (lV rE)))))),?_⟩
 obtain rfl:Tp=c:=iM g;rcases h with⟨b,h⟩ | ⟨i,b,hw,h⟩
 ·exact .inr ⟨⟨_,rfl,rfl,rfl,_,rfl,Tp,j,rfl,rfl,b,h⟩,λB p0 hb=>hb⟩
 ·refine .inl ⟨_,rfl,rfl,_,rfl,Tp,j,i,rfl,rfl,b,?_⟩;dsimp only;exact .inr ⟨⟨_,rfl,rfl,rfl,_,rfl,fs,an,Tp,d,rfl,rfl,F,f,hd,hw,h⟩,λB p0 hb=>hb⟩
def aE2:dP P w K mg base iL 18 rh sj ["_law_book","_law_way","_law_number","_law_row_here"] (mH K (DN e9)):=by
 refine fnZ (F:=kX e9) T.D_53.F SF λo nd Tp n ds Q h=>?_;obtain⟨fs,an,s,ks,w,j,g,z,t,rfl,F,m,hk,l,hz,h⟩:=h;refine⟨_,(dR (lV (ss 4 nd kQ))
 (dR (lV (ss 5 nd eA))
 (dR (by refine' XW (J:=o8) (i:=6) (SN (dZ jF mL (aH 1) aK)
 (BO (by decide +kernel) (aH 0) (sL (aA (aH 3) aM)) (λh ha=>KW (FY wB h T.C_Book T.M_1 (aLg T) (o.mono (by decide)) T.D_1.d ha)))
 (SN (dZ jF mL (aH 1) aK)
 (BO (by decide +kernel) (aH 0) (sL (aA (aH 2) aM)) (λh ha=>KW (FY wB h T.C_Book T.M_2 (aLf T) (o.mono (by decide)) T.D_2.d ha)))
 (BO (by decide +kernel) (aH 0) (sL (aA (aH 2) (aA (aH 3) aM))) (λh ha=>KW (FY wB h T.C_Book T.M_3 (aLe T) (o.mono (by decide)) T.D_3.d ha))) (λc a b=>aBu wB c a b)) (λc a b=>aBu wB c a b)) (λu=>?hb) (λr b=>YZ wB rfl rfl nd rfl rfl rfl T.x_JudgeError r b);(case hb=>(refine' (dR (lV (ss 5 nd eA))   (dR (lV (iO (vM (xX (tv (show fY _ _ (V3 K (.ref f8) (rN 6))from ?z1)) (uJ (xY (tv (show fY _ _ (V3 K (.ref i5) (rN 6))from ?z0))))))   (bS (ss 5 nd eA))   fW))   (gK (lV (iO (vM (xX (tv (show fY _ _ (V3 K (.ref i5) (rN 6))from ?z3)) (uJ (xY (tv (show fY _ _ (V3 K (.ref f8) (rN 6))from ?z2))))))   (bS (ss 5 nd eA))   fW)))));(case z0=>exact(GH (c:=.ref i5) (cv:=.ref i5) (aH 6) (λh=>kN (xQ λ_ z=>z) rfl T.b_isinstance mM (fP h (fP (uP rfl T.x_NoRow rfl) jX)))));(case z1=>exact(GH (c:=.ref f8) (cv:=.ref f8) (aH 6) (λh=>kN (xQ λ_ z=>z) rfl T.b_isinstance mM (fP h (fP (uP rfl T.x_NoSuch rfl) jX)))));(case z2=>exact(GH (c:=.ref f8) (cv:=.ref f8) (aH 6) (λh=>kN (xQ λ_ z=>z) rfl T.b_isinstance mM (fP h (fP (uP rfl T.x_NoSuch rfl) jX)))));(case z3=>exact(GH (c:=.ref i5) (cv:=.ref i5) (aH 6) (λh=>kN (xQ λ_ z=>z) rfl T.b_isinstance mM (fP h (fP (uP rfl T.x_NoRow rfl) jX))))))))
 (gK (nF (lB (eR (aA (aH 4) (aA (aH 5) aM))))))))),?_⟩
 obtain rfl:Tp=s:=iM t;show vK _ _ _ _ _ [.val (nQ Tp),.val (.int w),.val (.int j),.val g,.un,.un,.un];refine gG (cK .none (λq e=>e) ?_)
 try dsimp only
 refine gG (cK (.str "") (λq e=>e) ?_)
 try dsimp only
 rcases hz with⟨rfl | rfl,p,rfl⟩ | ⟨rfl | ⟨rfl,k,r,rfl,f⟩,hi,rfl⟩
 ·have f:oS n.kvs j=none:=by rw[hk];exact noA (oO.refl _) p
  refine⟨_,rfl,_,rfl,_,rfl,rfl,_,rfl,Tp,j,rfl,rfl,f,⟨f8,rfl,T.j_NoSuch⟩,?_⟩;refine gG (cK (.str "odd") (λq e=>e) ?_)
  try dsimp only
  refine gG (nI (λq e=>⟨_,rfl,f8,.none,true,rfl,T.q_NoSuch_NoSuch,_,rfl,f8,.none,false,rfl,T.q_NoSuch_NoRow,e _ rfl⟩) ?_);refine mT (.str "such") (λq e=>e) ?_
  try dsimp only
  refine(show zP _ _ _ _ _ from pN (λb=>b=false) (λq e=>⟨_,rfl,f8,.none,false,rfl,T.q_NoSuch_NoRow,e _ rfl⟩) (λz=>by cases z) λ_=>?_);exact⟨_,rfl,_,rfl,(aC rfl),h⟩
 ·have f:oS n.kvs j=none:=by rw[hk];exact noA (oO.refl _) p
  refine⟨_,rfl,_,rfl,_,rfl,rfl,_,rfl,_,rfl,fs,an,Tp,j,g,rfl,rfl,F,m,l,.inl ⟨f,⟨f8,rfl,T.j_NoSuch⟩,?_⟩⟩;refine gG (cK (.str "odd") (λq e=>e) ?_)
  try dsimp only
  refine gG (nI (λq e=>⟨_,rfl,f8,.none,true,rfl,T.q_NoSuch_NoSuch,_,rfl,f8,.none,false,rfl,T.q_NoSuch_NoRow,e _ rfl⟩) ?_);refine mT (.str "such") (λq e=>e) ?_
  try dsimp only
  refine(show zP _ _ _ _ _ from pN (λb=>b=false) (λq e=>⟨_,rfl,f8,.none,false,rfl,T.q_NoSuch_NoRow,e _ rfl⟩) (λz=>by cases z) λ_=>?_);exact⟨_,rfl,_,rfl,(aC rfl),h⟩
 ·refine⟨_,rfl,_,rfl,rfl,_,rfl,fs,an,Tp,g,rfl,rfl,F,m,l,hi,⟨i5,rfl,T.j_NoRow⟩,?_⟩;refine gG (cK (.str "odd") (λq e=>e) ?_)
  try dsimp only
  refine gG (oQ (λq e=>⟨_,rfl,i5,.none,false,rfl,T.q_NoRow_NoSuch,e _ rfl⟩) ?_);refine(show zP _ _ _ _ _ from F6 (λq e=>⟨_,rfl,i5,.none,true,rfl,T.q_NoRow_NoRow,_,rfl,i5,.none,false,rfl,T.q_NoRow_NoSuch,e _ rfl⟩) ?_);refine mT (.str "row") (λq e=>e) ?_;exact⟨_,rfl,_,rfl,(aC rfl),h⟩
 ·refine⟨_,rfl,_,rfl,_,rfl,rfl,_,rfl,_,rfl,fs,an,Tp,(k:Nat),g,rfl,rfl,F,m,l,.inr ⟨dA r,by rw[hk];exact sG f,hi,⟨i5,rfl,T.j_NoRow⟩,?_⟩⟩;refine gG (cK (.str "odd") (λq e=>e) ?_)
  try dsimp only
  refine gG (oQ (λq e=>⟨_,rfl,i5,.none,false,rfl,T.q_NoRow_NoSuch,e _ rfl⟩) ?_);refine(show zP _ _ _ _ _ from F6 (λq e=>⟨_,rfl,i5,.none,true,rfl,T.q_NoRow_NoRow,_,rfl,i5,.none,false,rfl,T.q_NoRow_NoSuch,e _ rfl⟩) ?_);refine mT (.str "row") (λq e=>e) ?_;exact⟨_,rfl,_,rfl,(aC rfl),h⟩
set_option maxHeartbeats 40000000 in
def aE0:dP P w K mg base iL 19 mh jv ["_law_script"] (dB K BK):=by
 refine rS T.D_law.F aD7 λl nd ds Q h=>?_;obtain⟨ns,rfl,hl,h⟩:=h;refine⟨_,(bD (ss 1 nd (cd (aKv T) T.D_41 l (aA (aH 0) aM)))
 (bD (ss 2 nd (cd (EK T) T.D_39 l (aA (cd (EL T) T.D_38 l (aA (aH 0) (aA aK aM))) (aA aK aM))))
 (bD (ss 3 nd (cY C2 (aA (nN jF mL (cA gA qZ (bJ aU cD (aH 2) aK) aK) aK) aM) oA T.b_int wL))
 (bD (ss 1 nd (eR (aA (jU nH xC (bJ aU cD (aH 1) aK) mS (kH (cA dE iP aK (aH 3)))) (aA (bJ aU cD (aH 1) aK) aM))))
 (bD (ss 4 nd (cA dE iP (cA gA qZ (bJ aU cD (aH 2) aK) aK) (cA eG kW aK (aH 3))))
 (bD (ss 5 nd (cA dE iP aK (cA gA qZ (bJ aU cD (aH 2) aK) aK)))
 (aDy (i:=6) (aA (aH 1) (aA (aH 4) (aA (aH 5) aM))) (λh=>BV (i:=6) nd rfl (by first | exact y9 rfl | exact v8 rfl) (Y6 T.K_Book (aOs T) (l.mono (by decide)) rfl T.x_Book T.D_0.d .nil jE h))
 (dR (pL (BE (BD (xK (k:=0) (f:=oq) (fd:=qb) (pn:=[]) (eU (lB (aH 6)) (eU (lB aFx) (eU (lB (eR (aA eA (aA (bJ aU cD (bJ aU cD (aH 1) aK) aK) aM)))) oV))) (λh=>mG (T1 T) (l.mono (by decide)) rfl T.D_57.m T.D_57.k T.D_57.d .nil jE h)) (λh=>yC h)))
 (gK (nF (lB tY)))
 mU)
 (dR (BH (i:=7) (xK (k:=0) (f:=uq) (fd:=uy) (pn:=[]) (eU (lB (aH 6)) (eU (lB (aH 0)) (eU (lB (aH 1)) (eU (lB (cA eG kW aK (aH 3))) oV)))) (λh=>mG (aKm T) (l.mono (by decide)) rfl T.D_55.m T.D_55.k T.D_55.d .nil jE h)) (λh=>lO h (pn 7 nd)))
 (dR (lV (ss 8 nd (aAg (aH 7) (pc:=λh=>kN FB rfl T.b_len fQ h))))
 (dR (lV (ss 9 nd (cd (aB4 T) T.D_50 l (aA (aH 1) (aA (el (fr:=[none,some 7]) (N':=["_law_at","_law_rows"]) (gU (CO (aH 7) (pc:=λh=>kN (wJ rfl) rfl T.b_sorted uZ h))) (λb=>⟨(eB (pk 0)),jY,(GG l.u1 (aH 1) (aH 0))⟩)) (aA (aH 4) (aA (aH 5) aM)))))))
 (dR (R6 (lH (aA (cB WG (aA (cA gA qZ (bJ aU cD (aH 2) aK) aK) (aA (cB WF (aA (cA sC F8 aK (cA eG kW aK (aH 3))) (aA (cA sC F8 (cB iX (aA (aH 0) aM) cG T.b_len fQ) aK) aM)) (E9 rfl) T.b_min WK) aM)) (FA rfl) T.b_max GY) aM) (λh=>jR rfl T.b_range h)) (eB (pn 10 nd))
 (dR (lV (ss 11 nd (cd (EK T) T.D_39 l (aA (cd (EL T) T.D_38 l (aA (aH 0) (aA (cA dE iP aK (aH 10)) aM))) (aA aK aM)))))
 (dR (lV (uL (cd (aKo T) T.D_52 l (aA (aH 1) (aA (aH 11) (aA (aH 8) aM)))) (Z3 (nY rfl (eD (pn 12 nd) (eD (pn 13 nd) (eD (pn 14 nd) (eD (pn 15 nd) mF)))))) (λo p=>lO o p)))
 (pH.or (XV (ZH (eU (lB (aH 6)) (eU (lB (aH 12)) (eU (lB (aH 13)) (eU (lB (aH 14)) oV)))) (λh=>mG (aKn T) (l.mono (by decide)) rfl T.D_53.m T.D_53.k T.D_53.d .nil jE h)) (qC (nY rfl (eD (pn 16 nd) (eD (pn 17 nd) mF))))
 (dR (lV (uL (cd (aB3 T) T.D_54 l (aA (aH 7) (aA (aH 8) (aA (aH 12) (aA (aH 13) (aA (aH 14) (aA (aH 15) aM))))))) (uV (nY rfl (eD (pn 18 nd) (eD (pn 19 nd) (eD (pn 20 nd) mF))))) (λo p=>lO o p)))
 (dR (pL (XN (dZ B0 K8 (aH 17) (aH 20)))
 (gK (nF (lB tY)))
 mU)
 (dR (lV (ss 21 nd (aH 9)))
 (dR (pL (XN (dZ jF mL (aH 20) eA))
 (dR (lV (ss 8 nd (cA dE iP (aH 8) (cY C2 (aA (nN jF mL (aH 12) aK) aM) oA T.b_int wL))))
 (dR (lV (ss 21 nd (cd (aB4 T) T.D_50 l (aA (aH 1) (aA (el (fr:=[none,some 18]) (N':=["_law_at","_law_behind"]) (gU (CO (aH 18) (pc:=λh=>kN (wJ rfl) rfl T.b_sorted uZ h))) (λb=>⟨(eB (pk 0)),jY,(GG l.u1 (aH 1) (aH 0))⟩)) (aA (aH 4) (aA (aH 5) aM)))))))
 (dR (pL (aBi 16 (dZ B0 K8 (cB qS (aA (aH 16) aM) (jZ l) T.b_repr oE) (cB qS (aA (eR (aA (aH 19) (aA (cd (aKp T) T.D_51 l (aA (aH 9) (aA (aH 21) (aA (eR aM) aM)))) aM))) aM) (jZ l) T.b_repr oE)))
 (gK (nF (lB tY)))
 mU)
 (dR (pL (aBi 16 (dZ B0 K8 (cB qS (aA (zG (cF (aB8 T) T.D_36 l (aA (aH 9) (aA (aH 21) aM)))) aM) (jZ l) T.b_repr oE) (cB qS (aA (bJ aU cD (aH 16) aK) aM) (jZ l) T.b_repr oE)))
 (gK (nF (lB tY)))
 mU)
 (gK (R4 (i:=16) (bJ aU cD (aH 16) aK) aK (pb:=λh ha=>fN (lF bY cX cW iR h ha))))))))
 mU)
 (dR (lV (ss 7 nd (aH 18)))
 (dR (lV (ss 9 nd (aH 21)))
 (gK (pL (aBh (BE (BD (xK (k:=0) (f:=oq) (fd:=qb) (pn:=[]) (eU (lB (aH 6)) (eU (lB (aH 7)) (eU (lB (aH 9)) oV))) (λh=>mG (T1 T) (l.mono (by decide)) rfl T.D_57.m T.D_57.k T.D_57.d .nil jE h)) (λh=>yC h))))
 (gK (nF (lB tY)))
 mU)))))))) (λo p=>lO o p))
 (dR (aDx (xK (k:=0) (f:=rh) (fd:=sj) (pn:=[]) (eU (lB (aH 6)) (eU (lB (aH 12)) (eU (lB (aH 13)) (eU (lB (aH 14)) oV)))) (λh=>mG (aE2 T) (l.mono (by decide)) rfl T.D_53.m T.D_53.k T.D_53.d .nil jE h)) (qC (nY rfl (eD (pn 16 nd) (eD (pn 17 nd) mF)))) (λo p=>lO o p))
 (dR (lV (uL (cd (aB3 T) T.D_54 l (aA (aH 7) (aA (aH 8) (aA (aH 12) (aA (aH 13) (aA (aH 14) (aA (aH 15) aM))))))) (uV (nY rfl (eD (pn 18 nd) (eD (pn 19 nd) (eD (pn 20 nd) mF))))) (λo p=>lO o p)))
 (dR (pL (XN (dZ B0 K8 (aH 17) (aH 20)))
 (gK (nF (lB tY)))
 mU)
 (dR (lV (ss 21 nd (aH 9)))
 (dR (pL (XN (dZ jF mL (aH 20) eA))
 aHk
 mU)
 (dR (lV (ss 7 nd (aH 18)))
 (dR (lV (ss 9 nd (aH 21)))
 (gK (pL (BE (BD (xK (k:=0) (f:=oq) (fd:=qb) (pn:=[]) (eU (lB (aH 6)) (eU (lB (aH 7)) (eU (lB (aH 9)) oV))) (λh=>mG (T1 T) (l.mono (by decide)) rfl T.D_57.m T.D_57.k T.D_57.d .nil jE h)) (λh=>yC h)))
 (gK (nF (lB tY)))
 mU)))))))))))) (λhi p hb=>K0 bf rfl hi p hb))
 (gK (nF (lB tY))))))))))))))),?_⟩
 show hZ _ _ _ [.val (.list (ns.map aW)),.un,.un,.un,.un,.un,.un,.un,.un,.un,.un,.un,.un,.un,.un,.un,.un,.un,.un,.un,.un,.un];refine iG (λd=>∃fs an,WV fs an/\d=eZ fs an) (λq g=>⟨_,rfl,ns,rfl,hl,λfs an F=>g _ ⟨fs,an,F,rfl⟩⟩) ?_;rintro _ ⟨Jw,an,F0,rfl⟩;refine iG (λd=>∃bs,yS 22 bs/\d=.list (bs.map aW)) (λq g=>⟨_,rfl,ns,6,rfl,hl,by decide,by decide,λc=>⟨c,22,rfl,by decide,λbs hb=>g _ ⟨bs,hb,rfl⟩⟩⟩) ?_;rintro _ ⟨bs,hb,rfl⟩;obtain⟨Hz,Qp,_,Dd⟩:=gY hb (i:=13) (by decide) (by decide);obtain⟨Pz,Qq,_,Ki⟩:=gY hb (i:=14) (by decide) (by decide);obtain⟨L,Qr,_,Kj⟩:=gY hb (i:=15) (by decide) (by decide);obtain⟨Nf,Qs,_,Kk⟩:=gY hb (i:=16) (by decide) (by decide);refine iG (λd=>∃n:Nat,n<=1/\d=.int (n:Nat)) (λq g=>⟨_,rfl,_,Kk,(show(0:Int)<16 by decide),?_⟩) ?_
 ·show q (.int (if decide (Nf%16=5)=true then 1 else 0));by_cases z:Nf%16=5
  ·rw[b8 (c6 z)];exact g _ ⟨1,aN _,rfl⟩
  ·rw[a8 λh=>z (c8 h)];exact g _ ⟨0,cU _,rfl⟩
 rintro _ ⟨n,Xf,rfl⟩;refine iG (λd=>∃fs,iB fs an/\d=eZ fs an) (λq g=>?_) ?_
 ·have e:mW (Jw.map lW) none (some ((3:Int)+(n:Nat)))=(Jw.take (3+n)).map lW:=by
   rw[show(3:Int)+(n:Nat)=((3+n:Nat):Int) by lia,qQ,xV]
  have:=g _ ⟨Jw.take (3+n),VN F0 (by lia) (by lia),rfl⟩;unfold eZ at this;rw[<- e]at this;exact⟨_,rfl,_,rfl,_,rfl,_,rfl,_,rfl,(aC rfl),this⟩
 rintro _ ⟨fs,F,rfl⟩;have Xm:=cN Hz (show(4:Int)≠0 by decide);have Xj:=cH Hz (show(0:Int)<4 by decide);refine iG (λv=>∃d:Nat,d<=6/\v=.int (d:Nat)) (λq g=>⟨_,rfl,_,Dd,(show(0:Int)<4 by decide),_,rfl,AA (a:=3) (aC rfl),g _ ⟨(Hz%4).toNat+3*n,by lia,by congr 1;lia⟩⟩) ?_;rintro _ ⟨d,hd,rfl⟩;have Xn:=cN Pz (show(3:Int)≠0 by decide);refine iG (λv=>∃m:Int,1<=m/\v=.int m) (λq g=>⟨_,rfl,_,Ki,(show(0:Int)<3 by decide),g _ ⟨_,by lia,rfl⟩⟩) ?_;rintro _ ⟨m,hm,rfl⟩;refine⟨_,rfl,_,rfl,_,rfl,eZ fs an,d,m,rfl,fs,an,d,m,rfl,F,by lia,λt0 Ly Tb hf Sb Sw=>?_⟩;obtain⟨a0,Nr,rfl⟩:=aFk Ly;have Vq:a0∈an:=bH Nr;have Mr:G4 fs an d m Tb [] [] (.say a0) 0 ⟨[],0,mK (.say a0)⟩:=⟨⟨F,hf,Sb,Sw,by lia,rfl,(λr l=>by cases l),rfl,Vq,cU _⟩,Ly,rfl,HJ.nil,(λe o=>by cases o),oO.refl _,cU _⟩;show vK (F:=kX e9) _ _ _ _ _ [.val (.list (ns.map aW)),.val (eZ fs an),.val (.list (bs.map aW)),.val (.int (n:Nat)),.val (.int (d:Nat)),.val (.int m),.val (nQ Tb),.un,.un,.un,.un,.un,.un,.un,.un,.un,.un,.un,.un,.un,.un,.un];refine D3 (λq g=>⟨_,rfl,_,rfl,_,rfl,_,L2.gH (by rw[aL,Nr];rfl),(aC rfl),fs,an,d,m,Tb,[],[],.say a0,rfl,rfl,Mr.bk,Mr.ris,(λe o=>by cases o),oO.refl _,cU _,g⟩) ?_;refine XH (λC v=>∃ks t,G4 fs an d m Tb ks ks t (22*n) C/\ks.length=22*n/\v=wO (kK ks)) (λq g=>⟨_,rfl,_,rfl,_,rfl,_,rfl,AA (a:=22) (aC rfl),fs,an,d,m,Tb,ns,22*n,.say a0,rfl,by rw[eO];rfl,hl,by lia,Mr,λks t n1 kp hk=>g _ _ ⟨ks,t,kp,hk,rfl⟩⟩) ?_;rintro C _ ⟨ks,t,kp,hk,rfl⟩;show vK (F:=kX e9) _ _ _ _ _ [.val (.list (ns.map aW)),.val (eZ fs an),.val (.list (bs.map aW)),.val (.int (n:Nat)),.val (.int (d:Nat)),.val (.int m),.val (nQ Tb),.val (wO (kK ks)),.un,.un,.un,.un,.un,.un,.un,.un,.un,.un,.un,.un,.un,.un];have lv:(kK ks).length=22*n:=by unfold kK;rw[aB,hk]
 refine gG (cK (.int ((22*n:Nat):Int)) (λq g=>⟨_,rfl,kK ks,rfl,by rw[lv];exact g⟩) ?_)
 try dsimp only
 refine gG (cK (mK t) (λq g=>⟨_,rfl,aLm (i:=7) rfl (oO.refl _) kp.ris (by lia) ⟨_,rfl,_,rfl,fs,an,ks.map (·.2),d,m,rfl,F,kp.bk.ok,by rw[aB];lia,by lia,hm,λt' Ua=>by rw[A6 d (oO.refl _) Ua kp.gr];exact g⟩⟩) ?_)
 try dsimp only
 have Xo:=cN L (show(7:Int)≠0 by decide);have Xk:=cH L (show(0:Int)<7 by decide);have Xl:(((ns.map aW).length:Nat):Int)=(ns.length:Int):=by rw[aB]
 obtain⟨B,Np⟩:∃B:Int,B=(if(if(((ns.map aW).length:Nat):Int)-7<16-13*((n:Nat):Int)then(((ns.map aW).length:Nat):Int)-7 else 16-13*((n:Nat):Int))>L%7 then(if(((ns.map aW).length:Nat):Int)-7<16-13*((n:Nat):Int)then(((ns.map aW).length:Nat):Int)-7 else 16-13*((n:Nat):Int))else L%7):=⟨_,rfl⟩
 have Wi:0<=B/\B+22*(n:Int)<=28:=by
  rw[Np];split<;>split<;>lia
 refine RF (ts:=eI B.toNat) (λR hR=>⟨_,rfl,_,Kj,(show(0:Int)<7 by decide),_,rfl,AA (a:=13) (aC rfl),_,rfl,B,by rw[Np],by lia,by lia,hR⟩)
  (λi C σ=>∃(ks kl:List (Nat×Rw))(t:Tr)(f:Nat)(nu M J N O S U W X Y Z Jl:Sl),σ=[.val (.list (ns.map aW)),.val (eZ fs an),.val (.list (bs.map aW)),.val (.int (n:Nat)),.val (.int (d:Nat)),.val (.int m),.val (nQ Tb),.val (wO (kK kl)),.val (.int (f:Nat)),.val (mK t),nu,M,J,N,O,S,U,W,X,Y,Z,Jl]/\G4 fs an d m Tb ks kl t f C/\f<=22*n+i) ⟨ks,ks,t,22*n,_,_,_,_,_,_,_,_,_,_,_,_,rfl,kp,aN _⟩ (λi C x d8 hx hP=>?_) λC d8 hP=>?_
 ·obtain⟨ks,kl,t,f,nu,M,J,N,O,S,U,W,X,Y,Z,Jl,rfl,kp,Sg⟩:=hP;obtain⟨sw,rfl⟩:=gX hx;have Gq:=kp.few;have Dq:=FX kp.ris;have Dl:=kp.bk.dep;dsimp only[gN];show vK (F:=kX e9) _ _ _ _ _ [.val (.list (ns.map aW)),.val (eZ fs an),.val (.list (bs.map aW)),.val (.int (n:Nat)),.val (.int (d:Nat)),.val (.int m),.val (nQ Tb),.val (wO (kK kl)),.val (.int (f:Nat)),.val (mK t),.val (.int (i:Nat)),M,J,N,O,S,U,W,X,Y,Z,Jl];refine gG (iG (λv=>∃E,yS 14 E/\v=.list (E.map aW)) (λq g=>⟨_,rfl,_,rfl,ns,7+((i:Nat):Int),rfl,hl,by lia,by lia,λc=>⟨c,14,rfl,by decide,λE hb=>g _ ⟨E,hb,rfl⟩⟩⟩) ?_);rintro _ ⟨E,Sz,rfl⟩
  try dsimp only
  refine gG (show hZ (MT _ (gP4 _ _ _ _)) _ _ _ from⟨_,rfl,_,rfl,_,rfl,fs,an,E,f,rfl,F,Sz,by lia,λw j dr rt hw Ny=>⟨_,_,_,_,rfl,?_⟩⟩)
  try dsimp only
  obtain⟨fo,Ix,Iw⟩:=Ny.cd F;rcases aAn (j:=j) hw Ny (by lia) kp.lt Dq with⟨z,hz⟩ | ⟨H,f',x,G⟩
  ·refine .inr ?_;refine(show vK (F:=kX e9) (aG0 _ _) _ _ _ _ _ from⟨_,rfl,_,rfl,_,rfl,_,rfl,fs,an,Tb,ks,w,j,dr,z,rfl,rfl,F,hf,kp.bk.kv,fo,hz,_,_,rfl,?_⟩);dsimp only[sT];refine gG (HX (a:=wO (kK kl)) (b:=.none) (c:=.str z) (λq g=>⟨_,rfl,_,rfl,_,rfl,_,rfl,_,rfl,_,rfl,fs,an,kl,ks,f,w,j,dr,rt,rfl,kp.pm,Dq,by lia,λh=>.inr (Ix h),λh=>.inr (Iw h),.inl ⟨z,hz,g⟩⟩) ?_);dsimp only[sT];refine D3 (λq g=>⟨_,rfl,_,rfl,?_⟩) ?_
   ·show q _ (!decide (z=z));rw[c6 rfl];exact g
   refine gG (cK (mK t) (λq g=>⟨_,rfl,g⟩) ?_);dsimp only[sT];refine D3 (λq g=>⟨_,rfl,?_⟩) ?_
   ·show q _ (decide (z=""));rw[show decide (z="")=false by rcases hz.ne with rfl | rfl<;>decide +kernel];exact g
   refine gG (cK (wO (kK kl)) (λq g=>⟨_,rfl,g⟩) ?_)
   try dsimp only
   refine gG (cK (mK t) (λq g=>⟨_,rfl,g⟩) ?_)
   try dsimp only
   refine BA false (λq g=>⟨_,rfl,_,rfl,_,rfl,fs,an,d,m,Tb,ks,kl,t,rfl,rfl,kp.bk,kp.ris,(λe o=>by have:=kp.lt e o;lia),kp.pm,by lia,g⟩) (λz=>by cases z) λ_=>?_;refine zn ?_
   try dsimp only
   exact⟨ks,kl,t,f,_,_,_,_,_,_,_,_,_,_,_,_,rfl,kp,by lia⟩
  ·refine .inl ?_;refine⟨_,rfl,_,rfl,_,rfl,_,rfl,fs,an,d,m,Tb,ks,t,f,w,j,dr,H,f',x,rfl,rfl,kp.bk,by lia,kp.fol,by lia,G,λt' p Vz=>⟨_,_,rfl,?_⟩⟩;dsimp only[sT];refine gG (show hZ (MT _ (gP3 _ _ _)) _ _ _ from⟨_,rfl,_,rfl,_,rfl,_,rfl,_,rfl,_,rfl,fs,an,kl,ks,f,w,j,dr,rt,rfl,kp.pm,Dq,by lia,λh=>.inr (Ix h),λh=>.inr (Iw h),.inr ⟨H,f',x,G,λBn I=>⟨_,_,_,rfl,?_⟩⟩⟩);dsimp only[sT];obtain⟨s,Wp,_⟩:=kp.deed G p I;have Oa:=s.few;have Nw:=s.bk.dep;have tX:=G.thx F kp.bk.ok (by lia);have y:=(RX (t:=t) (u:=t') Dl).mono (n':=100000) (m':=40) (by decide) (by decide);have A:N4 (.tuple [x,.list (xA t t')]):=oP 20000 3 2 (gB (tX.mono (by decide) (by decide)) (gB (RX Dl) oF)) (aN _) (by decide) (by decide);have eS:∀z:Str,(!decide (z=z))=false:=λz=>by rw[c6 rfl];rfl
   refine D3 (λq g=>⟨_,rfl,_,rfl,g⟩) ?_;refine gG (cK (mK t) (λq g=>⟨_,rfl,g⟩) ?_);dsimp only[sT];refine aGx (λq g=>⟨_,rfl,g⟩) ?_;refine gG (cK (.int (f':Nat)) (λq g=>⟨_,rfl,_,rfl,by rw[G.fol]at g;exact g⟩) ?_);dsimp only[sT];refine gG (cK (mK t') (λq g=>⟨_,rfl,aLm (i:=18) rfl I s.ris (by lia) ⟨_,rfl,_,rfl,fs,an,H.map (·.2),d,m,rfl,F,s.bk.ok,by rw[aB];lia,by lia,hm,λt2 h2=>by rw[A6 d (oO.refl _) h2 p];exact g⟩⟩) ?_);dsimp only[sT];refine D3 (λq g=>⟨x,⟨_,_,rfl,rfl⟩,_,rfl,A.shw,A.nodict,aX A.depth (by decide),jD A,_,rfl,_,rfl,_,rfl,(aC rfl),fs,an,t,t',[],rfl,F,kp.bk.tr,s.bk.tr,by lia,by lia,by show 0+_<=_;lia,(aC rfl),A.shw,A.nodict,aX A.depth (by decide),jD A,?_⟩) ?_
   ·show q _ (!decide ((fA [x,.list (xA t t')]).shown=(fA [x,.list (xA t t')]).shown));rw[eS];exact g
   refine D3 (λq g=>⟨x,⟨_,_,rfl,rfl⟩,_,rfl,_,rfl,fs,an,t,t',rfl,F,kp.bk.tr,s.bk.tr,by lia,by lia,by lia,y.shw,y.nodict,aX y.depth (by decide),jD y,_,rfl,_,rfl,y.shw,y.nodict,aX y.depth (by decide),jD y,?_⟩) ?_
   ·show q _ (!decide ((mD (xA t t')).shown=(mD (xA t t')).shown));rw[eS];exact g
   have bj:(xA t t').length<=100000:=by
    have h1:=aX (qF t t') (tU (show t.dep<=12 by lia));unfold xA;rw[aB];lia
   refine(show RK (F:=kX e9) 16 _ _ _ _ _ from⟨x,⟨_,_,rfl,rfl⟩,bj,?_⟩)
   try dsimp only
   refine gG (cK (wO (kK Bn)) (λq g=>⟨_,rfl,g⟩) ?_)
   try dsimp only
   refine gG (cK (mK t') (λq g=>⟨_,rfl,g⟩) ?_)
   try dsimp only
   refine BA false (λq g=>⟨_,_,rfl,_,rfl,_,rfl,_,rfl,fs,an,d,m,Tb,H,Bn,t',rfl,rfl,s.bk,s.ris,(λe o=>by have:=s.lt e o;lia),s.pm,by lia,g⟩) (λz=>by cases z) λ_=>?_;refine zn ?_
   try dsimp only
   exact⟨H,Bn,t',f',_,_,_,_,_,_,_,_,_,_,_,_,rfl,s,by lia⟩
 ·obtain⟨ks,kl,t,f,nu,M,J,N,O,S,U,W,X,Y,Z,Jl,rfl,kp,Sg⟩:=hP;exact h
def aGc:dP P w K mg base iL 19 mh jv ["_law_script"] (dB K BK):=aE0 T
def aGd{l:gn}{fa:Addr}(a:mg "law"=some (.ref fa)):∃fd:iK,(∀s(v:Value),BindsTo s fd ⟨[v],[]⟩ [("_law_script",v)])/\∀base:Heap,K.In base->base.Ns fD mg->dP l.prog w K mg base iL 19 fa fd ["_law_script"] (dB K BK):=by
 have e:=a.symm.trans T.D_law.m;cases e;refine⟨jv,?_,λbase _ _=>aGc T⟩;obtain⟨_,_,_,_,_,_,_,_,_,e,_⟩:=T.D_law.F.ex;rw[e]
 exactλs v=>.of_eq rfl
omit T
def aMc{K:aI}{h:Heap}{mg:Str->Option Value}(X:K.In h)(G:h.Ns fD mg){c:Addr}
  (je:iN K fD "JudgeError"=some (some (.ref c)))
  {d:Addr}
  (ow:iN K fD "TooMany"=some (some (.ref d)))
  {b:Addr}
  (ut:iN K fD "NoRow"=some (some (.ref b)))
  {a:Addr}
  (rn:iN K fD "NoSuch"=some (some (.ref a)))
  {c0_J dd_J} {g:ClassData} {sl_J}
  (v:K.lookup c=some ⟨c0_J,dd_J,.cls g,sl_J⟩)
  {oc_J od_J} {q:Array ka} {J:Nat} {os_J}
  (r:K.lookup g.ns=some ⟨oc_J,od_J,.dict q J,os_J⟩)
  (u:(q.toList.all λe=>match e.key with | .str _ _=>true | _=>false)=true)
  (t:iN K g.ns "__init__"=some (none))
  (s:bT K c (.type "BaseException")=some true)
  {cc_JudgeError}
  (x:kB K c=some cc_JudgeError)
  (y:kR K (.ref c)=some (.type "type"))
  (xc:bT K c (.ref c)=some true)
  {cc_TooMany}
  (z:kB K d=some cc_TooMany)
  (B:kR K (.ref d)=some (.type "type"))
  (A:bT K d (.ref d)=some true)
  {cc_NoRow}
  (l:kB K b=some cc_NoRow)
  (m:kR K (.ref b)=some (.type "type"))
  (H:bT K b (.ref b)=some true)
  {cc_NoSuch}
  (i:kB K a=some cc_NoSuch)
  (j:kR K (.ref a)=some (.type "type"))
  (E:bT K a (.ref a)=some true)
  {wj wk:Str} {n:Addr} {bs_NoRow sub_NoRow} {vm ur:Bool} {sn_NoRow col_NoRow dd_NoRow k0_NoRow k1_NoRow k2_NoRow k3_NoRow k5_NoRow}
  (I:K.lookup b=some (zg wj wk b n bs_NoRow (.ref c::[.type "ValueError",.type "Exception",.type "BaseException",.type "object"]) vm sn_NoRow sub_NoRow ur col_NoRow dd_NoRow k0_NoRow k1_NoRow k2_NoRow k3_NoRow k5_NoRow "ValueError.__new__"))
  {oc_NoRow od_NoRow} {F:Array ka} {uw:Nat} {os_NoRow}
  (wf:K.lookup n=some ⟨oc_NoRow,od_NoRow,.dict F uw,os_NoRow⟩)
  (R_NoRow:(F.toList.all λe=>match e.key with | .str _ _=>true | _=>false)=true)
  (wg:iN K n "__init__"=some (none))
  (M:dU K (.ref b) "__getattribute__"=some (some (.builtin "BaseException.__getattribute__")))
  (Q:dU K (.ref b) "__getattr__"=some (none))
  (U:dU K (.ref b) "__class__"=some (some (.builtin "object.__class__")))
  (Y:bT K b (.type "object")=some true)
  (p:bT K b (.type "BaseException")=some true)
  (R:bT K b (.type "ValueError")=some true)
  (nc:bT K b (.type "int")=some false)
  (ng:bT K b (.type "str")=some false)
  (lm:bT K b (.type "list")=some false)
  (jr:bT K b (.type "tuple")=some false)
  (li:bT K b (.type "bool")=some false)
  (j_NoRow:bT K b (.ref c)=some true)
  (q_NoRow_TooMany:bT K b (.ref d)=some false)
  (q_NoRow_NoSuch:bT K b (.ref a)=some false)
  {tu tw:Str} {k:Addr} {bs_NoSuch sub_NoSuch} {su rm:Bool} {sn_NoSuch col_NoSuch dd_NoSuch k0_NoSuch k1_NoSuch k2_NoSuch k3_NoSuch k5_NoSuch}
  (we:K.lookup a=some (zg tu tw a k bs_NoSuch (.ref c::[.type "ValueError",.type "Exception",.type "BaseException",.type "object"]) su sn_NoSuch sub_NoSuch rm col_NoSuch dd_NoSuch k0_NoSuch k1_NoSuch k2_NoSuch k3_NoSuch k5_NoSuch "ValueError.__new__"))
  {oc_NoSuch od_NoSuch} {C:Array ka} {sh:Nat} {os_NoSuch}
  (tj:K.lookup k=some ⟨oc_NoSuch,od_NoSuch,.dict C sh,os_NoSuch⟩)
  (R_NoSuch:(C.toList.all λe=>match e.key with | .str _ _=>true | _=>false)=true)
  (tm:iN K k "__init__"=some (none))
  (L:dU K (.ref a) "__getattribute__"=some (some (.builtin "BaseException.__getattribute__")))
  (N:dU K (.ref a) "__getattr__"=some (none))
  (S:dU K (.ref a) "__class__"=some (some (.builtin "object.__class__")))
  (W:bT K a (.type "object")=some true)
  (o:bT K a (.type "BaseException")=some true)
  (O:bT K a (.type "ValueError")=some true)
  (lj:bT K a (.type "int")=some false)
  (ln:bT K a (.type "str")=some false)
  (jq:bT K a (.type "list")=some false)
  (Z:bT K a (.type "tuple")=some false)
  (jo:bT K a (.type "bool")=some false)
  (j_NoSuch:bT K a (.ref c)=some true)
  (q_NoSuch_TooMany:bT K a (.ref d)=some false)
  (q_NoSuch_NoRow:bT K a (.ref b)=some false) :
  Cz K mg (c) (d) (b) (a):={ x_JudgeError:=qU X G je,x_TooMany:=qU X G ow,x_NoRow:=qU X G ut,x_NoSuch:=qU X G rn,X_NoRow:=⟨⟨M,Q,U,Y,p⟩,λT f=>by simp only[aP,cO,l9]at f;(rcases f with rfl | rfl | rfl | rfl | rfl<;>first | exact oR U2 nc | exact oR U1 ng | exact oR NM lm | exact oR JB jr | exact oR NN li)⟩,R_NoRow:=⟨_,_,_,_,_,_,_,_,_,_,_,_,_,_,_,_,_,_,_,_,I,A1 wf R_NoRow,wg,v,A1 r u,t⟩,j_NoRow:=A7 x y s j_NoRow,e_NoRow:=A7 l m p H,v_NoRow:=oR vO R,q_NoRow_TooMany:=GB z B q_NoRow_TooMany A,q_NoRow_NoRow:=JC,q_NoRow_NoSuch:=GB i j q_NoRow_NoSuch E,X_NoSuch:=⟨⟨L,N,S,W,o⟩,λT f=>by simp only[aP,cO,l9]at f;(rcases f with rfl | rfl | rfl | rfl | rfl<;>first | exact oR U2 lj | exact oR U1 ln | exact oR NM jq | exact oR JB Z | exact oR NN jo)⟩,R_NoSuch:=⟨_,_,_,_,_,_,_,_,_,_,_,_,_,_,_,_,_,_,_,_,we,A1 tj R_NoSuch,tm,v,A1 r u,t⟩,j_NoSuch:=A7 x y s j_NoSuch,e_NoSuch:=A7 i j o E,v_NoSuch:=oR vO O,q_NoSuch_TooMany:=GB z B q_NoSuch_TooMany A,q_NoSuch_NoRow:=GB l m q_NoSuch_NoRow H,q_NoSuch_NoSuch:=JC,u_NoRow_NoSuch:=NT i j o q_NoRow_NoSuch,u_NoSuch_NoRow:=NT l m p q_NoSuch_NoRow }
def U0{t n:Nat}{s k0 k1}(l:K.lookup t=some ⟨.type "tuple",none,.seq #[.str "yes" k0,.str "no" k1] n,s⟩):aGi K t ["yes","no"]:=⟨_,_,_,l,rfl,rfl,rfl,(by show 2<=bE;decide),.cons ⟨_,rfl⟩ (.cons ⟨_,rfl⟩ (.nil))⟩
def UN{H}:bA H (mask H []):=λb o e=>by
 unfold mask;rw[a8 (by simp)];exact e
theorem EY{K H}:∀ns:List Int,Reps K H (ns.map aW) (ns.map V.int)
|[]=>.nil
|n::ns=>.cons (.int n) (EY ns)
def aNv{l:gn}{q loose}{e:(Str->Option Value)->Heap->Prop}{b:j0->Heap->Prop}{d:DefRec}{K:Params->aI}(hn:l.most=some 63)(c:d.params.defaults=[])
  (j:∀(w:j0)(h:Heap),b w h->(K w.params).In h) (i:∀(w:j0)(h:Heap),b w h->∀P,tabA=some P->h.get? P=some { cls:=.none,data:=.fields #[] }/\(K w.params).lookup P=none/\fx h P)
  (F:∀(w:j0)(mg:Str->Option Value)(fa:Addr)(h:Heap),(K w.params).In h->h.Ns fD mg->mg d.name=some (.ref fa) ->
   ∃fd:iK,(∀s(u:Value),BindsTo s fd ⟨[u],[]⟩ [("_law_script",u)])/\∀base:Heap,(K w.params).In base->base.Ns fD mg->dP l.prog w (K w.params) mg base iL 19 fa fd ["_law_script"] (dB (K w.params) BK)) :
  XC q loose e b l.row.toRowW d [] (λf vs=>qy f vs):=
 L2.XM (n:=63) (k:=19) (x:="_law_script") (CX:=λ_=>iL) (sp:=λw=>dB (K w.params) BK) hn (by decide) c ⟨rfl,by decide,by decide,rfl⟩ j i F
  (λw H a ns m _ g=>⟨[],[.list (ns.map aW)],λd=>d=.bool true,λp o=>by simp at o,.cons (.list (L2.bA.seq UN g) (EY ns)) .nil,⟨ns,rfl,m,rfl⟩,λd v H' _ r q=>by subst q;cases r;rfl⟩) λ_ _ _ _ _ z=>z
end
end K92
open L2
namespace PySem.W.Fast
theorem tw5845612287439475834:True:=⟨⟩
theorem tw4489469986129850422:True:=⟨⟩
theorem tw9879193267099650655:True:=⟨⟩
theorem tw12765338622024878613:True:=⟨⟩
theorem tw5139326341457324386:True:=⟨⟩
theorem tw150779019492899044:True:=⟨⟩
theorem tw8765235970796592578:True:=⟨⟩
theorem tw2374415404078082409:True:=⟨⟩
theorem tw15814923594971937400:True:=⟨⟩
theorem tw6545225577082877789:True:=⟨⟩
theorem tw13928793292503784271:True:=⟨⟩
theorem tw1143841001055877037:True:=⟨⟩
theorem tw11288402680439565883:True:=⟨⟩
theorem tw6236270669459685692:True:=⟨⟩
theorem tw16477401057755856233:True:=⟨⟩
theorem tw8838310229491881291:True:=⟨⟩
theorem tw14671935169050952830:True:=⟨⟩
theorem tw11063506119838080001:True:=⟨⟩
theorem tw9749158279624006953:True:=⟨⟩
theorem tw967138294992058794:True:=⟨⟩
theorem tw11763646095742636729:True:=⟨⟩
theorem tw2843851961293726763:True:=⟨⟩
theorem tw7238181601180785577:True:=⟨⟩
theorem tw13829255386122164859:True:=⟨⟩
theorem tw6720965261567160393:True:=⟨⟩
theorem tw6369199002348678594:True:=⟨⟩
theorem tw488422498029451040:True:=⟨⟩
theorem tw7755095481978298840:True:=⟨⟩
theorem tw6458259414842879767:True:=⟨⟩
theorem tw15185611568796278785:True:=⟨⟩
theorem tw16734595865193126626:True:=⟨⟩
theorem tw13436667886938326106:True:=⟨⟩
theorem tw2675481582763041908:True:=⟨⟩
theorem tw7598667098478037462:True:=⟨⟩
theorem tw6783843109583619550:True:=⟨⟩
theorem tw17652546578823448986:True:=⟨⟩
theorem tw4907263477456027179:True:=⟨⟩
theorem tw9575441351460362473:True:=⟨⟩
theorem tw4500454592656081279:True:=⟨⟩
theorem tw14111391288454421478:True:=⟨⟩
theorem tw10085911326461965007:True:=⟨⟩
theorem tw8087862719780474433:True:=⟨⟩
theorem tw16438983545772895583:True:=⟨⟩
theorem tw7449863851289113288:True:=⟨⟩
theorem tw10068903481698669528:True:=⟨⟩
theorem tw8555259582516827480:True:=⟨⟩
theorem tw9909786514323799297:True:=⟨⟩
theorem tw12076544941539918089:True:=⟨⟩
theorem tw13000044642736732562:True:=⟨⟩
theorem tw17464336392091432249:True:=⟨⟩
theorem tw610182945623923475:True:=⟨⟩
theorem tw4155568813776546614:True:=⟨⟩
theorem tw11183398178228305444:True:=⟨⟩
theorem tw10834578590931947002:True:=⟨⟩
theorem tw14983177171467926425:True:=⟨⟩
theorem tw12954356787761443272:True:=⟨⟩
theorem tw12184660767841660263:True:=⟨⟩
theorem tw13477694008563138627:True:=⟨⟩
theorem tw13687787128047104130:True:=⟨⟩
theorem tw9993518886906482142:True:=⟨⟩
theorem tw11929864155485707759:True:=⟨⟩
theorem tw15913687958894114146:True:=⟨⟩
theorem tw12822069894694807971:True:=⟨⟩
theorem tw2917875400494722023:True:=⟨⟩
theorem tw6560682798771383273:True:=⟨⟩
theorem tw3098354713698812930:True:=⟨⟩
theorem tw14521788046020455002:True:=⟨⟩
theorem tw4530301106795468343:True:=⟨⟩
theorem tw1259651803570537435:True:=⟨⟩
theorem tw16909531692265502995:True:=⟨⟩
theorem tw6534033697394881911:True:=⟨⟩
theorem tw17077512203288538087:True:=⟨⟩
theorem tw4223893815273633141:True:=⟨⟩
theorem tw2100031878220951836:True:=⟨⟩
theorem tw7099867400598079071:True:=⟨⟩
theorem tw13338633713740972396:True:=⟨⟩
theorem tw11440492831601509983:True:=⟨⟩
theorem tw2045681120362784045:True:=⟨⟩
theorem tw7279181730588122463:True:=⟨⟩
theorem tw12204627343617841662:True:=⟨⟩
theorem tw5493526990103254796:True:=⟨⟩
theorem tw7879914736492590769:True:=⟨⟩
theorem tw15504304050081547322:True:=⟨⟩
theorem tw4898430007461423898:True:=⟨⟩
theorem tw411117727542810765:True:=⟨⟩
theorem tw10836453375976810971:True:=⟨⟩
theorem tw9376752068334623872:True:=⟨⟩
theorem tw15698319232472018851:True:=⟨⟩
theorem tw4316226672748461965:True:=⟨⟩
theorem tw6512325317805583343:True:=⟨⟩
theorem tw475128617792054744:True:=⟨⟩
theorem tw18227316193014145979:True:=⟨⟩
theorem tw3878973849691998665:True:=⟨⟩
theorem tw12590943567268327406:True:=⟨⟩
theorem tw17274082373703163689:True:=⟨⟩
theorem tw16027350140976170636:True:=⟨⟩
theorem tw17172788862115476495:True:=⟨⟩
theorem tw5051805774553000164:True:=⟨⟩
theorem tw9205339205303035936:True:=⟨⟩
theorem tw4512209953838130345:True:=⟨⟩
theorem tw14974654411096861770:True:=⟨⟩
theorem tw6804559993646796986:True:=⟨⟩
theorem tw9289929115799007741:True:=⟨⟩
theorem tw14949339913722001439:True:=⟨⟩
theorem tw15696708817169676326:True:=⟨⟩
theorem tw6252163998801327863:True:=⟨⟩
theorem tw4682490591900460286:True:=⟨⟩
theorem tw4980487317712625943:True:=⟨⟩
theorem tw14279544041264931063:True:=⟨⟩
theorem tw3722997048585584428:True:=⟨⟩
theorem tw12911552471335012437:True:=⟨⟩
theorem tw17971009754610280054:True:=⟨⟩
theorem tw2958710942240410073:True:=⟨⟩
theorem tw360650229764747286:True:=⟨⟩
theorem tw383438147017581463:True:=⟨⟩
theorem tw4984929798936889104:True:=⟨⟩
theorem tw6000598089475854542:True:=⟨⟩
theorem tw3929122552591535085:True:=⟨⟩
theorem tw6173758500577915695:True:=⟨⟩
theorem tw15852640866709531714:True:=⟨⟩
theorem tw6925752026834264002:True:=⟨⟩
theorem tw30028526110017273:True:=⟨⟩
theorem tw16516258588914516565:True:=⟨⟩
theorem tw7234399116602254078:True:=⟨⟩
theorem tw2878932882338142706:True:=⟨⟩
theorem tw16514605190802433862:True:=⟨⟩
theorem tw13166890390808530248:True:=⟨⟩
theorem tw1157491590116862576:True:=⟨⟩
theorem tw10029410613128593953:True:=⟨⟩
theorem tw13594559454956178068:True:=⟨⟩
theorem tw10350524001936989722:True:=⟨⟩
theorem tw12067241873162282512:True:=⟨⟩
theorem tw304713461101890665:True:=⟨⟩
theorem tw5184802241543981400:True:=⟨⟩
theorem tw2002894307319945172:True:=⟨⟩
theorem tw1914293883866174796:True:=⟨⟩
theorem tw9779736792051554182:True:=⟨⟩
theorem tw14236418193517746853:True:=⟨⟩
theorem tw11262953079882536588:True:=⟨⟩
theorem tw8113250909966537423:True:=⟨⟩
theorem tw2175103243878023328:True:=⟨⟩
theorem tw17885049506355059296:True:=⟨⟩
theorem tw9129770796026335017:True:=⟨⟩
theorem tw10070966712823391968:True:=⟨⟩
theorem tw1681032666505177370:True:=⟨⟩
theorem tw17443126335145215351:True:=⟨⟩
theorem tw9276709748193750179:True:=⟨⟩
theorem tw6567178934707200078:True:=⟨⟩
theorem tw740404432154515772:True:=⟨⟩
theorem tw16448399826041266186:True:=⟨⟩
theorem tw8860593965214916066:True:=⟨⟩
theorem tw13357266935929727450:True:=⟨⟩
theorem tw5479597238959301878:True:=⟨⟩
theorem tw9612706716596207503:True:=⟨⟩
theorem tw9605744859964327939:True:=⟨⟩
theorem tw13518041978596080183:True:=⟨⟩
theorem tw16892711623564640218:True:=⟨⟩
theorem tw361832449338503158:True:=⟨⟩
theorem tw3724643378720921129:True:=⟨⟩
theorem tw15524478904284249449:True:=⟨⟩
theorem tw9153373534959817507:True:=⟨⟩
theorem tw7356250744361840938:True:=⟨⟩
theorem tw4823754643378829655:True:=⟨⟩
theorem tw2226773016398284683:True:=⟨⟩
theorem tw13254747042900360187:True:=⟨⟩
theorem tw16139849950629803199:True:=⟨⟩
theorem tw7565255842989754037:True:=⟨⟩
theorem tw7485443416363354489:True:=⟨⟩
theorem tw9368497972202343955:True:=⟨⟩
theorem tw13180030873314718332:True:=⟨⟩
theorem tw15830573659198541482:True:=⟨⟩
theorem tw13226312552145828150:True:=⟨⟩
theorem tw16208264447820646095:True:=⟨⟩
theorem tw9492633440756234520:True:=⟨⟩
theorem tw13237243776267777989:True:=⟨⟩
theorem tw5250012136794184162:True:=⟨⟩
theorem tw14796084815579374825:True:=⟨⟩
theorem tw12367976783632265051:True:=⟨⟩
theorem tw14463360466245985635:True:=⟨⟩
theorem tw1872149816916076030:True:=⟨⟩
theorem tw16516447059451987369:True:=⟨⟩
theorem tw172468613649633893:True:=⟨⟩
theorem tw12621556780727553694:True:=⟨⟩
theorem tw14304560105519961450:True:=⟨⟩
theorem tw7417960174625134273:True:=⟨⟩
theorem tw183416971657728271:True:=⟨⟩
theorem tw11292005714654746250:True:=⟨⟩
theorem tw4265860772260948095:True:=⟨⟩
theorem tw12890042374217974709:True:=⟨⟩
theorem tw13673336564091195167:True:=⟨⟩
theorem tw15536580947060323013:True:=⟨⟩
theorem tw5355846436323008242:True:=⟨⟩
theorem tw16083438398205734732:True:=⟨⟩
theorem tw3830548310259122012:True:=⟨⟩
theorem tw45598103520404010:True:=⟨⟩
theorem tw10778389637900014165:True:=⟨⟩
theorem tw11930094082391610531:True:=⟨⟩
theorem tw15012493350721029398:True:=⟨⟩
theorem tw6300097479923015338:True:=⟨⟩
theorem tw15496418914128652907:True:=⟨⟩
theorem tw15667948703821193379:True:=⟨⟩
theorem tw11785448711009694314:True:=⟨⟩
theorem tw3271427081930396019:True:=⟨⟩
theorem tw2040258454255889302:True:=⟨⟩
theorem tw7590997919012911115:True:=⟨⟩
theorem tw13173630842625153692:True:=⟨⟩
theorem tw9898933978175721019:True:=⟨⟩
theorem tw747322723667857128:True:=⟨⟩
theorem tw9080754525353473702:True:=⟨⟩
theorem tw17063811828554430221:True:=⟨⟩
theorem tw17174780770254447555:True:=⟨⟩
theorem tw13056796374696982138:True:=⟨⟩
theorem tw8002662108367927838:True:=⟨⟩
theorem tw12064442143692334969:True:=⟨⟩
theorem tw4303364245994868705:True:=⟨⟩
theorem tw2308696636519668116:True:=⟨⟩
theorem tw18045424788919563829:True:=⟨⟩
theorem tw8560280474987594372:True:=⟨⟩
theorem tw6357677591837366569:True:=⟨⟩
theorem tw8076952379162616300:True:=⟨⟩
theorem tw3867625412707891913:True:=⟨⟩
theorem tw3340094271122717711:True:=⟨⟩
theorem tw5382864451587509138:True:=⟨⟩
theorem tw5422125195362494022:True:=⟨⟩
theorem tw6366751728572499143:True:=⟨⟩
theorem tw14371387346167255218:True:=⟨⟩
theorem tw13268807954518949128:True:=⟨⟩
theorem tw806642006606695058:True:=⟨⟩
end PySem.W.Fast
open PySem PySem.W PyProof.Rows
set_option maxRecDepth 100000 in
set_option maxHeartbeats 0 in
theorem PySem.Challenge.cw_leafjudge_k92_whole_books_grow_anew_holds : PySem.Challenge.rw_leafjudge_k92_whole_books_grow_anew.Holds := by
  w_on; o_law; k_head; (case hw => w_witness2)
  k_fill
  refine K92.aNv (l := PySem.Challenge.rw_leafjudge_k92_whole_books_grow_anew) rfl rfl (λw h Y => PySem.W.km_in_of Y) (λw h Y P e => ?T) ?F
  case T =>
    cases e
    exact ⟨km_tabs_of Y 204 (aO ..), by kernel_rfl, L2.aDt (codeHd_of_K (c := 206) (P := 204) (km_in_of Y) (by kernel_rfl)) (km_tabs_of Y 204 (aO ..))⟩
  case F =>
    intro w mg fa h KX G Hc
    refine' K92.aGd ⟨K92.aMc KX G ?_ ?_ ?_ ?_ ?_ ?_ ?_ ?_ ?_ ?_ ?_ ?_ ?_ ?_ ?_ ?_ ?_ ?_ ?_ ?_ ?_ ?_ ?_ ?_ ?_ ?_ ?_ ?_ ?_ ?_ ?_ ?_ ?_ ?_ ?_ ?_ ?_ ?_ ?_ ?_ ?_ ?_ ?_ ?_ ?_ ?_ ?_ ?_ ?_ ?_ ?_ ?_ ?_ ?_ ?_ ?_ ?_,mg_of KX G ?_,⟨?_, ?_, ?_, ?_⟩,⟨?_, ?_, ?_, ?_⟩,na ?_,na ?_,na ?_,na ?_,na ?_,na ?_,⟨?_, ?_, ?_⟩,⟨?_, ?_, ?_⟩,⟨?_, ?_, ?_⟩,⟨?_, ?_, ?_⟩,⟨?_, ?_, ?_⟩,⟨?_, ?_, ?_⟩,⟨?_, ?_, ?_⟩,⟨?_, ?_, ?_⟩,dg bn4 ?_ ?_ ?_,dg zM ?_ ?_ ?_,dg zM ?_ ?_ ?_,dg W6 ?_ ?_ ?_,dg QC ?_ ?_ ?_,dg QC ?_ ?_ ?_,dg zM ?_ ?_ ?_,dg zM ?_ ?_ ?_,dg QC ?_ ?_ ?_,df KX G W6 ?_ ?_ ?_ ?_,df KX G zM ?_ ?_ ?_ ?_,df KX G zM ?_ ?_ ?_ ?_,df KX G QC ?_ ?_ ?_ ?_,df KX G zM ?_ ?_ ?_ ?_,df KX G zM ?_ ?_ ?_ ?_,df KX G zM ?_ ?_ ?_ ?_,df KX G zM ?_ ?_ ?_ ?_,df KX G zM ?_ ?_ ?_ ?_,df KX G zM ?_ ?_ ?_ ?_,df KX G zM ?_ ?_ ?_ ?_,df KX G QC ?_ ?_ ?_ ?_,df KX G QC ?_ ?_ ?_ ?_,df KX G QC ?_ ?_ ?_ ?_,df KX G QC ?_ ?_ ?_ ?_,df KX G bn4 ?_ ?_ ?_ ?_,df KX G zM ?_ ?_ ?_ ?_,df KX G W6 ?_ ?_ ?_ ?_,df KX G zM ?_ ?_ ?_ ?_,df KX G bn4 ?_ ?_ ?_ ?_,df KX G zM ?_ ?_ ?_ ?_,df KX G zM ?_ ?_ ?_ ?_,df KX G W6 ?_ ?_ ?_ ?_,df KX G zM ?_ ?_ ?_ ?_,df KX G W6 ?_ ?_ ?_ ?_,df KX G bn4 ?_ ?_ ?_ ?_,df KX G QC ?_ ?_ ?_ ?_,df KX G zM ?_ ?_ ?_ ?_,df KX G zM ?_ ?_ ?_ ?_,df KX G zM ?_ ?_ ?_ ?_,df KX G zM ?_ ?_ ?_ ?_,df KX G W6 ?_ ?_ ?_ ?_,df KX G QC ?_ ?_ ?_ ?_,df KX G zM ?_ ?_ ?_ ?_,df KX G zM ?_ ?_ ?_ ?_,df KX G bn4 ?_ ?_ ?_ ?_,df KX G QC ?_ ?_ ?_ ?_,df KX G zM ?_ ?_ ?_ ?_,df KX G zM ?_ ?_ ?_ ?_,df KX G bn4 ?_ ?_ ?_ ?_,df KX G W6 ?_ ?_ ?_ ?_,df KX G bn4 ?_ ?_ ?_ ?_,df KX G W6 ?_ ?_ ?_ ?_,df KX G W6 ?_ ?_ ?_ ?_,df KX G bn4 ?_ ?_ ?_ ?_,df KX G bn6 ?_ ?_ ?_ ?_,df KX G bn4 ?_ ?_ ?_ ?_,df KX G QC ?_ ?_ ?_ ?_,df KX G W6 ?_ ?_ ?_ ?_,df KX G QC ?_ ?_ ?_ ?_,mg_of KX G ?_,K92.U0 ?_,mg_of KX G ?_,aE6 ?y_31 rfl,l4 KX G ?_,l4 KX G ?_,l4 KX G ?_,l4 KX G ?_,l4 KX G ?_,l4 KX G ?_,l4 KX G ?_,l4 KX G ?_,l4 KX G ?_,l4 KX G ?_,l4 KX G ?_,l4 KX G ?_,l4 KX G ?_,l4 KX G ?_,l4 KX G ?_,l4 KX G ?_⟩ Hc
    (case y_31 => kernel_rfl)
    all_goals first | k_is | rfl | decide | with_unfolding_all rfl | skip

end
end
noncomputable section