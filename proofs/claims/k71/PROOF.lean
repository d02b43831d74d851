import PyProof.Rows.All
import Wide.All
import OpenK.AllK
import Wide.FinOn
import Lean
import PyProof.EqAt
import PyProof.EqKinds
import PyProof.TupleCall
import PyProof.P3In
import PyProof.NeData
import KE.KSortKey
import PyProof.Rows.SortRuns
import KE.KLam
import KE.KNestM
import PyProof.FitsReplace
import PyProof.StrBlockL
import KE.KDictList
import KE.KItemsList
import PyProof.TupleKey
import PyProof.DictRoadsH
import PyProof.DictWalks
import PyProof.Rows.Range3
import KE.KListMore
import PyProof.ListMulRoad
import PyProof.NsDelKeeps
import KE.KTryMore
import PySem.Challenge.RW_leafjudge_k71_sixty_rows
set_option Elab.async false
set_option linter.all false
set_option compiler.extract_closed false
set_option maxRecDepth 100000
open List renaming length_map->aA,getElem?_eq_getElem->aE,getElem?_eq_some_iff->aH,mem_cons_of_mem->aI,getElem?_map->aK,mem_cons_self->aL,mem_cons->aN,getElem?_set_ne->aU,size_toArray->aX,mem_of_getElem?->aZ,mem_map->bA,getElem?_set_self->bB,mem_singleton->bF,map_map->bG,length_take->bO,length_append->bQ,not_mem_nil->bV,map_cons->bX,getElem?_of_mem->cD,length_filter_le->cE,mem_append_right->cH,map_append->cK,mem_filter->cU,take_add_one->cW,getD_eq_getElem?_getD->cX,lookup_cons->dF,length_cons->dH,mem_append->dL,getElem?_append_left->dM,append_nil->dQ,getElem?_append_right->dU,getElem?_eq_none->dX,filter_cons->eF,mem_of_mem_take->eI,take_length->eO,length_drop->eP,take_of_length_le->fJ,getElem_mem->fK,getElem?_zip_eq_some->fN,range->fQ,sum_cons->fY,all_eq_true->gY,ext_getElem?->iM,foldl_cons->iN,filter_append->iX,find?_cons->jJ,lookup->jK,idxOf_lt_length_iff->jO,map_congr_left->jT,getElem?_range->jU,filterMap_cons->jV,getElem?_replicate->jX,length->kF,nodup_cons->kP,getElem_idxOf->mB,getElem?_take->mC,getElem?_drop->mD,length_singleton->nH,any_cons->nU,mem_append_left->nZ,map_nil->oX,mem_range->pJ,length_range->qH,filter_congr->qI,length_eq_zero_iff->rG,getElem?_cons_succ->rH,any_eq_true->rJ,forIn_cons->sX,filter_map->sY,mem_iff_getElem->uM,take_sublist->yQ,length_eq_countP_add_countP->yS,foldl_append->yT,map_id->CU,of_mem_zip->CY,countP_eq_length_filter->CZ,replicate->EN,drop_zero->EO,pairwise_iff_getElem->F9,mem_of_find?_eq_some->GA,getElem?_eq_none_iff->GB,flatten_singleton->JE,drop_eq_nil_of_le->JF,countP_le_length->LI,mem_of_mem_drop->NH,mem_map_of_mem->PU,length_pos_iff->PV,flatten_append->PX,flatMap_append->PY,zip_cons_cons->QE,mem_filterMap->QF,filterMap_map->QG,flatten_cons->WC,flatMap_cons->WD,append_assoc->WE,zipIdx_cons->WM,getElem_inj->WN,zipIdx_nil->Z1,range_succ->Z2,length_set->Z3,length_nil->Z4,find?_some->Z5,countP_map->Z6,any_append->Z7,take_zero->aDa,forIn_nil->aDb,foldl_nil->aDc,map_take->aGd,map_drop->aGe,Pairwise->aGf,all_map->aGq,range'->aKt,map->aNm
open PySem.Heap renaming get?_push_of_some->aC,get?_push_size->aR,lt_size->aV,size_push->dW,SameBut->eY,get?_update_other->fL,get?_none_of_le->lH,get?_update_self->nI,size_update->AN,IsList->CV,IsTuple->JG,Ns->WF,ExtBut->aKv
open Nat renaming le_of_ble_eq_true->aD,le_refl->aM,le_trans->bK,lt_of_lt_of_le->bR,ne_of_lt->cO,zero_le->cT,mul_left_comm->dE,lt_irrefl->eK,mul_assoc->eR,mul_comm->fA,mul_lt_mul_of_pos_right->gE,le_of_lt->iA,ne_of_gt->iV,lt_of_mul_lt_mul_right->jB,le_of_eq->kI,mul_le_mul->lN,lt_trichotomy->mX,lt_succ_self->nT,pow_le_pow_right->oG,lt_of_le_of_lt->pQ,mul_pos->qJ,lt_succ_of_lt->qK,add_mul->qL,gcd_pos_of_pos_right->rE,le_add_right->rN,lt_asymm->sV,min_eq_left->tV,mul_le_mul_right->vM,mod_lt->xX,zero_add->zL,gcd_dvd_right->zM,min_eq_right->CT,div_eq_of_eq_mul_right->F8,mul_div_cancel_left->JD,sub_zero->LG,lt_trans->LH,le_succ->PR,not_lt->WB,le_succ_of_le->WL,min_le_right->ZY,le_of_not_lt->ZZ,le_max_right->Z0,not_lt_zero->aC6,min_le_left->aC7,le_max_left->aC8,div_le_self->aC9,le_of_dvd->aGo,dvd_trans->aGp,zero_mul->aKq,gcd_comm->aKr,div_zero->aKs,one_mul->aK9
open PySem.W renaming Frag->aF,mroIn->bD,kitOne->bW,findIn->dA,kia_one->dZ,exmOne->eD,nsIn->eX,typeIn->fU,keepIn->fV,clsIn->fW,emptyDict->gI,instObj->jC,mg_of->jI,kitMeta->kE,InstAt->kY,kitAny->mN,fnOf->mO,looks_findIn->nG,codeIn->oS,callWith_K->oU,kitx_list->pI,Looks->pL,plainGet->qE,envX->rC,methodCall_KW->rM,nsOkIn->sR,notCls->sS,lookIn->sT,kitCls->sU,plainGet_of->uB,methodObj->wX,hasDictIn->wY,codeHdIn->xW,takerIn->zG,kla_obj->zH,exm_one->zI,isFn->F5,cellsFrom_some->F6,kitx_tuple->LE,isNs_of_in->LF,plainOver->ND,kitx_dict->NE,handedIn->PP,makesIn->QB,CodeHd->WA,subIn->WJ,WalkO->WK
open PySem renaming wpAny_bind->aG,wpAny_pure->aW,sizeLine->bE,starEach->bL,Program->cC,mainGlobals->dS,wpAny_mono->dY,FuncData->gT,wpAny_newObj_type->iS,swapsWith->kH,wpAny_call_entry->lZ
open PySem.PyData renaming str->aP,int->bI,eqv->bP,canLayAll0->eE,depthAll->eL,tuple->gX,hasDictAll->kQ,dict->nK,bulkAll->tU,none->zJ,bool->zK,eqvAll->EL,leavesShortAll->IZ,list->JC,showableAll->NF,strOk->aC5
open Bool renaming false_ne_true->bY,and_eq_true->dI,false_eq_true->fE,eq_iff_iff->fG,true_and->nV,or_eq_true->sZ,false_or->GJ,or_eq_false_iff->NI,false_and->aDd,and_false->aDe,or_false->aGi,true_or->aGr
open PySem.F renaming plainAttrs_list->cI,type_list_append->gU,slot_list_append->gW,type_list_index->lW,slot_list_index->lX,type_tuple_index->pM,slot_tuple_index->pN,plainAttrs_tuple->pO,args_tuple_add_2->pP,plainAttrs_dict->qF,entry_tuple_add->qG,slot_tuple_add->rD,type_list_extend->C8,slot_list_extend->C9,slot_dict_values->DA,slot_dict_items->EK,slot_dict_pop->GI
open Option renaming map_eq_some_iff->cV,filter_some->vO,bind_eq_some_iff->F7,isSome_some->NG,isSome_map->PQ,getD_none->QC
open Int renaming toNat_of_nonneg->eM,natCast_mul->fH,emod_lt_of_pos->hX,emod_nonneg->jL,ofNat->kB,natCast_add->kR,le_refl->mP,natCast_ediv->rO,toNat_natCast->zN,fdiv_eq_ediv_of_nonneg->GC,add_mul->PZ,mul_nonneg->aGg,mul_le_mul->aGh,ofNat_lt->aKu
open Array renaming length_toList->fP,getElem?_toList->iY,getElem?_eq_some_iff->lD,getElem?_eq_none->mR,getElem?_setIfInBounds_ne->yU,toList_append->NJ,forIn_toList->P0,find?_toList->P1,append_assoc->P2,size_append->QH,all_toList->WG,toList->aGj
section
open PySem PySem.Spec PyProof.Rows
namespace SS
structure GS(a0:Array Keyed)(g:Nat->Nat)(pd:Array (Nat×Nat×Nat))(st:SortSt):Prop where
 size:(arrOf st).size=a0.size
 get:∀p,p<a0.size->(arrOf st)[p]?=a0[g p]?
 rng:∀p,p<a0.size->g p<a0.size
 kind:kindOf st=oneType'
 fail:failedOf st=none
 pend:pendingOf st=pd
def Lx(a0:Array Keyed)(i j:Nat):Prop:=K a0 i<K a0 j\/(K a0 i=K a0 j/\i<j)
def Sd(a0:Array Keyed)(g:Nat->Nat)(lo hi:Nat):Prop:=∀p q,lo<=p->p<q->q<hi->Lx a0 (g p) (g q)
def In(g:Nat->Nat)(lo hi:Nat):Prop:=∀p,lo<=p->p<hi->lo<=g p/\g p<hi
noncomputable def yB(g:Nat->Nat)(i j:Nat):Nat->Nat:=λk=>if i<=k/\k<j then g (i+j-1-k)else g k
noncomputable def ZN(g:Nat->Nat)(src dst:Nat):Nat->Nat:=λk=>if k=dst then g src else if dst<k/\k<=src then g (k-1)else g k
section
variable{prog:cC}{w:World}{A:Around}{E:Value->Shared->Prop}{s:Shared}{a0:Array Keyed}{g:Nat->Nat}{pd:Array (Nat×Nat×Nat)}{st:SortSt}
def K3(h0:IntKeys a0){i:Nat}(hi:i<a0.size):∃t q,a0[i]?=some (.int (K a0 i) t,q):=by
 obtain⟨n,t,hn⟩:=h0 a0[i] (by simp);have e:a0[i]?=some a0[i]:=getElem?_pos _ i hi;refine⟨t,a0[i].2,?_⟩;have e2:a0[i]=(.int n t,a0[i].2):=Prod.ext hn rfl;unfold K;rw[e,e2]
 rfl
def GS.mirr(h:GS a0 g pd st){i j:Nat}(hj:j<=a0.size):GS a0 (yB g i j) pd (setArr st (mirror (arrOf st) i j ((j-i) / 2))) where
 size:=(mirror_size _ _ _ _).trans h.size
 get:=λp hp=>by
  refine(getElem?_mirror_all (by rw[h.size];exact hj) p).trans ?_;unfold yB;split
  ·exact h.get _ (by omega)
  ·exact h.get _ hp
 rng:=λp hp=>by
  unfold yB;split
  ·exact h.rng _ (by omega)
  ·exact h.rng _ hp
 kind:=h.kind
 fail:=h.fail
 pend:=h.pend
def GS.bubb(h:GS a0 g pd st){src dst:Nat}(hs:src<a0.size)(hd:dst<=src):GS a0 (ZN g src dst) pd (setArr st (bubble (arrOf st) src (src-dst))) where
 size:=(bubble_size _ _ _).trans h.size
 get:=λp hp=>by
  refine(getElem?_bubble (by rw[h.size];exact hs) _ (by omega) p).trans ?_;rw[show src-(src-dst)=dst by omega];unfold ZN;split
  ·exact h.get _ hs
  ·split
   ·exact h.get _ (by omega)
   ·exact h.get _ hp
 rng:=λp hp=>by
  unfold ZN;split
  ·exact h.rng _ hs
  ·split
   ·exact h.rng _ (by omega)
   ·exact h.rng _ hp
 kind:=h.kind
 fail:=h.fail
 pend:=h.pend
def vS{p q:Nat}{Q:Option Bool->SortSt->Prop}(h:GS a0 g pd st)(h0:IntKeys a0)(hp:p<a0.size)(hq:q<a0.size)
  (k:Q (some (decide (K a0 (g p)<K a0 (g q)))) st):wpS (model prog w) A E s (ltAt' p q) Q st:=by
 obtain⟨t,x,e1⟩:=K3 h0 (h.rng p hp);obtain⟨u,y,e2⟩:=K3 h0 (h.rng q hq);exact wpS_ltAt h.kind ((h.get p hp).trans e1) ((h.get q hq).trans e2) k
noncomputable def PJ(lo a nr:Nat):StateT SortSt Sem AscSt:=
 forIn [a:nr] ((none,a):AscSt) λ_ z=>do
  let x <- ltAt' (lo+z.snd) (lo+z.snd-1)
  match x with
  |some b=>if b=true then pure (ForInStep.done (none,z.snd))else pure (ForInStep.yield (none,z.snd+1))
  |_=>pure (ForInStep.done (some none,z.snd))
noncomputable def DJ(lo n nr:Nat):StateT SortSt Sem (Option Nat):=do
 reverseSlice' lo (lo+n)
 let z <- PJ lo n nr
 match z.fst with
 |some r=>pure r
 |none=>pure (some z.snd)
noncomputable def M0(lo n nr:Nat):StateT SortSt Sem DescSt:=
 forIn [n:nr] ((none,n,0):DescSt) λ_ z=>do
  let x <- ltAt' (lo+z.snd.fst) (lo+z.snd.fst-1)
  match x with
  |some b=>
   if b=true then
    if z.snd.snd>0 then do
     reverseSlice' (lo+z.snd.fst-(z.snd.snd+1)) (lo+z.snd.fst)
     pure (ForInStep.yield (none,z.snd.fst+1,0))
    else pure (ForInStep.yield (none,z.snd.fst+1,0))
   else do
    let x <- ltAt' (lo+z.snd.fst-1) (lo+z.snd.fst)
    match x with
    |some c=>
     if c=true then pure (ForInStep.done (none,z.snd.fst,z.snd.snd))
     else pure (ForInStep.yield (none,z.snd.fst+1,z.snd.snd+1))
    |_=>pure (ForInStep.done (some none,z.snd.fst,z.snd.snd))
  |_=>pure (ForInStep.done (some none,z.snd.fst,z.snd.snd))
noncomputable def G7(lo n nr:Nat):StateT SortSt Sem (Option Nat):=do
 liftM (rule "list.sort.descending-run")
 let z <- M0 lo (n+1) nr
 match z.fst with
 |some r=>pure r
 |none=>
  if z.snd.snd>0 then do
   reverseSlice' (lo+z.snd.fst-(z.snd.snd+1)) (lo+z.snd.fst)
   DJ lo z.snd.fst nr
  else DJ lo z.snd.fst nr
def O2(lo nr:Nat):countRun' lo nr=(do
  let z <- PJ lo 1 nr
  match z.fst with
  |some r=>pure r
  |none=>
   if(z.snd==nr)=true then pure (some z.snd)
   else if z.snd>1 then do
    let x <- ltAt' lo (lo+z.snd-1)
    match x with
    |some b=>if b=true then pure (some z.snd)else do
      reverseSlice' lo (lo+z.snd)
      G7 lo z.snd nr
    |_=>pure none
   else G7 lo z.snd nr):=by
 have t3:∀(n:Nat),DJ lo n nr=(do
   reverseSlice' lo (lo+n)
   let z <- PJ lo n nr
   match z with
   | (some r,_)=>pure r
   | (none,m)=>pure (some m)):=λn=>by
  unfold DJ;congr 1;funext _;congr 1;funext z;obtain⟨r,m⟩:=z;cases r<;>rfl
 rw[countRun'_eq];unfold G7;simp only[t3];unfold PJ M0;congr 1;funext z;obtain⟨r,n⟩:=z
 cases r with
 |some r=>rfl
 |none=>
  dsimp only;split
  ·rfl
  ·split
   ·congr 1;funext x
    cases x with
    |none=>rfl
    |some b=>
     dsimp only;split
     ·rfl
     ·congr 1;funext _;congr 1;funext _;congr 1;congr 1;funext y;obtain⟨r2,n2,q2⟩:=y
      cases r2 with
      |some r2=>rfl
      |none=>
       dsimp only;split
       ·congr 1;funext _;congr 1;funext _;congr 1;funext u;obtain⟨r3,n3⟩:=u;cases r3<;>rfl
       ·congr 1;funext _;congr 1;funext u;obtain⟨r3,n3⟩:=u;cases r3<;>rfl
   ·congr 1;funext _;congr 1;congr 1;funext y;obtain⟨r2,n2,q2⟩:=y
    cases r2 with
    |some r2=>rfl
    |none=>
     dsimp only;split
     ·congr 1;funext _;congr 1;funext _;congr 1;funext u;obtain⟨r3,n3⟩:=u;cases r3<;>rfl
     ·congr 1;funext _;congr 1;funext u;obtain⟨r3,n3⟩:=u;cases r3<;>rfl
end
section
variable{prog:cC}{w:World}{A:Around}{E:Value->Shared->Prop}{s:Shared}{a0:Array Keyed}{g g0:Nat->Nat}{pd:Array (Nat×Nat×Nat)}{st:SortSt}{lo n nr:Nat}
structure Rn(a0:Array Keyed)(g0 g:Nat->Nat)(lo m:Nat):Prop where
 sd:Sd a0 g lo (lo+m)
 inn:In g lo (lo+m)
 bef:∀p,p<lo->g p=g0 p
 aft:∀p,lo+m<=p->g p=p
def Rn.snoc{m:Nat}(r:Rn a0 g0 g lo m)(h1:1<=m)(h:¬K a0 (g (lo+m))<K a0 (g (lo+m-1))):Rn a0 g0 g lo (m+1) where
 sd:=λp q h2 h3 h4=>by
  by_cases hq:q<lo+m
  ·exact r.sd p q h2 h3 hq
  ·have e:q=lo+m:=by omega
   have e2:=r.aft q (by omega);have i1:=(r.inn p h2 (by omega)).2;rw[<- e,e2]at h;unfold Lx;rw[e2]
   have:K a0 (g p)<=K a0 (g (q-1)):=by
    by_cases hp:p=q-1
    ·rw[hp];exact mP _
    ·rcases r.sd p (q-1) h2 (by omega) (by omega)with z | z
     ·omega
     ·omega
   omega
 inn:=λp h2 h3=>by
  by_cases hp:p<lo+m
  ·have:=r.inn p h2 hp;omega
  ·have:=r.aft p (by omega);omega
 bef:=r.bef
 aft:=λp h2=>r.aft p (by omega)
def GK{a:Nat}{Q:AscSt->SortSt->Prop}(h0:IntKeys a0)(hn:lo+nr<=a0.size)(ha:1<=a)(han:a<=nr)(hB:GS a0 g pd st)(hs:Rn a0 g0 g lo a)
  (h:∀m,a<=m->m<=nr->Rn a0 g0 g lo m->(m=nr\/K a0 (g (lo+m))<K a0 (g (lo+m-1)))->Q (none,m) st):wpS (model prog w) A E s (PJ lo a nr) Q st:=by
 unfold PJ;refine wpS_forRange (I:=λx c z=>z=st/\c=(none,x)/\Rn a0 g0 g lo x) ?step ?fin ⟨rfl,rfl,hs⟩
 case fin=>
  rintro c z ⟨rfl,rfl,hr⟩;rw[show max a nr=nr by omega]at hr |-
  exact h nr han (aM _) hr (.inl rfl)
 case step=>
  rintro x c z hax hxn ⟨rfl,rfl,hr⟩;dsimp only;refine wpS_bind (vS hB h0 (by omega) (by omega) ?_);by_cases hl:K a0 (g (lo+x))<K a0 (g (lo+x-1))
  ·simp only[hl,decide_true,if_true];exact wpS_pure (h x hax (by omega) hr (.inr hl))
  ·simp only[hl,decide_false,fE,if_false];exact wpS_pure ⟨rfl,rfl,hr.snoc (by omega) hl⟩
structure Dn(a0:Array Keyed)(g0 g:Nat->Nat)(lo x ne:Nat):Prop where
 le:ne+1<=x
 fall:∀p q,lo<=p->p<q->q<lo+(x-(ne+1))->Lx a0 (g q) (g p)
 inn:In g lo (lo+(x-(ne+1)))
 low:∀p,lo<=p->p<lo+(x-(ne+1))->K a0 (lo+x-1)<K a0 (g p)
 alike:∀p,lo+(x-(ne+1))<=p->p<lo+x->K a0 p=K a0 (lo+x-1)
 bef:∀p,p<lo->g p=g0 p
 aft:∀p,lo+(x-(ne+1))<=p->g p=p
def Dn.turn{x ne:Nat}(d:Dn a0 g0 g lo x ne) :
  (∀p q,lo<=p->p<q->q<lo+x->Lx a0 (yB g (lo+x-(ne+1)) (lo+x) q) (yB g (lo+x-(ne+1)) (lo+x) p))/\In (yB g (lo+x-(ne+1)) (lo+x)) lo (lo+x) /\
  (∀p,lo<=p->p<lo+x->K a0 (lo+x-1)<=K a0 (yB g (lo+x-(ne+1)) (lo+x) p))/\(∀p,p<lo->yB g (lo+x-(ne+1)) (lo+x) p=g0 p)/\∀p,lo+x<=p->yB g (lo+x-(ne+1)) (lo+x) p=p:=by
 have hl:=d.le;have eb:lo+x-(ne+1)=lo+(x-(ne+1)):=by omega
 have up:∀p,lo+(x-(ne+1))<=p->p<lo+x->yB g (lo+x-(ne+1)) (lo+x) p=lo+(x-(ne+1))+(lo+x)-1-p:=λp h1 h2=>by
  unfold yB;rw[if_pos (by omega),d.aft _ (by omega)];omega
 have dn:∀p,p<lo+(x-(ne+1))->yB g (lo+x-(ne+1)) (lo+x) p=g p:=λp h1=>by
  unfold yB;rw[if_neg (by omega)]
 have ot:∀p,lo+x<=p->yB g (lo+x-(ne+1)) (lo+x) p=p:=λp h1=>by
  unfold yB;rw[if_neg (by omega),d.aft _ (by omega)]
 refine⟨λp q h1 h2 h3=>?_,λp h1 h2=>?_,λp h1 h2=>?_,λp h1=>?_,ot⟩
 ·by_cases hq:q<lo+(x-(ne+1))
  ·rw[dn q hq,dn p (by omega)];exact d.fall p q h1 h2 hq
  ·rw[up q (by omega) h3];have k1:=d.alike (lo+(x-(ne+1))+(lo+x)-1-q) (by omega) (by omega);by_cases hp:p<lo+(x-(ne+1))
   ·rw[dn p hp];have:=d.low p h1 hp
    left;omega
   ·rw[up p (by omega) (by omega)];have k2:=d.alike (lo+(x-(ne+1))+(lo+x)-1-p) (by omega) (by omega)
    right;omega
 ·by_cases hp:p<lo+(x-(ne+1))
  ·rw[dn p hp];have:=d.inn p h1 hp;omega
  ·rw[up p (by omega) h2];omega
 ·by_cases hp:p<lo+(x-(ne+1))
  ·rw[dn p hp];have:=d.low p h1 hp;omega
  ·rw[up p (by omega) h2];have k1:=d.alike (lo+(x-(ne+1))+(lo+x)-1-p) (by omega) (by omega);omega
 ·rw[dn p (by omega)];exact d.bef p h1
def MH{x:Nat}(hx:1<=x):yB g (lo+x-(0+1)) (lo+x)=g:=by
 funext k;unfold yB;split
 ·congr 1;omega
 ·rfl
def vR{i j:Nat}{Q:Unit->SortSt->Prop}(h:Q () (setArr st (mirror (arrOf st) i j ((j-i) / 2)))):wpS (model prog w) A E s (reverseSlice' i j) Q st:=by
 rw[reverseSlice'_eq];exact wpS_modify h
def NK{Q:DescSt->SortSt->Prop}(h0:IntKeys a0)(hn:lo+nr<=a0.size)(h1:1<=n)(hnn:n<=nr)(hB:GS a0 g pd st)(hs:Dn a0 g0 g lo n 0)
  (h:∀m ne g' st',GS a0 g' pd st'->n<=m->m<=nr->Dn a0 g0 g' lo m ne->Q (none,m,ne) st'):wpS (model prog w) A E s (M0 lo n nr) Q st:=by
 unfold M0;refine wpS_forRange (I:=λx c z=>∃ne g',c=(none,x,ne)/\GS a0 g' pd z/\Dn a0 g0 g' lo x ne) ?step ?fin ⟨0,g,rfl,hB,hs⟩
 case fin=>
  rintro c z ⟨ne,g',rfl,hB',hd⟩;rw[show max n nr=nr by omega]at hd |-
  exact h nr ne g' z hB' hnn (aM _) hd
 case step=>
  rintro x c z hax hxn ⟨ne,g',rfl,hB',hd⟩;dsimp only;have hle:=hd.le;have ex:=hd.aft (lo+x) (by omega);have ey:=hd.aft (lo+x-1) (by omega);refine wpS_bind (vS hB' h0 (by omega) (by omega) ?_);rw[ex,ey];by_cases hl:K a0 (lo+x)<K a0 (lo+x-1)
  ·simp only[hl,decide_true,if_true];obtain⟨t1,t2,t3,t4,t5⟩:=hd.turn
   have nx:Dn a0 g0 (yB g' (lo+x-(ne+1)) (lo+x)) lo (x+1) 0:=by
    have es:x+1-(0+1)=x:=by omega
    refine⟨by omega,?_,?_,?_,?_,t4,?_⟩
    ·rw[es];exact t1
    ·rw[es];exact t2
    ·rw[es];intro p h2 h3;have:=t3 p h2 h3;rw[show lo+(x+1)-1=lo+x by omega];omega
    ·rw[es];intro p h2 h3;congr 1;omega
    ·rw[es];exact t5
   by_cases hne:ne>0
   ·rw[if_pos hne];exact wpS_bind (vR (wpS_pure ⟨0,_,rfl,hB'.mirr (by omega),nx⟩))
   ·rw[if_neg hne];have e0:ne=0:=by omega
    subst e0;rw[MH (by omega)]at nx;exact wpS_pure ⟨0,_,rfl,hB',nx⟩
  ·simp only[hl,decide_false,fE,if_false];refine wpS_bind (vS hB' h0 (by omega) (by omega) ?_);rw[ex,ey];by_cases hg:K a0 (lo+x-1)<K a0 (lo+x)
   ·simp only[hg,decide_true,if_true];exact wpS_pure (h x ne g' z hB' hax (by omega) hd)
   ·simp only[hg,decide_false,fE,if_false];have es:x+1-(ne+1+1)=x-(ne+1):=by omega
    have el:lo+(x+1)-1=lo+x:=by omega
    have eq:K a0 (lo+x)=K a0 (lo+x-1):=by omega
    refine wpS_pure ⟨ne+1,g',rfl,hB',⟨by omega,?_,?_,?_,?_,hd.bef,?_⟩⟩
    ·rw[es];exact hd.fall
    ·rw[es];exact hd.inn
    ·rw[es,el,eq];exact hd.low
    ·rw[es,el];intro p h2 h3;by_cases hp:p=lo+x
     ·rw[hp]
     ·rw[eq];exact hd.alike p h2 (by omega)
    ·rw[es];exact hd.aft
def DD{Q:Option Nat->SortSt->Prop}(h0:IntKeys a0)(hn:lo+nr<=a0.size)(h1:1<=n)(hnn:n<=nr)(hB:GS a0 g pd st)
  (f1:∀p q,lo<=p->p<q->q<lo+n->Lx a0 (g q) (g p)) (f2:In g lo (lo+n)) (f4:∀p,p<lo->g p=g0 p) (f5:∀p,lo+n<=p->g p=p)
  (h:∀m g' st',GS a0 g' pd st'->1<=m->m<=nr->Rn a0 g0 g' lo m->Q (some m) st'):wpS (model prog w) A E s (DJ lo n nr) Q st:=by
 unfold DJ;refine wpS_bind (vR ?_);have hB':=hB.mirr (i:=lo) (j:=lo+n) (by omega);have up:∀p,lo<=p->p<lo+n->yB g lo (lo+n) p=g (lo+(lo+n)-1-p):=λp a b=>by unfold yB;rw[if_pos ⟨a,b⟩]
 have ot:∀p,(p<lo\/lo+n<=p)->yB g lo (lo+n) p=g p:=λp a=>by unfold yB;rw[if_neg (by omega)]
 refine wpS_bind (GK h0 hn h1 hnn hB' (g0:=g0) ⟨λp q a b c=>?_,λp a b=>?_,λp a=>?_,λp a=>?_⟩ λm m1 m2 r _=>wpS_pure (h m _ _ hB' (by omega) m2 r))
 ·rw[up p a (by omega),up q (by omega) c];exact f1 _ _ (by omega) (by omega) (by omega)
 ·rw[up p a b];exact f2 _ (by omega) (by omega)
 ·rw[ot p (.inl a)];exact f4 p a
 ·rw[ot p (.inr a)];exact f5 p a
def DE{Q:Option Nat->SortSt->Prop}(h0:IntKeys a0)(hn:lo+nr<=a0.size)(hnn:n+1<=nr)(hB:GS a0 g pd st)(hs:Dn a0 g0 g lo (n+1) 0)
  (h:∀m g' st',GS a0 g' pd st'->1<=m->m<=nr->Rn a0 g0 g' lo m->Q (some m) st'):wpS (model prog w) A E s (G7 lo n nr) Q st:=by
 unfold G7;refine wpS_bind (wpS_lift (wpAny_rule ⟨rfl,?_⟩));refine wpS_bind (NK h0 hn (by omega) hnn hB hs λm ne g' st' hB' m1 m2 hd=>?_);dsimp only;obtain⟨t1,t2,t3,t4,t5⟩:=hd.turn;by_cases hne:ne>0
 ·rw[if_pos hne];exact wpS_bind (vR (DD h0 hn (by omega) m2 (hB'.mirr (by omega)) t1 t2 t4 t5 h))
 ·rw[if_neg hne];have e0:ne=0:=by omega
  subst e0;rw[MH (by omega)]at t1 t2 t4 t5;exact DD h0 hn (by omega) m2 hB' t1 t2 t4 t5 h
def JL{Q:Option Nat->SortSt->Prop}(h0:IntKeys a0)(hn:lo+nr<=a0.size)(h1:1<=nr)(hB:GS a0 g pd st)(bef:∀p,p<lo->g p=g0 p)(aft:∀p,lo<=p->g p=p)
  (h:∀m g' st',GS a0 g' pd st'->1<=m->m<=nr->Rn a0 g0 g' lo m->Q (some m) st'):wpS (model prog w) A E s (countRun' lo nr) Q st:=by
 rw[O2];refine wpS_bind (GK h0 hn (aM 1) h1 hB (g0:=g0) ⟨λp q a b c=>by omega,λp a b=>by rw[aft p a];omega,bef,λp a=>aft p (by omega)⟩ λm m1 m2 r hor=>?_);dsimp only;by_cases hmn:m=nr
 ·rw[if_pos (by simpa using hmn)];exact wpS_pure (h m g st hB m1 m2 r)
 ·rw[if_neg (by simpa using hmn)];have hlt:=hor.resolve_left hmn;rw[aft _ (by omega),aft (lo+m-1) (by omega)]at hlt;by_cases hgt:m>1
  ·rw[if_pos hgt];refine wpS_bind (vS hB h0 (by omega) (by omega) ?_);rw[aft lo (by omega),aft (lo+m-1) (by omega)];by_cases hrose:K a0 lo<K a0 (lo+m-1)
   ·simp only[hrose,decide_true,if_true];exact wpS_pure (h m g st hB m1 m2 r)
   ·simp only[hrose,decide_false,fE,if_false]
    have le:∀p q,lo<=p->p<=q->q<lo+m->K a0 p<=K a0 q:=λp q a b c=>by
     by_cases e:p=q
     ·rw[e];exact mP _
     ·have:=r.sd p q a (by omega) c;rw[aft p a,aft q (by omega)]at this;rcases this with z | z<;>omega
    have all:∀p,lo<=p->p<lo+m->K a0 p=K a0 (lo+m-1):=λp a b=>by
     have k1:=le lo p (by omega) a b;have k2:=le p (lo+m-1) a (by omega) (by omega);omega
    have es:m+1-(0+1)=m:=by omega
    have el:lo+(m+1)-1=lo+m:=by omega
    have up:∀p,lo<=p->p<lo+m->yB g lo (lo+m) p=lo+(lo+m)-1-p:=λp a b=>by unfold yB;rw[if_pos ⟨a,b⟩,aft _ (by omega)]
    refine wpS_bind (vR (DE h0 hn (by omega) (hB.mirr (by omega)) (g0:=g0) ⟨by omega,?_,?_,?_,?_,?_,?_⟩ h))
    ·rw[es];intro p q a b c;rw[up p a (by omega),up q (by omega) c];have k1:=all (lo+(lo+m)-1-p) (by omega) (by omega);have k2:=all (lo+(lo+m)-1-q) (by omega) (by omega)
     right;omega
    ·rw[es];intro p a b;rw[up p a b];omega
    ·rw[es,el];intro p a b;rw[up p a b,all (lo+(lo+m)-1-p) (by omega) (by omega)];exact hlt
    ·rw[es];intro p a b;congr 1;omega
    ·intro p a;unfold yB;rw[if_neg (by omega)];exact bef p a
    ·rw[es];intro p a;unfold yB;rw[if_neg (by omega)];exact aft p (by omega)
  ·rw[if_neg hgt];have e1:m=1:=by omega
   subst e1;refine DE h0 hn (by omega) hB (g0:=g0) ⟨by omega,λp q a b c=>by omega,λp a b=>by rw[aft p a];omega,λp a b=>?_,λp a b=>by congr 1;omega,bef,λp a=>aft p (by omega)⟩ h;rw[aft p a];have:p=lo:=by omega
   subst this;exact hlt
def QT{ok:Nat}{Q:Bool->SortSt->Prop}(h0:IntKeys a0)(hn:lo+n<=a0.size)(hok:ok<=n)(h1:1<=ok)(hB:GS a0 g pd st)(hs:Rn a0 g0 g lo ok)
  (h:∀g' st',GS a0 g' pd st'->Rn a0 g0 g' lo n->Q true st'):wpS (model prog w) A E s (binarySort' lo n ok) Q st:=by
 rw[binarySort'_eq]
 refine wpS_bind (wpS_mono (wpS_forRange (I:=λk c z=>c=(none,())/\∃g',GS a0 g' pd z/\Rn a0 g0 g' lo (min k n))
  (Q:=λc z=>c=(none,())/\∃g',GS a0 g' pd z/\Rn a0 g0 g' lo n) ?step ?fin ?init) ?post)
 case post=>
  rintro c z ⟨rfl,g',hB',hr⟩;exact wpS_pure (h g' z hB' hr)
 case init=>
  refine⟨rfl,g,hB,?_⟩;rw[show min (max ok 1) n=ok by omega];exact hs
 case fin=>
  rintro c z ⟨hc,g',hB',hr⟩;rw[show min (max (max ok 1) n) n=n by omega]at hr;exact⟨hc,g',hB',hr⟩
 case step=>
  rintro k c z hak hkn ⟨rfl,g',hB',hr⟩;rw[show min k n=k by omega]at hr;have ek:=hr.aft (lo+k) (aM _)
  refine wpS_bind (wpS_mono (wpS_forRange (I:=λx c y=>y=z/\∃l r,c=(none,l,r)/\l<=r/\r<=k/\r-l<=k-x /\
    (∀i,i<l->K a0 (g' (lo+i))<=K a0 (lo+k))/\∀i,r<=i->i<k->K a0 (lo+k)<K a0 (g' (lo+i)))
   (Q:=λc y=>y=z/\∃l r,c=(none,l,r)/\l<=k/\(∀i,i<l->K a0 (g' (lo+i))<=K a0 (lo+k))/\∀i,l<=i->i<k->K a0 (lo+k)<K a0 (g' (lo+i))) ?istep ?ifin ?iinit) ?ipost)
  case iinit=>exact⟨rfl,0,k,rfl,by omega,by omega,by omega,λi hi=>by omega,λi a b=>by omega⟩
  case ifin=>
   rintro c y ⟨rfl,l,r,rfl,a1,a2,a3,a4,a5⟩;have:l=r:=by omega
   subst this;exact⟨rfl,l,l,rfl,a2,a4,a5⟩
  case istep=>
   rintro x c y _ hxk ⟨rfl,l,r,rfl,a1,a2,a3,a4,a5⟩;dsimp only
   have le:∀i j,i<=j->j<k->K a0 (g' (lo+i))<=K a0 (g' (lo+j)):=λi j a b=>by
    by_cases e:i=j
    ·rw[e];exact mP _
    ·rcases hr.sd (lo+i) (lo+j) (by omega) (by omega) (by omega)with q | q<;>omega
   by_cases hge:l>=r
   ·rw[if_pos hge];have:l=r:=by omega
    subst this;exact wpS_pure ⟨rfl,l,l,rfl,a2,a4,a5⟩
   ·rw[if_neg hge];refine wpS_bind (vS hB' h0 (by omega) (by omega) ?_);rw[ek];by_cases hl:K a0 (lo+k)<K a0 (g' (lo+(l+r) / 2))
    ·simp only[hl,decide_true,if_true];refine wpS_pure ⟨rfl,l,(l+r) / 2,rfl,by omega,by omega,by omega,a4,λi b1 b2=>?_⟩;exact Int.lt_of_lt_of_le hl (le _ _ b1 b2)
    ·simp only[hl,decide_false,fE,if_false];refine wpS_pure ⟨rfl,(l+r) / 2+1,r,rfl,by omega,by omega,by omega,λi b1=>?_,a5⟩;have:=le i ((l+r) / 2) (by omega) (by omega);omega
  case ipost=>
   rintro c y ⟨rfl,l,r,rfl,a2,a4,a5⟩;show wpS _ _ _ _ (do moveDown' (lo+k) (lo+l);pure (ForInStep.yield (none,()))) _ _;rw[moveDown'_eq];refine wpS_bind (wpS_modify (wpS_pure ⟨rfl,_,hB'.bubb (by omega) (by omega),?_⟩));rw[show min (k+1) n=k+1 by omega];have v1:ZN g' (lo+k) (lo+l) (lo+l)=lo+k:=by unfold ZN;rw[if_pos rfl,ek]
   have v2:∀p,lo+l<p->p<=lo+k->ZN g' (lo+k) (lo+l) p=g' (p-1):=λp a b=>by unfold ZN;rw[if_neg (by omega),if_pos ⟨a,b⟩]
   have v3:∀p,(p<lo+l\/lo+k<p)->ZN g' (lo+k) (lo+l) p=g' p:=λp a=>by unfold ZN;rw[if_neg (by omega),if_neg (by omega)]
   have lw:∀p,lo<=p->p<lo+l->K a0 (g' p)<=K a0 (lo+k):=λp a b=>by
    have:=a4 (p-lo) (by omega);rwa [show lo+(p-lo)=p by omega]at this
   have hg:∀p,lo+l<=p->p<lo+k->K a0 (lo+k)<K a0 (g' p):=λp a b=>by
    have:=a5 (p-lo) (by omega) (by omega);rwa [show lo+(p-lo)=p by omega]at this
   refine⟨λp q b1 b2 b3=>?_,λp b1 b2=>?_,λp b1=>?_,λp b1=>?_⟩
   ·rcases mX p (lo+l)with c1 | c1 | c1
    ·rw[v3 p (.inl c1)];rcases mX q (lo+l)with c2 | c2 | c2
     ·rw[v3 q (.inl c2)];exact hr.sd p q b1 b2 (by omega)
     ·rw[c2,v1];have:=lw p b1 c1;have:=(hr.inn p b1 (by omega)).2;unfold Lx;omega
     ·rw[v2 q c2 (by omega)];exact hr.sd p (q-1) b1 (by omega) (by omega)
    ·rw[c1,v1,v2 q (by omega) (by omega)]
     left;exact hg _ (by omega) (by omega)
    ·rw[v2 p c1 (by omega),v2 q (by omega) (by omega)];exact hr.sd _ _ (by omega) (by omega) (by omega)
   ·rcases mX p (lo+l)with c1 | c1 | c1
    ·rw[v3 p (.inl c1)];have:=hr.inn p b1 (by omega);omega
    ·rw[c1,v1];omega
    ·rw[v2 p c1 (by omega)];have:=hr.inn (p-1) (by omega) (by omega);omega
   ·rw[v3 p (.inl (by omega))];exact hr.bef p b1
   ·rw[v3 p (.inr (by omega))];exact hr.aft p (by omega)
end
section
def BS{a:Array Keyed}(h0:IntKeys a){i:Nat}(hi:i<a.size):∃t,a[i].1=.int (K a i) t:=by
 obtain⟨t,q,e⟩:=K3 h0 hi;rw[getElem?_pos a i hi]at e;exact⟨t,congrArg Prod.fst (Option.some.inj e)⟩
end
structure Two(a b:Array Keyed):Prop where
 ia:IntKeys a
 ib:IntKeys b
 sa:∀i j,i<=j->j<a.size->K a i<=K a j
 sb:∀i j,i<=j->j<b.size->K b i<=K b j
 na:0<a.size
 nb:0<b.size
 last:∀j,j<b.size->K b j<K a (a.size-1)
 first:∀i,i<a.size->K b 0<K a i
section
variable{a:Array Keyed}
def CC{i:Nat}(h:i<a.size):a.toList.drop i=a[i]::a.toList.drop (i+1):=by
 rw[List.drop_eq_getElem_cons (by simpa using h)];simp
end
structure GH(n:Nat)(ky:Nat->Int)(J:List Nat):Prop where
 ord:J.Pairwise λi j=>ky i<ky j\/(ky i=ky j/\i<j)
 lt:∀i∈J,i<n
 len:J.length=n
noncomputable def fa(a0:Array Keyed)(i:Nat):Keyed:=(a0[i]?).getD (.none,.none)
section
variable{prog:cC}{w:World}{A:Around}{E:Value->Shared->Prop}{s:Shared}{a0:Array Keyed}{g:Nat->Nat}{pd:Array (Nat×Nat×Nat)}{st:SortSt}
def GS.list(h:GS a0 g pd st):(arrOf st).toList=((fQ a0.size).map g).map (fa a0):=by
 apply iM;intro q;rw[iY,bG,aK];by_cases hq:q<a0.size
 ·rw[h.get q hq,jU hq];show _=some (fa a0 (g q));unfold fa;rw[getElem?_pos a0 _ (h.rng q hq)];rfl
 ·rw[dX (by simp;omega),mR (by rw[h.size];omega)];rfl
def XC(hB:GS a0 g pd st)(hs:Sd a0 g 0 a0.size):GH a0.size (K a0) ((fQ a0.size).map g) where
 ord:=by
  rw[F9];intro i j hi hj hij;simp only[aA,qH]at hi hj;simp only[List.getElem_map,List.getElem_range];exact hs i j (cT _) hij hj
 lt:=λi hi=>by
  obtain⟨p,hp,rfl⟩:=bA.mp hi;exact hB.rng p (pJ.mp hp)
 len:=by simp
def OL{n:Nat}(h:n<64)(h2:2<=n):minRun' n n 0=n:=by
 obtain⟨f,rfl⟩:∃f,n=f+2:=⟨n-2,by omega⟩;rw[show f+2=(f+1)+1 by omega,minRun'_succ,if_pos (by omega)]
def End(a0:Array Keyed)(st:SortSt):Prop:=∃g,GS a0 g #[(0,a0.size,0)] st/\Sd a0 g 0 a0.size
def GS.setP(h:GS a0 g pd st)(q:Array (Nat×Nat×Nat)):GS a0 g q (setPending st q):=⟨h.size,h.get,h.rng,h.kind,h.fail,rfl⟩
def QS{Q:Unit->SortSt->Prop}(h0:IntKeys a0)(hB:GS a0 (λp=>p) #[] st)(h2:2<=a0.size)(h128:a0.size<64)
  (h:∀st' J,failedOf st'=none->(arrOf st').toList=J.map (fa a0)->GH a0.size (K a0) J->Q () st'):wpS (model prog w) A E s sortRuns' Q st:=by
 have mr:=OL h128 h2;rw[sortRuns'_eq];refine wpS_bind (wpS_get ?_);dsimp only;simp only[hB.size]
 generalize minRun' a0.size a0.size 0=mn at mr
 refine wpS_bind (wpS_mono (wpS_forRange
  (I:=λx c z=>(x=0/\c=(none,0)/\GS a0 (λp=>p) #[] z)\/(1<=x/\c=(none,a0.size)/\End a0 z))
  (Q:=λc z=>c=(none,a0.size)/\End a0 z) ?step ?fin (.inl ⟨rfl,rfl,hB⟩)) ?post)
 case fin=>
  rintro c z (⟨hx,_,_⟩ | ⟨_,hc,hD⟩)
  ·omega
  ·exact⟨hc,hD⟩
 case step=>
  rintro x c z _ hx (⟨rfl,rfl,hB'⟩ | ⟨x1,rfl,hD⟩)
  ·dsimp only;rw[if_neg (by omega)];simp only[LG,zL]
   have next:∀(m:Nat)(g':Nat->Nat)(z':SortSt),GS a0 g' #[] z'->m=a0.size->Rn a0 (λp=>p) g' 0 m ->
     (1=0/\((none,m):Option Unit×Nat)=(none,0)/\GS a0 (λp=>p) #[] (setPending z' ((pendingOf z').push (0,m,0)))) \/
     (1<=1/\((none,m):Option Unit×Nat)=(none,a0.size)/\End a0 (setPending z' ((pendingOf z').push (0,m,0)))):=λm g' z' b1 e r=>by
    have eb:=b1.setP #[(0,m,0)];rw[show(pendingOf z').push (0,m,0)=#[(0,m,0)] by rw[b1.pend];rfl];subst e;refine .inr ⟨by omega,rfl,g',eb,?_⟩;have:=r.sd
    rwa [zL]at this
   refine wpS_bind (JL h0 (by omega) (by omega) hB' (g0:=λp=>p) (λp a=>rfl) (λp a=>rfl) λm g' z' b1 b2 b3 r=>?_);dsimp only;by_cases hlt:m<mn
   ·rw[if_pos hlt];refine wpS_bind (wpS_lift (wpAny_rule ⟨rfl,?_⟩));refine wpS_bind (QT h0 (by omega) (by omega) b2 b1 r λg2 z2 c1 r2=>?_);simp only[Bool.not_true,fE,if_false];refine wpS_bind (wpS_get ?_);rw[show(pendingOf z2).back?=none by rw[c1.pend];rfl];dsimp only;exact wpS_bind (wpS_modify (wpS_pure (next _ g2 z2 c1 (by omega) r2)))
   ·rw[if_neg hlt];refine wpS_bind (wpS_get ?_);rw[show(pendingOf z').back?=none by rw[b1.pend];rfl];dsimp only;exact wpS_bind (wpS_modify (wpS_pure (next _ g' z' b1 (by omega) r)))
  ·dsimp only;rw[if_pos (aM _)];exact wpS_pure ⟨rfl,hD⟩
 case post=>
  rintro c z ⟨rfl,hD⟩;dsimp only
  refine wpS_bind (wpS_mono (wpS_forRange (I:=λx c y=>c=(none,())/\x=0/\y=z)
   (Q:=λc y=>c=(none,())/\failedOf y=none/\∃J,(arrOf y).toList=J.map (fa a0)/\GH a0.size (K a0) J) ?_ ?_ ⟨rfl,rfl,rfl⟩) ?_)
  ·rintro x c y _ _ ⟨rfl,rfl,rfl⟩;refine wpS_bind (wpS_get ?_);obtain⟨g,b1,sd⟩:=hD;rw[if_pos (by rw[b1.pend];exact aM 1)];exact wpS_pure ⟨rfl,b1.fail,_,b1.list,XC b1 sd⟩
  ·rintro c y ⟨rfl,hx,_⟩;omega
  ·rintro c y ⟨rfl,e2,J,e3,e4⟩;exact wpS_pure (h y J e2 e3 e4)
end
end SS
set_option maxHeartbeats 4000000
namespace SS
section
variable{prog:cC}{w:World}{A:Around}{E:Value->Shared->Prop}{s:Shared}{a kS f:Addr}{vs:List Value}{kz:List Int}{P:PySem.Fin->Shared->Prop}{Tp:Shared->Prop}{lo:Nat}
structure PK(Tp:Shared->Prop)(lo:Nat):Prop where
 up:∀(s':Shared)(x:Addr)h'(tk:Nat),Tp s'->lo<=x->eY x s'.heap h'->Tp { s' with heap:=h',toks:=tk }
 push:∀(s':Shared)(o:Obj),Tp s'->Tp { s' with heap:=s'.heap.push o }
def lB(prog:cC)(w:World)(A:Around)(Tp:Shared->Prop)(lo:Nat)(f:Addr)(vs:List Value)(kz:List Int):Prop:=∀(i:Nat)(v:Value)(k:Int)(s':Shared),vs[i]?=some v->kz[i]?=some k->Tp s' ->
 wpAny (model prog w) A (call (.ref f) [v]) (λu s2=>∃t,u=.int k t/\Tp s2/\∀b o,lo<=b->s'.heap.get? b=some o->s2.heap.get? b=some o) (λ_ _=>False) s'
def QJ{keys:Array Value}(hk:IntsAre keys.toList kz)(hl:kz.length=vs.length):(keys.zip vs.toArray).size=vs.length/\∀i,i<vs.length->K (keys.zip vs.toArray) i=kz.getD i 0/\(fa (keys.zip vs.toArray) i).2=vs.getD i .none:=by
 have hs:keys.size=vs.length:=by have:=hk.length;rw[fP]at this;omega
 have hz:(keys.zip vs.toArray).size=vs.length:=by rw[Array.size_zip,hs,aX,Nat.min_self]
 refine⟨hz,λi hi=>?_⟩;obtain⟨t,ht⟩:=hk.get i (kz[i]'(by omega)) (aE (by omega));rw[iY]at ht;have hv:vs.toArray[i]?=some vs[i]:=by simp[hi]
 have e:(keys.zip vs.toArray)[i]?=some (.int (kz[i]'(by omega)) t,vs[i]):=by
  rw[Array.getElem?_zip_eq_some];exact⟨ht,hv⟩
 constructor
 ·unfold K;rw[e];show numOf (Value.int (kz[i]'(by omega)) t)=_;rw[cX,aE (by omega)];rfl
 ·unfold fa;rw[e,cX,aE hi];rfl
def GH.congr{n:Nat}{k1 k2:Nat->Int}{J}(h:GH n k1 J)(e:∀i,i<n->k1 i=k2 i):GH n k2 J where
 ord:=h.ord.imp_of_mem λ{i j} hi hj q=>by rw[<- e i (h.lt i hi),<- e j (h.lt j hj)];exact q
 lt:=h.lt
 len:=h.len
def LP{st:SortSt}{keys:Array Value}{e e1:Nat}{J:List Nat}(T:PK Tp lo)(t0:Tp s)(ok:s.heap.get? kS=some (seqObj "list" keys e))(oa:s.heap.get? a=some (seqObj "list" #[] e1))(hka:kS≠a)(lk:lo<=kS)(la:lo<=a)
  (hks:keys.size<=bE) (hJ:(arrOf st).toList.map (·.2)=J.map λi=>vs.getD i .none) (hl:J.length<=bE) (hf:failedOf st=none)
  (h:∀h' tk out c,Tp { s with heap:=h',toks:=tk }->h'.get? a=some (seqObj "list" out c)->out.toList=(J.map λi=>vs.getD i .none)->P (.done (.ret .none)) { s with heap:=h',toks:=tk }) :
  wpAny (model prog w) A (ksk_tail a false e1 (.ref kS) st) P E s:=by
 have s1:=eY.update s.heap kS (Obj.mapSeq λ_=>(#[]:Array Value));have na1:(s.heap.update kS (Obj.mapSeq λ_=>(#[]:Array Value))).get? a=some (seqObj "list" #[] e1):=(s1.2 a hka.symm).trans oa;have s2:=eY.update (s.heap.update kS (Obj.mapSeq λ_=>(#[]:Array Value))) a (Obj.mapSeq λ_=>(arrOf st).map (·.2));obtain⟨c2,hc2⟩:∃c2,((s.heap.update kS (Obj.mapSeq λ_=>(#[]:Array Value))).update a (Obj.mapSeq λ_=>(arrOf st).map (·.2))).get? a=some (seqObj "list" ((arrOf st).map (·.2)) c2):=⟨_,get?_update_seq na1 λ_=>(arrOf st).map (·.2)⟩
 have hz:((arrOf st).map (·.2)).size=J.length:=by
  have:=congrArg kF hJ;simpa using this
 unfold ksk_tail
 try dsimp only
 refine aG (listUpdate_at ok rfl ?_ hks (cT _));refine aG (wpAny_letGo ?_);refine aG (seqEpoch_at na1 rfl ?_);refine aG (listUpdate_at na1 rfl ?_ (cT _) (by simp only[fE,if_false];rw[hz];exact WL hl));rw[hf];simp only[bne_self_eq_false,fE,if_false];exact aW (h _ _ _ c2 (T.up { s with heap:=s.heap.update kS (Obj.mapSeq λ_=>(#[]:Array Value)) } a _ s.toks (T.up s kS _ s.toks t0 lk s1) la s2) hc2 (by rw[Array.toList_map];exact hJ))
def aD4{keys:Array Value}{e e1:Nat}(T:PK Tp lo)(t0:Tp s)(ok:s.heap.get? kS=some (seqObj "list" keys e))(oa:s.heap.get? a=some (seqObj "list" #[] e1))(hka:kS≠a)(lk:lo<=kS)(la:lo<=a)
  (hk:IntsAre keys.toList kz) (hl:kz.length=vs.length) (h128:vs.length<64)
  (h:∀h' tk out c J,Tp { s with heap:=h',toks:=tk }->h'.get? a=some (seqObj "list" out c)->GH vs.length (λi=>kz.getD i 0) J->out.toList=(J.map λi=>vs.getD i .none)->P (.done (.ret .none)) { s with heap:=h',toks:=tk }) :
  wpAny (model prog w) A (ksk_end a false vs.toArray e1 (.ref kS) keys) P E s:=by
 obtain⟨hz,hzk⟩:=QJ (vs:=vs) hk hl;have hs:keys.size=vs.length:=by have:=hk.length;rw[fP]at this;omega
 have hL:(2:Nat)^24=bE:=rfl
 have snd:∀J:List Nat,(∀i∈J,i<vs.length)->(J.map (fa (keys.zip vs.toArray))).map (·.2)=J.map λi=>vs.getD i .none:=λJ hJ=>by
  rw[bG];exact jT λi hi=>(hzk i (hJ i hi)).2
 unfold ksk_end
 try dsimp only
 simp only[fE,if_false];by_cases h2:vs.toArray.size<2
 ·rw[if_pos h2,if_pos h2];refine aG (aW ?_);rw[StateT.run_pure];refine aG (aW ?_)
  try dsimp only
  rw[aX]at h2
  have g0:(keys.zip vs.toArray).toList=(fQ vs.length).map (fa (keys.zip vs.toArray)):=by
   apply iM;intro q;rw[iY,aK];by_cases hq:q<vs.length
   ·rw[jU hq,getElem?_pos _ q (by rw[hz];exact hq)];show _=some (fa _ q);unfold fa;rw[getElem?_pos _ q (by rw[hz];exact hq)];rfl
   ·rw[dX (by simp;omega),mR (by rw[hz];omega)];rfl
  have sb:GH vs.length (λi=>kz.getD i 0) (fQ vs.length):=⟨by
   rw[F9];intro i j hi hj hij;simp only[qH]at hi hj;omega,λi hi=>pJ.mp hi,by simp⟩
  exact LP (st:=SortSt.mk' general' (keys.zip vs.toArray) #[] 7 none) (J:=fQ vs.length) T t0 ok oa hka lk la (by rw[hs,<- hL];omega) (by
   show(keys.zip vs.toArray).toList.map (·.2)=_;rw[g0];exact snd _ sb.lt) (by simp only[qH];rw[<- hL];omega) rfl λh' tk out c t1 t2 t3=>h h' tk out c _ t1 t2 sb t3
 ·rw[if_neg h2,if_neg h2];rw[aX]at h2;rw[ksk_kind hk (by rw[hs];omega)];refine aG (aW ?_)
  refine aG (dY (QS (a0:=keys.zip vs.toArray) (st:=SortSt.mk' oneType' (keys.zip vs.toArray) #[] 7 none)
   (Q:=λ_ st'=>failedOf st'=none/\∃J,(arrOf st').toList=J.map (fa (keys.zip vs.toArray))/\GH (keys.zip vs.toArray).size (K (keys.zip vs.toArray)) J)
   (ksk_intKeys hk) ⟨rfl,λ_ _=>rfl,λ_ hp=>hp,rfl,rfl,rfl⟩ (by rw[hz];omega) (by rw[hz];exact h128) λst' J a1 a2 a3=>⟨a1,J,a2,a3⟩) ?_ λ_ _ e=>e)
  rintro⟨⟨⟩,st'⟩ s' ⟨rfl,hf,J,hJ,sb⟩
  try dsimp only
  rw[hz]at sb;have sb2:=sb.congr λi hi=>(hzk i hi).1;exact LP (J:=J) T t0 ok oa hka lk la (by rw[hs,<- hL];omega) (by rw[hJ];exact snd J sb.lt) (by rw[sb.len,<- hL];omega) hf λh' tk out c t1 t2 t3=>h h' tk out c _ t1 t2 sb2 t3
def XI{e1:Nat}(T:PK Tp lo)(t0:Tp s)(ok:s.heap.get? kS=some (seqObj "list" #[] 0))(oa:s.heap.get? a=some (seqObj "list" #[] e1))(hka:kS≠a)(lk:lo<=kS)(la:lo<=a)
  (hl:kz.length=vs.length) (h128:vs.length<64) (turn:lB prog w A Tp lo f vs kz)
  (h:∀s' out c J,Tp s'->s'.heap.get? a=some (seqObj "list" out c)->GH vs.length (λi=>kz.getD i 0) J->out.toList=(J.map λi=>vs.getD i .none)->P (.done (.ret .none)) s') :
  wpAny (model prog w) A (ksk_rest a (.ref f) false vs.toArray e1 (.ref kS)) P E s:=by
 have hL:(2:Nat)^24=bE:=rfl;unfold ksk_rest;refine aG (wpAny_rule ?_)
 first
  |rw[List.forIn_toArray]
  | (rw[<- P0];simp only[List.toList_toArray])
  |rw[<- P0]
 refine aG (ksk_fold (λi s'=>Tp s'/\∃kA e,s'.heap.get? kS=some (seqObj "list" kA e)/\s'.heap.get? a=some (seqObj "list" #[] e1)/\IntsAre kA.toList (kz.take i)) vs 0 s
  ⟨t0,#[],0,ok,oa,by simpa using IntsAre.nil⟩ ?step ?done)
 case step=>
  rintro j x s' hx ⟨t1,kA,e,o1,o2,hk⟩;simp only[zL]at hk |-
  have hj:j<vs.length:=(aH.mp hx).1;obtain⟨k,hkj⟩:∃k,kz[j]?=some k:=⟨_,aE (by omega)⟩
  have hz:kA.size<=vs.length:=by
   have h1:=hk.length;rw[fP,bO]at h1;omega
  refine aG (wpAny_attempt (dY (turn j x k s' hx hkj t1) (λv s'' he=>?_) λ_ _ hF=>hF.elim));obtain⟨t2,rfl,t3,keep⟩:=he
  try dsimp only
  have o1':=keep kS _ lk o1;have o2':=keep a _ la o2;have s1:=eY.update s''.heap kS (Obj.mapSeq (·.push (.int k t2)));obtain⟨c2,hc2⟩:∃c2,(s''.heap.update kS (Obj.mapSeq (·.push (.int k t2)))).get? kS=some (seqObj "list" (kA.push (.int k t2)) c2):=⟨_,get?_update_seq o1' (·.push (.int k t2))⟩;have ek:kz.take (j+1)=kz.take j++[k]:=by rw[cW,hkj];simp
  have ea:(kA.push (Value.int k t2)).toList=kA.toList++[Value.int k t2]:=by simp
  refine aG (listUpdate_at o1' rfl ?_ (by rw[<- hL];omega) (bK (kI (Array.size_push ..)) (by rw[<- hL];omega)));exact aW ⟨rfl,T.up _ kS _ _ t3 lk s1,kA.push (.int k t2),c2,hc2,(s1.2 a hka.symm).trans o2',by rw[ea,ek];exact ksk_snoc hk⟩
 case done=>
  rintro s' ⟨t1,kA,e,o1,o2,hk⟩;have e3:kz.take (0+vs.length)=kz:=fJ (by omega);rw[e3]at hk
  try dsimp only
  refine aG (listItems_at o1 rfl ?_);exact aD4 T t1 o1 o2 hka lk la hk hl h128 λh' tk out c J t2 o3 sb ho=>h _ out c J t2 o3 sb ho
def XH{n:Nat}(T:PK Tp lo)(t0:Tp s)(oa:s.heap.get? a=some (seqObj "list" vs.toArray n))(la:lo<=a)(hl:kz.length=vs.length)(h128:vs.length<64)(turn:lB prog w A Tp lo f vs kz)
  (h:∀s' out c J,Tp s'->s'.heap.get? a=some (seqObj "list" out c)->GH vs.length (λi=>kz.getD i 0) J->out.toList=(J.map λi=>vs.getD i .none)->P (.done (.ret .none)) s') :
  wpAny (model prog w) A (ksk_tree a (.ref f) false) P E s:=by
 have hL:(2:Nat)^24=bE:=rfl;have ha:a<s.heap.objs.size:=aV oa;have s1:=eY.update s.heap a (Obj.mapSeq λ_=>(#[]:Array Value));obtain⟨e1,ho1⟩:∃e1,(s.heap.update a (Obj.mapSeq λ_=>(#[]:Array Value))).get? a=some (seqObj "list" #[] e1):=⟨_,get?_update_seq oa λ_=>#[]⟩;have hkS:((s.heap.update a (Obj.mapSeq λ_=>(#[]:Array Value))).push (seqObj "tuple" vs.toArray 0)).objs.size=s.heap.objs.size+1:=by rw[size_push',AN]
 unfold ksk_tree;refine aG (listItems_at oa rfl ?_);refine aG (listUpdate_at oa rfl ?_ (by rw[aX,<- hL];omega) (cT _));refine aG (seqEpoch_at ho1 rfl ?_);refine aG (wpAny_newTuple ?_ (by show vs.length<=_;rw[<- hL];omega));refine aG (wpAny_newList ?_ (cT _));refine wpAny_holding ?_
 exact XI (s:={ s with heap:=((s.heap.update a (Obj.mapSeq λ_=>(#[]:Array Value))).push (seqObj "tuple" vs.toArray 0)).push (seqObj "list" #[] 0) }) (kS:=((s.heap.update a (Obj.mapSeq λ_=>(#[]:Array Value))).push (seqObj "tuple" vs.toArray 0)).objs.size)
  T (T.push { s with heap:=(s.heap.update a (Obj.mapSeq λ_=>(#[]:Array Value))).push (seqObj "tuple" vs.toArray 0) } _ (T.push { s with heap:=s.heap.update a (Obj.mapSeq λ_=>(#[]:Array Value)) } _ (T.up s a _ s.toks t0 la s1)))
  (aR _ rfl) (aC _ (aC _ ho1)) (by rw[hkS];exact iV (qK ha)) (by rw[hkS];exact bK la (iA (qK ha))) la hl h128 turn h
def NV{l:Addr}{Q:Value->Shared->Prop}(T:PK Tp lo)(t0:Tp s)(hl:s.heap.IsList l vs.toArray)(hlo:lo<=s.heap.objs.size)(hlen:kz.length=vs.length)(h128:vs.length<64)(turn:lB prog w A.in1.in1 Tp lo f vs kz)
  (h:∀s' D out c J,Tp s'->s.heap.objs.size<=D->s'.heap.get? D=some (seqObj "list" out c)->GH vs.length (λi=>kz.getD i 0) J->out.toList=(J.map λi=>vs.getD i .none)->Q (.ref D) s') :
  wpAny (model prog w) A (call (.builtin "sorted") [.ref l] [(Str.ofString "key",.ref f)]) Q E s:=by
 have hL:(2:Nat)^24=bE:=rfl;refine call_function_entry_kw kind_sorted plain_sorted entry_sorted (ksk_s1 _ _) ?_;unfold Builtin.«sorted»;refine aG (m:=checkCount "sorted" 1 1 _) (aW ?_);refine aG (collect_list hl ?_ (by rw[<- hL];omega));refine aG (wpAny_newList ?_ (by rw[<- hL];omega))
 have hsz:((s.heap.push (seqObj "list" #[] 0)).update s.heap.objs.size (Obj.mapSeq (·++vs.toArray))).objs.size=s.heap.objs.size+1:=by
  rw[AN,size_push']
 have hoL:(((s.heap.push (seqObj "list" #[] 0)).update s.heap.objs.size (Obj.mapSeq (·++vs.toArray))).push (seqObj "list" vs.toArray 0)).get? (s.heap.objs.size+1)=some (seqObj "list" vs.toArray 0):=by
  rw[<- hsz];exact aR _ rfl
 show wpAny _ _ _ _ _ { s with heap:=((s.heap.push (seqObj "list" #[] 0)).update s.heap.objs.size (Obj.mapSeq (·++vs.toArray))).push (seqObj "list" vs.toArray 0) };rw[hsz];refine aG (wpAny_holding (wpAny_call_entry_kw slot_list_sort ⟨_,hoL,rfl⟩ entry_list_sort ?body (ksk_l1 _ _)))
 case body=>
  show wpAny (model prog w) A.in1.in1 (Builtin.«list.sort» ⟨[.ref (s.heap.objs.size+1)],[(Str.ofString "key",.ref f)]⟩) _ _ _;rw[ksk_t1];have t1:=T.push { s with heap:=(s.heap.push (seqObj "list" #[] 0)).update s.heap.objs.size (Obj.mapSeq (·++vs.toArray)) } (seqObj "list" vs.toArray 0) (T.up { s with heap:=s.heap.push (seqObj "list" #[] 0) } s.heap.objs.size _ s.toks (T.push s (seqObj "list" #[] 0) t0) hlo (eY.update _ _ _));refine XH (s:={ s with heap:=((s.heap.push (seqObj "list" #[] 0)).update s.heap.objs.size (Obj.mapSeq (·++vs.toArray))).push (seqObj "list" vs.toArray 0) }) T t1 hoL (WL hlo) hlen h128 turn λs' out c J t2 o sb ho=>⟨_,rfl,?_⟩;exact aW ⟨_,rfl,h s' _ out c J t2 (PR _) o sb ho⟩
end
end SS
noncomputable section
def L2.tabA:Option PySem.Addr:=some 266
namespace L2
abbrev lB:=Sum Int Str
noncomputable def DX:lB->Value->Bool
|.inl k,v=>Value.isInt k v
|.inr x,v=>Value.isStrOf x v
noncomputable def aMh(w:World):lB->Int
|.inl k=>hashInt k
|.inr x=>hashStr w x
def iR:∀{k v},DX k v=true->(∃i t,k=Sum.inl i/\v=Value.int i t)\/(∃x t,k=Sum.inr x/\v=Value.str x t)
|.inl i,v,h=>by
 obtain⟨t,e⟩:=Value.isInt_shape (k:=i) (v:=v) h;exact .inl ⟨i,t,rfl,e⟩
|.inr x,v,h=>by
 obtain⟨t,e⟩:=Value.isStrOf_shape (x:=x) (v:=v) h;exact .inr ⟨x,t,rfl,e⟩
def OR(i:Int)(t:Tok):DX (.inl i) (.int i t)=true:=by simp[DX,Value.isInt]
def OQ(x:Str)(t:Tok):DX (.inr x) (.str x t)=true:=by simp[DX,Value.isStrOf]
def aFa(a b:Int):decide ((Sum.inl a:lB)=Sum.inl b)=(a==b):=by
 by_cases e:a=b
 ·subst e;simp
 ·have h:¬(Sum.inl a:lB)=Sum.inl b:=λq=>e (Sum.inl.inj q);rw[decide_eq_false h];exact(beq_eq_false_iff_ne.mpr e).symm
def aE6(a b:Str):decide ((Sum.inr a:lB)=Sum.inr b)=decide (a=b):=by
 by_cases e:a=b
 ·subst e;simp
 ·have h:¬(Sum.inr a:lB)=Sum.inr b:=λq=>e (Sum.inr.inj q);rw[decide_eq_false h,decide_eq_false e]
def aE9(a:Int)(b:Str):decide ((Sum.inl a:lB)=Sum.inr b)=false:=decide_eq_false (λq=>nomatch q)
def aE7(a:Str)(b:Int):decide ((Sum.inr a:lB)=Sum.inl b)=false:=decide_eq_false (λq=>nomatch q)
noncomputable def iB(prog:cC)(w:World):PySem.KeyKind prog w lB where
 is:=DX
 hash:=aMh w
 inj:=λv a b ha hb=>by
  rcases iR ha with⟨i,t,rfl,rfl⟩ | ⟨x,t,rfl,rfl⟩
  ·rcases iR hb with⟨j,u,rfl,e⟩ | ⟨y,u,rfl,e⟩
   ·injection e with e1 _;rw[e1]
   ·exact nomatch e
  ·rcases iR hb with⟨j,u,rfl,e⟩ | ⟨y,u,rfl,e⟩
   ·exact nomatch e
   ·injection e with e1 _;rw[e1]
 byValue:=λk v h=>by
  rcases iR h with⟨i,t,rfl,rfl⟩ | ⟨x,t,rfl,rfl⟩<;>rfl
 pyHash:=λhv h=>by
  rcases iR hv with⟨i,t,rfl,rfl⟩ | ⟨x,t,rfl,rfl⟩
  ·exact wpAny_pyHash_int h
  ·exact wpAny_pyHash_str h
 eqBool:=λhu hv h=>by
  rcases iR hu with⟨i,t,rfl,rfl⟩ | ⟨x,t,rfl,rfl⟩
  ·rcases iR hv with⟨j,u,rfl,rfl⟩ | ⟨y,u,rfl,rfl⟩
   ·rw[aFa]at h;exact wpAny_eqBool_int h
   ·rw[aE9]at h;exact SeqAt.EqAt.int_str i t y u _ _ _ _ h
  ·rcases iR hv with⟨j,u,rfl,rfl⟩ | ⟨y,u,rfl,rfl⟩
   ·rw[aE7]at h;exact SeqAt.EqAt.str_int x t j u _ _ _ _ h
   ·rw[aE6]at h;exact wpAny_eqBool_str h
 «strs»:=λk x t v h=>by
  rcases iR h with⟨i,u,rfl,e⟩ | ⟨y,u,rfl,e⟩
  ·exact nomatch e
  ·injection e with e1 _
   subst e1;cases v<;>rfl
def HF(prog:cC)(w:World)(i:Int)(t:Tok):(iB prog w).is (.inl i) (.int i t)=true:=OR i t
def HE(prog:cC)(w:World)(x:Str)(t:Tok):(iB prog w).is (.inr x) (.str x t)=true:=OQ x t
inductive V where
 |non | bl (b:Bool) | int (i:Int) | str (x:Str) | byt (b:Array UInt8) | flt (b:UInt64) | ref (a:Addr) | ty (n:String)
 deriving DecidableEq
def eZ:V->Value->Prop
|.non,u=>u=Value.none
|.bl b,u=>u=Value.bool b
|.int i,u=>∃t,u=Value.int i t
|.str x,u=>∃t,u=Value.str x t
|.byt b,u=>∃t,u=Value.bytes b t
|.flt b,u=>∃t,u=Value.float b t
|.ref a,u=>u=Value.ref a
|.ty n,u=>u=Value.type n
abbrev eW:List V->List Value->Prop:=Paired eZ
theorem eW.length{xs:List V}{us:List Value}(r:eW xs us):xs.length=us.length:=Paired.length r
theorem eW.get:∀{xs us}{i:Nat}{x},eW xs us->xs[i]?=some x->∃u,us[i]?=some u/\eZ x u
|_,_,_,_,.nil,e=>by simp at e
|_,_,0,_,.cons r _,e=>by simp at e;subst e;exact⟨_,rfl,r⟩
|_,_,i+1,x,.cons _ t,e=>by
 obtain⟨u,h1,h2⟩:=eW.get (i:=i) (x:=x) t (by simpa using e);exact⟨u,by simpa using h1,h2⟩
theorem eW.set{x u}(r:eZ x u):∀{xs:List V}{us:List Value}(i:Nat),eW xs us->eW (xs.set i x) (us.set i u)
|_,_,_,.nil=>.nil
|_,_,0,.cons _ t=>.cons r t
|_,_,i+1,.cons q t=>.cons q (eW.set r i t)
theorem eW.append:∀{xs ys us ws},eW xs us->eW ys ws->eW (xs++ys) (us++ws)
|_,_,_,_,.nil,s=>s
|_,_,_,_,.cons r t,s=>.cons r (eW.append t s)
theorem eW.take:∀{xs:List V}{us:List Value}(n:Nat),eW xs us->eW (xs.take n) (us.take n)
|_,_,0,_=>.nil
|_,_,_+1,.nil=>.nil
|_,_,n+1,.cons r t=>.cons r (eW.take n t)
theorem eW.drop:∀{xs:List V}{us:List Value}(n:Nat),eW xs us->eW (xs.drop n) (us.drop n)
|_,_,0,r=>r
|_,_,_+1,.nil=>.nil
|_,_,n+1,.cons _ t=>eW.drop n t
def sP:Option V->Option Value->Prop
|some v,some u=>eZ v u
|none,none=>True
|_,_=>False
def KV{κ:Type}:List (κ×V)->List (κ×Value)->Prop:=Paired λ(p:κ×V) (q:κ×Value)=>p.1=q.1/\eZ p.2 q.2
noncomputable def kV:lB->V
|.inl i=>.int i
|.inr x=>.str x
inductive HO where
 /-- a list -/
 |lst (xs:List V)
 /-- a tuple (never changes) -/
 |tup (xs:List V)
 /-- a dict whose keys are ints and texts;one whose keys are tuples of ints and texts (the empty one is both) -/
 |dK (kvs:List (lB×V)) | dT (kvs:List (List lB×V))
 /-- a set of ints: its members,its size -/
 |set (S:Int->Bool) (n:Nat)
 /-- an instance of the class at C,its dict at dx,its attributes -/
 |ins (C dx:Addr) (fs:List (Str×V))
 /-- the dict of the instance at x -/
 |own (x:Addr)
 /-- the dict of an exception -/
 |xd (fs:List (Str×V))
 /-- a bound method,f of x -/
 |met (f x:Addr)
 /-- a range object lo,lo+1,.. below hi -/
 |rng (lo hi:Int)
 /-- a thing that is known to the object (the script;a dict while a loop walks it): read,never written while it is so -/
 |frz (o:Obj) (u:HO)
 /-- a code object's table -/
 |tbl (ps:Array Value)
 /-- any other thing,by what is true of its one object (a def of one's own: SetO a S n:=HO.ext λh=>..) -/
 |ext (φ:Heap->Prop)
abbrev Hp:=Addr->Option HO
noncomputable def eS(H:Hp)(a:Addr)(o:HO):Hp:=λb=>if b=a then some o else H b
def bS{H}{a:Addr}{o}:eS H a o a=some o:=by unfold eS;rw[if_pos rfl]
def bT{H}{a b:Addr}{o}(h:b≠a):eS H a o b=H b:=by unfold eS;rw[if_neg h]
def zO{H}{a:Addr}{o u}:eS (eS H a o) a u=eS H a u:=by
 funext b;unfold eS;split<;>rfl
def aJl{H:Hp}{a b:Addr}{o u:HO}(h:H a=some o)(h':H b=some u)(d:o≠u):a≠b:=by
 intro e;subst e;rw[h]at h';exact d (Option.some.inj h')
def eJ{H:Hp}{a b:Addr}{o:HO}(h:H a=some o)(h':H b=none):a≠b:=by
 intro e;subst e;rw[h]at h';cases h'
section
variable(P:cC)(w:World)
def C6(h:Heap)(a:Addr)(items:Array Value):Prop:=∃o,h.get? a=some o/\o.cls=.type "tuple"/\∃n,o.data=.seq items n/\o.dict=none
def C6.tup{h}{a:Addr}{items}(x:C6 h a items):IsTup h a items:=let ⟨o,e,c,n,d,_⟩:=x;⟨o,e,c,n,d⟩
theorem C6.lt{h:Heap}{a:Addr}{items}(x:C6 h a items):a<h.objs.size:=x.tup.lt
def C6.new(h:Heap)(items:Array Value):C6 (h.push { cls:=.type "tuple",data:=.seq items }) h.objs.size items:=⟨_,aR _ rfl,rfl,_,rfl,rfl⟩
def V7(oc:Obj):Prop:=∃(vs:Array Value)(q:Str)(t:Tok),oc.data=.fields vs/\vs[1]?=some (.str q t)
def iE(H:Hp)(h:Heap)(a:Addr):HO->Prop
|.lst xs=>xs.length<=bE/\∃(its:List Value)(n:Nat),eW xs its/\h.get? a=some { cls:=.type "list",data:=.seq its.toArray n }
|.tup xs=>xs.length<=bE/\∃its:List Value,eW xs its/\C6 h a its.toArray
|.dK kvs=>kvs.length<=bE/\(a==sysModules)=false/\∃vs,KV kvs vs/\h.DictOf (iB P w) a vs
|.dT kvs=>kvs.length<=bE/\(a==sysModules)=false/\∃xs:List (List lB×Addr×Value),
  Paired (λ(p:List lB×V) (q:List lB×Addr×Value)=>p.1=q.1/\H q.2.1=some (.tup (p.1.map kV))/\eZ p.2 q.2.2) kvs xs /\
  ∃o es ep,h.get? a=some o/\o.ExactDict/\o.data=.dict es ep/\es.toList=xs.map (entryOfKey (tupleKind (iB P w)))/\(xs.map (·.1)).Nodup
|.set S n=>h.SetOf (intKind P w) a S n
|.ins C dx fs=>H dx=some (.own a)/\fs.length<=1000/\dx≠a/\h.get? a=some (jC C dx) /\
  ∃mA,h.Ns1 dx mA/\(∀f,sP (fs.lookup f) (mA f))/\PySem.Within mA (fs.map (·.1))
|.own _=>∃o,h.get? a=some o
|.xd fs=>∃mA,h.Ns1 a mA/\∀f,sP (fs.lookup f) (mA f)
|.rng lo hi=>∃t u v,h.get? a=some { cls:=.type "range",data:=.fields #[.int lo t,.int hi u,.int 1 v] }
|.frz o u=>h.get? a=some o/\iE H h a u
|.tbl _=>∃qs:Array Value,h.get? a=some { cls:=.none,data:=.fields qs }/\TriplesOk qs.toList/\∀(p:Pos)(c:Value),codeAmong p qs.toList=some c->∃c' oc,c=.ref c'/\H c'=some (.frz oc (.own a))/\V7 oc
|.met f x=>h.get? a=some (wX (.ref f) (.ref x))
|.ext φ=>φ h/\(∃o,h.get? a=some o)/\∀h1 h2:Heap,φ h1->(∀o,h1.get? a=some o->h2.get? a=some o)->φ h2
def oF(H:Hp)(h:Heap):Prop:=∀a o,H a=some o->iE P w H h a o
end
section
variable{P:cC}{w:World}{H H':Hp}{h h':Heap}{a:Addr}{o:HO}
theorem iE.lt(x:iE P w H h a o):a<h.objs.size:=by
 cases o with
 |lst xs=>obtain⟨_,_,_,_,e⟩:=x;exact aV e
 |tup xs=>obtain⟨_,_,_,p⟩:=x;exact p.lt
 |dK kvs=>obtain⟨_,_,_,_,o,_,_,e,_⟩:=x;exact aV e
 |dT kvs=>obtain⟨_,_,_,_,o,_,_,e,_⟩:=x;exact aV e
 |set S n=>obtain⟨o,_,_,_,e,_⟩:=x;exact aV e
 |ins C dx fs=>obtain⟨_,_,_,e,_⟩:=x;exact aV e
 |own y=>obtain⟨_,e⟩:=x;exact aV e
 |xd fs=>obtain⟨_,⟨_,_,_,e,_⟩,_⟩:=x;exact aV e
 |rng lo hi=>obtain⟨_,_,_,e⟩:=x;exact aV e
 |frz ob u=>obtain⟨e,_⟩:=x;exact aV e
 |tbl ps=>obtain⟨_,e,_⟩:=x;exact aV e
 |met f y=>exact aV (show h.get? a=some _ from x)
 |ext φ=>obtain⟨_,⟨_,e⟩,_⟩:=x;exact aV e
theorem Paired.mapP{α β:Type}{F G:α->β->Prop}:∀{l₁ l₂},Paired F l₁ l₂->(∀a b,F a b->G a b)->Paired G l₁ l₂
|_,_,.nil,_=>.nil
|_,_,.cons r t,f=>.cons (f _ _ r) (Paired.mapP t f)
def iE.stay(x:iE P w H h a o)(k:∀b u,(b=a\/H b=some (.own a))->h.get? b=some u->h'.get? b=some u)
  (ho:∀b,H b=some (.own a)->H' b=some (.own a)) (ht:∀b xs,H b=some (.tup xs)->H' b=some (.tup xs)) (hf:∀b ob u,H b=some (.frz ob u)->H' b=some (.frz ob u):=by exactλ_ _ _ q=>q):iE P w H' h' a o:=by
 induction o with
 |lst xs=>obtain⟨z,its,n,r,e⟩:=x;exact⟨z,its,n,r,k _ _ (.inl rfl) e⟩
 |tup xs=>obtain⟨z,its,r,ob,e,c⟩:=x;exact⟨z,its,r,ob,k _ _ (.inl rfl) e,c⟩
 |dK kvs=>obtain⟨z,y,vs,r,ob,es,ep,e,c⟩:=x;exact⟨z,y,vs,r,ob,es,ep,k _ _ (.inl rfl) e,c⟩
 |dT kvs=>
  obtain⟨z,y,xs,r,ob,es,ep,e,c⟩:=x;exact⟨z,y,xs,Paired.mapP r λp q z=>⟨z.1,ht _ _ z.2.1,z.2.2⟩,ob,es,ep,k _ _ (.inl rfl) e,c⟩
 |set S n=>obtain⟨ob,es,ep,t,e,c⟩:=x;exact⟨ob,es,ep,t,k _ _ (.inl rfl) e,c⟩
 |ins C dx fs=>
  obtain⟨d,z,ne,e,mA,⟨od,es,ep,e2,c⟩,r⟩:=x;exact⟨ho _ d,z,ne,k _ _ (.inl rfl) e,mA,⟨od,es,ep,k _ _ (.inr d) e2,c⟩,r⟩
 |own y=>obtain⟨ob,e⟩:=x;exact⟨ob,k _ _ (.inl rfl) e⟩
 |xd fs=>obtain⟨mA,⟨od,es,ep,e,c⟩,r⟩:=x;exact⟨mA,⟨od,es,ep,k _ _ (.inl rfl) e,c⟩,r⟩
 |rng lo hi=>obtain⟨t,u,v,e⟩:=x;exact⟨t,u,v,k _ _ (.inl rfl) e⟩
 |frz ob u ih=>obtain⟨e,q⟩:=x;exact⟨k _ _ (.inl rfl) e,ih q⟩
 |tbl ps=>
  obtain⟨qs,e,t,z⟩:=x;exact⟨qs,k a _ (.inl rfl) e,t,λp c q=>let ⟨c',oc,h1,h2,h3⟩:=z p c q;⟨c',oc,h1,hf _ _ _ h2,h3⟩⟩
 |met f y=>
  have e:h.get? a=some (wX (.ref f) (.ref y)):=x;show h'.get? a=some (wX (.ref f) (.ref y));exact k a _ (.inl rfl) e
 |ext φ=>obtain⟨p,⟨o,e⟩,st⟩:=x;exact⟨st _ _ p λo q=>k _ _ (.inl rfl) q,⟨o,k _ _ (.inl rfl) e⟩,st⟩
theorem oF.lt(x:oF P w H h)(e:H a=some o):a<h.objs.size:=(x a o e).lt
def oF.fresh(x:oF P w H h)(e:h.objs.size<=a):H a=none:=by
 cases q:H a with
 |none=>rfl
 |some u=>exact absurd (bR (x.lt q) e) (eK _)
def oF.kept(x:oF P w H h)(k:∀b u,h.get? b=some u->h'.get? b=some u):oF P w H h':=λa o e=>
 (x a o e).stay (λb u _ q=>k b u q) (λ_ q=>q) λ_ _ q=>q
def oF.laid(x:oF P w H h)(k:∀b u,h.get? b=some u->h'.get? b=some u)(hp:h.objs.size<=a)(new:iE P w (eS H a o) h' a o):oF P w (eS H a o) h':=λb u e=>by
 have hn:=x.fresh hp;by_cases hb:b=a
 ·subst hb;rw[bS]at e;cases e;exact new
 ·rw[bT hb]at e;exact(x b u e).stay (λc v _ q=>k c v q) (λc q=>by rw[bT (eJ q hn)];exact q) (λc xs q=>by rw[bT (eJ q hn)];exact q) λc ob v q=>by rw[bT (eJ q hn)];exact q
end
def Rd(H:Hp)(a:Addr)(u:HO):Prop:=H a=some u\/∃o,H a=some (.frz o u)
def Rd.ok{P w H h}{a:Addr}{u}(r:Rd H a u)(x:oF P w H h):iE P w H h a u:=by
 rcases r with r | ⟨o,r⟩
 ·exact x a u r
 ·obtain⟨_,q⟩:=x a _ r;exact q
def Mut:Option HO->Prop
|some (.lst _)=>True
|some (.dK _)=>True
|some (.dT _)=>True
|some (.set _ _)=>True
|some (.ins _ _ _)=>True
|some (.ext _)=>True
|_=>False
section
variable{P:cC}{w:World}{H:Hp}{h h':Heap}{x e:Addr}{o':HO}
def oF.write(ok:oF P w H h)(mu:Mut (H x))(he:e=x\/H e=some (.own x))(k:∀b u,b≠e->h.get? b=some u->h'.get? b=some u)(heo:∃u,h'.get? e=some u)
  (new:iE P w (eS H x o') h' x o'):oF P w (eS H x o') h':=λb u q=>by
 have nown:∀c y,H c=some (.own y)->c≠x:=λc y r z=>by subst z;rw[r]at mu;exact mu
 have ntup:∀c xs,H c=some (.tup xs)->c≠x:=λc xs r z=>by subst z;rw[r]at mu;exact mu
 by_cases hb:b=x
 ·subst hb;rw[bS]at q;cases q;exact new
 ·rw[bT hb]at q;by_cases hbe:b=e
  ·have q':H b=some (.own x):=by
    rcases he with z | z
    ·exact absurd (hbe.trans z) hb
    ·rw[hbe];exact z
   rw[q]at q';cases q';obtain⟨v,hv⟩:=heo;exact⟨v,by rw[hbe];exact hv⟩
  ·refine(ok b u q).stay (λc v hc r=>k c v ?_ r) (λc r=>by rw[bT (nown c b r)];exact r) (λc xs r=>by rw[bT (ntup c xs r)];exact r) λc ob v r=>by rw[bT (λz=>by subst z;rw[r]at mu;exact mu)];exact r
   rcases hc with rfl | hc
   ·exact hbe
   ·rintro rfl;rcases he with z | z
    ·exact nown c b hc z
    ·rw[hc]at z;cases z;exact hb rfl
end
structure Un(fs ex:List Addr)(H H':Hp)(h h':Heap):Prop where
 keep:∀b o,h.get? b=some o->H b=none->b∉fs->b∉ex->h'.get? b=some o
 slot:∀b o,h.get? b=some o->H b=none->b∈fs->b∉ex->∃sl,h'.get? b=some { o with slots:=sl }
 free:∀b o,h.get? b=some o->H b=none->b∉ex->H' b=none
 there:∀b o,h.get? b=some o->b∉ex->∃o',h'.get? b=some o'
 tups:∀b xs,H b=some (.tup xs)->H' b=some (.tup xs)
 frzs:∀b o u,H b=some (.frz o u)->H' b=some (.frz o u)
 tbls:∀b ps,H b=some (.tbl ps)->∃more,H' b=some (.tbl (ps++more))
section
variable{fs ex:List Addr}{H H1 H2:Hp}{h h1 h2 h':Heap}{a x e:Addr}{o:HO}
def Un.any(u:Un fs ex H H1 h h1){b:Addr}{ob}(q:h.get? b=some ob)(n:H b=none)(hx:b∉ex):∃sl,h1.get? b=some { ob with slots:=sl }:=by
 by_cases hb:b∈fs
 ·exact u.slot b ob q n hb hx
 ·exact⟨ob.slots,u.keep b ob q n hb hx⟩
def Un.trans(a:Un fs ex H H1 h h1)(b:Un fs ex H1 H2 h1 h2):Un fs ex H H2 h h2 where
 keep:=λc ob q n hc hx=>b.keep c ob (a.keep c ob q n hc hx) (a.free c ob q n hx) hc hx
 slot:=λc ob q n hc hx=>by
  obtain⟨sl,e1⟩:=a.slot c ob q n hc hx;obtain⟨sl',e2⟩:=b.slot c _ e1 (a.free c ob q n hx) hc hx;exact⟨sl',e2⟩
 free:=λc ob q n hx=>by
  obtain⟨o',e1⟩:=a.there c ob q hx;exact b.free c o' e1 (a.free c ob q n hx) hx
 there:=λc ob q hx=>by
  obtain⟨o',e1⟩:=a.there c ob q hx;exact b.there c o' e1 hx
 tups:=λc xs q=>b.tups c xs (a.tups c xs q)
 frzs:=λc ob xs q=>b.frzs c ob xs (a.frzs c ob xs q)
 tbls:=λc ps q=>by
  obtain⟨m1,e1⟩:=a.tbls c ps q;obtain⟨m2,e2⟩:=b.tbls c _ e1;exact⟨m1++m2,by rw[e2,P2]⟩
def Un.kept(k:∀b u,h.get? b=some u->h'.get? b=some u):Un fs ex H H h h':=
 ⟨λb ob q _ _ _=>k b ob q,λb ob q _ _ _=>⟨ob.slots,k b ob q⟩,λ_ _ _ n _=>n,λb ob q _=>⟨ob,k b ob q⟩,λ_ _ q=>q,λ_ _ _ q=>q,λ_ ps q=>⟨#[],by rw[q];simp⟩⟩
def Un.refl:Un fs ex H H h h:=Un.kept λ_ _ q=>q
def Un.laid(k:∀b u,h.get? b=some u->h'.get? b=some u)(hp:h.objs.size<=a)(hn:H a=none):Un fs ex H (eS H a o) h h' where
 keep:=λb u q _ _ _=>k b u q
 slot:=λb u q _ _ _=>⟨u.slots,k b u q⟩
 free:=λb u q n _=>by rw[bT (cO (bR (aV q) hp))];exact n
 there:=λb u q _=>⟨u,k b u q⟩
 tups:=λb xs q=>by rw[bT (eJ q hn)];exact q
 frzs:=λb u xs q=>by rw[bT (eJ q hn)];exact q
 tbls:=λb ps q=>⟨#[],by rw[bT (eJ q hn),q];simp⟩
def Un.write(mu:Mut (H x))(he:e=x\/H e=some (.own x))(k:∀b u,b≠e->h.get? b=some u->h'.get? b=some u)(heo:∃u,h'.get? e=some u):Un fs ex H (eS H x o) h h':=by
 have hx:∀b,H b=none->b≠x:=λb n z=>by subst z;rw[n]at mu;exact mu
 have hb:∀b,H b=none->b≠e:=λb n z=>by
  subst z;rcases he with r | r
  ·exact hx b n r
  ·rw[n]at r;cases r
 have hm:∀b u,H b=some u->¬Mut (some u)->b≠x:=λb u q nm z=>by subst z;rw[q]at mu;exact nm mu
 refine⟨λb u q n _ _=>k b u (hb b n) q,λb u q n _ _=>⟨u.slots,k b u (hb b n) q⟩,λb u q n _=>by rw[bT (hx b n)];exact n,λb u q _=>?_,
  λb xs q=>by rw[bT (hm b _ q λz=>z)];exact q,λb u xs q=>by rw[bT (hm b _ q λz=>z)];exact q,λb ps q=>⟨#[],by rw[bT (hm b _ q λz=>z),q];simp⟩⟩
 by_cases hbe:b=e
 ·subst hbe;exact heo
 ·exact⟨u,k b u hbe q⟩
end
noncomputable def trk(h:Heap)(H:Hp):List Addr:=(fQ h.objs.size).filter λa=>(H a).isSome
noncomputable def FK(h:Heap)(H:Hp):Heap:=PySem.W.hideAll h (trk h H)
def OV(h:Heap)(H:Hp):(FK h H).objs.size=h.objs.size:=PySem.W.hideAll_size _ _
def UX{h:Heap}{H}{b:Addr}{o}(e:h.get? b=some o)(n:H b=none):(FK h H).get? b=some o:=
 PySem.W.hideAll_get _ e λhm=>by
  have q:(H b).isSome=true:=(cU.mp hm).2;rw[n]at q;simp at q
def YI{h:Heap}{H:Hp}{b:Addr}{o}(e:(FK h H).get? b=some o):h.get? b=some o/\H b=none:=by
 have e':h.get? b=some o:=PySem.W.of_hideAll (trk h H) e;refine⟨e',?_⟩
 cases q:H b with
 |none=>rfl
 |some x=>
  have hm:b∈trk h H:=cU.mpr ⟨pJ.mpr (aV e'),by simp[q]⟩;have z:(FK h H).get? b=none:=PySem.W.hideAll_none (trk h H) hm;rw[z]at e;cases e
noncomputable def ZS(g h:Heap)(L:Addr):List (Addr×Obj):=(fQ h.objs.size).filterMap λa=>if a=L\/(g.get? a).isSome=true then none else(h.get? a).map λo=>(a,o)
noncomputable def kD(g h:Heap)(L d:Addr):List (Addr×Obj):=(ZS g h L).filter λp=>decide (p.1≠d)
structure Mod(K:aF)(mg:Str->Option Value)(base:Heap):Prop where
 kin:K.In base
 glob:base.Ns dS mg
 blt:∃mb,base.Ns builtinsNs mb/\∀x:Str,x≠"__name__"->mb x=bootBuiltins x
 nolimit:base.NoLimit
 bmod:∃bm o,mg "__builtins__"=some (.ref bm)/\bm≠builtinsNs/\base.get? bm=some o/\o.cls=.type "module"/\o.dict=some builtinsNs/\o.data=.plain
structure Cx where
 prog:cC
 w:World
 K:aF
 mg:Str->Option Value
 base:Heap
 A:Around
 N:List Str
 s₀:Shared
 H₀:Hp
 env:Env
 outer:List Env
 stack:List Env
 ex:List Addr
 fn:Str->Bool
 calm:Bool
 pn:List (Addr×Obj)
 xe:Value->Shared->Prop
noncomputable def oE(l:List Env):List Addr:=l.filterMap (·.frame)
noncomputable abbrev Cx.fs(X:Cx):List Addr:=oE X.outer
def Vis(sc:Scope)(x:Str):Prop:=sc.names.lookup x=some .local\/sc.names.lookup x=some .cell\/sc.names.lookup x=some .free
def QA(sc:Scope)(x:Str):Prop:=sc.names.lookup x=some .local\/sc.names.lookup x=some .cell
def aM8(env:Env)(h:Heap)(m:Str->Option Value)(x:Str)(u:Value):Prop:=
 (env.kindOf x=some .local/\m x=some u)\/((env.kindOf x=some .cell\/env.kindOf x=some .free)/\∃c,env.cells.lookup x=some c/\h.IsCell c (some u))
def Tb(H:Hp):Prop:=∀P,tabA=some P->∃ps,H P=some (.tbl ps)
structure Cx.Ok(X:Cx):Prop where
 mod:Mod X.K X.mg X.base
 kind:X.env.scope.kind=.function
 glob:X.env.globals=dS
 blt:X.env.builtins=builtinsNs
 above:X.s₀.heap.objs.size<=X.env.locals
 inj:∀x y c,X.env.cells.lookup x=some c->X.env.cells.lookup y=some c->x=y
 has:∀x,(X.env.kindOf x=some .cell\/X.env.kindOf x=some .free)->∃c,X.env.cells.lookup x=some c
 cab:∀x c,X.fn x=true->X.env.cells.lookup x=some c->X.s₀.heap.objs.size<=c
 hd:X.calm=true->X.A.handled=none
 frames:X.A.frames=some X.stack
 stk:X.stack=X.outer\/(X.stack=X.env::X.outer/\X.env.frame=some X.env.locals)
 exf:∀b∈X.ex,b≠X.env.locals/\∀x c,X.env.cells.lookup x=some c->c≠b
 bs:∀b o,X.base.get? b=some o->X.s₀.heap.get? b=some o/\X.H₀ b=none
 bsz:X.base.objs.size<=X.s₀.heap.objs.size
 noex:∀b o,X.base.get? b=some o->b∉X.ex
 exfs:∀b∈X.ex,b∉X.fs
 funs:X.s₀.heap.FunFrames X.base X.outer
 frf:∀b∈X.fs,X.H₀ b=none
 tab:Tb X.H₀
structure cN(X:Cx)(pins:List (Addr×Obj))(σ:List (Option V))(H:Hp)(s:Shared):Prop where
 ok:X.Ok
 os:s.os=X.s₀.os
 bare:AllBare s.gens
 base:Un X.fs X.ex X.H₀ H X.s₀.heap s.heap
 loc:∃m,s.heap.Ns X.env.locals m/\∀(i:Nat)(x:Str)(v:V),X.N[i]?=some x->σ[i]?=some (some v)->Vis X.env.scope x->∃u,eZ v u/\aM8 X.env s.heap m x u
 cell:∀x c,X.env.cells.lookup x=some c->∃v,s.heap.IsCell c v
 free:H X.env.locals=none
 freeC:∀x c,X.env.cells.lookup x=some c->H c=none
 pin:∀p∈X.pn++pins,s.heap.get? p.1=some p.2/\H p.1=none/\p.1≠X.env.locals/\p.1∉X.fs/\∀v,p.2.data≠.cell v
 hok:oF X.prog X.w H s.heap
 len:σ.length=X.N.length
section
variable{X:Cx}{pins:List (Addr×Obj)}{σ:List (Option V)}{H H':Hp}{s:Shared}{h':Heap}
def Cx.Ok.nofr(ok:X.Ok){b:Addr}{o}(e:X.base.get? b=some o):b∉X.fs:=λhb=>by
 have:=(ok.funs.mem hb).1;rw[e]at this;cases this
theorem cN.bs(I:cN X pins σ H s):∀b o,X.base.get? b=some o->s.heap.get? b=some o/\H b=none:=λb o e=>
 ⟨I.base.keep b o (I.ok.bs b o e).1 (I.ok.bs b o e).2 (I.ok.nofr e) (I.ok.noex b o e),I.base.free b o (I.ok.bs b o e).1 (I.ok.bs b o e).2 (I.ok.noex b o e)⟩
def cN.bk(I:cN X pins σ H s):∀b o,X.base.get? b=some o->s.heap.get? b=some o:=λb o e=>(I.bs b o e).1
theorem cN.mod(I:cN X pins σ H s):Mod X.K X.mg X.base:=I.ok.mod
def cN.kIn(I:cN X pins σ H s):X.K.In s.heap:=I.ok.mod.kin.keeps I.bk
theorem cN.nolimit(I:cN X pins σ H s):s.heap.NoLimit:=I.ok.mod.nolimit.keeps I.bk
theorem cN.lt(I:cN X pins σ H s):X.env.locals<s.heap.objs.size:=let ⟨_,hn,_⟩:=I.loc;hn.lt
def cN.sz(I:cN X pins σ H s):X.s₀.heap.objs.size<=s.heap.objs.size:=bK I.ok.above (iA I.lt)
def cN.nofs(I:cN X pins σ H s){a:Addr}(h:s.heap.objs.size<=a):a∉X.fs:=λhb=>by
 obtain⟨_,o,ho,_⟩:=I.ok.funs.mem hb;exact absurd (bR (aV ho) (bK I.sz h)) (eK _)
def cN.cne(I:cN X pins σ H s):∀x c,X.env.cells.lookup x=some c->c≠X.env.locals:=λx c e z=>by
 obtain⟨v,o,ho,hd⟩:=I.cell x c e;obtain⟨m,⟨o',es,ep,ho',hd',_⟩,_⟩:=I.loc;rw[z,ho']at ho;cases ho;rw[hd']at hd;cases hd
theorem cN.funs(I:cN X pins σ H s):s.heap.FunFrames X.base X.outer:=by
 have all:∀l,(∀b∈oE l,b∈X.fs)->X.s₀.heap.FunFrames X.base l->s.heap.FunFrames X.base l:=by
  intro l
  induction l with
  |nil=>intro _ _;trivial
  |cons env r ih=>
   intro hs hl;obtain⟨hk,⟨L,o,hf,hn,ho,hd⟩,hr⟩:=hl;have hL:L∈X.fs:=hs L (by unfold oE;rw[jV,hf];exact aL);obtain⟨sl,e⟩:=I.base.slot L o ho (I.ok.frf L hL) hL λz=>I.ok.exfs L z hL;exact⟨hk,⟨L,_,hf,hn,e,hd⟩,ih (λb hb=>hs b (by unfold oE;rw[jV,hf];exact aI _ hb)) hr⟩
 exact all X.outer (λ_ hb=>hb) I.ok.funs
theorem cN.stack(I:cN X pins σ H s):s.heap.FunFrames X.base X.stack:=by
 rcases I.ok.stk with e | ⟨e,hf⟩
 ·rw[e];exact I.funs
 ·rw[e];obtain⟨m,hn,_⟩:=I.loc;refine .cons (by rw[I.ok.kind];decide) hf hn ?_ I.funs;exact lH (bK I.ok.bsz I.ok.above)
def cN.stkSub(I:cN X pins σ H s):∀b∈oE X.stack,b∈X.env.locals::X.fs:=λb hb=>by
 rcases I.ok.stk with e | ⟨e,hf⟩
 ·rw[e]at hb;exact aI _ hb
 ·rw[e]at hb;unfold oE at hb;rw[jV,hf]at hb;exact hb
def cN.stkFree(I:cN X pins σ H s):∀b∈oE X.stack,H b=none:=λb hb=>by
 rcases aN.mp (I.stkSub b hb)with e | hb
 ·rw[e];exact I.free
 ·obtain⟨_,o,ho,_⟩:=I.ok.funs.mem hb;exact I.base.free b o ho (I.ok.frf b hb) λz=>I.ok.exfs b z hb
def cN.step{g':Array GenState}{t':Nat}{d':Drawn}{ch:List Addr}(I:cN X pins σ H s)
  (hch:∀b∈ch,(b∈X.ex\/X.s₀.heap.objs.size<=b)/\b≠X.env.locals/\(∀x c,X.env.cells.lookup x=some c->c≠b)/\∀p∈X.pn++pins,p.1≠b)
  (keep:∀b o,b≠X.env.locals->b∉X.fs->b∉ch->s.heap.get? b=some o->H b=none->h'.get? b=some o)
  (slot:∀b o,b≠X.env.locals->b∈X.fs->b∉ch->s.heap.get? b=some o->H b=none->∃sl,h'.get? b=some { o with slots:=sl }) (free:∀b o,b∉ch->s.heap.get? b=some o->H b=none->H' b=none)
  (there:∀b o,b∉ch->s.heap.get? b=some o->∃o',h'.get? b=some o')
  (tups:∀b xs,H b=some (.tup xs)->H' b=some (.tup xs)) (frzs:∀b o u,H b=some (.frz o u)->H' b=some (.frz o u)) (tbls:∀b ps,H b=some (.tbl ps)->∃more,H' b=some (.tbl (ps++more)))
  (ns:∀m,s.heap.Ns X.env.locals m->h'.Ns X.env.locals m) (hok:oF X.prog X.w H' h') (hg:AllBare g') :
  cN X pins σ H' { s with heap:=h',gens:=g',drawn:=d',toks:=t' }:=by
 have neL:∀b o,X.s₀.heap.get? b=some o->b≠X.env.locals:=λb o e=>cO (bR (aV e) I.ok.above)
 have neC:∀b o,X.s₀.heap.get? b=some o->b∉X.ex->b∉ch:=λb o e hx hb=>by
  rcases(hch b hb).1 with z | z
  ·exact hx z
  ·exact absurd (bR (aV e) z) (eK _)
 have cellK:∀x c,X.env.cells.lookup x=some c->∀v,s.heap.IsCell c v->h'.IsCell c v:=λx c e v ⟨o,ho,hd⟩=>by
  have nch:c∉ch:=λz=>(hch c z).2.2.1 x c e rfl;by_cases hc:c∈X.fs
  ·obtain⟨sl,q⟩:=slot c o (I.cne x c e) hc nch ho (I.freeC x c e);exact⟨_,q,hd⟩
  ·exact⟨o,keep c o (I.cne x c e) hc nch ho (I.freeC x c e),hd⟩
 refine⟨I.ok,I.os,hg,⟨λb o e n hb hx=>?_,λb o e n hb hx=>?_,λb o e n hx=>?_,λb o e hx=>?_,λb xs e=>tups b xs (I.base.tups b xs e),λb o xs e=>frzs b o xs (I.base.frzs b o xs e),λb ps e=>?_⟩,?_,λx c e=>?_,?_,λx c e=>?_,λp hp=>?_,hok,I.len⟩
 ·exact keep b o (neL b o e) hb (neC b o e hx) (I.base.keep b o e n hb hx) (I.base.free b o e n hx)
 ·obtain⟨sl,e1⟩:=I.base.slot b o e n hb hx;obtain⟨sl',e2⟩:=slot b _ (neL b o e) hb (neC b o e hx) e1 (I.base.free b o e n hx);exact⟨sl',e2⟩
 ·obtain⟨o',e1⟩:=I.base.there b o e hx;exact free b o' (neC b o e hx) e1 (I.base.free b o e n hx)
 ·obtain⟨o',e1⟩:=I.base.there b o e hx;exact there b o' (neC b o e hx) e1
 ·obtain⟨m1,e1⟩:=I.base.tbls b ps e;obtain⟨m2,e2⟩:=tbls b _ e1;exact⟨m1++m2,by rw[e2,P2]⟩
 ·obtain⟨m,hn,hl⟩:=I.loc;refine⟨m,ns m hn,λi x v e1 e2 e3=>?_⟩;obtain⟨u,r,l⟩:=hl i x v e1 e2 e3;refine⟨u,r,?_⟩;rcases l with l | ⟨k,c,e,z⟩
  ·exact .inl l
  ·exact .inr ⟨k,c,e,cellK x c e _ z⟩
 ·obtain⟨v,z⟩:=I.cell x c e;exact⟨v,cellK x c e v z⟩
 ·obtain⟨m,⟨o,_,_,ho,_⟩,_⟩:=I.loc;exact free _ o (λz=>(hch _ z).2.1 rfl) ho I.free
 ·obtain⟨v,o,ho,hd⟩:=I.cell x c e;exact free c o (λz=>(hch c z).2.2.1 x c e rfl) ho (I.freeC x c e)
 ·obtain⟨e,n,ne,nf,d⟩:=I.pin p hp;have nch:p.1∉ch:=λz=>(hch p.1 z).2.2.2 p hp rfl;exact⟨keep p.1 p.2 ne nf nch e n,free p.1 p.2 nch e n,ne,nf,d⟩
def cN.un{t':Nat}(I:cN X pins σ H s)(u:Un X.fs [] H H' s.heap h')(hok:oF X.prog X.w H' h'):cN X pins σ H' { s with heap:=h',toks:=t' }:=by
 obtain⟨m,⟨o,es,ep,ho,r⟩,_⟩:=id I.loc;obtain⟨sl,hL⟩:=u.any ho I.free (by simp)
 exact I.step (g':=s.gens) (d':=s.drawn) (ch:=[]) (λ_ z=>nomatch z) (λb o _ hb _ e n=>u.keep b o e n hb (by simp)) (λb o _ hb _ e n=>u.slot b o e n hb (by simp)) (λb o _ e n=>u.free b o e n (by simp)) (λb o _ e=>u.there b o e (by simp)) u.tups u.frzs u.tbls (λm' hm=>by
  obtain⟨o',es',ep',ho',r'⟩:=hm;rw[ho]at ho';cases ho';exact⟨_,es',ep',hL,r'⟩) hok I.bare
def cN.call{g':Array GenState}{t':Nat}{d':Drawn}{ch:List Addr}(I:cN X pins σ H s)(u:Un (oE X.stack) ch H H' s.heap h')(hok:oF X.prog X.w H' h')(hg:AllBare g')
  (hch:∀b∈ch,(b∈X.ex\/X.s₀.heap.objs.size<=b)/\b≠X.env.locals/\(∀x c,X.env.cells.lookup x=some c->c≠b)/\∀p∈X.pn++pins,p.1≠b) :
  cN X pins σ H' { s with heap:=h',gens:=g',drawn:=d',toks:=t' }:=by
 obtain⟨m,⟨o,es,ep,ho,r⟩,_⟩:=id I.loc;obtain⟨sl,hL⟩:=u.any ho I.free λz=>(hch _ z).2.1 rfl
 exact I.step (ch:=ch) hch (λb o hL hb hc e n=>u.keep b o e n (λz=>(aN.mp (I.stkSub b z)).elim hL hb) hc) (λb o _ _ hc e n=>u.any e n hc) (λb o hc e n=>u.free b o e n hc) (λb o hc e=>u.there b o e hc) u.tups u.frzs u.tbls (λm' hm=>by
  obtain⟨o',es',ep',ho',r'⟩:=hm;rw[ho]at ho';cases ho';exact⟨_,es',ep',hL,r'⟩) hok hg
def cN.turned{t':Nat}{it:Addr}(I:cN X pins σ H s)(k:∀b o,b≠it->s.heap.get? b=some o->h'.get? b=some o)(hn:H it=none)(hL:it≠X.env.locals)
  (h1:it∈X.ex\/X.s₀.heap.objs.size<=it) (h2:∀x c,X.env.cells.lookup x=some c->c≠it) (h3:∀p∈X.pn++pins,p.1≠it):cN X pins σ H { s with heap:=h',toks:=t' }:=by
 have nit:∀b u,H b=some u->b≠it:=λb u e z=>by rw[z,hn]at e;cases e
 refine I.step (g':=s.gens) (d':=s.drawn) (ch:=[it]) (λb hb=>?_) (λb o _ _ hc e _=>k b o (λz=>hc (by simp[z])) e) (λb o _ _ hc e _=>⟨o.slots,k b o (λz=>hc (by simp[z])) e⟩) (λ_ _ _ _ n=>n)
  (λb o hc e=>⟨o,k b o (λz=>hc (by simp[z])) e⟩) (λ_ _ e=>e) (λ_ _ _ e=>e) (λb ps e=>⟨#[],by rw[e];simp⟩) (λm hm=>?_) (λb u e=>?_) I.bare
 ·have e:b=it:=by simpa using hb
  subst e;exact⟨h1,hL,h2,h3⟩
 ·obtain⟨o,es,ep,ho,r⟩:=hm;exact⟨o,es,ep,k _ o (Ne.symm hL) ho,r⟩
 ·refine(I.hok b u e).stay (λc v hc q=>k c v ?_ q) (λ_ q=>q) λ_ _ q=>q;rcases hc with z | z
  ·rw[z];exact nit b u e
  ·exact nit c _ z
def cN.tok(I:cN X pins σ H s)(t:Nat):cN X pins σ H { s with toks:=t }:=I.un (h':=s.heap) (t':=t) Un.refl I.hok
theorem cN.kept{t':Nat}(I:cN X pins σ H s)(k:∀b u,s.heap.get? b=some u->h'.get? b=some u):cN X pins σ H { s with heap:=h',toks:=t' }:=I.un (Un.kept k) (I.hok.kept k)
theorem cN.laid{a:Addr}{o}{t':Nat}(I:cN X pins σ H s)(k:∀b u,s.heap.get? b=some u->h'.get? b=some u)(hp:s.heap.objs.size<=a)(new:iE X.prog X.w (eS H a o) h' a o) :
  cN X pins σ (eS H a o) { s with heap:=h',toks:=t' }:=I.un (Un.laid k hp (I.hok.fresh hp)) (I.hok.laid k hp new)
theorem cN.write{x e:Addr}{o}{t':Nat}(I:cN X pins σ H s)(mu:Mut (H x))(he:e=x\/H e=some (.own x))(k:∀b u,b≠e->s.heap.get? b=some u->h'.get? b=some u)(heo:∃u,h'.get? e=some u)
  (new:iE X.prog X.w (eS H x o) h' x o):cN X pins σ (eS H x o) { s with heap:=h',toks:=t' }:=I.un (Un.write mu he k heo) (I.hok.write mu he k heo new)
def cN.pins_of{pins'}(I:cN X pins σ H s)(h:∀p∈pins',s.heap.get? p.1=some p.2/\H p.1=none/\p.1≠X.env.locals/\p.1∉X.fs/\∀v,p.2.data≠.cell v):cN X pins' σ H s:=
 ⟨I.ok,I.os,I.bare,I.base,I.loc,I.cell,I.free,I.freeC,λp hp=>(dL.mp hp).elim (λz=>I.pin p (nZ _ z)) (h p),I.hok,I.len⟩
def BK{N:List Str}(hN:N.Nodup){i j:Nat}{x}(a:N[i]?=some x)(b:N[j]?=some x):i=j:=by
 obtain⟨h1,e1⟩:=aH.mp a;obtain⟨h2,e2⟩:=aH.mp b;exact(WN hN).mp (e1.trans e2.symm)
def DM{M A}{E:Value->Shared->Prop}{i:Nat}{x v u}{Q:Unit->Shared->Prop}(I:cN X pins σ H s)(hN:X.N.Nodup)(hi:X.N[i]?=some x)(hx:QA X.env.scope x)(r:eZ v u)
  (h:∀s',cN X pins (σ.set i (some v)) H s'->(∃a,eY a s.heap s'.heap/\(a=X.env.locals\/X.env.cells.lookup x=some a))->Q () s') (hf:X.fn x=true\/X.env.scope.names.lookup x=some .local:=by first | exact .inl rfl | exact .inr rfl | assumption):wpAny M A (storeName X.env x u) Q E s:=by
 obtain⟨m,hn,hl⟩:=id I.loc;have hcls:(X.env.scope.kind==.class||(X.env.scope.kind==.module&&X.env.locals != X.env.globals))=false:=by rw[I.ok.kind];rfl
 have hiσ:i<σ.length:=by rw[I.len];exact(aH.mp hi).1
 have cne:=I.cne
 have tracked:∀{a:Addr}{h':Heap},(∃o,s.heap.get? a=some o/\H a=none)->eY a s.heap h'->oF X.prog X.w H h':=λ{a h'} ha hs b ob e=>by
  obtain⟨_,_,hfree⟩:=ha;refine(I.hok b ob e).stay (λc w' hc q=>(hs.2 c ?_).trans q) (λ_ q=>q) λ_ _ q=>q;rintro rfl;rcases hc with rfl | hc
  ·rw[hfree]at e;cases e
  ·rw[hfree]at hc;cases hc
 rcases hx with hk | hk
 ·refine wpAny_storeName_local hk hn (λh' hn' hs=>?_) hcls;obtain⟨oL,_,_,hoL,_⟩:=id hn;refine h _ ⟨I.ok,I.os,I.bare,⟨λb o e n hb hx=>?_,λb o e n hb hx=>?_,I.base.free,λb o e hx=>?_,I.base.tups,I.base.frzs,I.base.tbls⟩,⟨_,hn',λj y v' e1 e2 e3=>?_⟩,λy c e=>?_,I.free,I.freeC,λp hp=>?_,tracked ⟨oL,hoL,I.free⟩ hs,by simpa using I.len⟩ ⟨_,hs,.inl rfl⟩
  ·exact(hs.2 b (cO (bR (aV e) I.ok.above))).trans (I.base.keep b o e n hb hx)
  ·obtain⟨sl,e1⟩:=I.base.slot b o e n hb hx;exact⟨sl,(hs.2 b (cO (bR (aV e) I.ok.above))).trans e1⟩
  ·obtain⟨o',e1⟩:=I.base.there b o e hx;exact⟨o',(hs.2 b (cO (bR (aV e) I.ok.above))).trans e1⟩
  ·by_cases hj:j=i
   ·subst hj;rw[hi]at e1;cases e1;rw[bB hiσ]at e2;cases e2;exact⟨u,r,.inl ⟨hk,by simp⟩⟩
   ·rw[aU (Ne.symm hj)]at e2;obtain⟨u',r',q⟩:=hl j y v' e1 e2 e3;refine⟨u',r',?_⟩;rcases q with⟨k,e⟩ | ⟨k,c,e,z⟩
    ·refine .inl ⟨k,?_⟩;have:y≠x:=λe=>hj (BK hN e1 (e▸hi));simp[this,e]
    ·exact .inr ⟨k,c,e,z.sameBut hs (cne y c e)⟩
  ·obtain⟨w',z⟩:=I.cell y c e;exact⟨w',z.sameBut hs (cne y c e)⟩
  ·obtain⟨e,n,ne,nf,d⟩:=I.pin p hp;exact⟨(hs.2 p.1 ne).trans e,n,ne,nf,d⟩
 ·have hfn:X.fn x=true:=by
   rcases hf with z | z
   ·exact z
   ·rw[z]at hk;cases hk
  obtain⟨c,hc⟩:=I.ok.has x (.inl hk);obtain⟨w',z⟩:=I.cell x c hc;refine wpAny_storeName_cell I.ok.kind hk hc z (λh' hc' hs=>?_);obtain⟨oc,hoc,hocd⟩:=id z;refine h { s with heap:=h' } ⟨I.ok,I.os,I.bare,⟨λb o e n hb hx=>?_,λb o e n hb hx=>?_,I.base.free,λb o e hx=>?_,I.base.tups,I.base.frzs,I.base.tbls⟩,⟨m,hn.sameBut hs (Ne.symm (cne x c hc)),λj y v' e1 e2 e3=>?_⟩,λy c' e=>?_,I.free,I.freeC,λp hp=>?_,tracked ⟨oc,hoc,I.freeC x c hc⟩ hs,by simpa using I.len⟩ ⟨c,hs,.inr hc⟩
  ·exact(hs.2 b (cO (bR (aV e) (I.ok.cab x c hfn hc)))).trans (I.base.keep b o e n hb hx)
  ·obtain⟨sl,e1⟩:=I.base.slot b o e n hb hx;exact⟨sl,(hs.2 b (cO (bR (aV e) (I.ok.cab x c hfn hc)))).trans e1⟩
  ·obtain⟨o',e1⟩:=I.base.there b o e hx;exact⟨o',(hs.2 b (cO (bR (aV e) (I.ok.cab x c hfn hc)))).trans e1⟩
  ·by_cases hj:j=i
   ·subst hj;rw[hi]at e1;cases e1;rw[bB hiσ]at e2;cases e2;exact⟨u,r,.inr ⟨.inl hk,c,hc,hc'⟩⟩
   ·rw[aU (Ne.symm hj)]at e2;obtain⟨u',r',q⟩:=hl j y v' e1 e2 e3;refine⟨u',r',?_⟩;rcases q with q | ⟨k,c',e,z'⟩
    ·exact .inl q
    ·refine .inr ⟨k,c',e,z'.sameBut hs ?_⟩;rintro rfl;exact hj (BK hN e1 (I.ok.inj _ _ _ e hc▸hi))
  ·by_cases hcc:c'=c
   ·subst hcc;exact⟨_,hc'⟩
   ·obtain⟨w2,z2⟩:=I.cell y c' e;exact⟨w2,z2.sameBut hs hcc⟩
  ·obtain⟨e,n,ne,nf,d⟩:=I.pin p hp;refine⟨(hs.2 p.1 ?_).trans e,n,ne,nf,d⟩;intro q;rw[q,hoc]at e;have q':oc=p.2:=Option.some.inj e;exact d w' (by rw[<- q'];exact hocd)
def vX{M A}{E:Value->Shared->Prop}{i:Nat}{x v u}{Q:Unit->Shared->Prop}(I:cN X pins σ H s)(hN:X.N.Nodup)(hi:X.N[i]?=some x)(hx:QA X.env.scope x)(r:eZ v u)
  (h:∀s',cN X pins (σ.set i (some v)) H s'->Q () s') (hf:X.fn x=true\/X.env.scope.names.lookup x=some .local:=by first | exact .inl rfl | exact .inr rfl | assumption):wpAny M A (storeName X.env x u) Q E s:=
 DM I hN hi hx r (λs' I' _=>h s' I') hf
def cN.call'{s':Shared}{ch}(I:cN X pins σ H s)(ho:s'.os=s.os)(u:Un (oE X.stack) ch H H' s.heap s'.heap)(hok:oF X.prog X.w H' s'.heap)(hg:AllBare s'.gens)
  (hch:∀b∈ch,(b∈X.ex\/X.s₀.heap.objs.size<=b)/\b≠X.env.locals/\(∀x c,X.env.cells.lookup x=some c->c≠b)/\∀p∈X.pn++pins,p.1≠b):cN X pins σ H' s':=by
 obtain⟨h',g',d',t',o'⟩:=s';have e:o'=s.os:=ho;subst e;exact I.call (g':=g') (t':=t') (d':=d') u hok hg hch
end
abbrev XK:=Value->Option Addr->Hp->Prop
abbrev St:=List (Option V)
abbrev VK:=V->Hp->Prop
abbrev TE:=St->Hp->VK->Prop
abbrev TT:=St->Hp->(Bool->Hp->Prop)->Prop
abbrev TA:=St->Hp->(List V->Hp->Prop)->Prop
structure CS where
 nx:St->Hp->Prop
 rt:VK
 bk:St->Hp->Prop:=λ_ _=>False
 ct:St->Hp->Prop:=λ_ _=>False
abbrev TS:=CS->St->Hp->Prop
def EP(X:Cx)(pins:List (Addr×Obj))(σ:St)(Q:VK)(u:Value)(s':Shared):Prop:=∃v H',cN X pins σ H' s'/\eZ v u/\Q v H'
def TP(X:Cx)(pins:List (Addr×Obj))(σ:St)(Q:Bool->Hp->Prop)(b:Bool)(s':Shared):Prop:=∃H',cN X pins σ H' s'/\Q b H'
def AP(X:Cx)(pins:List (Addr×Obj))(σ:St)(Q:List V->Hp->Prop)(us:List Value)(s':Shared):Prop:=∃vs H',cN X pins σ H' s'/\eW vs us/\Q vs H'
def SP(X:Cx)(pins:List (Addr×Obj))(D:CS)(f:Flow)(s':Shared):Prop:=
 match f with
 |.next=>∃σ' H',cN X pins σ' H' s'/\D.nx σ' H'
 |.brk=>∃σ' H',cN X pins σ' H' s'/\D.bk σ' H'
 |.cont=>∃σ' H',cN X pins σ' H' s'/\D.ct σ' H'
 |.ret u=>∃v σ' H',cN X pins σ' H' s'/\eZ v u/\D.rt v H'
def PE(X:Cx)(e:Expr)(t:TE):Prop:=
 ∀pins s σ H Q,cN X pins σ H s->t σ H Q->wpAny (model X.prog X.w) X.A (eval e X.env) (EP X pins σ Q) X.xe s
def PT(X:Cx)(e:Expr)(t:TT):Prop:=
 ∀pins s σ H(Q:Bool->Hp->Prop),cN X pins σ H s->t σ H Q->wpAny (model X.prog X.w) X.A (isTrue e X.env (eval e X.env)) (TP X pins σ Q) X.xe s
def PW(X:Cx)(e:Expr)(t:TT):Prop:=
 ∀(whole:Sem Value)pins s σ H(Q:Bool->Hp->Prop),cN X pins σ H s->t σ H Q->wpAny (model X.prog X.w) X.A (isTrue e X.env whole) (TP X pins σ Q) X.xe s
def PW.pt{X e t}(h:PW X e t):PT X e t:=h _
def PA(X:Cx)(es:List Expr)(t:TA):Prop:=
 ∀(pos:Pos)pins s σ H(Q:List V->Hp->Prop),cN X pins σ H s->t σ H Q->wpAny (model X.prog X.w) X.A (spliced (backTo pos (bL es X.env))) (AP X pins σ Q) X.xe s
def PS(X:Cx)(st:Stmt)(t:TS):Prop:=
 ∀pins s σ H(D:CS),cN X pins σ H s->t D σ H->wpAny (model X.prog X.w) X.A (exec st X.env) (SP X pins D) X.xe s
def yN(X:Cx)(st:List Stmt)(t:TS):Prop:=
 ∀pins s σ H(D:CS),cN X pins σ H s->t D σ H->wpAny (model X.prog X.w) X.A (execs st X.env) (SP X pins D) X.xe s
def iU{α:Type}{t}{Q Q':α->Shared->Prop}{M A}{E:Value->Shared->Prop}{s}(h:wpAny M A t Q E s)(hQ:∀a s,Q a s->Q' a s):wpAny M A t Q' E s:=dY h hQ λ_ _ x=>x
section
variable{X:Cx}
def oI(i:Nat):TE:=λσ H Q=>∃v,σ[i]?=some (some v)/\Q v H
def tC(v:V):TE:=λ_ H Q=>Q v H
def SX{i:Nat}{x:Str}{pos}(hN:X.N[i]?=some x)(hv:Vis X.env.scope x)(hd:(x==("__debug__":Str))=false:=by decide)(hcd:(x==("__classdict__":Str))=false:=by decide):PE X (.Name x pos) (oI i):=by
 intro pins s σ H Q I h;obtain⟨v,e,h⟩:=h;obtain⟨m,hn,hl⟩:=I.loc;obtain⟨u,r,l⟩:=hl i x v hN e hv;have fin:EP X pins σ Q u s:=⟨v,H,I,r,h⟩;rcases l with⟨hk,hm⟩ | ⟨hk,c,hc,hcell⟩
 ·exact wpAny_Name (wpAny_loadName_local I.ok.kind hk hn hm fin) hd
 ·rcases hk with hk | hk
  ·exact wpAny_Name (wpAny_loadName_cell I.ok.kind hk hc hcell fin) hd
  ·exact wpAny_Name (wpAny_loadName_free I.ok.kind hk hc hcell fin hcd) hd
def mH{i j pos}:PE X (.Constant (.int i) j pos) (tC (.int i)):=λ_ _ _ H _ I h=>wpAny_Constant_int ⟨.int i,H,I.tok _,⟨_,rfl⟩,h⟩
def aH6{b j pos}:PE X (.Constant (.bool b) j pos) (tC (.bl b)):=λ_ _ _ H _ I h=>Constant_bool ⟨.bl b,H,I,rfl,h⟩
def aEo{j pos}:PE X (.Constant .none j pos) (tC .non):=λ_ _ _ H _ I h=>Constant_none ⟨.non,H,I,rfl,h⟩
def aEm{x j pos}:PE X (.Constant (.str x) j pos) (tC (.str x)):=λ_ _ _ H _ I h=>Calls.Constant_str ⟨.str x,H,I.tok _,⟨_,rfl⟩,h⟩
def Gl(X:Cx)(x:Str):Prop:=X.env.kindOf x=some .globalImplicit
def qU{E:Value->Shared->Prop}{pins s σ H}{x:Str}{u pos}{Q:Value->Shared->Prop}(I:cN X pins σ H s)(hg:Gl X x)(hm:X.mg x=some u)(h:Q u s)
  (hd:(x==("__debug__":Str))=false:=by decide):wpAny (model X.prog X.w) X.A (eval (.Name x pos) X.env) Q E s:=
 Calls.Name_function_global I.ok.kind hg (Calls.loadGlobal_global (by rw[I.ok.glob];exact I.mod.glob.keeps I.bk) hm h) hd
def sI{E:Value->Shared->Prop}{pins s σ H}{x:Str}{u pos}{Q:Value->Shared->Prop}(I:cN X pins σ H s)(hg:Gl X x)(hm:X.mg x=none)(hv:bootBuiltins x=some u)(h:Q u s)
  (hn:x≠"__name__":=by decide) (hd:(x==("__debug__":Str))=false:=by decide):wpAny (model X.prog X.w) X.A (eval (.Name x pos) X.env) Q E s:=by
 obtain⟨mb,h1,h2⟩:=I.mod.blt;exact Calls.Name_function_global I.ok.kind hg (Calls.loadGlobal_builtin (by rw[I.ok.glob];exact I.mod.glob.keeps I.bk) hm (by rw[I.ok.blt];exact h1.keeps I.bk) ((h2 x hn).trans hv) h) hd
def kL{x:Str}{v u pos}(hg:Gl X x)(hm:X.mg x=some u)(r:eZ v u)(hd:(x==("__debug__":Str))=false:=by decide):PE X (.Name x pos) (tC v):=
 λ_ _ _ H _ I h=>qU I hg hm ⟨v,H,I,r,h⟩ hd
def mJ{x:Str}{v u pos}(hg:Gl X x)(hm:X.mg x=none)(hv:bootBuiltins x=some u)(r:eZ v u)(hn:x≠"__name__":=by decide)(hd:(x==("__debug__":Str))=false:=by decide):PE X (.Name x pos) (tC v):=
 λ_ _ _ H _ I h=>sI I hg hm hv ⟨v,H,I,r,h⟩ hn hd
variable{a b:Expr}{ta tb:TE}{pos:Pos}
def PC(X:Cx)(op:CmpOp)(a b:Expr)(t:TE):Prop:=
 ∀pins s σ H Q,cN X pins σ H s->t σ H Q ->
  wpAny (model X.prog X.w) X.A (eval a X.env) (λv s₁=>wpAny (model X.prog X.w) X.A (eval b X.env) (λu s₂=>wpAny (model X.prog X.w) X.A (compareOp op v u) (EP X pins σ Q) X.xe s₂) X.xe s₁) X.xe s
def TQ(b:Expr){op}(h:op≠.In)(h2:op≠.NotIn):behindInMarks op b=false:=by
 have e1:(op==CmpOp.In)=false:=by cases op<;>first | rfl | exact absurd rfl h
 have e2:(op==CmpOp.NotIn)=false:=by cases op<;>first | rfl | exact absurd rfl h2
 cases b<;>simp[behindInMarks,e1,e2]
def tB(t:TE):TT:=λσ H Q=>t σ H λx H1=>∃c,x=.bl c/\Q c H1
def aEj{op t}(h:PC X op a b t)(h1:behindInMarks op b=false:=by first | exact TQ _ (by decide) (by decide) | rfl):PT X (.Compare a [op] [b] pos) (tB t):=by
 intro pins s σ H Q I hw;refine wpAny_isTrue_Compare1 (iU (h pins s σ H _ I hw) λv s1 h1=>iU h1 λu s2 h2=>iU h2 λc s3 zq=>?_) h1;obtain⟨x,H1,I1,r1,q1⟩:=zq;obtain⟨d,rfl,q⟩:=q1;cases r1;exact wpAny_truthy_bool ⟨H1,I1,q⟩
def rZ{e:Expr}{t}(h:PE X e t)(he:∀whole,isTrue e X.env whole=(do let v <- whole;standAt e.pos;holding [v] (truthy v)):=by intro _;rfl):PT X e (tB t):=by
 intro pins s σ H Q I hw;refine isTrue_plain (iU (h pins s σ H _ I hw) λv s1 zq=>?_) (he _);obtain⟨x,H1,I1,r1,q1⟩:=zq;obtain⟨d,rfl,q⟩:=q1;cases r1;exact wpAny_truthy_bool ⟨H1,I1,q⟩
variable{tA tB':TT}{kD:List Expr}
def aLv(t u:TT):TT:=λσ H Q=>t σ H λc H1=>if c=true then u σ H1 Q else Q false H1
def tOr(t u:TT):TT:=λσ H Q=>t σ H λc H1=>if c=true then Q true H1 else u σ H1 Q
def aLt(t:TT):TT:=λσ H Q=>t σ H λc H1=>Q (!c) H1
def XZ(ha:PT X a tA):PW X (.BoolOp .And [a] pos) tA:=by
 intro wh pins s σ H Q I h;refine isTrue_and (iU (ha pins s σ H Q I h) λc s1 e=>?_)
 cases c with
 |true=>exact isTrue_and_nil e
 |false=>exact e
def SI(ha:PT X a tA):PW X (.BoolOp .Or [a] pos) tA:=by
 intro wh pins s σ H Q I h;refine isTrue_or (iU (ha pins s σ H Q I h) λc s1 e=>?_)
 cases c with
 |false=>exact isTrue_or_nil e
 |true=>exact e
def aEi(ha:PT X a tA)(hb:PW X (.BoolOp .And (b::kD) pos) tB'):PW X (.BoolOp .And (a::b::kD) pos) (aLv tA tB'):=by
 intro wh pins s σ H Q I h;refine isTrue_and (iU (ha pins s σ H _ I h) λc s1 zq=>?_);obtain⟨H1,I1,q1⟩:=zq
 cases c with
 |true=>exact hb wh pins s1 σ H1 Q I1 q1
 |false=>exact⟨H1,I1,q1⟩
def aCb(ha:PT X a tA)(hb:PW X (.BoolOp .Or (b::kD) pos) tB'):PW X (.BoolOp .Or (a::b::kD) pos) (tOr tA tB'):=by
 intro wh pins s σ H Q I h;refine isTrue_or (iU (ha pins s σ H _ I h) λc s1 zq=>?_);obtain⟨H1,I1,q1⟩:=zq
 cases c with
 |true=>exact⟨H1,I1,q1⟩
 |false=>exact hb wh pins s1 σ H1 Q I1 q1
def SM(ha:PT X a tA):PT X (.UnaryOp .Not a pos) (aLt tA):=by
 intro pins s σ H Q I h;exact isTrue_not (ha pins s σ H (λc H1=>Q (!c) H1) I h)
def aHd(ta tb:TE):TE:=λσ H Q=>ta σ H λx H1=>∃c,x=.bl c/\if c=true then tb σ H1 Q else Q (.bl false) H1
def aEn{op t}(h:PE X a t):PE X (.BoolOp op [a] pos) t:=λpins s σ H Q I hw=>BoolOp_one (h pins s σ H Q I hw)
def aEq(ha:PE X a ta)(hb:PE X (.BoolOp .And (b::kD) pos) tb):PE X (.BoolOp .And (a::b::kD) pos) (aHd ta tb):=by
 intro pins s σ H Q I h;refine BoolOp_and (iU (ha pins s σ H _ I h) λv s1 zq=>?_);obtain⟨x,H1,I1,r1,q1⟩:=zq;obtain⟨c,rfl,q1⟩:=q1;cases r1;refine wpAny_truthy_bool ?_
 cases c with
 |true=>exact hb pins s1 σ H1 Q I1 q1
 |false=>exact⟨.bl false,H1,I1,rfl,q1⟩
def tIf(t:TT)(ta tb:TE):TE:=λσ H Q=>t σ H λc H1=>if c=true then ta σ H1 Q else tb σ H1 Q
def S4{c}(hc:PT X c tA)(ha:PE X a ta)(hb:PE X b tb):PE X (.IfExp c a b pos) (tIf tA ta tb):=by
 intro pins s σ H Q I h;refine wpAny_IfExp (iU (hc pins s σ H _ I h) λd s1 zq=>?_);obtain⟨H1,I1,q1⟩:=zq
 cases d with
 |true=>exact ha pins s1 σ H1 Q I1 q1
 |false=>exact hb pins s1 σ H1 Q I1 q1
end
def lM(K:aF)(H:Hp)(a:Addr)(xs:List V):Prop:=
 Rd H a (.lst xs) \/
  ∃(o:Obj)(its:Array Value)(n:Nat),K.lookup a=some o/\o.cls=.type "list"/\o.dict=none/\o.data=.seq its n/\its.size<=bE/\eW xs its.toList
def pA(K:aF)(H:Hp)(a:Addr)(xs:List V):Prop:=
 Rd H a (.tup xs) \/
  ∃(o:Obj)(its:Array Value)(n:Nat),K.lookup a=some o/\o.cls=.type "tuple"/\o.dict=none/\o.data=.seq its n/\its.size<=bE/\eW xs its.toList
noncomputable def aMz:Value->Option V
|.none=>some .non
|.bool b=>some (.bl b)
|.int i _=>some (.int i)
|.str x _=>some (.str x)
|.bytes b _=>some (.byt b)
|.float b _=>some (.flt b)
|.ref a=>some (.ref a)
|.type n=>some (.ty n)
|_=>none
def eZ.abs{x u}(r:eZ x u):aMz u=some x:=by
 cases x with
 |non=>cases r;rfl
 |bl _=>cases r;rfl
 |int _=>obtain⟨t,rfl⟩:=r;rfl
 |str _=>obtain⟨t,rfl⟩:=r;rfl
 |byt _=>obtain⟨t,rfl⟩:=r;rfl
 |flt _=>obtain⟨t,rfl⟩:=r;rfl
 |ref _=>cases r;rfl
 |ty _=>cases r;rfl
theorem eZ.inj{x y u}(r:eZ x u)(q:eZ y u):x=y:=Option.some.inj (r.abs.symm.trans q.abs)
theorem eW.inj:∀{xs ys us},eW xs us->eW ys us->xs=ys
|_,_,_,.nil,.nil=>rfl
|_,_,_,.cons r t,.cons r' t'=>by rw[r.inj r',eW.inj t t']
section
variable{X:Cx}{pins:List (Addr×Obj)}{σ:St}{H:Hp}{s:Shared}{a:Addr}{xs ys:List V}
def lM.of{K}(h:H a=some (.lst xs)):lM K H a xs:=.inl (.inl h)
def pA.of{K}(h:H a=some (.tup xs)):pA K H a xs:=.inl (.inl h)
def cN.list(I:cN X pins σ H s)(h:lM X.K H a xs):∃its:List Value,eW xs its/\PlainL s.heap a its.toArray/\xs.length<=bE:=by
 rcases h with h | ⟨o,its,n,hk,hc,hd,hs,hz,r⟩
 ·obtain⟨z,its,n,r,e⟩:=h.ok I.hok;exact⟨its,r,⟨_,n,e,rfl,rfl,rfl⟩,z⟩
 ·refine⟨its.toList,r,⟨o,n,I.kIn a o hk,hc,hd,by simpa using hs⟩,?_⟩;have e:=r.length;simp only[fP]at e;omega
def cN.tuple(I:cN X pins σ H s)(h:pA X.K H a xs):∃its:List Value,eW xs its/\IsTup s.heap a its.toArray/\xs.length<=bE:=by
 rcases h with h | ⟨o,its,n,hk,hc,_,hs,hz,r⟩
 ·obtain⟨z,its,r,p⟩:=h.ok I.hok;exact⟨its,r,p.tup,z⟩
 ·refine⟨its.toList,r,⟨o,I.kIn a o hk,hc,n,by simpa using hs⟩,?_⟩;have e:=r.length;simp only[fP]at e;omega
def cN.tupleN(I:cN X pins σ H s)(h:pA X.K H a xs):∃o,s.heap.get? a=some o/\o.cls=.type "tuple"/\o.dict=none:=by
 rcases h with h | ⟨o,its,n,hk,hc,hd,_⟩
 ·obtain⟨z,its,r,⟨o,e,c,n,_,d⟩⟩:=h.ok I.hok;exact⟨o,e,c,d⟩
 ·exact⟨o,I.kIn a o hk,hc,hd⟩
def cN.list_inj(I:cN X pins σ H s)(h:lM X.K H a xs)(h':lM X.K H a ys):xs=ys:=by
 obtain⟨its,r,⟨o,n,e,_,_,d⟩,_⟩:=I.list h;obtain⟨its',r',⟨o',n',e',_,_,d'⟩,_⟩:=I.list h';rw[e]at e';cases e';rw[d]at d';injection d' with d1 _
 have:its=its':=by simpa using congrArg aGj d1
 subst this;exact r.inj r'
def cN.tuple_inj(I:cN X pins σ H s)(h:pA X.K H a xs)(h':pA X.K H a ys):xs=ys:=by
 obtain⟨its,r,⟨o,e,_,n,d⟩,_⟩:=I.tuple h;obtain⟨its',r',⟨o',e',_,n',d'⟩,_⟩:=I.tuple h';rw[e]at e';cases e';rw[d]at d';injection d' with d1 _
 have:its=its':=by simpa using congrArg aGj d1
 subst this;exact r.inj r'
end
noncomputable abbrev Cx.wish(X:Cx)(E:Value->Shared->Prop):Cx:={ X with xe:=E }
noncomputable abbrev Cx.nox(X:Cx):Cx:=X.wish λ_ _=>False
theorem Cx.Ok.wish{X:Cx}(ok:X.Ok)(E:Value->Shared->Prop):(X.wish E).Ok:=
 ⟨ok.mod,ok.kind,ok.glob,ok.blt,ok.above,ok.inj,ok.has,ok.cab,ok.hd,ok.frames,ok.stk,ok.exf,ok.bs,ok.bsz,ok.noex,ok.exfs,ok.funs,ok.frf,ok.tab⟩
def Cx.Ok.unwish{X:Cx}{E:Value->Shared->Prop}(ok:(X.wish E).Ok):X.Ok:=
 ⟨ok.mod,ok.kind,ok.glob,ok.blt,ok.above,ok.inj,ok.has,ok.cab,ok.hd,ok.frames,ok.stk,ok.exf,ok.bs,ok.bsz,ok.noex,ok.exfs,ok.funs,ok.frf,ok.tab⟩
section
variable{X:Cx}{pins:List (Addr×Obj)}{σ:St}{H:Hp}{s:Shared}{E:Value->Shared->Prop}
theorem cN.wish(I:cN X pins σ H s)(E:Value->Shared->Prop):cN (X.wish E) pins σ H s:=⟨I.ok.wish E,I.os,I.bare,I.base,I.loc,I.cell,I.free,I.freeC,I.pin,I.hok,I.len⟩
theorem cN.unwish(I:cN (X.wish E) pins σ H s):cN X pins σ H s:=⟨I.ok.unwish,I.os,I.bare,I.base,I.loc,I.cell,I.free,I.freeC,I.pin,I.hok,I.len⟩
theorem SP.unwish{D f s'}(h:SP (X.wish E) pins D f s'):SP X pins D f s':=by
 cases f with
 |next=>obtain⟨σ',H',I,q⟩:=h;exact⟨σ',H',I.unwish,q⟩
 |brk=>obtain⟨σ',H',I,q⟩:=h;exact⟨σ',H',I.unwish,q⟩
 |cont=>obtain⟨σ',H',I,q⟩:=h;exact⟨σ',H',I.unwish,q⟩
 |ret u=>obtain⟨v,σ',H',I,r,q⟩:=h;exact⟨v,σ',H',I.unwish,r,q⟩
theorem yN.nox{st t}(h:yN X.nox st t):yN X st t:=λpins s σ H D I hw=>
 dY (h pins s σ H D (I.wish _) hw) (λ_ _ q=>q.unwish) λ_ _ z=>False.elim z
end
section
variable{X:Cx}{st:Stmt}{kD:List Stmt}{t u:TS}{e:Expr}{te:TE}{pos:Pos}
def aG9:TS:=λD σ H=>D.nx σ H
def NR(t u:TS):TS:=λD σ H=>t { D with nx:=u D } σ H
def L7:yN X [] aG9:=λ_ _ σ H _ I h=>wpAny_execs_nil ⟨σ,H,I,h⟩
def mG(h1:PS X st t)(h2:yN X kD u):yN X (st::kD) (NR t u):=by
 intro pins s σ H D I h;refine wpAny_execs_cons (iU (h1 pins s σ H { D with nx:=u D } I h) λf s1 q=>?_)
 cases f with
 |next=>
  obtain⟨σ',H',I',q⟩:=q;exact h2 pins s1 σ' H' D I' q
 |ret v=>exact q
 |brk=>exact q
 |cont=>exact q
def E8(h1:PS X st t):yN X [st] t:=by
 intro pins s σ H D I h;refine wpAny_execs_cons (iU (h1 pins s σ H D I h) λf s1 q=>?_)
 cases f with
 |next=>exact wpAny_execs_nil q
 |ret v=>exact q
 |brk=>exact q
 |cont=>exact q
def cN.quiet{pins σ H s}(I:cN X pins σ H s):interactive X.env=false:=by simp[interactive,I.ok.kind]
def DK(te:TE):TS:=λD σ H=>te σ H λ_ H1=>D.nx σ H1
def kJ(he:PE X e te)(hs:kH e none pos.line X.env=pure false:=by rfl):PS X (.Expr e pos) (DK te):=by
 intro pins s σ H D I h;exact wpAny_Expr_any (iU (he pins s σ H _ I h) λv s1 ⟨x,H1,I1,r1,q1⟩=>⟨σ,H1,I1,q1⟩) I.quiet hs
def aLs(te:TE):TS:=λD σ H=>te σ H D.rt
def BD(he:PE X e te):PS X (.Return (some e) pos) (aLs te):=by
 intro pins s σ H D I h;exact wpAny_Return_some (iU (he pins s σ H _ I h) λv s1 ⟨x,H1,I1,r1,q1⟩=>⟨x,σ,H1,I1,r1,q1⟩)
def aLu(c:TT)(t u:TS):TS:=λD σ H=>c σ H λb H1=>if b=true then t D σ H1 else u D σ H1
def aCc{c a b tc}(hc:PT X c tc)(ha:yN X a t)(hb:yN X b u):PS X (.If c a b pos) (aLu tc t u):=by
 intro pins s σ H D I h;refine wpAny_If (iU (hc pins s σ H _ I h) λd s1 zq=>?_);obtain⟨H1,I1,q1⟩:=zq
 cases d with
 |true=>exact ha pins s1 σ H1 D I1 q1
 |false=>exact hb pins s1 σ H1 D I1 q1
end
abbrev TG:=V->St->Hp->(St->Hp->Prop)->Prop
abbrev TGs:=List V->St->Hp->(St->Hp->Prop)->Prop
def PG(X:Cx)(target:Expr)(t:TG):Prop:=
 ∀pins s σ H(v:V)(u:Value)(Q:St->Hp->Prop),cN X pins σ H s->eZ v u->t v σ H Q ->
  wpAny (model X.prog X.w) X.A (assign target X.env u) (λ_ s'=>∃σ' H',cN X pins σ' H' s'/\Q σ' H') X.xe s
def PGs(X:Cx)(ts:List Expr)(t:TGs):Prop:=
 ∀pins s σ H(vs:List V)(us:List Value)(Q:St->Hp->Prop),cN X pins σ H s->eW vs us->t vs σ H Q ->
  wpAny (model X.prog X.w) X.A (assignInOrder ((assignEach ts X.env).map (·.2)) us) (λ_ s'=>∃σ' H',cN X pins σ' H' s'/\Q σ' H') X.xe s
abbrev aKg:=V->V->V->Hp->(Hp->Prop)->Prop
def aKj(X:Cx)(t:aKg):Prop:=
 ∀pins s(σ:St)H(o i v:V)(ov iv u:Value)(Q:Hp->Prop),cN X pins σ H s->eZ o ov->eZ i iv->eZ v u->t o i v H Q ->
  wpAny (model X.prog X.w) X.A (setItem ov iv u) (λ_ s'=>∃H',cN X pins σ H' s'/\Q H') X.xe s
section
variable{X:Cx}{pos:Pos}
def lF(i:Nat):TG:=λv σ H Q=>Q (σ.set i (some v)) H
def L9{i:Nat}{x}(hN:X.N.Nodup)(hi:X.N[i]?=some x)(hx:QA X.env.scope x)(hf:X.fn x=true\/X.env.scope.names.lookup x=some .local:=by first | exact .inl rfl | exact .inr rfl | assumption):PG X (.Name x pos) (lF i):=by
 intro pins s σ H v u Q I r h;exact wpAny_assign_Name (vX I hN hi hx r (λs' I'=>⟨_,H,I',h⟩) hf)
def aFn:TGs:=λvs σ H Q=>vs=[]/\Q σ H
def D1(t:TG)(u:TGs):TGs:=λvs σ H Q=>∃v r,vs=v::r/\t v σ H λσ' H'=>u r σ' H' Q
def pF:PGs X [] aFn:=by
 intro pins s σ H vs us Q I r h;obtain⟨e,h⟩:=h;subst e;cases r;exact assignInOrder_nil ⟨σ,H,I,h⟩
def gR{e es t u}(h1:PG X e t)(h2:PGs X es u)
  (hs:(assignEach (e::es) X.env).map (·.2)=assign e X.env::(assignEach es X.env).map (·.2):=by rfl):PGs X (e::es) (D1 t u):=by
 intro pins s σ H vs us Q I r h;obtain⟨v,vr,e1,h⟩:=h;subst e1
 cases r with
 |cons r rr=>
  rw[hs];refine assignInOrder_cons (iU (h1 pins s σ H _ _ _ I r h) λ_ s1 zq=>?_);obtain⟨σ1,H1,I1,q1⟩:=zq;exact h2 pins s1 σ1 H1 _ _ Q I1 rr q1
def aFl(K:aF)(n:Nat)(t:TGs):TG:=λv σ H Q=>∃a xs,v=.ref a/\pA K H a xs/\xs.length=n/\t xs σ H Q
def sC{es}{k:Nat}{t}{n:Nat}(hc:X.calm=true)(h:PGs X es t)
  (hn:(assignEach es X.env).length=n:=by rfl) (hst:(assignEach es X.env).findIdx? (·.1)=none:=by rfl):PG X (.Tuple es k pos) (aFl X.K n t):=by
 intro pins s σ H v u Q I r hw;obtain⟨a,xs,e1,hq,hl,hw⟩:=hw;subst e1;cases r;obtain⟨its,rv,ht,hz⟩:=I.tuple hq;refine assign_Tuple_tuple (I.ok.hd hc) ht (by simp[hn,<- hl,rv.length]) hst λh' hx=>?_;have I1:cN X pins σ H { s with heap:=h' }:=I.kept (t':=s.toks) λb o e=>hx b o (cO (aV e)) e;exact h pins _ σ H xs _ Q I1 (by simpa using rv) hw
def aFm(to ti:TE)(t:aKg):TG:=λv σ H Q=>to σ H λo H1=>ti σ H1 λi H2=>t o i v H2 λH3=>Q σ H3
def E9{o i to ti t}(ho:PE X o to)(hi:PE X i ti)(hs:aKj X t)
  (ha:∀v,assign (.Subscript o i pos) X.env v=(do
   let ov <- holding [v] (eval o X.env)
   let iv <- holding [v,ov] (eval i X.env)
   standAt pos
   holding [v,ov,iv] (setItem ov iv v)
   release [v,ov,iv] []):=by intro _;rfl):PG X (.Subscript o i pos) (aFm to ti t):=by
 intro pins s σ H v u Q I r h;rw[ha];refine aG (wpAny_holding (iU (ho pins s σ H _ I h) λov s1 zq=>?_));obtain⟨x,H1,I1,r1,q1⟩:=zq;refine aG (wpAny_holding (iU (hi pins s1 σ H1 _ I1 q1) λiv s2 zq=>?_));obtain⟨y,H2,I2,r2,q2⟩:=zq;refine aG (wpAny_standAt (aG (wpAny_holding (iU (hs pins s2 σ H2 x y v ov iv u _ I2 r1 r2 r q2) λ_ s3 zq=>?_))));obtain⟨H3,I3,q3⟩:=zq;exact wpAny_release ⟨σ,H3,I3,q3⟩
def tW(te:TE)(g:TG):TS:=λD σ H=>te σ H λx H1=>g x σ H1 D.nx
def BE{tg e te g}(he:PE X e te)(hg:PG X tg g)(hs:swapsWithSole [tg] e pos.line X.env=pure false:=by rfl)(hw:swappedStores [tg] e X.env=pure none:=by rfl)
  (h1:(assignEach [tg] X.env).map (·.2)=[assign tg X.env]:=by rfl):PS X (.Assign [tg] e pos) (tW te g):=by
 intro pins s σ H D I h;refine wpAny_Assign_stores (iU (he pins s σ H _ I h) λv s1 zq=>?_) hs hw;obtain⟨x,H1,I1,r1,q1⟩:=zq;rw[h1];exact iU (hg pins s1 σ H1 x v _ I1 r1 q1) λ_ s2 q=>q
def mS{i:Nat}{x e te pos'}(hN:X.N.Nodup)(hi:X.N[i]?=some x)(hx:QA X.env.scope x)(he:PE X e te)(hs:kH e (some (.Name x pos')) pos.line X.env=pure false:=by rfl)(hf:X.fn x=true\/X.env.scope.names.lookup x=some .local:=by first | exact .inl rfl | exact .inr rfl | assumption) :
  PS X (.Assign [.Name x pos'] e pos) (tW te (lF i)):=by
 intro pins s σ H D I h;refine wpAny_Assign_Name (iU (he pins s σ H _ I h) λv s1 zq=>?_) hs;obtain⟨y,H1,I1,r1,q1⟩:=zq;exact vX I1 hN hi hx r1 (λs2 I2=>⟨_,H1,I2,q1⟩) hf
end
section
variable{X:Cx}{pos:Pos}
def Q2(c:TT)(tb:TS):TS:=λD σ H=>∃W:Nat->St->Hp->Prop,(∃m,W m σ H)/\∀m σ H,W m σ H ->
 c σ H λb H1=>if b=true then∃N:St->Hp->Prop,(∀σ' H',N σ' H'->∃m',m'<m/\W m' σ' H')/\tb { D with nx:=N,ct:=N,bk:=D.nx } σ H1 else D.nx σ H1
def SN{c body tc tb}(hp:PassesOwn (model X.prog X.w) X.A X.env X.xe)(hc:PT X c tc)(hb:yN X body tb):PS X (.While c body [] pos) (Q2 tc tb):=by
 intro pins s σ H D I h;obtain⟨W,⟨m0,w0⟩,turn⟩:=h;refine wpAny_While (codeAny_whileLoop (λn s'=>∃σ' H',cN X pins σ' H' s'/\W n σ' H') ?_ m0 ⟨σ,H,I,w0⟩);rintro n s1 ⟨σ1,H1,I1,w1⟩;refine wpAny_passesOwn hp (iU (hc pins s1 σ1 H1 _ I1 (turn n σ1 H1 w1)) λb s2 zq=>?_);obtain⟨H2,I2,q2⟩:=zq
 cases b with
 |true=>
  obtain⟨N,hN,q2⟩:=q2;rw[if_pos rfl];refine wpAny_passesOwn hp (iU (hb pins s2 σ1 H2 _ I2 q2) λf s3 q3=>?_)
  cases f with
  |next=>
   obtain⟨σ3,H3,I3,n3⟩:=q3;obtain⟨m',hm,w3⟩:=hN σ3 H3 n3;exact⟨m',hm,σ3,H3,I3,w3⟩
  |cont=>
   obtain⟨σ3,H3,I3,n3⟩:=q3;obtain⟨m',hm,w3⟩:=hN σ3 H3 n3;exact⟨m',hm,σ3,H3,I3,w3⟩
  |brk=>exact q3
  |ret v=>exact q3
 |false=>
  rw[if_neg bY];exact wpAny_execs_nil ⟨σ1,H2,I2,q2⟩
end
structure It where
 go:Nat->Hp->Prop
 yld:Nat->Hp->V->Hp->Prop
 stop:Nat->Hp->Prop
def zD(X:Cx)(pins:List (Addr×Obj))(H:Hp)(b:Addr):Prop:=
 H b=none/\b≠X.env.locals/\b∉X.fs/\(b∈X.ex\/X.s₀.heap.objs.size<=b)/\(∀x c,X.env.cells.lookup x=some c->c≠b)/\∀p∈X.pn++pins,p.1≠b
def cN.fpOk{X pins σ H H'}{s:Shared}{b:Addr}(I:cN X pins σ H s)(hb:s.heap.objs.size<=b)(hn:H' b=none):zD X pins H' b:=by
 refine⟨hn,iV (bR I.lt hb),I.nofs hb,.inr (bK I.sz hb),λx c e z=>?_,λp hp z=>?_⟩
 ·obtain⟨v,q⟩:=I.cell x c e;exact absurd (bR q.lt (by rw[z];exact hb)) (eK _)
 ·exact absurd (bR (aV (I.pin p hp).1) (by rw[z];exact hb)) (eK _)
structure IS(P:cC)(w:World)(K:aF)(tg:Expr)(J:It)(fp:List Addr)(it:Addr)(tn:Nat->Heap->Prop):Prop where
 mem:it∈fp
 obj:∀i h,tn i h->∀b∈fp,∃o,h.get? b=some o/\∀v,o.data≠.cell v
 keep:∀i h h',tn i h->(∀b∈fp,∀o,h.get? b=some o->h'.get? b=some o)->tn i h'
 item:∀(X:Cx),X.prog=P->X.w=w->X.K=K->X.calm=true->∀(i:Nat)pins(s:Shared)σ H E,cN X pins σ H s->(∀b∈fp,zD X pins H b)->tn i s.heap->J.go i H ->
  wpAny (model P w) X.A (pyNext (.ref it)) (λr s1=>∃u,r=some u /\
   wpAny (model P w) X.A (letOwnedTupleGo tg (.ref it) u) (λ_ s2=>∃x H',cN X pins σ H' s2/\eZ x u/\J.yld i H x H'/\tn (i+1) s2.heap/\∀b∈fp,H' b=none) E s1) E s
 done:∀(X:Cx),X.prog=P->X.w=w->X.K=K->X.calm=true->∀(i:Nat)pins(s:Shared)σ H E,cN X pins σ H s->(∀b∈fp,zD X pins H b)->tn i s.heap->J.stop i H ->
  wpAny (model P w) X.A (pyNext (.ref it)) (λr s1=>r=none/\cN X pins σ H s1) E s
 self:∀A(i:Nat)(s:Shared)Q E,tn i s.heap->Q (.ref it) s->wpAny (model P w) A (pyIter (.ref it)) Q E s
abbrev TI:=St->Hp->(It->Hp->Prop)->Prop
def PIE(X:Cx)(pins:List (Addr×Obj))(σ:St)(tg:Expr)(R:It->Hp->Prop)(itv:Value)(s2:Shared):Prop:=
 ∃(it:Addr)(fp:List Addr)(tn:Nat->Heap->Prop)(J:It)(H':Hp),itv=.ref it/\cN X pins σ H' s2/\IS X.prog X.w X.K tg J fp it tn/\tn 0 s2.heap/\(∀b∈fp,zD X pins H' b)/\R J H'
def PI(X:Cx)(tg iter:Expr)(wi:TI):Prop:=
 ∀pins(s:Shared)σ H(R:It->Hp->Prop),cN X pins σ H s->wi σ H R ->
  wpAny (model X.prog X.w) X.A (eval iter X.env) (λv s1=>wpAny (model X.prog X.w) X.A (pyIter v) (PIE X pins σ tg R) X.xe s1) X.xe s
def UZ{M A}{E:Value->Shared->Prop}{s:Shared}{tg}{it:Addr}{u}{o:Obj}{n vs}{Q:Unit->Shared->Prop}(ho:s.heap.get? it=some o)(hc:o.cls=.type n)(hd:o.data=.fields vs)
  (hn:["enumerate","zip","dict_itemiterator","dict_reverseitemiterator","odict_iterator","itertools.zip_longest","itertools.pairwise"].contains n=false) (hQ:Q () s):wpAny M A (letOwnedTupleGo tg (.ref it) u) Q E s:=by
 unfold letOwnedTupleGo
 cases tg<;>first
  |exact aW hQ
  | (cases u<;>first
    |exact aW hQ
    | (refine aG (wpAny_load ho ?_)
       rw[hc,hd];show wpAny M A (if(["enumerate","zip","dict_itemiterator","dict_reverseitemiterator","odict_iterator","itertools.zip_longest","itertools.pairwise"].contains n&&vs[0]?==some (rawInt _))=true then _ else _) Q E s;rw[if_neg (by intro h;rw[hn,aDd]at h;cases h)];exact aW hQ))
noncomputable def Itl(K:aF)(a:Addr):It:=
 ⟨λi H=>∃xs x,lM K H a xs/\xs[i]?=some x,λi H x H'=>H'=H/\∀xs,lM K H a xs->xs[i]?=some x,λi H=>∃xs,lM K H a xs/\xs.length<=i⟩
noncomputable def Itt(K:aF)(a:Addr):It:=
 ⟨λi H=>∃xs x,pA K H a xs/\xs[i]?=some x,λi H x H'=>H'=H/\∀xs,pA K H a xs->xs[i]?=some x,λi H=>∃xs,pA K H a xs/\xs.length<=i⟩
noncomputable def Itr(lo:Int)(n:Nat):It:=⟨λi _=>i<n,λi H x H'=>H'=H/\x=.int (lo+i),λi _=>n<=i⟩
def NN{P w K tg}(a it:Addr):IS P w K tg (Itl K a) [it] it (λi h=>h.IsListIter it a i) where
 mem:=by simp
 obj:=λi h st b hb=>by
  have e:b=it:=by simpa using hb
  subst e;obtain⟨o,e,c,d⟩:=st;exact⟨o,e,λv z=>by rw[d]at z;cases z⟩
 keep:=λi h h' st k=>st.at λo e=>k it (by simp) o e
 item:=by
  intro X hP hw hK hc i pins s σ H E I hf st hg;subst hP hw hK;obtain⟨xs,x,hq,hx⟩:=hg;obtain⟨its,rv,p,hz⟩:=I.list hq;obtain⟨u,hu,ru⟩:=rv.get hx;obtain⟨f0,f1,f2,f3,f4,f5⟩:=hf it (by simp);refine wpAny_pyNext_list_item st p.isList (x:=u) (by simpa using hu) λh' st' sb=>?_;have I1:cN X pins σ H { s with heap:=h' }:=I.turned (t':=s.toks) (λb o hb e=>(sb.2 b hb).trans e) f0 f1 f3 f4 f5;obtain⟨o,e,c,d⟩:=id st';exact⟨u,rfl,UZ (s:={ s with heap:=h' }) e c d (by decide) ⟨x,H,I1,ru,⟨rfl,λys hy=>by rw[I.list_inj hy hq];exact hx⟩,st',λb hb=>(hf b hb).1⟩⟩
 done:=by
  intro X hP hw hK hc i pins s σ H E I hf st hg;subst hP hw hK;obtain⟨xs,hq,hx⟩:=hg;obtain⟨its,rv,p,hz⟩:=I.list hq;obtain⟨f0,f1,f2,f3,f4,f5⟩:=hf it (by simp);have hl:=rv.length;exact wpAny_pyNext_list_end (I.ok.hd hc) st p.isList (by simp;omega) λh' eb=>⟨rfl,I.turned (t':=s.toks) (λb o hb e=>eb b o hb e) f0 f1 f3 f4 f5⟩
 self:=λ_ _ _ _ _ st h=>wpAny_pyIter_listiter st h
def JO{P w K tg}(a it:Addr):IS P w K tg (Itt K a) [it] it (λi h=>h.IsTupleIter it a i) where
 mem:=by simp
 obj:=λi h st b hb=>by
  have e:b=it:=by simpa using hb
  subst e;obtain⟨o,e,c,d⟩:=st;exact⟨o,e,λv z=>by rw[d]at z;cases z⟩
 keep:=λi h h' st k=>st.at λo e=>k it (by simp) o e
 item:=by
  intro X hP hw hK hc i pins s σ H E I hf st hg;subst hP hw hK;obtain⟨xs,x,hq,hx⟩:=hg;obtain⟨its,rv,p,hz⟩:=I.tuple hq;obtain⟨u,hu,ru⟩:=rv.get hx;obtain⟨f0,f1,f2,f3,f4,f5⟩:=hf it (by simp);refine wpAny_pyNext_tuple_item st (show s.heap.IsTuple a its.toArray from p) (x:=u) (by simpa using hu) λh' st' sb=>?_;have I1:cN X pins σ H { s with heap:=h' }:=I.turned (t':=s.toks) (λb o hb e=>(sb.2 b hb).trans e) f0 f1 f3 f4 f5;obtain⟨o,e,c,d⟩:=id st';exact⟨u,rfl,UZ (s:={ s with heap:=h' }) e c d (by decide) ⟨x,H,I1,ru,⟨rfl,λys hy=>by rw[I.tuple_inj hy hq];exact hx⟩,st',λb hb=>(hf b hb).1⟩⟩
 done:=by
  intro X hP hw hK hc i pins s σ H E I hf st hg;subst hP hw hK;obtain⟨xs,hq,hx⟩:=hg;obtain⟨its,rv,p,hz⟩:=I.tuple hq;obtain⟨f0,f1,f2,f3,f4,f5⟩:=hf it (by simp);have hl:=rv.length;exact wpAny_pyNext_tuple_end (I.ok.hd hc) st (show s.heap.IsTuple a its.toArray from p) (by simp;omega) λh' eb=>⟨rfl,I.turned (t':=s.toks) (λb o hb e=>eb b o hb e) f0 f1 f3 f4 f5⟩
 self:=λ_ _ _ _ _ st h=>wpAny_pyIter_tupleiter st h
def JP{P w K tg}(it:Addr)(lo:Int)(n:Nat):IS P w K tg (Itr lo n) [it] it (λi h=>IsRangeIter h it (lo+(i:Nat)*1) ((n:Int)-(i:Nat)) 1) where
 mem:=by simp
 obj:=λi h st b hb=>by
  have e:b=it:=by simpa using hb
  subst e
  exact⟨_,st,λv z=>by
   have z':Data.fields _=Data.cell v:=z;cases z'⟩
 keep:=λi h h' st k=>k it (by simp) _ st
 item:=by
  intro X hP hw hK hc i pins s σ H E I hf st hg;subst hP hw hK;obtain⟨f0,f1,f2,f3,f4,f5⟩:=hf it (by simp);have W:=Walks.range (prog:=X.prog) (w:=X.w) (I.ok.hd hc) it lo 1 n;refine W.item i s _ _ hg st λv h' tk hv st' kk=>?_;obtain⟨t,rfl⟩:=hv;have I1:cN X pins σ H { s with heap:=h',toks:=tk }:=I.turned (λb o hb e=>kk b o (by simpa using hb) e) f0 f1 f3 f4 f5;refine⟨_,rfl,UZ (s:={ s with heap:=h',toks:=tk }) (n:="range_iterator") st' rfl rfl (by decide) ⟨.int (lo+i),H,I1,⟨t,?_⟩,⟨rfl,rfl⟩,st',λb hb=>(hf b hb).1⟩⟩;rw[Int.mul_one]
 done:=by
  intro X hP hw hK hc i pins s σ H E I hf st hg;subst hP hw hK;obtain⟨f0,f1,f2,f3,f4,f5⟩:=hf it (by simp);exact wpAny_pyNext_range_end (I.ok.hd hc) st (by have:n<=i:=hg;omega) λh' eb=>⟨rfl,I.turned (t':=s.toks) (λb o hb e=>eb b o hb e) f0 f1 f3 f4 f5⟩
 self:=λ_ _ _ _ _ st h=>wpAny_pyIter_rangeiter st h
section
variable{X:Cx}{tg:Expr}
def SC{pins σ H}{s:Shared}{R:It->Hp->Prop}{E:Value->Shared->Prop}{lo hi:Int}{t u v}{tk:Nat}(I:cN X pins σ H s)(h1:-(2^62)<=lo)(h2:lo<2^62)(h3:-(2^62)<=hi)(h4:hi<2^62)
  (q:R (Itr lo (hi-lo).toNat) H):wpAny (model X.prog X.w) X.A (pyIter (.ref s.heap.objs.size)) (PIE X pins σ tg R) E { s with heap:=s.heap.push { cls:=.type "range",data:=.fields #[.int lo t,.int hi u,.int 1 v] },toks:=tk }:=by
 refine wpAny_pyIter_range (IsRange.new ..) (small_one h1 h2 h3 h4) ?_;have I1:cN X pins σ H { s with heap:=s.heap.push { cls:=.type "range",data:=.fields #[.int lo t,.int hi u,.int 1 v] },toks:=tk }:=I.kept λb o e=>aC _ e
 refine⟨(s.heap.push { cls:=.type "range",data:=.fields #[.int lo t,.int hi u,.int 1 v] }).objs.size,[(s.heap.push { cls:=.type "range",data:=.fields #[.int lo t,.int hi u,.int 1 v] }).objs.size],_,_,H,rfl,
  I1.kept (t':=tk) λb o e=>aC _ e,JP _ lo (hi-lo).toNat,?_,λb hb=>?_,q⟩
 ·have e1:lo+((0:Nat):Int)*1=lo:=by simp
  have e2:(((hi-lo).toNat:Nat):Int)-((0:Nat):Int)=Builtin.Range.rangeSize lo hi 1:=by rw[rangeSize_one];split<;>omega
  show IsRangeIter _ _ (lo+((0:Nat):Int)*1) ((((hi-lo).toNat:Nat):Int)-((0:Nat):Int)) 1;rw[e1,e2];exact aR _ rfl
 ·have e:b=(s.heap.push { cls:=.type "range",data:=.fields #[.int lo t,.int hi u,.int 1 v] }).objs.size:=by simpa using hb
  subst e;exact I1.fpOk (aM _) (I1.hok.fresh (aM _))
def aCp(ta:TA):TI:=λσ H R=>ta σ H λvs H1=>∃j:Int,vs=[.int j]/\-(2^62)<=j/\j<2^62/\R (Itr 0 j.toNat) H1
def pU{a ta p pos}(hg:Gl X "range")(hm:X.mg "range"=none)(ha:PA X [a] ta)(hs:bL [a] X.env=[(false,eval a X.env)]:=by rfl):PI X tg (.Call (.Name "range" p) [a] [] pos) (aCp ta):=by
 intro pins s σ H R I h;refine Call_ (sI I hg hm boot_range (PyProof.Rows.callWith_type1 (iU (ha pos pins s σ H _ I h) λus s1 zq=>?_) hs rfl));obtain⟨vs,H1,I1,r1,q1⟩:=zq;obtain⟨j,e,q1,q2,q⟩:=q1;subst e
 cases r1 with
 |cons r rr=>
  cases rr;obtain⟨t,rfl⟩:=r;exact call_range_1 (SC I1 (by omega) (by omega) q1 q2 (by simpa using q))
def aDy(wi:TI)(g:TG)(tb:TS):TS:=λD σ H=>wi σ H λJ H1=>∃W:Nat->Nat->St->Hp->Prop,(∃m,W 0 m σ H1)/\∀i m σ H,W i m σ H ->
 (J.stop i H/\D.nx σ H)\/(J.go i H/\∃N:St->Hp->Prop,(∀σ' H',N σ' H'->∃m',m'<m/\W (i+1) m' σ' H')/\∀x H',J.yld i H x H'->g x σ H' λσ2 H2=>tb { D with nx:=N,ct:=N,bk:=D.nx } σ2 H2)
noncomputable def BF(fp:List Addr)(h:Heap):List (Addr×Obj):=fp.filterMap λb=>(h.get? b).map λo=>(b,o)
def qS{fp}{h:Heap}{b:Addr}{o}(hb:b∈fp)(e:h.get? b=some o):(b,o)∈BF fp h:=QF.mpr ⟨b,hb,by rw[e];rfl⟩
def OB{fp}{h:Heap}{p:Addr×Obj}(hp:p∈BF fp h):p.1∈fp/\h.get? p.1=some p.2:=by
 obtain⟨b,hb,e⟩:=QF.mp hp
 cases q:h.get? b with
 |none=>rw[q]at e;cases e
 |some o=>
  rw[q]at e;have e':(b,o)=p:=Option.some.inj e;subst e';exact⟨hb,q⟩
def cN.pinned{pins σ H}{s:Shared}{fp}(I:cN X pins σ H s)(hf:∀b∈fp,zD X pins H b)(ho:∀b∈fp,∃o,s.heap.get? b=some o/\∀v,o.data≠.cell v):cN X (pins++BF fp s.heap) σ H s:=
 I.pins_of λp hp=>(dL.mp hp).elim (λz=>I.pin p (cH _ z)) λz=>by
  obtain⟨hb,e⟩:=OB z;obtain⟨f0,f1,f2,_⟩:=hf p.1 hb;obtain⟨o,e',d⟩:=ho p.1 hb;rw[e]at e';cases e';exact⟨e,f0,f1,f2,d⟩
def cN.unpinned{pins pl σ H s}(I:cN X (pins++pl) σ H s):cN X pins σ H s:=I.pins_of λp hp=>I.pin p (cH _ (nZ _ hp))
def SR{iter body wi g tb pos}(hp:PassesOwn (model X.prog X.w) X.A X.env X.xe)(hc:X.calm=true)(hi:PI X tg iter wi)(hg:PG X tg g)(hb:yN X body tb)
  (hs:∀x,foldedSetIterable iter X.env x=pure x:=by intro _;rfl):PS X (.For tg iter body [] pos) (aDy wi g tb):=by
 intro pins s σ H D I h;refine wpAny_For (iU (hi pins s σ H _ I h) λv s1 h1=>iU h1 λitv s2 h2=>?_) hs;obtain⟨it,fp,tn,J,H2,e,I2,T,st2,f2,W,⟨m0,w0⟩,turn⟩:=h2;subst e
 -- what stays true of the iterator's objects through the loop
 have stat:∀{H':Hp},(∀b∈fp,H' b=none)->∀b∈fp,zD X pins H' b:=λhn b hb=>⟨hn b hb,(f2 b hb).2⟩;refine codeAny_forLoop_any (λn s'=>∃i σ' H',cN X pins σ' H' s'/\tn i s'.heap/\(∀b∈fp,H' b=none)/\W i n σ' H') ?_ m0 ⟨0,σ,H2,I2,st2,λb hb=>(f2 b hb).1,w0⟩;rintro n s3 ⟨i,σ3,H3,I3,st3,fr3,w3⟩;rcases turn i n σ3 H3 w3 with⟨stop,qn⟩ | ⟨go,N,hN,step⟩
 ·refine wpAny_passesOwn hp (iU (T.done X rfl rfl rfl hc i pins s3 σ3 H3 X.xe I3 (stat fr3) st3 stop) λr s4 zq=>?_);obtain⟨hr,I4⟩:=zq;subst hr;exact wpAny_execs_nil ⟨σ3,H3,I4,qn⟩
 ·refine wpAny_passesOwn hp (iU (T.item X rfl rfl rfl hc i pins s3 σ3 H3 X.xe I3 (stat fr3) st3 go) λr s4 zq=>?_);obtain⟨u,hr,h4⟩:=zq;subst hr;refine wpAny_passesOwn hp (iU h4 λ_ s5 zq=>?_);obtain⟨x,H5,I5,r5,y5,st5,fr5⟩:=zq;have I5':=I5.pinned (stat fr5) (T.obj _ _ st5);refine wpAny_passesOwn hp (iU (hg _ s5 σ3 H5 x u _ I5' r5 (step x H5 y5)) λ_ s6 zq=>?_);obtain⟨σ6,H6,I6,q6⟩:=zq;refine wpAny_passesOwn hp (iU (hb _ s6 σ6 H6 _ I6 q6) λf s7 q7=>?_)
  have again:∀{σ7:St}{H7:Hp},cN X (pins++BF fp s5.heap) σ7 H7 s7->N σ7 H7->∃m,m<n/\∃i σ' H',cN X pins σ' H' s7/\tn i s7.heap/\(∀b∈fp,H' b=none)/\W i m σ' H':=λ{σ7 H7} I7 n7=>by
   obtain⟨m',hm,w7⟩:=hN σ7 H7 n7;refine⟨m',hm,i+1,σ7,H7,I7.unpinned,T.keep _ _ _ st5 λb hb o e=>(I7.pin (b,o) (cH _ (cH _ (qS hb e)))).1,λb hb=>?_,w7⟩;obtain⟨o,e,d⟩:=T.obj _ _ st5 b hb;exact(I7.pin (b,o) (cH _ (cH _ (qS hb e)))).2.1
  cases f with
  |next=>obtain⟨σ7,H7,I7,n7⟩:=q7;exact again I7 n7
  |cont=>obtain⟨σ7,H7,I7,n7⟩:=q7;exact again I7 n7
  |brk=>obtain⟨σ7,H7,I7,q7⟩:=q7;exact⟨σ7,H7,I7.unpinned,q7⟩
  |ret v=>obtain⟨x7,σ7,H7,I7,r7,q7⟩:=q7;exact⟨x7,σ7,H7,I7.unpinned,r7,q7⟩
end
abbrev R2:=V->V->Hp->VK->Prop
def pB(X:Cx)(f:Value->Value->Sem Value)(r:R2):Prop:=
 ∀pins s σ H(x y:V)(v u:Value)Q,cN X pins σ H s->eZ x v->eZ y u->r x y H Q ->
  wpAny (model X.prog X.w) X.A (f v u) (EP X pins σ Q) X.xe s
def UnR(X:Cx)(f:Value->Sem Value)(r:V->Hp->VK->Prop):Prop:=
 ∀pins s σ H(x:V)(v:Value)Q,cN X pins σ H s->eZ x v->r x H Q ->
  wpAny (model X.prog X.w) X.A (f v) (EP X pins σ Q) X.xe s
def lG(X:Cx)(f:Value)(r:List V->Hp->VK->Prop):Prop:=
 ∀pins s σ H(xs:List V)(us:List Value)Q,cN X pins σ H s->eW xs us->r xs H Q ->
  wpAny (model X.prog X.w) X.A (call f us) (EP X pins σ Q) X.xe s
def aM1(X:Cx)(r:V->Hp->(Bool->Hp->Prop)->Prop):Prop:=
 ∀pins s σ H(x:V)(v:Value)(Q:Bool->Hp->Prop),cN X pins σ H s->eZ x v->r x H Q ->
  wpAny (model X.prog X.w) X.A (truthy v) (TP X pins σ Q) X.xe s
def tOp(r:R2)(ta tb:TE):TE:=λσ H Q=>ta σ H λx H1=>tb σ H1 λy H2=>r x y H2 Q
def tUn(r:V->Hp->VK->Prop)(ta:TE):TE:=λσ H Q=>ta σ H λx H1=>r x H1 Q
def rI(C:Int->Int->Prop)(g:Int->Int->V):R2:=λx y H Q=>∃i j,x=.int i/\y=.int j/\C i j/\Q (g i j) H
def SG(g:Int->Int->V):R2:=λx y H Q=>∃i j,x=.int i/\y=.int j/\Q (g i j) H
def rU(g:Int->V):V->Hp->VK->Prop:=λx H Q=>∃i,x=.int i/\Q (g i) H
section
variable{X:Cx}{a b:Expr}{ta tb:TE}{pos:Pos}
def aF1(ha:PE X a ta)(hb:PE X b tb){pins s σ H}{R:V->V->Hp->Prop}(I:cN X pins σ H s)
  (h:ta σ H λx H1=>tb σ H1 λy H2=>R x y H2) {Q:Value->Shared->Prop} {f:Value->Value->Sem Value}
  (hf:∀v u s2 x y H2,cN X pins σ H2 s2->eZ x v->eZ y u->R x y H2->wpAny (model X.prog X.w) X.A (f v u) Q X.xe s2) :
  wpAny (model X.prog X.w) X.A (eval a X.env) (λv s₁=>wpAny (model X.prog X.w) X.A (eval b X.env) (λu s₂=>wpAny (model X.prog X.w) X.A (f v u) Q X.xe s₂) X.xe s₁) X.xe s:=by
 refine iU (ha pins s σ H _ I h) λv s1 zq=>?_;obtain⟨x,H1,I1,r1,q1⟩:=zq;refine iU (hb pins s1 σ H1 _ I1 q1) λu s2 zq=>?_;obtain⟨y,H2,I2,r2,q2⟩:=zq;exact hf v u s2 x y H2 I2 r1 r2 q2
def G6{op r}(ho:pB X (binaryOp op) r)(ha:PE X a ta)(hb:PE X b tb):PE X (.BinOp a op b pos) (tOp r ta tb):=by
 intro pins s σ H Q I h;exact wpAny_BinOp (aF1 ha hb I h λv u s2 x y H2 I2 rx ry q=>ho pins s2 σ H2 x y v u Q I2 rx ry q)
def aH4{op}{r:V->Hp->VK->Prop}(ho:UnR X (unaryOp op) r)(ha:PE X a ta):PE X (.UnaryOp op a pos) (tUn r ta):=by
 intro pins s σ H Q I h;exact UnaryOp_ (iU (ha pins s σ H _ I h) λv s1 ⟨x,H1,I1,r1,q1⟩=>ho pins s1 σ H1 x v Q I1 r1 q1)
def opI{f:Value->Value->Sem Value}{C:Int->Int->Prop}{g:Int->Int->Int}
  (rule:∀(i j:Int)(t u:Tok)(s:Shared)Q E,C i j->Q (.int (g i j) s.toks) { s with toks:=s.toks+1 }->wpAny (model X.prog X.w) X.A (f (.int i t) (.int j u)) Q E s) :
  pB X f (rI C λi j=>.int (g i j)):=by
 intro pins s σ H x y v u Q I rx ry h;obtain⟨i,j,rfl,rfl,hc,q⟩:=h;obtain⟨t,rfl⟩:=rx;obtain⟨t',rfl⟩:=ry;exact rule i j t t' s _ _ hc ⟨.int (g i j),H,I.tok _,⟨_,rfl⟩,q⟩
def aH9{f:Value->Value->Sem Value}{g:Int->Int->Int}
  (rule:∀(i j:Int)(t u:Tok)(s:Shared)Q E,Q (.int (g i j) s.toks) { s with toks:=s.toks+1 }->wpAny (model X.prog X.w) X.A (f (.int i t) (.int j u)) Q E s) :
  pB X f (SG λi j=>.int (g i j)):=by
 intro pins s σ H x y v u Q I rx ry h;obtain⟨i,j,rfl,rfl,q⟩:=h;obtain⟨t,rfl⟩:=rx;obtain⟨t',rfl⟩:=ry;exact rule i j t t' s _ _ ⟨.int (g i j),H,I.tok _,⟨_,rfl⟩,q⟩
def YF{f:Value->Value->Sem Value}{g:Int->Int->Bool}
  (rule:∀(i j:Int)(t u:Tok)s Q E,Q (.bool (g i j)) s->wpAny (model X.prog X.w) X.A (f (.int i t) (.int j u)) Q E s) :
  pB X f (SG λi j=>.bl (g i j)):=by
 intro pins s σ H x y v u Q I rx ry h;obtain⟨i,j,rfl,rfl,q⟩:=h;obtain⟨t,rfl⟩:=rx;obtain⟨t',rfl⟩:=ry;exact rule i j t t' s _ _ ⟨.bl (g i j),H,I,rfl,q⟩
def aGc(i j:Int):Prop:=0<j/\j<1073741824
def LD(i j:Int):Prop:=(-(2^64)<i/\i<2^64)\/(-(2^64)<j/\j<2^64)
def LD.ok{i j:Int}(h:LD i j):IntMulOk i j:=by
 rcases h with⟨h1,h2⟩ | ⟨h1,h2⟩
 ·exact .of_left (intBits_le_64 h1 h2)
 ·exact .of_right (intBits_le_64 h1 h2)
def aEu:pB X (binaryOp .Add) (SG λi j=>.int (i+j)):=aH9 λ_ _ _ _ _ _ _ q=>add_int q
def sE:pB X (binaryOp .Sub) (SG λi j=>.int (i-j)):=aH9 λ_ _ _ _ _ _ _ q=>sub_int q
def TB:pB X (binaryOp .Mult) (rI LD λi j=>.int (i*j)):=opI λ_ _ _ _ _ _ _ hc q=>mul_int q hc.ok
def wD:pB X (binaryOp .FloorDiv) (rI aGc λi j=>.int (i / j)):=opI λi j _ _ _ _ _ hc q=>by
 have h1:(0:Int)<j:=hc.1;have h2:j<1073741824:=hc.2;exact floordiv_int (by omega) (by rw[GC i (by omega)];exact q) (.inl (PyProof.noPylong_small (by omega)))
def nL:pB X (binaryOp .Mod) (rI (λ_ j=>0<j) λi j=>.int (i%j)):=opI λi j _ _ _ _ _ hc q=>by
 have h1:(0:Int)<j:=hc;exact mod_int' (by omega) (by rw[Int.fmod_eq_emod_of_nonneg i (by omega)];exact q)
def unI{f:Value->Sem Value}{g:Int->Int}
  (rule:∀(i:Int)(t:Tok)(s:Shared)Q E,Q (.int (g i) s.toks) { s with toks:=s.toks+1 }->wpAny (model X.prog X.w) X.A (f (.int i t)) Q E s) :
  UnR X f (rU λi=>.int (g i)):=by
 intro pins s σ H x v Q I rx h;obtain⟨i,rfl,q⟩:=h;obtain⟨t,rfl⟩:=rx;exact rule i t s _ _ ⟨.int (g i),H,I.tok _,⟨_,rfl⟩,q⟩
def aDn:UnR X (unaryOp .USub) (rU λi=>.int (-i)):=unI λ_ _ _ _ _ q=>neg_int q
end
noncomputable def aEc:V->V->Bool
|.non,.non=>true | .non,.int _=>true | .int _,.non=>true | .non,.bl _=>true | .bl _,.non=>true | .non,.str _=>true | .str _,.non=>true
|.int _,.int _=>true | .bl _,.bl _=>true | .str _,.str _=>true | .byt _,.byt _=>true
|.int _,.str _=>true | .str _,.int _=>true | .bl _,.str _=>true | .str _,.bl _=>true
|_,_=>false
def rEq:R2:=λx y H Q=>aEc x y=true/\Q (.bl (decide (x=y))) H
def rNe:R2:=λx y H Q=>aEc x y=true/\Q (.bl (!decide (x=y))) H
def M2{i j:Int}:decide (V.int i=V.int j)=(i==j):=by
 rw[fG];simp
def VN{i j:Bool}:decide (V.bl i=V.bl j)=(i==j):=by
 rw[fG];simp
def M1{i j}:decide (V.str i=V.str j)=(i==j):=by
 rw[fG];simp
def M3{i j:Array UInt8}:decide (V.byt i=V.byt j)=(i.toList==j.toList):=by
 rw[fG];cases i;cases j;simp
section
variable{X:Cx}{a b c:Expr}{ta tb tc:TE}{pos:Pos}
def fT{pins σ H s Q}{k k':Bool}(I:cN X pins σ H s)(q:Q (.bl k) H)(e:k=k'):EP X pins σ Q (.bool k') s:=by
 subst e;exact⟨.bl k,H,I,rfl,q⟩
def lV:pB X (compareOp .Eq) rEq:=by
 intro pins s σ H x y v u Q I rx ry h;obtain⟨hs,q⟩:=h
 cases x with
 |non=>
  cases rx
  cases y with
  |non=>cases ry;exact PySem.EqNone.eq_none_none (fT I q (by simp))
  |bl j=>cases ry;exact PySem.EqNone.eq_none_bool (fT I q (by simp))
  |int j=>obtain⟨t',rfl⟩:=ry;exact PySem.EqNone.eq_none_int (fT I q (by simp))
  |str j=>obtain⟨t',rfl⟩:=ry;exact PySem.EqNone.eq_none_str (fT I q (by simp))
  |_=>exact absurd (show false=true from hs) bY
 |bl i=>
  cases rx
  cases y with
  |non=>cases ry;exact PySem.EqNone.eq_bool_none (fT I q (by simp))
  |bl j=>cases ry;exact eq_bool (fT I q VN)
  |str j=>obtain⟨t',rfl⟩:=ry;exact PySem.EqMixed.eq_bool_str (fT I q (by simp))
  |_=>exact absurd (show false=true from hs) bY
 |int i=>
  obtain⟨t,rfl⟩:=rx
  cases y with
  |non=>cases ry;exact PySem.EqNone.eq_int_none (fT I q (by simp))
  |int j=>obtain⟨t',rfl⟩:=ry;exact eq_int (fT I q M2)
  |str j=>obtain⟨t',rfl⟩:=ry;exact PySem.EqMixed.eq_int_str (fT I q (by simp))
  |_=>exact absurd (show false=true from hs) bY
 |str i=>
  obtain⟨t,rfl⟩:=rx
  cases y with
  |non=>cases ry;exact PySem.EqNone.eq_str_none (fT I q (by simp))
  |bl j=>cases ry;exact PySem.EqMixed.eq_str_bool (fT I q (by simp))
  |int j=>obtain⟨t',rfl⟩:=ry;exact PySem.EqMixed.eq_str_int (fT I q (by simp))
  |str j=>obtain⟨t',rfl⟩:=ry;exact eq_str (fT I q M1)
  |_=>exact absurd (show false=true from hs) bY
 |byt i=>
  obtain⟨t,rfl⟩:=rx
  cases y with
  |byt j=>obtain⟨t',rfl⟩:=ry;exact PySem.W.eq_bytes (fT I q M3)
  |_=>exact absurd (show false=true from hs) bY
 |_=>cases y<;>exact absurd (show false=true from hs) bY
def S9:pB X (compareOp .NotEq) rNe:=by
 intro pins s σ H x y v u Q I rx ry h;obtain⟨hs,q⟩:=h
 cases x with
 |non=>
  cases rx
  cases y with
  |non=>cases ry;exact PySem.EqNone.ne_none_none (fT I q (by simp))
  |bl j=>cases ry;exact PySem.EqNone.ne_none_bool (fT I q (by simp))
  |int j=>obtain⟨t',rfl⟩:=ry;exact PySem.EqNone.ne_none_int (fT I q (by simp))
  |str j=>obtain⟨t',rfl⟩:=ry;exact PySem.EqNone.ne_none_str (fT I q (by simp))
  |_=>exact absurd (show false=true from hs) bY
 |bl i=>
  cases rx
  cases y with
  |non=>cases ry;exact PySem.EqNone.ne_bool_none (fT I q (by simp))
  |bl j=>cases ry;exact ne_bool (fT I q (congrArg not VN))
  |str j=>obtain⟨t',rfl⟩:=ry;exact PySem.EqMixed.ne_bool_str (fT I q (by simp))
  |_=>exact absurd (show false=true from hs) bY
 |int i=>
  obtain⟨t,rfl⟩:=rx
  cases y with
  |non=>cases ry;exact PySem.EqNone.ne_int_none (fT I q (by simp))
  |int j=>obtain⟨t',rfl⟩:=ry;exact ne_int (fT I q (congrArg not M2))
  |str j=>obtain⟨t',rfl⟩:=ry;exact PySem.EqMixed.ne_int_str (fT I q (by simp))
  |_=>exact absurd (show false=true from hs) bY
 |str i=>
  obtain⟨t,rfl⟩:=rx
  cases y with
  |non=>cases ry;exact PySem.EqNone.ne_str_none (fT I q (by simp))
  |bl j=>cases ry;exact PySem.EqMixed.ne_str_bool (fT I q (by simp))
  |int j=>obtain⟨t',rfl⟩:=ry;exact PySem.EqMixed.ne_str_int (fT I q (by simp))
  |str j=>obtain⟨t',rfl⟩:=ry;exact ne_str (fT I q (congrArg not M1))
  |_=>exact absurd (show false=true from hs) bY
 |byt i=>
  obtain⟨t,rfl⟩:=rx
  cases y with
  |byt j=>obtain⟨t',rfl⟩:=ry;exact PySem.W.ne_bytes (fT I q (congrArg not M3))
  |_=>exact absurd (show false=true from hs) bY
 |_=>cases y<;>exact absurd (show false=true from hs) bY
def TD:pB X (compareOp .Lt) (SG λi j=>.bl (decide (i<j))):=YF λ_ _ _ _ _ _ _ q=>lt_int q
def aCf:pB X (compareOp .LtE) (SG λi j=>.bl (decide (i<=j))):=YF λ_ _ _ _ _ _ _ q=>le_int q
def BH:pB X (compareOp .Gt) (SG λi j=>.bl (decide (j<i))):=YF λ_ _ _ _ _ _ _ q=>gt_int q
def DP:pB X (compareOp .GtE) (SG λi j=>.bl (decide (j<=i))):=YF λ_ _ _ _ _ _ _ q=>ge_int q
def N7:pB X (compareOp .In) (λx y H Q=>∃i j,x=.str i/\y=.str j/\Q (.bl (!(Builtin.Str.occurrences j i 0 j.length 1).isEmpty)) H):=by
 intro pins s σ H x y v u Q I rx ry h;obtain⟨i,j,rfl,rfl,q⟩:=h;obtain⟨t,rfl⟩:=rx;obtain⟨t',rfl⟩:=ry;exact in_str (fT I q rfl)
def aEs:pB X (compareOp .Is) (λx y H Q=>y=.non/\Q (.bl (decide (x=.non))) H):=by
 intro pins s σ H x y v u Q I rx ry h;obtain⟨rfl,q⟩:=h;cases ry;refine is_none_gen (fT I q ?_)
 cases x<;>first
  | (cases rx;rfl)
  | (obtain⟨t,rfl⟩:=rx;rfl)
def pB.or{f:Value->Value->Sem Value}{r r':R2}(h:pB X f r)(h':pB X f r'):pB X f (λx y H Q=>r x y H Q\/r' x y H Q):=by
 intro pins s σ H x y v u Q I rx ry q;rcases q with q | q
 ·exact h pins s σ H x y v u Q I rx ry q
 ·exact h' pins s σ H x y v u Q I rx ry q
def KB(b:Expr){op}(h:op≠.In:=by decide)(h2:op≠.NotIn:=by decide):behindInMarks op b=false:=by
 have e1:(op==CmpOp.In)=false:=by cases op<;>first | rfl | exact absurd rfl h
 have e2:(op==CmpOp.NotIn)=false:=by cases op<;>first | rfl | exact absurd rfl h2
 cases b<;>simp[behindInMarks,e1,e2]
def YD{op r}(ho:pB X (compareOp op) r)(ha:PE X a ta)(hb:PE X b tb)(hm:behindInMarks op b=false):PE X (.Compare a [op] [b] pos) (tOp r ta tb):=by
 intro pins s σ H Q I h;exact wpAny_Compare1 (aF1 ha hb I h λv u s2 x y H2 I2 rx ry q=>ho pins s2 σ H2 x y v u Q I2 rx ry q) hm
def aG7(t:TE):TT:=λσ H Q=>t σ H λx H'=>∃k,x=.bl k/\Q k H'
def L6{op r}(ho:pB X (compareOp op) r)(ha:PE X a ta)(hb:PE X b tb)(hm:behindInMarks op b=false):PT X (.Compare a [op] [b] pos) (aG7 (tOp r ta tb)):=by
 intro pins s σ H Q I h
 refine wpAny_isTrue_Compare1 (iU (ha pins s σ H _ I h) λv s1 ⟨x,H1,I1,r1,q1⟩=>iU (hb pins s1 σ H1 _ I1 q1) λu s2 ⟨y,H2,I2,r2,q2⟩=>
  iU (ho pins s2 σ H2 x y v u _ I2 r1 r2 q2) λc s3 ⟨z,H3,I3,r3,k,e,q3⟩=>?_) hm
 subst e;cases r3;exact wpAny_truthy_bool ⟨H3,I3,q3⟩
def Q8(r r':R2)(ta tb tc:TE):TE:=λσ H Q=>ta σ H λx H1=>tb σ H1 λy H2=>r x y H2 λz H3=>∃k,z=.bl k /\
 (if k=true then tc σ H3 λw' H4=>r' y w' H4 Q else Q (.bl false) H3)
def S7{op op' r r'}(ho:pB X (compareOp op) r)(ho':pB X (compareOp op') r')(ha:PE X a ta)(hb:PE X b tb)(hc:PE X c tc)
  (hm:lastMarks [op,op'] [b,c]=false:=by with_unfolding_all rfl):PE X (.Compare a [op,op'] [b,c] pos) (Q8 r r' ta tb tc):=by
 intro pins s σ H Q I h
 refine Compare_chain (iU (ha pins s σ H _ I h) λv s1 ⟨x,H1,I1,r1,q1⟩=>chain_link (iU (hb pins s1 σ H1 _ I1 q1) λu s2 ⟨y,H2,I2,r2,q2⟩=>
  iU (ho pins s2 σ H2 x y v u _ I2 r1 r2 q2) λd s3 ⟨z,H3,I3,r3,k,e,q3⟩=>?_)) hm
 subst e;cases r3;refine wpAny_truthy_bool ?_
 cases k with
 |false=>exact ite_ff ⟨.bl false,H3,I3,rfl,q3⟩
 |true=>exact ite_tt (chain_last (iU (hc pins s3 σ H3 _ I3 q3) λw' s4 ⟨z',H4,I4,r4,q4⟩=>ho' pins s4 σ H4 y z' u w' Q I4 r2 r4 q4))
def aF4(K:aF)(x:V)(H:Hp)(k:Bool):Prop:=
 match x with
 |.non=>k=false
 |.bl b=>k=b
 |.int i=>k=(i != 0)
 |.str y=>y.length<=bE/\k=((y.length:Int) != 0)
 |.byt y=>y.size<=bE/\k=((y.size:Int) != 0)
 |.ref p=>(∃xs,lM K H p xs/\k=!xs.isEmpty)\/(∃xs,pA K H p xs/\k=!xs.isEmpty)\/∃kvs,H p=some (.dK kvs)/\k=!kvs.isEmpty
 |_=>False
def KQ{κ:Type}{kvs:List (κ×V)}{vs:List (κ×Value)}(r:KV kvs vs):(!vs.isEmpty)=!kvs.isEmpty:=by
 cases r<;>rfl
def BW{xs:List V}{its:List Value}(r:eW xs its):(!its.toArray.isEmpty)=!xs.isEmpty:=by
 cases r<;>simp
def uZ:(bE:Nat)<2^63:=by rw[sizeLine_eq];decide
def aDr:aM1 X (λx H Q=>∃k,aF4 X.K x H k/\Q k H):=by
 intro pins s σ H x v Q I rx h;obtain⟨k,e,q⟩:=h;have hl:=uZ;have hs:bE=16777216:=sizeLine_eq
 cases x with
 |non=>
  cases rx;have e':k=false:=e;subst e';exact truthy_none ⟨H,I,q⟩
 |bl b=>
  cases rx;have e':k=b:=e;subst e';exact wpAny_truthy_bool ⟨H,I,q⟩
 |int i=>
  obtain⟨t,rfl⟩:=rx;have e':k=(i != 0):=e;subst e';exact PySem.P.truthy_int ⟨H,I,q⟩
 |str y=>
  obtain⟨t,rfl⟩:=rx;obtain⟨hy,e'⟩:y.length<=bE/\k=((y.length:Int) != 0):=e;subst e';exact PySem.P.truthy_str (by omega) ⟨H,I.tok _,q⟩
 |byt y=>
  obtain⟨t,rfl⟩:=rx;obtain⟨hy,e'⟩:y.size<=bE/\k=((y.size:Int) != 0):=e;subst e';exact PySem.W.truthy_bytes (by omega) ⟨H,I.tok _,q⟩
 |ref p=>
  cases rx;have e':(∃xs,lM X.K H p xs/\k=!xs.isEmpty)\/(∃xs,pA X.K H p xs/\k=!xs.isEmpty)\/∃kvs,H p=some (.dK kvs)/\k=!kvs.isEmpty:=e;rcases e' with⟨xs,hx,e'⟩ | ⟨xs,hx,e'⟩ | ⟨kvs,hx,e'⟩
  ·subst e';obtain⟨its,r,pl,hz⟩:=I.list hx;have hlen:=r.length;exact wpAny_truthy_list pl.isList (by simp only[aX];omega) ⟨H,I.tok _,by rw[BW r];exact q⟩
  ·subst e';obtain⟨its,r,pl,hz⟩:=I.tuple hx;have hlen:=r.length;exact truthy_tuple pl (by simp only[aX];omega) ⟨H,I.tok _,by rw[BW r];exact q⟩
  ·subst e';obtain⟨hz,hS,vs,r,m⟩:kvs.length<=bE/\(p==sysModules)=false/\∃vs,KV kvs vs/\s.heap.DictOf (iB X.prog X.w) p vs:=I.hok p _ hx;have hlen:kvs.length=vs.length:=Paired.length r;exact wpAny_truthy_dict hS m (by omega) ⟨H,I.tok _,by rw[KQ r];exact q⟩
 |_=>exact(show False from e).elim
def SL(ha:PE X a ta)(he:∀whole,isTrue a X.env whole=(do let v <- whole;standAt a.pos;holding [v] (truthy v))) :
  PT X a (λσ H Q=>ta σ H λx H'=>∃k,aF4 X.K x H' k/\Q k H'):=by
 intro pins s σ H Q I h;exact isTrue_plain (iU (ha pins s σ H _ I h) λv s1 ⟨x,H1,I1,r1,q1⟩=>aDr pins s1 σ H1 x v Q I1 r1 q1) (he _)
def J6:pB X (binaryOp .Add) (λx y H Q=>∃i j,x=.str i/\y=.str j/\i.length+j.length<=bE/\Q (.str (i++j)) H):=by
 intro pins s σ H x y v u Q I rx ry h;obtain⟨i,j,rfl,rfl,hz,q⟩:=h;obtain⟨t,rfl⟩:=rx;obtain⟨t',rfl⟩:=ry;exact add_str (λt' tk=>⟨.str (i++j),H,I.tok _,⟨_,rfl⟩,q⟩) hz
def pC{x us}(r:eW [x] us):∃u,us=[u]/\eZ x u:=by
 cases r with
 |cons r1 r2=>cases r2;exact⟨_,rfl,r1⟩
def LK{x y us}(r:eW [x,y] us):∃u w',us=[u,w']/\eZ x u/\eZ y w':=by
 cases r with
 |cons r1 r2=>
  cases r2 with
  |cons r3 r4=>cases r4;exact⟨_,_,rfl,r1,r3⟩
def O6:lG X (.type "int") (λxs H Q=>(∃i,xs=[.int i]/\Q (.int i) H)\/∃k,xs=[.bl k]/\Q (.int (if k then 1 else 0)) H):=by
 intro pins s σ H xs us Q I r h;rcases h with⟨i,rfl,q⟩ | ⟨k,rfl,q⟩
 ·obtain⟨u,rfl,t,rfl⟩:=pC r;exact call_int_int ⟨.int i,H,I,⟨_,rfl⟩,q⟩
 ·obtain⟨u,rfl,r1⟩:=pC r;cases r1;exact call_int_bool ⟨.int (if k then 1 else 0),H,I.tok _,⟨_,rfl⟩,q⟩
end
structure K8(h:Heap)(x dx C:Addr)(mA:Str->Option Value):Prop where
 obj:h.get? x=some (jC C dx)
 ns:h.Ns1 dx mA
 ne:dx≠x
def ON{h:Heap}{dx:Addr}{mA:Str->Option Value}(n:h.Ns1 dx mA):∃od,h.get? dx=some od/\∀name,sT name od=some (mA name):=by
 obtain⟨o,es,ep,ho,hd,hk,_,hm⟩:=n;refine⟨o,ho,λname=>?_⟩;have e:=hm name;unfold nsFind findBy at e;rw[<- P1]at e;unfold sT;rw[hd];dsimp only;split
 ·rename_i y q;rw[q]at e;exact congrArg some e
 ·rename_i q;rw[q]at e
  have a:es.toList.any (·.refKey)=false:=by
   rw[List.any_eq_false];intro y hy;obtain⟨z,t,hkey⟩:=hk y (Array.mem_toList_iff.mp hy);simp[DictEntry.refKey,hkey]
  have a':¬es.toList.any (·.refKey)=true:=by rw[a];exact bY
  rw[if_neg a'];exact congrArg some e
def K8.look{h}{x dx C:Addr}{mA:Str->Option Value}(I:K8 h x dx C mA):∃od,kY h x (jC C dx) C (some od)/\∀name,sT name od=some (mA name):=
 let ⟨od,ho,hl⟩:=ON I.ns
 ⟨od,⟨I.obj,rfl,rfl,ho⟩,hl⟩
section
variable{prog:cC}{w:World}{A:Around}{E:Value->Shared->Prop}{s:Shared}{K:aF}{x dx C f:Addr}{mA:Str->Option Value}{name:Str}{v:Value}
def Y5{expr:Bool}{Q:Value->Shared->Prop}(X:K.In s.heap)(I:K8 s.heap x dx C mA)(hg:qE K C name=true)(hh:wY K C=true)
  (ha:dA K (.ref C) name=some none) (hv:mA name=some v) (hv':PP v=true) (h:Q v { s with toks:=s.toks+1 }) :
  wpAny (model prog w) A (getAttr (.ref x) name expr) Q E s:=by
 obtain⟨od,J,hl⟩:=I.look;exact PySem.W.get_value X J (uB hg).1 (PySem.W.findObj_own hh ha rfl (by rw[hl,hv])) hv' h
def U0{pl}{Q:Value×List Value->Shared->Prop}(X:K.In s.heap)(I:K8 s.heap x dx C mA)(hg:qE K C name=true)
  (hf:dA K (.ref C) name=some (some (.ref f))) (ht:F5 K (.ref f)=true) (hv:mA name=none) (h:Q (.ref f,[.ref x]) s) :
  wpAny (model prog w) A (getMethod (.ref x) name pl) Q E s:=by
 obtain⟨od,J,hl⟩:=I.look;exact PySem.W.method_fn X J (uB hg).1 (uB hg).2 hf (beq_iff_eq.mp ht) (by show(sT name od).map (·.isSome)=some false;rw[hl,hv];rfl) h
def XR{ns:List Str}{Q:Unit->Shared->Prop}(X:K.In s.heap)(I:K8 s.heap x dx C mA)
  (hs:dA K (.ref C) "__setattr__"=some (some (.builtin "object.__setattr__"))) (hp:ND K C=true) (ht:zG K C name=some none) (hh:wY K C=true)
  (hw:PySem.Within mA ns) (hsz:ns.length<=bE)
  (h:∀h',K8 h' x dx C (λy=>if y=name then some v else mA y)->eY dx s.heap h'->Q () { s with heap:=h',toks:=s.toks+2 }) :
  wpAny (model prog w) A (setAttr (.ref x) name v) Q E s:=by
 obtain⟨od,J,hl⟩:=I.look;refine PySem.W.set_plain X J hs (PySem.W.osa_open (s:={ s with toks:=s.toks+1 }) (r:=none) X J hp ht λb=>?_);obtain⟨cd,hc,hd'⟩:=PySem.W.any_some hh;have hx:s.heap.get? x=some ⟨.ref C,some dx,.plain,#[]⟩:=I.obj;refine aG (aW (aG (aG (wpAny_loadPart hx (aG (pL.here (s:={ s with toks:=s.toks+1 }) (PySem.W.looks_clsIn X hc) ?_))))));rw[hd'];refine aW (a:=some dx) (aG (aW (aG ?_)));refine wpAny_nsSet1 (s:={ s with toks:=s.toks+1 }) I.ns λh' hn2 hs2=>?_;obtain⟨oD,esD,epD,hoD,hdD,hcD⟩:=hn2.count (PySem.Within.cons name v hw);refine aG (wpAny_lookBehind hoD (by rw[hdD];exact pastItsLine_dict (bK hcD (by rw[dH];omega))) ?_);exact aW (h _ ⟨(hs2.2 _ (Ne.symm I.ne)).trans I.obj,hn2,I.ne⟩ hs2)
def T9{R:Result->Shared->Prop}{vs kw}(X:K.In s.heap)(hm:QB K C=true)
  (hi:dA K (.ref C) "__init__"=some (some (.ref f))) (hf:fU K (.ref f)=some (.type "function"))
  (h:codeAny (model prog w) (A.under (.builtin "type.__call__" ⟨.ref C::vs,kw⟩)) (.call (.ref f) ⟨.ref (s.heap.objs.size+1)::vs,kw⟩) (PySem.W.InitBack (s.heap.objs.size+1) R)
   { s with heap:=(s.heap.push gI).push (jC C s.heap.objs.size) }) :
  codeAny (model prog w) A (.call (.ref C) ⟨vs,kw⟩) R s:=by
 obtain⟨hh,g,d,t,os⟩:=s;exact PySem.W.make_core (PySem.W.makes_of X hm) (nG X hi) (λself=>PySem.W.bind_fn X self hf) (.inl rfl) h
end
noncomputable def rY(f:Str)(v:V):List (Str×V)->List (Str×V)
|[]=>[(f,v)]
| (g,x)::r=>if g=f then(g,v)::r else(g,x)::rY f v r
theorem yC(f g:Str)(v:V):∀fs:List (Str×V),(rY f v fs).lookup g=if g=f then some v else fs.lookup g
|[]=>by
 show jK g [(f,v)]=_;by_cases h:g=f
 ·have hb:(g==f)=true:=beq_iff_eq.mpr h;simp only[jK,hb,if_pos h]
 ·have hb:(g==f)=false:=beq_eq_false_iff_ne.mpr h;simp only[jK,hb,if_neg h]
| (k,x)::r=>by
 have ih:=yC f g v r;rw[show rY f v ((k,x)::r)=(if k=f then(k,v)::r else(k,x)::rY f v r)from rfl];by_cases hk:k=f
 ·rw[if_pos hk];by_cases h:g=k
  ·have hb:(g==k)=true:=beq_iff_eq.mpr h;simp only[jK,hb,if_pos (h.trans hk)]
  ·have hb:(g==k)=false:=beq_eq_false_iff_ne.mpr h;simp only[jK,hb,if_neg (λe:g=f=>h (e.trans hk.symm))]
 ·rw[if_neg hk];by_cases h:g=k
  ·have hb:(g==k)=true:=beq_iff_eq.mpr h;simp only[jK,hb,if_neg (λe:g=f=>hk (h.symm.trans e))]
  ·have hb:(g==k)=false:=beq_eq_false_iff_ne.mpr h;simp only[jK,hb];exact ih
theorem xK(f:Str)(v:V):∀fs:List (Str×V),f∈(rY f v fs).map (·.1)/\∀g,g∈fs.map (·.1)->g∈(rY f v fs).map (·.1)
|[]=>⟨by simp[rY],λg h=>by simp at h⟩
| (k,x)::r=>by
 obtain⟨i1,i2⟩:=xK f v r;rw[show rY f v ((k,x)::r)=(if k=f then(k,v)::r else(k,x)::rY f v r)from rfl];by_cases hk:k=f
 ·rw[if_pos hk];subst hk;exact⟨by simp,λg h=>by simpa using h⟩
 ·rw[if_neg hk];refine⟨?_,λg h=>?_⟩
  ·rw[bX];exact aI _ i1
  ·rw[bX]at h |-
   rcases aN.mp h with e | e
   ·exact aN.mpr (.inl e)
   ·exact aI _ (i2 g e)
theorem yG(f:Str)(v:V):∀fs:List (Str×V),(rY f v fs).length<=fs.length+1
|[]=>by simp[rY]
| (k,x)::r=>by
 have ih:=yG f v r;rw[show rY f v ((k,x)::r)=(if k=f then(k,v)::r else(k,x)::rY f v r)from rfl];by_cases hk:k=f
 ·rw[if_pos hk,dH,dH];omega
 ·rw[if_neg hk,dH,dH];omega
def sP.some_of{v o}(r:sP (some v) o):∃u,o=some u/\eZ v u:=by
 cases o with
 |none=>exact(show False from r).elim
 |some u=>exact⟨u,rfl,r⟩
def sP.none_of{o}(r:sP none o):o=none:=by
 cases o with
 |none=>rfl
 |some u=>exact(show False from r).elim
def OX{v u}(r:eZ v u):PP u=true:=by
 cases v with
 |non=>cases (show u=Value.none from r);rfl
 |bl b=>cases (show u=Value.bool b from r);rfl
 |int i=>obtain⟨t,e⟩:=(show∃t,u=Value.int i t from r);cases e;rfl
 |str x=>obtain⟨t,e⟩:=(show∃t,u=Value.str x t from r);cases e;rfl
 |byt b=>obtain⟨t,e⟩:=(show∃t,u=Value.bytes b t from r);cases e;rfl
 |flt b=>obtain⟨t,e⟩:=(show∃t,u=Value.float b t from r);cases e;rfl
 |ref a=>cases (show u=Value.ref a from r);rfl
 |ty n=>cases (show u=Value.type n from r);rfl
section
variable{P:cC}{w:World}{H:Hp}{h:Heap}{a C dx:Addr}{fs:List (Str×V)}
def AD(hok:oF P w H h)(e:H a=some (.ins C dx fs)):∃mA,K8 h a dx C mA/\(∀f,sP (fs.lookup f) (mA f))/\PySem.Within mA (fs.map (·.1))/\fs.length<=1000/\H dx=some (.own a):=by
 obtain⟨d,z,ne,ob,mA,n,r,q⟩:=(show iE P w H h a (.ins C dx fs)from hok a _ e);exact⟨mA,⟨ob,n,ne⟩,r,q,z,d⟩
end
structure zF(K:aF)(C:Addr):Prop where
 pg:qE K C Str.empty=true
 hd:wY K C=true
 po:ND K C=true
 sa:dA K (.ref C) "__setattr__"=some (some (.builtin "object.__setattr__"))
def zF.get{K}{C:Addr}(c:zF K C)(f:Str):qE K C f=true:=c.pg
def gB(K:aF)(C:Addr)(f:Str):Prop:=dA K (.ref C) f=some none
def gB.taker{K}{C:Addr}{f}(n:gB K C f):zG K C f=some none:=by
 unfold zG;rw[show dA K (.ref C) f=some none from n]
 rfl
structure zC(K:aF)(C:Addr)(m:Str)(f:Addr):Prop where
 at_:dA K (.ref C) m=some (some (.ref f))
 fn:F5 K (.ref f)=true
 kp:fV K (.ref f)=true
section
variable{X:Cx}{pins:List (Addr×Obj)}{σ:St}{H:Hp}{s:Shared}{a C dx:Addr}{fs:List (Str×V)}{f:Str}{v:V}{A:Around}{E:Value->Shared->Prop}
def B0{b:Bool}{Q:Value->Shared->Prop}(I:cN X pins σ H s)(e:H a=some (.ins C dx fs))(c:zF X.K C)(n:gB X.K C f)(l:fs.lookup f=some v)
  (h:∀u s',cN X pins σ H s'->eZ v u->Q u s'):wpAny (model X.prog X.w) A (getAttr (.ref a) f b) Q E s:=by
 obtain⟨mA,O,r,_,_,_⟩:=AD I.hok e;obtain⟨u,hu,ru⟩:=sP.some_of (v:=v) (o:=mA f) (by rw[<- l];exact r f);exact Y5 I.kIn O (c.get f) c.hd n hu (OX ru) (h u _ (I.tok _) ru)
def vA{m}{g:Addr}{pl}{Q:Value×List Value->Shared->Prop}(I:cN X pins σ H s)(e:H a=some (.ins C dx fs))(c:zF X.K C)(k:zC X.K C m g)(l:fs.lookup m=none)
  (h:Q (.ref g,[.ref a]) s):wpAny (model X.prog X.w) A (getMethod (.ref a) m pl) Q E s:=by
 obtain⟨mA,O,r,_,_,_⟩:=AD I.hok e;have hn:mA m=none:=sP.none_of (by rw[<- l];exact r m);exact U0 I.kIn O (c.get m) k.at_ k.fn hn h
def A2{y u}{Q:Unit->Shared->Prop}(I:cN X pins σ H s)(e:H a=some (.ins C dx fs))(c:zF X.K C)(n:gB X.K C f)(hl:fs.length<1000)(ry:eZ y u)
  (h:∀s',cN X pins σ (eS H a (.ins C dx (rY f y fs))) s'->Q () s'):wpAny (model X.prog X.w) A (setAttr (.ref a) f u) Q E s:=by
 obtain⟨mA,O,r,wi,_,ho⟩:=AD I.hok e;have hz:(fs.map (·.1)).length<=bE:=by rw[aA,sizeLine_eq];omega
 refine XR I.kIn O c.sa c.po n.taker c.hd wi hz λh' O' sb=>h _ ?_;have hd:∃o,h'.get? dx=some o:=let ⟨o,_,_,e',_⟩:=O'.ns;⟨o,e'⟩
 refine I.write (x:=a) (e:=dx) (by rw[e];exact True.intro) (.inr ho) (λb q hb z=>(sb.2 b hb).trans z) hd ?_;refine⟨by rw[bT O.ne];exact ho,?_,O.ne,O'.obj,_,O'.ns,λg=>?_,λg hg=>?_⟩
 ·have:=yG f y fs;omega
 ·show sP ((rY f y fs).lookup g) (if g=f then some u else mA g);rw[yC];by_cases q:g=f
  ·rw[if_pos q,if_pos q];exact ry
  ·rw[if_neg q,if_neg q];exact r g
 ·by_cases q:g=f
  ·rw[q];exact(xK f y fs).1
  ·refine(xK f y fs).2 g (wi g λz=>hg ?_);show(if g=f then some u else mA g)=none;rw[if_neg q];exact z
def cN.made(I:cN X pins σ H s):cN X pins σ (eS (eS H s.heap.objs.size (.own (s.heap.objs.size+1))) (s.heap.objs.size+1) (.ins C s.heap.objs.size []))
  { s with heap:=(s.heap.push gI).push (jC C s.heap.objs.size) }:=by
 have e1:(s.heap.push gI).get? s.heap.objs.size=some gI:=aR s.heap rfl
 have e2:((s.heap.push gI).push (jC C s.heap.objs.size)).get? (s.heap.objs.size+1)=some (jC C s.heap.objs.size):=by
  have:=aR (s.heap.push gI) (o:=jC C s.heap.objs.size) rfl
  rwa [dW]at this
 have e3:(s.heap.push gI).Ns s.heap.objs.size (λ_=>none):=⟨gI,#[],_,e1,rfl,(λe he=>absurd he (by simp)),λ_=>rfl⟩;have I1:=I.laid (a:=s.heap.objs.size) (o:=.own (s.heap.objs.size+1)) (h':=s.heap.push gI) (t':=s.toks) (λb u q=>aC _ q) (aM _) ⟨_,e1⟩;refine I1.laid (a:=s.heap.objs.size+1) (o:=.ins C s.heap.objs.size []) (t':=s.toks) (λb u q=>aC _ q) (kI (dW _ _)) ?_;have ne:s.heap.objs.size≠s.heap.objs.size+1:=cO (nT _);refine⟨by rw[bT ne,bS],cT _,ne,e2,λ_=>none,(Heap.Ns1.of_empty e3).at λo q=>aC _ q,λ_=>True.intro,λy hy=>absurd rfl hy⟩
def ZQ{prog w env e f pos s}{Q:Value->Shared->Prop}(hb:attributeBase e f env (eval e env)=eval e env)
  (h:wpAny (model prog w) A (eval e env) (λo s₁=>wpAny (model prog w) A (getAttr o f true) Q E s₁) E s):wpAny (model prog w) A (eval (.Attribute e f pos) env) Q E s:=
 Attribute_any_ h (by rw[arm_eval_Attribute,hb])
end
def aHb(K:aF)(ta:TE)(f:Str):TE:=λσ H Q=>ta σ H λx H1=>∃a C dx fs v,x=.ref a/\H1 a=some (.ins C dx fs)/\zF K C/\gB K C f/\fs.lookup f=some v/\Q v H1
def JT(K:aF)(ta tv:TE)(f:Str):TS:=λD σ H=>tv σ H λy H1=>ta σ H1 λx H2=>∃a C dx fs,x=.ref a/\H2 a=some (.ins C dx fs)/\zF K C/\gB K C f/\fs.length<1000 /\
 D.nx σ (eS H2 a (.ins C dx (rY f y fs)))
def aKm(X:Cx)(op:Operator)(rd:V->V->Hp->VK->Prop):Prop:=
 ∀pins s σ H(x y:V)(u v:Value)Q,cN X pins σ H s->eZ x u->eZ y v->rd x y H Q->wpAny (model X.prog X.w) X.A (inplaceOp op u v) (EP X pins σ Q) X.xe s
def XX(K:aF)(ta tv:TE)(rd:V->V->Hp->VK->Prop)(f:Str):TS:=λD σ H=>ta σ H λx H1=>∃a C dx fs v,x=.ref a/\H1 a=some (.ins C dx fs)/\zF K C/\gB K C f/\fs.lookup f=some v /\
 tv σ H1 λy H2=>rd v y H2 λz H3=>∃dx' fs',H3 a=some (.ins C dx' fs')/\fs'.length<1000/\D.nx σ (eS H3 a (.ins C dx' (rY f z fs')))
section
variable{X:Cx}{o e value:Expr}{f:Str}{pos pos' tpos:Pos}{ta tv:TE}
def S5(he:PE X e ta)(hb:attributeBase e f X.env (eval e X.env)=eval e X.env):PE X (.Attribute e f pos) (aHb X.K ta f):=by
 intro pins s σ H Q I h;refine ZQ hb (iU (he pins s σ H _ I h) λu s1 zq=>?_);obtain⟨x,H1,I1,rx,a,C,dx,fs,v,ex,ea,c,n,l,q⟩:=zq;subst ex;obtain rfl:u=Value.ref a:=rx;exact B0 I1 ea c n l λu' s2 I2 ru=>⟨v,H1,I2,ru,q⟩
def uV(ha:PE X o ta)(hv:PE X value tv)(hs:kH value (some (.Attribute o f pos')) pos.line X.env=pure false):PS X (.Assign [.Attribute o f pos'] value pos) (JT X.K ta tv f):=by
 intro pins s σ H D I h;refine plainObj_wpAny_Assign_Attribute (iU (hv pins s σ H _ I h) λu s1 ⟨y,H1,I1,ry,q⟩=>iU (ha pins s1 σ H1 _ I1 q) λov s2 zq=>?_) hs;obtain⟨x,H2,I2,rx,a,C,dx,fs,ex,ea,c,n,l,q2⟩:=zq;subst ex;obtain rfl:ov=Value.ref a:=rx;exact A2 I2 ea c n l ry λs3 I3=>⟨σ,_,I3,q2⟩
def N2{op}{rd:V->V->Hp->VK->Prop}(ha:PE X o ta)(hv:PE X value tv)(hop:aKm X op rd):PS X (.AugAssign (.Attribute o f tpos) op value pos) (XX X.K ta tv rd f):=by
 intro pins s σ H D I h;refine wpAny_AugAssign_AttributeAny (iU (ha pins s σ H _ I h) λov s1 zq=>?_);obtain⟨x,H1,I1,rx,a,C,dx,fs,v,ex,ea,c,n,l,q⟩:=zq;subst ex;obtain rfl:ov=Value.ref a:=rx;refine B0 I1 ea c n l λu s2 I2 ru=>iU (hv pins s2 σ H1 _ I2 q) λw3 s3 ⟨y,H2,I3,ry,q3⟩=>iU (hop pins s3 σ H2 v y u w3 _ I3 ru ry q3) λw4 s4 zq=>?_;obtain⟨z,H3,I4,rz,dx',fs',ea',l',q4⟩:=zq;exact A2 I4 ea' c n l' rz λs5 I5=>⟨σ,_,I5,q4⟩
def aLy:V->V->Hp->VK->Prop:=λx y H Q=>∃i j,x=.int i/\y=.int j/\Q (.int (i+j)) H
def aFg:aKm X .Add aLy:=by
 rintro pins s σ H x y u v Q I rx ry ⟨i,j,rfl,rfl,q⟩;obtain⟨t,rfl⟩:=(show∃t,u=Value.int i t from rx);obtain⟨t',rfl⟩:=(show∃t',v=Value.int j t' from ry);exact PyProof.Rows.iadd_int ⟨.int (i+j),H,I.tok _,⟨_,rfl⟩,q⟩
end
section
variable{X:Cx}{pins:List (Addr×Obj)}{σ:St}{H:Hp}{s:Shared}{A:Around}{E:Value->Shared->Prop}{Q:Value->Shared->Prop}{c:Value}{b:Bool}
inductive yZ(K:aF)(H:Hp):V->Value->Prop where
|non:yZ K H .non (.type "NoneType")
|bl (x:Bool):yZ K H (.bl x) (.type "bool")
|int (i:Int):yZ K H (.int i) (.type "int")
|str (x:Str):yZ K H (.str x) (.type "str")
|flt (x:UInt64):yZ K H (.flt x) (.type "float")
|lst {a:Addr} {xs:List V} (e:H a=some (.lst xs)):yZ K H (.ref a) (.type "list")
|frz {a:Addr} {o:Obj} {xs:List V} (e:H a=some (.frz o (.lst xs))):yZ K H (.ref a) (.type "list")
|tup {a:Addr} {xs:List V} (e:H a=some (.tup xs)):yZ K H (.ref a) (.type "tuple")
|dK {a:Addr} {kvs:List (lB×V)} (e:H a=some (.dK kvs)):yZ K H (.ref a) (.type "dict")
|dT {a:Addr} {kvs:List (List lB×V)} (e:H a=some (.dT kvs)):yZ K H (.ref a) (.type "dict")
|ins {a C dx:Addr} {fs:List (Str×V)} (e:H a=some (.ins C dx fs)) (cl:zF K C) (ha:dA K (.ref C) "__class__"=some (some (.builtin "object.__class__")))
  (hn:PySem.W.specialIn K (.builtin "object.__class__") "__get__"=some (some (.builtin "getset_descriptor.__get__"))) (htk:PySem.W.takesIn K (.builtin "object.__class__")=some true)
  (hm:bD K C (.type "object")=some true):yZ K H (.ref a) (.ref C)
def tL{x u t}(I:cN X pins σ H s)(rx:eZ x u)(ty:yZ X.K H x t)(e:bW X.K t c=some b)(h:∀tk,Q (.bool b) { s with toks:=tk }) :
  wpAny (model X.prog X.w) A (call (.builtin "isinstance") [u,c]) Q E s:=by
 cases ty with
 |non=>cases (show u=Value.none from rx);exact dZ PySem.W.kitx_none I.kIn True.intro e (λz=>nomatch z) h
 |bl y=>cases (show u=Value.bool y from rx);exact dZ PySem.W.kitx_bool I.kIn True.intro e (λz=>nomatch z) h
 |int i=>obtain⟨t,q⟩:=(show∃t,u=Value.int i t from rx);cases q;exact dZ PySem.W.kitx_int I.kIn True.intro e (λz=>nomatch z) h
 |str y=>obtain⟨t,q⟩:=(show∃t,u=Value.str y t from rx);cases q;exact dZ PySem.W.kitx_str I.kIn True.intro e (λz=>nomatch z) h
 |flt y=>obtain⟨t,q⟩:=(show∃t,u=Value.float y t from rx);cases q;exact dZ PySem.W.kitx_float I.kIn True.intro e (λz=>nomatch z) h
 |@lst a xs ea=>
  cases (show u=Value.ref a from rx);obtain⟨_,_,n,_,h1⟩:=(show iE X.prog X.w H s.heap a (.lst xs)from I.hok a _ ea);exact dZ pI I.kIn ⟨_,h1,rfl⟩ e (λz=>nomatch z) h
 |@frz a ob xs ea=>
  cases (show u=Value.ref a from rx);obtain⟨_,_,_,n,_,h1⟩:=(show iE X.prog X.w H s.heap a (.frz ob (.lst xs))from I.hok a _ ea);exact dZ pI I.kIn ⟨_,h1,rfl⟩ e (λz=>nomatch z) h
 |@tup a xs ea=>
  cases (show u=Value.ref a from rx);obtain⟨_,_,_,p⟩:=(show iE X.prog X.w H s.heap a (.tup xs)from I.hok a _ ea);obtain⟨o,h1,h2,_⟩:=p;exact dZ LE I.kIn ⟨o,h1,h2⟩ e (λz=>nomatch z) h
 |@dK a kvs ea=>
  cases (show u=Value.ref a from rx);obtain⟨_,_,vs,_,p⟩:=(show iE X.prog X.w H s.heap a (.dK kvs)from I.hok a _ ea);obtain⟨o,es,ep,h1,h2,_⟩:=p;exact dZ NE I.kIn ⟨o,h1,h2.1⟩ e (λz=>nomatch z) h
 |@dT a kvs ea=>
  cases (show u=Value.ref a from rx);obtain⟨_,_,xs,_,o,es,ep,h1,h2,_⟩:=(show iE X.prog X.w H s.heap a (.dT kvs)from I.hok a _ ea);exact dZ NE I.kIn ⟨o,h1,h2.1⟩ e (λz=>nomatch z) h
 |@ins a C dx fs ea cl ha hn htk hm=>
  cases (show u=Value.ref a from rx);obtain⟨mA,O,_⟩:=AD I.hok ea;obtain⟨od,J,_⟩:=O.look;exact dZ (PySem.W.kitx_own (cl.get _) cl.hd ha hn htk hm) I.kIn J e (λz=>nomatch z) h
end
structure gM(k:Nat)(A:Around):Prop where
 hd:A.handled=none
 dp:A.depth+3*k+5<recursionLimit
 un:A.units+16*k+200<cLine
 gd:A.guards=some []
def gM.mono{j k:Nat}{A}(r:gM k A)(h:j<=k):gM j A:=⟨r.hd,by have:=r.dp;omega,by have:=r.un;omega,r.gd⟩
theorem gM.deeper{k:Nat}{A:Around}(r:gM (k+1) A)(env:Env):gM k (A.deeper env):=
 ⟨r.hd,by have:=r.dp;show A.depth+1+3*k+5<_;omega,by have:=r.un;show A.units+3+16*k+200<_;omega,r.gd⟩
theorem gM.in1{k:Nat}{A:Around}(r:gM (k+1) A):gM k A.in1:=
 ⟨r.hd,by have:=r.dp;show A.depth+3*k+5<_;omega,by have:=r.un;show A.units+1+16*k+200<_;omega,r.gd⟩
def KJ{A:Around}{C:Addr}{us kw}:(A.under (.builtin "type.__call__" ⟨.ref C::us,kw⟩)).depth=A.depth+1:=by
 first | rfl | simp[Around.under,Code.weight,Code.isCreation,Code.isGuard,Code.isCaller,Code.frames,Code.isFrame,guardIds]
def KI{A:Around}{C:Addr}{us kw}:(A.under (.builtin "type.__call__" ⟨.ref C::us,kw⟩)).units=A.units+1:=by
 first | rfl | simp[Around.under,Code.cUnits,Code.frames,Code.isFrame]
def gM.make{k:Nat}{A:Around}(r:gM (k+1) A)(C:Addr)(us:List Value)(kw:List (Str×Value)):gM k (A.under (.builtin "type.__call__" ⟨.ref C::us,kw⟩)):=
 ⟨r.hd,by have:=r.dp;rw[KJ];omega,by have:=r.un;rw[KI];omega,by first | exact r.gd | (simp[Around.under,Code.isGuard,guardIds];exact r.gd)⟩
theorem gM.depth{k:Nat}{A:Around}(r:gM k A):A.depth<recursionLimit:=by have:=r.dp;omega
theorem gM.units{k:Nat}{A:Around}(r:gM k A):A.units+64<cLine:=by have:=r.un;omega
def xC:TA:=λ_ H Q=>Q [] H
def pR(ta:TE)(tr:TA):TA:=λσ H Q=>ta σ H λx H1=>tr σ H1 λxs H2=>Q (x::xs) H2
section
variable{X:Cx}{e:Expr}{es:List Expr}{te:TE}{t:TA}{pos:Pos}
def gL:PA X [] xC:=λ_ _ _ _ H Q I h=>Calls.spliced_nil ⟨[],H,I,.nil,h⟩
def cL(ha:PE X e te)(hr:PA X es t)(hs:bL (e::es) X.env=(false,eval e X.env)::bL es X.env:=by rfl):PA X (e::es) (pR te t):=by
 intro pos pins s σ H Q I h;rw[hs];show wpAny _ _ (spliced ((false,eval e X.env)::backTo pos (bL es X.env))) _ _ s;refine Calls.spliced_cons (iU (ha pins s σ H _ I h) λu s1 zq=>?_);obtain⟨x,H1,I1,r1,q1⟩:=zq;exact iU (hr pos pins s1 σ H1 _ I1 q1) λus s2 ⟨xs,H2,I2,r2,q2⟩=>⟨x::xs,H2,I2,.cons r1 r2,q2⟩
def aG6(t:TA):TE:=λσ H Q=>t σ H λxs H1=>xs.length<=bE/\∀p,H1 p=none->Q (.ref p) (eS H1 p (.tup xs))
def aHa(t:TA):TE:=λσ H Q=>t σ H λxs H1=>xs.length<=bE/\∀p,H1 p=none->Q (.ref p) (eS H1 p (.lst xs))
def BG{x1}(h:PA X es t):PE X (.Tuple es x1 pos) (aG6 t):=by
 intro pins s σ H Q I hq;refine wpAny_Tuple_spliced (iU (h pos pins s σ H _ I hq) λus s1 ⟨xs,H1,I1,r,z,q⟩=>⟨by rw[<- r.length];exact z,?_⟩);have hf:H1 s1.heap.objs.size=none:=I1.hok.fresh (aM _);refine⟨.ref s1.heap.objs.size,eS H1 s1.heap.objs.size (.tup xs),I1.laid (t':=s1.toks) (λb u e=>aC _ e) (aM _) ?_,rfl,q _ hf⟩;exact⟨z,us,r,⟨_,aR _ rfl,rfl,_,rfl,rfl⟩⟩
def FA(h:PA X es t):PE X (.List es pos) (aHa t):=by
 intro pins s σ H Q I hq;refine wpAny_List_spliced (iU (h pos pins s σ H _ I hq) λus s1 ⟨xs,H1,I1,r,z,q⟩=>⟨by rw[<- r.length];exact z,?_⟩);have hf:H1 s1.heap.objs.size=none:=I1.hok.fresh (aM _);refine⟨.ref s1.heap.objs.size,eS H1 s1.heap.objs.size (.lst xs),I1.laid (t':=s1.toks) (λb u e=>aC _ e) (aM _) ?_,rfl,q _ hf⟩;exact⟨z,us,0,r,aR _ rfl⟩
end
abbrev Sp:=List V->Hp->VK->XK->Prop
abbrev V8:=List Env->Hp->Shared->XK->Value->Shared->Prop
structure LC(P:cC)(w:World)(K:aF)(mg:Str->Option Value)(base:Heap)(A:Around)(outer:List Env)(s:Shared)(H:Hp):Prop where
 frames:A.frames=some outer
 mod:Mod K mg base
 bs:∀b o,base.get? b=some o->s.heap.get? b=some o/\H b=none
 bsz:base.objs.size<=s.heap.objs.size
 funs:s.heap.FunFrames base outer
 frf:∀b∈oE outer,H b=none
 hok:oF P w H s.heap
 bare:AllBare s.gens
 tab:Tb H
def CE(outer:List Env)(P:cC)(w:World)(H:Hp)(s:Shared)(Q:VK)(u:Value)(s':Shared):Prop:=
 ∃v H',s'.os=s.os/\AllBare s'.gens/\Un (oE outer) [] H H' s.heap s'.heap/\oF P w H' s'.heap/\eZ v u/\Q v H'
def CR(CX:V8)(outer:List Env)(P:cC)(w:World)(H:Hp)(s:Shared)(Q:VK)(E:XK)(r:Result)(s':Shared):Prop:=
 match r with
 |.ok (.ret u)=>CE outer P w H s Q u s'
 |.ok _=>False
 |.error e=>CX outer H s E e s'
structure bU(P:cC)(w:World)(K:aF)(mg:Str->Option Value)(base:Heap)(CX:V8)(k:Nat)(f:Addr)(fd:gT)(ps:List Str)(sp:Sp):Prop where
 len:∀vs H Q E,sp vs H Q E->vs.length=ps.length
 run:∀A outer s H(args:Args)(us:List Value)(vs:List V)Q E,gM k A->LC P w K mg base A outer s H->BindsTo s fd args (ps.zip us)->eW vs us->sp vs H Q E ->
  codeAny (model P w) A (.call (.ref f) args) (CR CX outer P w H s Q E) s
def bU.imp{P w K}{mg:Str->Option Value}{base CX}{k:Nat}{f:Addr}{fd ps}{sp sp':Sp}(F:bU P w K mg base CX k f fd ps sp)
  (h:∀vs H Q E,sp' vs H Q E->sp vs H Q E):bU P w K mg base CX k f fd ps sp':=
 ⟨λvs H Q E q=>F.len vs H Q E (h _ _ _ _ q),λA outer s H args us vs Q E hr he hb hv hs=>F.run A outer s H args us vs Q E hr he hb hv (h _ _ _ _ hs)⟩
def LC.make{P w K}{mg:Str->Option Value}{base}{A:Around}{outer s H}(e:LC P w K mg base A outer s H)(C:Addr)(us:List Value)(kw:List (Str×Value)) :
  LC P w K mg base (A.under (.builtin "type.__call__" ⟨.ref C::us,kw⟩)) outer s H:=⟨by first | exact e.frames | (simpa[Around.under,Code.envs,Code.isFrame,pushEnvs]using e.frames),e.mod,e.bs,e.bsz,e.funs,e.frf,e.hok,e.bare,e.tab⟩
section
variable{X:Cx}{pins:List (Addr×Obj)}{σ:St}{H:Hp}{s s':Shared}
def cN.env0(I:cN X pins σ H s):LC X.prog X.w X.K X.mg X.base X.A X.stack s H:=
 ⟨I.ok.frames,I.ok.mod,I.bs,bK I.ok.bsz I.sz,I.stack,I.stkFree,I.hok,I.bare,λP e=>let ⟨ps,h⟩:=I.ok.tab P e;let ⟨m,h'⟩:=I.base.tbls P ps h;⟨_,h'⟩⟩
def cN.after{Q u}(I:cN X pins σ H s)(h:CE X.stack X.prog X.w H s Q u s'):EP X pins σ Q u s':=by
 obtain⟨v,H',os,bare,un,hok,r,q⟩:=h;obtain⟨hh,g,d,t,os'⟩:=s';obtain rfl:os'=s.os:=os;exact⟨v,H',I.call (h':=hh) (g':=g) (d':=d) (t':=t) (ch:=[]) un hok bare (λb z=>absurd z (by simp)),r,q⟩
end
def xZ(sp:Sp)(dvs:List V)(E:XK)(t:TA):TE:=λσ H Q=>t σ H λvs H1=>sp (vs++dvs) H1 Q E
def GN(C:Addr)(m:Str)(sp:Sp)(dvs:List V)(E:XK)(ta:TE)(t:TA):TE:=λσ H Q=>ta σ H λx H1=>∃a dx fs,x=.ref a/\H1 a=some (.ins C dx fs)/\fs.lookup m=none /\
 t σ H1 λvs H2=>sp (x::(vs++dvs)) H2 Q E
def aAc(C:Addr)(sp:Sp)(dvs:List V)(E:XK)(t:TA):TE:=λσ H Q=>t σ H λvs H1=>∀x dx,H1 x=none->H1 dx=none->dx≠x ->
 sp (.ref x::(vs++dvs)) (eS (eS H1 dx (.own x)) x (.ins C dx [])) (λv H2=>v=.non/\Q (.ref x) H2) E
def oR(K:aF)(fd:gT)(ps:List Str)(ds:List Value):Prop:=
 ∀(s:Shared)(us:List Value),K.In s.heap->(us++ds).length=ps.length->BindsTo s fd ⟨us,[]⟩ (ps.zip (us++ds))
def oR.all{K fd}{ps:List Str}(h:∀us:List Value,us.length=ps.length->bindArgs fd ⟨us,[]⟩=pure (ps.zip us)):oR K fd ps []:=λs us _ hl=>by
 rw[dQ]at hl |-
 exact .of_eq (h us hl)
def sQ(CX:V8)(X:Cx)(E:XK):Prop:=∀pins σ H s(e:Value)s',cN X pins σ H s->CX X.stack H s E e s'->X.xe e s'
section
variable{X:Cx}{CX:V8}{k:Nat}{f C:Addr}{fd:gT}{ps:List Str}{sp:Sp}{dvs:List V}{ds:List Value}{E:XK}{x m:Str}{p pos apos:Pos}{e o:Expr}{es:List Expr}{ta:TE}{t:TA}
def JU{pins σ H s Q us vs}(F:bU X.prog X.w X.K X.mg X.base CX k f fd ps sp)(hr:gM k X.A)(hb:oR X.K fd ps ds)(hd:eW dvs ds)(hx:sQ CX X E)
  (I:cN X pins σ H s) (r:eW vs us) (h:sp (vs++dvs) H Q E):wpAny (model X.prog X.w) X.A (call (.ref f) us) (EP X pins σ Q) X.xe s:=by
 have r2:eW (vs++dvs) (us++ds):=r.append hd;have hl:(us++ds).length=ps.length:=by rw[<- r2.length];exact F.len _ _ _ _ h
 refine wpAny_call (codeAny_mono (F.run X.A X.stack s H ⟨us,[]⟩ (us++ds) (vs++dvs) Q E hr I.env0 (hb s us I.kIn hl) r2 h) λr s' hq=>?_)
 cases r with
 |error e=>exact hx pins σ H s e s' I hq
 |ok fl=>
  cases fl with
  |ret u=>exact I.after hq
  |next=>exact False.elim hq
  |brk=>exact False.elim hq
  |cont=>exact False.elim hq
def jE(F:bU X.prog X.w X.K X.mg X.base CX k f fd ps sp)(hr:gM k X.A)(hg:Gl X x)(hm:X.mg x=some (.ref f))(hk:fV X.K (.ref f)=true)(hb:oR X.K fd ps ds)(hd:eW dvs ds)(hx:sQ CX X E)
  (ha:PA X (e::es) t) (hdb:(x==("__debug__":Str))=false:=by decide) (he:bL (e::es) X.env=(false,eval e X.env)::bL es X.env:=by rfl) (hpl:(backTo pos (bL es X.env)).any (·.1)=false:=by rfl) :
  PE X (.Call (.Name x p) (e::es) [] pos) (xZ sp dvs E t):=by
 intro pins s σ H Q I h;refine wpAny_Call_Name_kw (qU I hg hm ?_ hdb);refine oU (h₀:=X.base) I.ok.mod.kin hk (iU (ha pos pins s σ H _ I h) λus s1 ⟨vs,H1,I1,r,q⟩=>⟨I1.kIn,?_⟩) he hpl;exact JU F hr hb hd hx I1 r q
def oB{pl}(he:PE X o ta)(c:zF X.K C)(hm:zC X.K C m f)(F:bU X.prog X.w X.K X.mg X.base CX k f fd ps sp)(hr:gM k X.A)(hb:oR X.K fd ps ds)(hd:eW dvs ds)(hx:sQ CX X E)(ha:PA X (e::es) t)
  (hst:bL (e::es) X.env=(false,eval e X.env)::bL es X.env:=by rfl) (hpl:(backTo pos (bL es X.env)).any (·.1)=false:=by rfl)
  (ht:eval (.Call (.Attribute o m apos) (e::es) [] pos) X.env=(do
   let ov <- eval o X.env
   standAt apos.atName
   let (f,first) <- holding [ov] (getMethod ov m pl)
   callWith pos f first (backTo pos (bL (e::es) X.env)) (backToKw pos (keywordEach [] X.env))):=by rfl) :
  PE X (.Call (.Attribute o m apos) (e::es) [] pos) (GN C m sp dvs E ta t):=by
 intro pins s σ H Q I h;refine rM (pl:=pl) (iU (he pins s σ H _ I h) λu s1 zq=>?_) ht;obtain⟨x,H1,I1,rx,a,dx,fs,ex,ea,l,q⟩:=zq;subst ex;obtain rfl:u=Value.ref a:=rx;refine vA I1 ea c hm l ?_;refine oU (first:=[.ref a]) (h₀:=X.base) I.ok.mod.kin hm.kp (iU (ha pos pins s1 σ H1 _ I1 q) λus s2 ⟨vs,H2,I2,r,q2⟩=>⟨I2.kIn,?_⟩) hst hpl;exact JU (us:=.ref a::us) (vs:=.ref a::vs) F hr hb hd hx I2 (.cons rfl r) q2
def oK{pl}(he:PE X o ta)(c:zF X.K C)(hm:zC X.K C m f)(F:bU X.prog X.w X.K X.mg X.base CX k f fd ps sp)(hr:gM k X.A)(hb:oR X.K fd ps ds)(hd:eW dvs ds)(hx:sQ CX X E)
  (ht:eval (.Call (.Attribute o m apos) [] [] pos) X.env=(do
   let ov <- eval o X.env
   standAt apos.atName
   let (f,first) <- holding [ov] (getMethod ov m pl)
   callWith pos f first (backTo pos (bL [] X.env)) (backToKw pos (keywordEach [] X.env))):=by rfl) :
  PE X (.Call (.Attribute o m apos) [] [] pos) (GN C m sp dvs E ta xC):=by
 intro pins s σ H Q I h;refine rM (pl:=pl) (iU (he pins s σ H _ I h) λu s1 zq=>?_) ht;obtain⟨x,H1,I1,rx,a,dx,fs,ex,ea,l,q⟩:=zq;subst ex;obtain rfl:u=Value.ref a:=rx;refine vA I1 ea c hm l ?_;exact PySem.W.callWith_K0 (first:=[.ref a]) I1.kIn hm.kp (JU (us:=[.ref a]) (vs:=[.ref a]) F hr hb hd hx I1 (.cons rfl .nil) q)
structure Mk(K:aF)(C f:Addr):Prop where
 makes:QB K C=true
 init:dA K (.ref C) "__init__"=some (some (.ref f))
 fn:F5 K (.ref f)=true
 kp:fV K (.ref C)=true
def R7{pins σ}{H:Hp}{s}{Q:VK}{us vs}(M:Mk X.K C f)(F:bU X.prog X.w X.K X.mg X.base CX k f fd ps sp)(hr:gM (k+1) X.A)(hb:oR X.K fd ps ds)(hd:eW dvs ds)
  (hx:sQ CX X E) (I:cN X pins σ H s) (r:eW vs us)
  (h:∀x dx,H x=none->H dx=none->dx≠x->sp (.ref x::(vs++dvs)) (eS (eS H dx (.own x)) x (.ins C dx [])) (λv H2=>v=.non/\Q (.ref x) H2) E) :
  wpAny (model X.prog X.w) X.A (call (.ref C) us) (EP X pins σ Q) X.xe s:=by
 have hq:=h (s.heap.objs.size+1) s.heap.objs.size (I.hok.fresh (PR _)) (I.hok.fresh (aM _)) (cO (nT _));have I2:=cN.made (C:=C) I;have r2:eW (V.ref (s.heap.objs.size+1)::(vs++dvs)) (Value.ref (s.heap.objs.size+1)::(us++ds)):=.cons rfl (r.append hd)
 have hl:(Value.ref (s.heap.objs.size+1)::us++ds).length=ps.length:=by
  have e:=r2.length;rw[F.len _ _ _ _ hq]at e;exact e.symm
 refine wpAny_call (T9 (f:=f) I.kIn M.makes M.init (beq_iff_eq.mp M.fn) (codeAny_mono (F.run _ X.stack _ _ ⟨Value.ref (s.heap.objs.size+1)::us,[]⟩ (Value.ref (s.heap.objs.size+1)::(us++ds)) _ _ E (hr.make C us [])
  (I2.env0.make C us []) (hb _ (Value.ref (s.heap.objs.size+1)::us) I2.kIn hl) r2 hq) λr s' hq'=>?_))
 cases r with
 |error e=>exact hx pins σ _ _ e s' I2 hq'
 |ok fl=>
  cases fl with
  |ret u=>
   obtain⟨v,H',I3,rv,ev,q3⟩:=I2.after hq';subst ev;exact⟨rv,⟨V.ref (s.heap.objs.size+1),H',I3,rfl,q3⟩⟩
  |next=>exact False.elim hq'
  |brk=>exact False.elim hq'
  |cont=>exact False.elim hq'
def YB(M:Mk X.K C f)(F:bU X.prog X.w X.K X.mg X.base CX k f fd ps sp)(hr:gM (k+1) X.A)(hg:Gl X x)(hm:X.mg x=some (.ref C))(hb:oR X.K fd ps ds)(hd:eW dvs ds)(hx:sQ CX X E)
  (ha:PA X (e::es) t) (hdb:(x==("__debug__":Str))=false:=by decide) (he:bL (e::es) X.env=(false,eval e X.env)::bL es X.env:=by rfl) (hpl:(backTo pos (bL es X.env)).any (·.1)=false:=by rfl) :
  PE X (.Call (.Name x p) (e::es) [] pos) (aAc C sp dvs E t):=by
 intro pins s σ H Q I h;refine wpAny_Call_Name_kw (qU I hg hm ?_ hdb);refine oU (h₀:=X.base) I.ok.mod.kin M.kp (iU (ha pos pins s σ H _ I h) λus s1 ⟨vs,H1,I1,r,q⟩=>⟨I1.kIn,?_⟩) he hpl;exact R7 M F hr hb hd hx I1 r q
end
structure bZ(N P:List Str)(sc:Scope):Prop where
 kind:sc.kind=.function
 co:sc.isCoroutine=false
 gen:sc.isGenerator=false
 nd:N.Nodup
 pre:N.take P.length=P
 par:∀x∈P,sc.names.lookup x=some .local\/sc.names.lookup x=some .cell
 nofree:∀y∈sc.names,y.2≠.free
theorem EA{kindOf:Str->Option NameKind}{x}:∀{binds}{m:Str->Option Value},(∀v,(x,v)∉binds)->bindL kindOf binds m x=m x
|[],_,_=>rfl
| (n,v)::r,m,h=>by
 unfold bindL;rw[EA λw hw=>h w (aI _ hw)];split
 ·have:x≠n:=by rintro rfl;exact h v aL
  simp[this]
 ·rfl
theorem EE{kindOf:Str->Option NameKind}{x}:∀{binds}{m:Str->Option Value},(∀v,(x,v)∉binds)->bindC kindOf binds m x=m x
|[],_,_=>rfl
| (n,v)::r,m,h=>by
 unfold bindC;rw[EE λw hw=>h w (aI _ hw)];split
 ·rfl
 ·have:x≠n:=by rintro rfl;exact h v aL
  simp[this]
theorem EB{kindOf:Str->Option NameKind}{x v}:∀{P:List Str}{vs}{i:Nat}{m:Str->Option Value},P.Nodup->P[i]?=some x->vs[i]?=some v->kindOf x=some .local ->
 bindL kindOf (P.zip vs) m x=some v
|[],_,_,_,_,h,_,_=>by simp at h
|_::_,[],_,_,_,_,h,_=>by simp at h
|p::P,w::vs,0,m,nd,h1,h2,hk=>by
 simp at h1 h2;subst h1;subst h2;show bindL kindOf ((p,w)::P.zip vs) m p=_;unfold bindL;rw[EA λv hv=>(kP.mp nd).1 (CY hv).1,if_pos hk];simp
|p::P,w::vs,i+1,m,nd,h1,h2,hk=>by
 show bindL kindOf ((p,w)::P.zip vs) m x=_;unfold bindL;exact EB (i:=i) (kP.mp nd).2 (by simpa using h1) (by simpa using h2) hk
theorem EF{kindOf:Str->Option NameKind}{x v}:∀{P:List Str}{vs}{i:Nat}{m:Str->Option Value},P.Nodup->P[i]?=some x->vs[i]?=some v->kindOf x≠some .local ->
 bindC kindOf (P.zip vs) m x=some v
|[],_,_,_,_,h,_,_=>by simp at h
|_::_,[],_,_,_,_,h,_=>by simp at h
|p::P,w::vs,0,m,nd,h1,h2,hk=>by
 simp at h1 h2;subst h1;subst h2;show bindC kindOf ((p,w)::P.zip vs) m p=_;unfold bindC;rw[EE λv hv=>(kP.mp nd).1 (CY hv).1,if_neg hk];simp
|p::P,w::vs,i+1,m,nd,h1,h2,hk=>by
 show bindC kindOf ((p,w)::P.zip vs) m x=_;unfold bindC;exact EF (i:=i) (kP.mp nd).2 (by simpa using h1) (by simpa using h2) hk
noncomputable def lP(N:List Str)(vs:List V):St:=vs.map some++EN (N.length-vs.length) none
noncomputable def qB(CX:V8)(P:cC)(w:World)(K:aF)(mg:Str->Option Value)(base:Heap)(N:List Str)(qual:Str)(scope:Scope)(f:Addr)(cd:Value)(A:Around)(outer:List Env)(s:Shared)(H:Hp)(E:XK):Cx where
 prog:=P
 w:=w
 K:=K
 mg:=mg
 base:=base
 A:=A.deeper (envOfC qual scope s.heap.objs.size f cd)
 N:=N
 s₀:=s
 H₀:=H
 env:=envOfC qual scope s.heap.objs.size f cd
 outer:=outer
 stack:=envOfC qual scope s.heap.objs.size f cd::outer
 ex:=[]
 calm:=true
 fn:=λ_=>true
 pn:=[]
 xe:=λe s'=>wpAny (model P w) (A.deeper (envOfC qual scope s.heap.objs.size f cd)) (leaving (envOfC qual scope s.heap.objs.size f cd) e) (λ_ s''=>CX outer H s E e s'') (λe' s''=>CX outer H s E e' s'') s'
def IH{sc:Scope}{n:Nat}{x}(h:sc.names.lookup x=some .cell):∃c,(cellsFrom n sc.names []).lookup x=some c:=by
 have q:=F6 sc.names n [] (.inl h);exact Option.isSome_iff_exists.mp q
def OS{CX P w K}{mg:Str->Option Value}{base}{N ps:List Str}{qual}{scope:Scope}{f:Addr}{cd}{A:Around}{outer}{s s1:Shared}{H E us}{vs:List V}
  (S:bZ N ps scope) (hd:A.handled=none) (e0:LC P w K mg base A outer s H) (hl:vs.length=ps.length) (r:eW vs us)
  (x:InCallC s s.heap.objs.size (bindL (envOfC qual scope s.heap.objs.size f cd).kindOf (ps.zip us) λ_=>none) (cellsFrom (s.heap.objs.size+1) scope.names []) (bindC (envOfC qual scope s.heap.objs.size f cd).kindOf (ps.zip us) λ_=>none) s1) :
  cN (qB CX P w K mg base N qual scope f cd A outer s H E) [] (lP N vs) H s1:=by
 have hpl:ps.length<=N.length:=by have:=congrArg kF S.pre;rw[bO]at this;omega
 obtain⟨h1,tk,rfl,hk⟩:=x.done;have noA:∀b:Addr,b∉(qB CX P w K mg base N qual scope f cd A outer s H E).ex:=λb z=>absurd (show b∈([]:List Addr)from z) (by simp)
 refine⟨⟨e0.mod,S.kind,rfl,rfl,aM _,λy z c h1 h2=>?_,λy hy=>?_,λy c _ h=>?_,λ_=>hd,Around.frames_deeper e0.frames,.inr ⟨rfl,rfl⟩,λb z=>absurd z (noA b),e0.bs,e0.bsz,λb _ _=>noA b,λb z=>absurd z (noA b),e0.funs,e0.frf,e0.tab⟩,
  rfl,e0.bare,Un.kept hk,⟨_,x.toInCall.ns,λi y v h1 h2 h3=>?_⟩,λy c h=>⟨_,x.cell y c h⟩,e0.hok.fresh (aM _),λy c h=>?_,λp hp=>absurd (show p∈([]:List (Addr×Obj))from hp) (by simp),e0.hok.kept hk,?_⟩
 ·exact name_of_addr x.apart (PySem.mem_of_lookup h1) (PySem.mem_of_lookup h2)
 ·have hy:scope.names.lookup y=some .cell\/scope.names.lookup y=some .free:=hy;rcases hy with hy | hy
  ·exact IH hy
  ·exact absurd rfl (S.nofree _ (PySem.mem_of_lookup hy))
 ·exact iA (x.above y c (PySem.mem_of_lookup h))
 ·have hi:i<vs.length:=by
   unfold lP at h2;by_cases hi:i<vs.length
   ·exact hi
   ·rw[dU (by simpa using hi)]at h2;rw[jX]at h2;split at h2<;>cases h2
  have ha:vs[i]?=some v:=by
   unfold lP at h2;rw[dM (by simpa using hi),aK]at h2
   cases e:vs[i]? with
   |none=>rw[e]at h2;cases h2
   |some a=>rw[e]at h2;cases h2;rfl
  obtain⟨u,hu,rv⟩:=r.get ha
  have hp:ps[i]?=some y:=by
   rw[<- S.pre,List.getElem?_take_of_lt (by omega)];exact h1
  have ndP:ps.Nodup:=by rw[<- S.pre];exact S.nd.sublist (yQ _ _)
  refine⟨u,rv,?_⟩;rcases S.par y (aZ hp)with k | k
  ·exact .inl ⟨k,EB ndP hp hu k⟩
  ·obtain⟨c,e⟩:=IH (n:=s.heap.objs.size+1) k;refine .inr ⟨.inl k,c,e,?_⟩;have q:=x.cell y c e;rw[EF ndP hp hu (by show scope.names.lookup y≠_;rw[k];decide)]at q;exact q
 ·exact e0.hok.fresh (iA (x.above y c (PySem.mem_of_lookup h)))
 ·unfold lP;show _=N.length;rw[bQ,aA,List.length_replicate];omega
def U4{CX P w}{K:aF}{mg:Str->Option Value}{base}{k:Nat}{f:Addr}{name qual params body scope dV kV doc pm cdv ct oc an od}
  {osl} {N ps:List Str} {sp:Sp} (lk:K.lookup f=some ⟨oc,od,.func (mO name qual params body scope dV kV doc pm an cdv ct),osl⟩) (hcd:oS K cdv qual=true) (S:bZ N ps scope)
  (len:∀vs H Q E,sp vs H Q E->vs.length=ps.length)
  (hbody:∀(A:Around)outer(s:Shared)H(vs:List V)Q E,gM k (A.deeper (envOfC qual scope s.heap.objs.size f cdv))->sp vs H Q E ->
   ∃t,yN (qB CX P w K mg base N qual scope f cdv A outer s H E) body t/\t { nx:=λ_ H'=>Q .non H',rt:=Q } (lP N vs) H) :
  bU P w K mg base CX (k+1) f (mO name qual params body scope dV kV doc pm an cdv ct) ps sp:=by
 refine⟨len,λA outer s H args us vs Q E hr e0 hb r hsp=>?_⟩;have hl:=len _ _ _ _ hsp;have KX:K.In s.heap:=e0.mod.kin.keeps λb o e=>(e0.bs b o e).1;have lim:s.heap.NoLimit:=e0.mod.nolimit.keeps λb o e=>(e0.bs b o e).1
 have hkind:∀y∈ps.zip us,scope.names.lookup y.1=some .local\/(scope.names.lookup y.1=some .cell/\((cellsFrom (s.heap.objs.size+1) scope.names []).lookup y.1).isSome=true):=λ⟨n,v⟩ hy=>by
  rcases S.par n (CY hy).1 with q | q
  ·exact .inl q
  ·exact .inr ⟨q,F6 _ _ _ (.inl q)⟩
 refine codeAny_call_function hr.depth (KX _ _ lk) rfl S.co S.gen rfl (PySem.W.codeRec_of KX hcd) (hb _ _ _ _ ?_);refine wpAny_newFunctionEnv_cells S.kind hkind λenv he s1 x=>?_;subst he;refine⟨lim.keeps x.toInCall.keep,codeAny_func ?_⟩;obtain⟨t,ht,hq⟩:=hbody A outer s H vs Q E (hr.deeper _) hsp;have I:cN (qB CX P w K mg base N qual scope f cdv A outer s H E) [] (lP N vs) H s1:=OS S hr.hd e0 hl r x;refine dY (ht [] s1 (lP N vs) H _ I hq) (λfl s' hs=>?_) λe s' hs=>hs
 have fin:∀{σ':St}{H':Hp}{v:V}{u:Value},cN (qB CX P w K mg base N qual scope f cdv A outer s H E) [] σ' H' s'->eZ v u->Q v H'->CE outer P w H s Q u s':=
  λ{σ' H' v u} J rv q=>⟨v,H',J.os,J.bare,J.base,J.hok,rv,q⟩
 cases fl with
 |ret u=>
  obtain⟨v,σ',H',J,rv,q⟩:=hs;exact fin J rv q
 |next=>
  obtain⟨σ',H',J,q⟩:=hs;exact fin (v:=V.non) (u:=Value.none) J rfl q
 |brk=>
  obtain⟨_,_,_,q⟩:=hs;exact False.elim q
 |cont=>
  obtain⟨_,_,_,q⟩:=hs;exact False.elim q
section
variable{X:Cx}{x:Str}{p pos:Pos}{e:Expr}{es:List Expr}{t:TA}{id T:String}{r:List V->Hp->VK->Prop}
def WW(r:List V->Hp->VK->Prop)(t:TA):TE:=λσ H Q=>t σ H λvs H1=>r vs H1 Q
def iI(hc:lG X (.builtin id) r)(hg:Gl X x)(hm:X.mg x=none)(hv:bootBuiltins x=some (.builtin id))(ha:PA X (e::es) t)(hn:x≠"__name__":=by decide)(hdb:(x==("__debug__":Str))=false:=by decide)
  (he:bL (e::es) X.env=(false,eval e X.env)::bL es X.env:=by rfl) (hpl:(backTo pos (bL es X.env)).any (·.1)=false:=by rfl):PE X (.Call (.Name x p) (e::es) [] pos) (WW r t):=by
 intro pins s σ H Q I h;refine wpAny_Call_Name_kw (sI I hg hm hv ?_ hn hdb);exact PyProof.Rows.callWith_builtin1 (iU (ha pos pins s σ H _ I h) λus s1 ⟨vs,H1,I1,r1,q1⟩=>hc pins s1 σ H1 vs us Q I1 r1 q1) he hpl
def xG(hc:lG X (.type T) r)(hg:Gl X x)(hm:X.mg x=none)(hv:bootBuiltins x=some (.type T))(ha:PA X (e::es) t)(hn:x≠"__name__":=by decide)(hdb:(x==("__debug__":Str))=false:=by decide)
  (he:bL (e::es) X.env=(false,eval e X.env)::bL es X.env:=by rfl) (hpl:(backTo pos (bL es X.env)).any (·.1)=false:=by rfl):PE X (.Call (.Name x p) (e::es) [] pos) (WW r t):=by
 intro pins s σ H Q I h;refine wpAny_Call_Name_kw (sI I hg hm hv ?_ hn hdb);exact PyProof.Rows.callWith_type1 (iU (ha pos pins s σ H _ I h) λus s1 ⟨vs,H1,I1,r1,q1⟩=>hc pins s1 σ H1 vs us Q I1 r1 q1) he hpl
end
end L2
namespace HT
section
variable{prog:cC}{w:World}{A:Around}{E:Value->Shared->Prop}{s:Shared}
def cat_tup{t b:Addr}{vs ws:List Value}{Q:Value->Shared->Prop}(ht:IsTup s.heap t vs.toArray)(hb:IsTup s.heap b ws.toArray)(hv:vs≠[])
  (h1:ws=[]->Q (.ref t) s) (h2:ws≠[]->Q (.ref s.heap.objs.size) { s with heap:=s.heap.push { cls:=.type "tuple",data:=.seq (vs++ws).toArray } })
  (hsz:vs.length+ws.length<=bE):wpAny (model prog w) A (binaryOp .Add (.ref t) (.ref b)) Q E s:=by
 obtain⟨⟨cls,dd,data,sl⟩,ho,hc,n,hd⟩:=id ht;obtain⟨⟨cls2,dd2,data2,sl2⟩,ho2,hc2,n2,hd2⟩:=id hb;simp only at hc hd hc2 hd2;subst hc hd hc2 hd2;have e:vs.toArray++ws.toArray=(vs++ws).toArray:=by simp
 by_cases hw:ws=[]
 ·exact concat_meets ⟨_,ho,rfl⟩ ⟨_,ho2,rfl⟩ noFill_tuple_add seq_tuple_add rD qG (pP _ _)
   (tuple_addW1 t b vs.toArray ws.toArray n n2 dd dd2 sl sl2 (by simpa using hv) (by simp[hw])) ⟨ho,ho2,h1 hw⟩
 ·refine concat_meets ⟨_,ho,rfl⟩ ⟨_,ho2,rfl⟩ noFill_tuple_add seq_tuple_add rD qG (pP _ _)
   (tuple_addW2 t b vs.toArray ws.toArray n n2 dd dd2 sl sl2 (by simpa using hv) (by simpa using hw) (by rw[aX,aX];exact hsz)) ⟨ho,ho2,?_⟩
  rw[e];exact h2 hw
noncomputable def sIx(n d:Nat):Option Int->Nat
|none=>d
|some v=>if v<0 then(v+(n:Int)).toNat else min v.toNat n
def sIx_none(n d:Nat):sIx n d none=d:=rfl
def sIx_nat(n d k:Nat):sIx n d (some (k:Int))=min k n:=by
 show(if(k:Int)<0 then((k:Int)+(n:Int)).toNat else min (k:Int).toNat n)=min k n;rw[if_neg (by omega),zN]
def sIx_le(n d:Nat)(hd:d<=n)(o:Option Int):sIx n d o<=n:=by
 cases o with
 |none=>exact hd
 |some v=>
  show(if v<0 then(v+(n:Int)).toNat else min v.toNat n)<=n;by_cases hv:v<0
  ·rw[if_pos hv];omega
  ·rw[if_neg hv];exact ZY _ _
def clip_eq(v:Int)(n d:Nat):(if v<0 then max (v+(n:Int)) 0 else min v (n:Int))=((sIx n d (some v):Nat):Int):=by
 show(if v<0 then max (v+(n:Int)) 0 else min v (n:Int))=(((if v<0 then(v+(n:Int)).toNat else min v.toNat n):Nat):Int);by_cases hv:v<0
 ·simp only[if_pos hv];omega
 ·simp only[if_neg hv];omega
def K5(lo hi:Option Int)(n:Nat):Builtin.Slice.sliceAdjust lo hi 1 (n:Int)=(((sIx n 0 lo:Nat):Int),((sIx n n hi:Nat):Int)):=by
 have h1:¬((1:Int)<0):=by omega
 unfold Builtin.Slice.sliceAdjust;simp only[h1,if_false];refine Prod.ext ?_ ?_
 ·cases lo with
  |none=>rfl
  |some v=>exact clip_eq v n 0
 ·cases hi with
  |none=>rfl
  |some v=>exact clip_eq v n n
def JY(i j:Nat):Builtin.Slice.slicePlaces (i:Int) (j:Int) 1=j-i:=by
 unfold Builtin.Slice.slicePlaces;have h1:(1:Int)>0:=by omega
 simp only[h1,if_true,Int.ediv_one];split<;>omega
def A0{v o}{Q:Option Int->Shared->Prop}(p:IsPart v o)(h:Q o s):wpAny (model prog w) A (Builtin.Slice.slicePartIndex v) Q E s:=by
 cases p with
 |none=>exact slicePart_none h
 |int i t=>exact slicePart_int h
def pS{sl:Addr}{vl vu lo hi}{n:Nat}{Q:Int×Int×Nat->Shared->Prop}(hs:s.heap.IsSliceOf sl vl vu .none)(pl:IsPart vl lo)(pu:IsPart vu hi)
  (h:Q (((sIx n 0 lo:Nat):Int),1,sIx n n hi-sIx n 0 lo) s):wpAny (model prog w) A (Builtin.Slice.sliceApplied (.ref sl) (pure (n:Int))) Q E s:=by
 obtain⟨os,hos,hcs,hds⟩:=id hs;unfold Builtin.Slice.sliceApplied Builtin.Slice.sliceFields;refine aG (aG (wpAny_field hos hds (x:=vl) rfl (aG (wpAny_field hos hds (x:=vu) rfl (aG (wpAny_field hos hds (x:=.none) rfl (aW ?_)))))));refine aG (slicePart_none ?_);show wpAny _ _ (if((1:Int)==0)=true then _ else _) _ _ s;rw[if_neg (by decide)];refine aG (A0 pl (aG (A0 pu (aG (aW ?_)))));show wpAny _ _ (match Builtin.Slice.sliceAdjust lo hi 1 (n:Int)with | (lo,hi)=>pure (lo,(1:Int),Builtin.Slice.slicePlaces lo hi 1)) _ _ s;rw[K5 lo hi n];show wpAny _ _ (pure (((sIx n 0 lo:Nat):Int),(1:Int),Builtin.Slice.slicePlaces ((sIx n 0 lo:Nat):Int) ((sIx n n hi:Nat):Int) 1)) _ _ s;rw[JY];exact aW h
def SW(xs:Array Value)(i k:Nat):((fQ k).filterMap λ(m:Nat)=>xs[((i:Int)+(m:Int)*1).toNat]?).toArray=((xs.toList.drop i).take k).toArray:=by
 have e:(λ(m:Nat)=>xs[((i:Int)+(m:Int)*1).toNat]?)=λm=>xs[i+m]?:=by
  funext m;have:((i:Int)+(m:Int)*1).toNat=i+m:=by omega
  rw[this]
 rw[e];have:=pick_run xs i k;rw[QG]at this;have e2:((λx=>xs[x]?)∘λx=>i+x)=λm=>xs[i+m]?:=rfl;rw[e2]at this;rw[this]
def getItem_tuple_cut{t sl:Addr}{items:Array Value}{vl vu lo hi}{Q:Value->Shared->Prop}(ht:IsTup s.heap t items)(hs:s.heap.IsSliceOf sl vl vu .none)(pl:IsPart vl lo)(pu:IsPart vu hi)
  (hw:¬(sIx items.size 0 lo=0/\sIx items.size items.size hi=items.size))
  (h:Q (.ref s.heap.objs.size) { s with heap:=s.heap.push { cls:=.type "tuple",data:=.seq ((items.toList.drop (sIx items.size 0 lo)).take (sIx items.size items.size hi-sIx items.size 0 lo)).toArray } })
  (hsz:items.size<=bE):wpAny (model prog w) A (getItem (.ref t) (.ref sl)) Q E s:=by
 have htake:sizeOk (.seq ((items.toList.drop (sIx items.size 0 lo)).take (sIx items.size items.size hi-sIx items.size 0 lo)).toArray):=by
  show((items.toList.drop (sIx items.size 0 lo)).take (sIx items.size items.size hi-sIx items.size 0 lo)).toArray.size<=bE;rw[aX,bO,eP,fP];omega
 have hj:sIx items.size items.size hi<=items.size:=sIx_le _ _ (aM _) hi;obtain⟨os,hos,hcs,hds⟩:=id hs;have hTs:s.TypeIs (.ref sl) "slice":=⟨os,hos,hcs⟩;unfold getItem
 try with_reducible refine wpAny_holding ?_
 first | refine aG (aW ?_) | skip
 refine aG (wpAny_sequenceKey ht.typeIs (by decide) ?_)
 refine aG (wpAny_callSpecial?_slot (name:=Str.ofString "__getitem__") ht.typeIs PyProof.Rows.slot_tuple_getitem
  (lZ PyProof.Rows.slot_tuple_getitem ht.typeIs entry_tuple_getitem ?_ (args_tuple_getitem _ _)))
 show wpAny _ _ (Builtin.Tuple.tupleItemsOf (.ref t) >>= _) _ _ s;refine aG (tupleItemsOf_ ht ?_);refine aG (wpAny_typeOf hTs ?_);rw[if_pos (by decide)];refine aG (pS hs pl pu ?_)
 have hno:¬((((sIx items.size 0 lo:Nat):Int)==0&&(1:Int)==1&&(sIx items.size items.size hi-sIx items.size 0 lo)==items.size)=true):=by
  intro q;rw[dI,dI]at q;have q1:((sIx items.size 0 lo:Nat):Int)=0:=eq_of_beq q.1.1;have q2:sIx items.size items.size hi-sIx items.size 0 lo=items.size:=eq_of_beq q.2;exact hw ⟨by omega,by omega⟩
 show wpAny _ _ (if(((sIx items.size 0 lo:Nat):Int)==0&&(1:Int)==1&&(sIx items.size items.size hi-sIx items.size 0 lo)==items.size)=true then _ else _) _ _ s;rw[if_neg hno,SW]
 first
  |exact aG (m:=Builtin.Tuple.tupleExact _) (iS (aW ⟨_,rfl,aW h⟩) htake)
  |exact aG (m:=Builtin.Tuple.tupleExact _) (iS (aG (aW (aW ⟨_,rfl,aW h⟩))) htake)
  |exact aG (aG (m:=Builtin.Tuple.tupleExact _) (iS (aW (aW ⟨_,rfl,aW h⟩)) htake))
  |exact aG (aG (m:=Builtin.Tuple.tupleExact _) (iS (aW ⟨_,rfl,aW h⟩) htake))
end
end HT
namespace L2
abbrev TO:=St->Hp->(Option Int->Hp->Prop)->Prop
def PO(X:Cx)(e:Option Expr)(t:TO):Prop:=
 ∀pins s σ H(Q:Option Int->Hp->Prop),cN X pins σ H s->t σ H Q ->
  wpAny (model X.prog X.w) X.A (evalPart e X.env) (λu s'=>∃o H',cN X pins σ H' s'/\IsPart u o/\Q o H') X.xe s
def WU:TO:=λ_ H Q=>Q none H
def aG8(t:TE):TO:=λσ H Q=>t σ H λx H1=>∃i,x=.int i/\Q (some i) H1
section
variable{X:Cx}{e:Expr}{te:TE}{lo hi:Option Expr}{tl th:TO}{pos p2:Pos}
def X4:PO X none WU:=by
 intro pins s σ H Q I h;rw[evalPart_none];exact aW ⟨none,H,I,.none,h⟩
def X3(h:PE X e te):PO X (some e) (aG8 te):=by
 intro pins s σ H Q I hw;rw[evalPart_some];refine iU (h pins s σ H _ I hw) λu s1 zq=>?_;obtain⟨x,H1,I1,r1,q1⟩:=zq;obtain⟨i,rfl,q⟩:=q1;obtain⟨t,rfl⟩:=r1;exact⟨some i,H1,I1,.int i t,q⟩
def V4(X:Cx)(r:V->Option Int->Option Int->Hp->VK->Prop):Prop:=
 ∀pins(s:Shared)σ H(x:V)(v vl vu:Value)(lo hi:Option Int)(sl:Addr)Q,cN X pins σ H s->eZ x v->s.heap.IsSliceOf sl vl vu .none->IsPart vl lo->IsPart vu hi->r x lo hi H Q ->
  ∃T id,typeLookup (.type T) "__getitem__"=pure (some (.builtin id))/\s.TypeIs v T/\wpAny (model X.prog X.w) X.A (getItem v (.ref sl)) (EP X pins σ Q) X.xe s
def V4.or{r r':V->Option Int->Option Int->Hp->VK->Prop}(h:V4 X r)(h':V4 X r'):V4 X (λx lo hi H Q=>r x lo hi H Q\/r' x lo hi H Q):=by
 intro pins s σ H x v vl vu lo hi sl Q I rx hs pl pu q;rcases q with q | q
 ·exact h pins s σ H x v vl vu lo hi sl Q I rx hs pl pu q
 ·exact h' pins s σ H x v vl vu lo hi sl Q I rx hs pl pu q
def tSl(r:V->Option Int->Option Int->Hp->VK->Prop)(te:TE)(tl th:TO):TE:=λσ H Q=>te σ H λx H1=>tl σ H1 λl H2=>th σ H2 λu H3=>r x l u H3 Q
def S0{r:V->Option Int->Option Int->Hp->VK->Prop}(hr:V4 X r)(he:PE X e te)(hl:PO X lo tl)(hu:PO X hi th):PE X (.Subscript e (.Slice lo hi none p2) pos) (tSl r te tl th):=by
 intro pins s σ H Q I h;refine Subscript_ (iU (he pins s σ H _ I h) λv s1 zq=>?_);obtain⟨x,H1,I1,r1,q1⟩:=zq;refine wpAny_Slice (iU (hl pins s1 σ H1 _ I1 q1) λvl s2 ⟨l,H2,I2,pl,q2⟩=>iU (hu pins s2 σ H2 _ I2 q2) λvu s3 zq=>?_);obtain⟨u,H3,I3,pu,q3⟩:=zq;rw[evalPart_none];refine aW ?_;have I4:cN X pins σ H3 { s3 with heap:=s3.heap.push { cls:=.type "slice",data:=.fields #[vl,vu,.none] } }:=I3.kept (t':=s3.toks) λb ob q=>aC _ q;obtain⟨T,id,hT,ht,hg⟩:=hr pins { s3 with heap:=s3.heap.push { cls:=.type "slice",data:=.fields #[vl,vu,.none] } } σ H3 x v vl vu l u s3.heap.objs.size Q I4 r1 (Heap.IsSliceOf.new ..) pl pu q3;show wpAny (model X.prog X.w) X.A (subscriptTail e (.Slice lo hi none p2) v (.ref s3.heap.objs.size)) (EP X pins σ Q) X.xe { s3 with heap:=s3.heap.push { cls:=.type "slice",data:=.fields #[vl,vu,.none] } };exact tail_any (ops:=[.ref s3.heap.objs.size,v]) ht hT hg (by with_unfolding_all rfl)
noncomputable def FR(xs:List V)(lo hi:Option Int):List V:=(xs.drop (HT.sIx xs.length 0 lo)).take (HT.sIx xs.length xs.length hi-HT.sIx xs.length 0 lo)
def yJ(xs:List V)(lo hi:Option Int):(FR xs lo hi).length<=xs.length:=by
 unfold FR;rw[bO,eP];omega
def aLx(K:aF):V->Option Int->Option Int->Hp->VK->Prop:=λx lo hi H Q=>∃a xs,x=.ref a/\pA K H a xs /\
 ¬(HT.sIx xs.length 0 lo=0/\HT.sIx xs.length xs.length hi=xs.length)/\∀p,H p=none->Q (.ref p) (eS H p (.tup (FR xs lo hi)))
def aEa:V4 X (aLx X.K):=by
 intro pins s σ H x v vl vu lo hi sl Q I rx hs pl pu h;obtain⟨a,xs,rfl,hx,hw,q⟩:=h;cases rx;obtain⟨its,r,ht,hz⟩:=I.tuple hx;have hlen:its.toArray.size=xs.length:=by rw[aX];exact r.length.symm
 refine⟨"tuple",_,PyProof.Rows.slot_tuple_getitem.lookup,ht.typeIs,?_⟩;refine HT.getItem_tuple_cut ht hs pl pu (by rw[hlen];exact hw) ?_ (by rw[hlen];exact hz);rw[hlen];refine⟨.ref s.heap.objs.size,_,I.laid (t':=s.toks) (o:=.tup (FR xs lo hi)) (λb ob q=>aC _ q) (aM _) ?_,rfl,q _ (I.hok.fresh (aM _))⟩;exact⟨bK (yJ xs lo hi) hz,_,(r.drop (HT.sIx xs.length 0 lo)).take (HT.sIx xs.length xs.length hi-HT.sIx xs.length 0 lo),C6.new _ _⟩
def aH0(K:aF):R2:=λx y H Q=>∃a b xs ys,x=.ref a/\y=.ref b/\pA K H a xs/\pA K H b ys/\xs≠[]/\xs.length+ys.length<=bE /\
 (ys=[]->Q (.ref a) H)/\(ys≠[]->∀p,H p=none->Q (.ref p) (eS H p (.tup (xs++ys))))
def eW.nil_iff{xs us}(r:eW xs us):us=[]↔xs=[]:=by
 cases r with
 |nil=>simp
 |cons _ _=>simp
def YE:pB X (binaryOp .Add) (aH0 X.K):=by
 intro pins s σ H x y v u Q I rx ry h;obtain⟨a,b,xs,ys,rfl,rfl,ha,hb,hx,hz,q1,q2⟩:=h;cases rx;cases ry;obtain⟨its,r1,p1,_⟩:=I.tuple ha;obtain⟨its2,r2,p2,_⟩:=I.tuple hb;refine HT.cat_tup p1 p2 (λz=>hx (r1.nil_iff.mp z)) (λz=>⟨.ref a,H,I,rfl,q1 (r2.nil_iff.mp z)⟩) (λz=>?_) (by rw[<- r1.length,<- r2.length];exact hz);refine⟨.ref s.heap.objs.size,_,I.laid (t':=s.toks) (o:=.tup (xs++ys)) (λb ob q=>aC _ q) (aM _) ?_,rfl,q2 (λw=>z (r2.nil_iff.mpr w)) _ (I.hok.fresh (aM _))⟩;exact⟨by rw[bQ];exact hz,_,r1.append r2,C6.new _ _⟩
end
noncomputable def UQ(n:Nat)(i:Int):Option Nat:=if 0<=i then(if i<n then some i.toNat else none)else if -(n:Int)<=i then some (i+n).toNat else none
noncomputable def atI{α:Type}(xs:List α)(i:Int):Option α:=(UQ xs.length i).bind λj=>xs[j]?
def MM{n:Nat}{i:Int}{j:Nat}(h:UQ n i=some j):seqIndex? i n=some j/\j<n/\-(n:Int)<=i/\i<n:=by
 unfold UQ at h;by_cases h0:0<=i
 ·rw[if_pos h0]at h;by_cases h1:i<n
  ·rw[if_pos h1]at h;have e:i.toNat=j:=Option.some.inj h;exact⟨by rw[seqIndex_of h0 h1,e],by omega,by omega,h1⟩
  ·rw[if_neg h1]at h;cases h
 ·rw[if_neg h0]at h;by_cases h1:-(n:Int)<=i
  ·rw[if_pos h1]at h;have e:(i+n).toNat=j:=Option.some.inj h;exact⟨by rw[seqIndex_neg (by omega) h1,e],by omega,h1,by omega⟩
  ·rw[if_neg h1]at h;cases h
def F0{α:Type}{xs:List α}{i:Int}{v}(h:atI xs i=some v):∃j,seqIndex? i xs.length=some j/\xs[j]?=some v/\j<xs.length/\-(xs.length:Int)<=i/\i<xs.length:=by
 unfold atI at h
 cases e:UQ xs.length i with
 |none=>rw[e]at h;cases h
 |some j=>
  rw[e]at h;obtain⟨h1,h2,h3,h4⟩:=MM e;exact⟨j,h1,h,h2,h3,h4⟩
def gQ{α:Type}{xs:List α}{j:Nat}{v:α}(h:xs[j]?=some v):atI xs (j:Int)=some v:=by
 have hj:j<xs.length:=(aH.mp h).1
 have e:UQ xs.length (j:Int)=some j:=by
  unfold UQ;rw[if_pos (by omega),if_pos (by omega)];simp
 unfold atI;rw[e];exact h
def F1(b:Expr):Prop:=∀o i,subscripted b false o i=operate [o,i] (getItem o i)
def V5(X:Cx)(r:R2):Prop:=
 ∀(value slice:Expr)pins s σ H(x y:V)(v u:Value)Q,cN X pins σ H s->eZ x v->eZ y u->r x y H Q ->
  subscripted slice false v u=operate [v,u] (getItem v u)->wpAny (model X.prog X.w) X.A (subscriptTail value slice v u) (EP X pins σ Q) X.xe s
def P9(X:Cx)(id:String)(r:V->List V->Hp->VK->Prop):Prop:=
 ∀pins s σ H(x:V)(xs:List V)(v:Value)(us:List Value)Q,cN X pins σ H s->eZ x v->eW xs us->r x xs H Q ->
  wpAny (model X.prog X.w) X.A (call (.builtin id) (v::us)) (EP X pins σ Q) X.xe s
section
variable{X:Cx}{a b:Expr}{ta tb:TE}{pos:Pos}
def V5.or{r r':R2}(h:V5 X r)(h':V5 X r'):V5 X (λx y H Q=>r x y H Q\/r' x y H Q):=by
 intro value slice pins s σ H x y v u Q I rx ry q hs;rcases q with q | q
 ·exact h value slice pins s σ H x y v u Q I rx ry q hs
 ·exact h' value slice pins s σ H x y v u Q I rx ry q hs
def sD{r}(hr:V5 X r)(ha:PE X a ta)(hb:PE X b tb)(hs:F1 b):PE X (.Subscript a b pos) (tOp r ta tb):=by
 intro pins s σ H Q I h;exact Subscript_ (aF1 ha hb I h λv u s2 x y H2 I2 rx ry q=>hr a b pins s2 σ H2 x y v u Q I2 rx ry q (hs _ _))
def aHy(K:aF):R2:=λx y H Q=>∃p xs i v,x=.ref p/\y=.int i/\lM K H p xs/\atI xs i=some v/\Q v H
def aHw(K:aF):R2:=λx y H Q=>∃p xs i v,x=.ref p/\y=.int i/\pA K H p xs/\atI xs i=some v/\Q v H
def aHx:R2:=λx y H Q=>∃z i c,x=.str z/\y=.int i/\z.length<=bE/\atI z.cps.toList i=some c/\Q (.str ⟨#[c]⟩) H
def YU:V5 X (aHy X.K):=by
 intro value slice pins s σ H x y v u Q I rx ry h hs;obtain⟨p,xs,i,z,rfl,rfl,hq,he,q⟩:=h;cases rx;obtain⟨t,rfl⟩:=ry;obtain⟨its,r,pl,hz⟩:=I.list hq;obtain⟨j,h1,h2,h3,h4,h5⟩:=F0 he;obtain⟨w,ew,rw'⟩:=r.get h2;have hl:=r.length;have hn:=uZ;have fin:EP X pins σ Q w s:=⟨z,H,I,rw',q⟩;by_cases h0:0<=i
 ·have hj:i.toNat=j:=by
   rw[seqIndex_of h0 h5]at h1;exact Option.some.inj h1
  exact item_listR pl.isList h0 (by omega) (by rw[hj];simpa using ew) fin hs
 ·have hj:(i+(its.toArray.size:Int)).toNat=j:=by
   rw[seqIndex_neg (by omega) h4]at h1;rw[aX,<- hl];exact Option.some.inj h1
  exact subscriptTail_builtinR (x:=w) pl.isList.typeIs slot_list_getitem.lookup
   (wpAny_getItem_list_neg (Q:=λr s'=>r=w/\EP X pins σ Q r s') pl.isList (by omega) (by rw[aX]<;>omega) (by omega) (by rw[hj];simpa using ew) ⟨rfl,fin⟩) hs
def aFc:V5 X (aHw X.K):=by
 intro value slice pins s σ H x y v u Q I rx ry h hs;obtain⟨p,xs,i,z,rfl,rfl,hq,he,q⟩:=h;cases rx;obtain⟨t,rfl⟩:=ry;obtain⟨its,r,pl,hz⟩:=I.tuple hq;obtain⟨j,h1,h2,h3,h4,h5⟩:=F0 he;obtain⟨w,ew,rw'⟩:=r.get h2;have hl:=r.length;have hn:=uZ;have fin:EP X pins σ Q w s:=⟨z,H,I,rw',q⟩
 exact subscriptTail_builtinR (x:=w) pl.typeIs slot_tuple_getitem.lookup
  (getItem_tuple (j:=j) (Q:=λr s'=>r=w/\EP X pins σ Q r s') pl (by omega) (by omega) (by rw[aX,<- hl];exact h1) (by simpa using ew) ⟨rfl,fin⟩) hs
def aFd:V5 X aHx:=by
 intro value slice pins s σ H x y v u Q I rx ry h hs;obtain⟨z,i,c,rfl,rfl,hz,he,q⟩:=h;obtain⟨t,rfl⟩:=rx;obtain⟨t',rfl⟩:=ry;obtain⟨j,h1,h2,h3,h4,h5⟩:=F0 he;have hl:z.cps.toList.length=z.length:=by simp[Str.length]
 rw[hl]at h1 h4 h5;have hn:=uZ
 exact tail_any (typeIs_str s z t) slot_str_getitem.lookup (getItem_str (c:=c) (by
  have e1:decide (i < -(2^63:Int))=false:=decide_eq_false (by omega);have e2:decide (i>=2^63)=false:=decide_eq_false (by omega);rw[e1,e2,aGi]) (by rw[h1];simpa using h2) ⟨.str ⟨#[c]⟩,H,I.tok _,⟨_,rfl⟩,q⟩) hs
def rIx(K:aF):R2:=λx y H Q=>aHy K x y H Q\/aHw K x y H Q\/aHx x y H Q
def bM:V5 X (rIx X.K):=YU.or (aFc.or aFd)
def KH(its:List Value)(n j:Nat)(u:Value):Obj.mapSeq (·.setIfInBounds j u) { cls:=.type "list",data:=.seq its.toArray n }={ cls:=.type "list",data:=.seq (its.set j u).toArray n }:=by
 simp[Obj.mapSeq]
theorem cN.lst{pins σ H}{s:Shared}{p:Addr}{xs:List V}(I:cN X pins σ H s)(h:H p=some (.lst xs)) :
  ∃(its:List Value)(n:Nat),eW xs its/\s.heap.get? p=some { cls:=.type "list",data:=.seq its.toArray n }/\xs.length<=bE:=by
 obtain⟨z,its,n,r,e⟩:=I.hok p _ h;exact⟨its,n,r,e,z⟩
def cN.lstUpd{pins σ H}{s:Shared}{p:Addr}{xs ys:List V}{its its':List Value}{n n':Nat}{f:Obj->Obj}(I:cN X pins σ H s)(h:H p=some (.lst xs))
  (ho:s.heap.get? p=some { cls:=.type "list",data:=.seq its.toArray n }) (hf:f { cls:=.type "list",data:=.seq its.toArray n }={ cls:=.type "list",data:=.seq its'.toArray n' }) (r:eW ys its') (hz:ys.length<=bE) (t:Nat) :
  cN X pins σ (eS H p (.lst ys)) { s with heap:=s.heap.update p f,toks:=t }:=by
 have e:(s.heap.update p f).get? p=some { cls:=.type "list",data:=.seq its'.toArray n' }:=by
  rw[nI f ho (by rw[hf]<;>rfl),hf]
 refine I.write (x:=p) (e:=p) (by rw[h];trivial) (.inl rfl) (λb u hb q=>(fL _ _ (Ne.symm hb)).trans q) ⟨_,e⟩ ?_;exact⟨hz,its',n',r,e⟩
def SE:V->V->V->Hp->(Hp->Prop)->Prop:=λo i v H Q=>∃p xs k j,o=.ref p/\i=.int k/\H p=some (.lst xs)/\UQ xs.length k=some j/\Q (eS H p (.lst (xs.set j v)))
def vZ:aKj X SE:=by
 intro pins s σ H o i v ov iv u Q I ro ri rv h;obtain⟨p,xs,k,j,rfl,rfl,hp,hj,q⟩:=h;cases ro;obtain⟨t,rfl⟩:=ri;obtain⟨its,n,r,ho,hz⟩:=I.lst hp;obtain⟨h1,h2,h3,h4⟩:=MM hj;have hl:=r.length;have hn:=uZ
 have I':cN X pins σ (eS H p (.lst (xs.set j v))) { s with heap:=s.heap.update p (Obj.mapSeq (·.setIfInBounds j u)) }:=
  I.lstUpd hp ho (KH its n j u) (r.set rv j) (by rw[Z3];exact hz) s.toks
 by_cases h0:0<=k
 ·have hk:k.toNat=j:=by
   rw[seqIndex_of h0 h4]at h1;exact Option.some.inj h1
  exact PySem.W.ki_setAt ho h0 (by omega) (by rw[aX,<- hl];exact h4) (by rw[hk];exact⟨_,I',q⟩)
 ·have hk:(k+(its.toArray.size:Int)).toNat=j:=by
   rw[seqIndex_neg (by omega) h3]at h1;rw[aX,<- hl];exact Option.some.inj h1
  exact PySem.W.ki_setBack ho (by omega) (by rw[aX,<- hl];exact h3) (by omega) (by rw[hk];exact⟨_,I',q⟩)
def EV(lo hi:Option Int)(n:Nat):(sliceBounds lo hi none n).1=((HT.sIx n 0 lo:Nat):Int)/\(sliceBounds lo hi none n).2.1=((HT.sIx n n hi:Nat):Int)/\(sliceBounds lo hi none n).2.2=1:=by
 refine⟨?_,?_,rfl⟩
 ·cases lo with
  |none=>simp[sliceBounds,HT.sIx]
  |some i=>
   simp only[sliceBounds,HT.sIx,QC,show(1:Int)>0 by decide,if_true];by_cases h:i<0
   ·simp only[h,if_true]<;>omega
   ·simp only[h,if_false]<;>omega
 ·cases hi with
  |none=>simp[sliceBounds,HT.sIx]
  |some i=>
   simp only[sliceBounds,HT.sIx,QC,show(1:Int)>0 by decide,if_true];by_cases h:i<0
   ·simp only[h,if_true]<;>omega
   ·simp only[h,if_false]<;>omega
def C2(its:List Value)(lo hi:Option Int):slicePick its.toArray lo hi none=((its.drop (HT.sIx its.length 0 lo)).take (HT.sIx its.length its.length hi-HT.sIx its.length 0 lo)).toArray:=by
 obtain⟨h1,h2,h3⟩:=EV lo hi its.toArray.size;unfold slicePick;rw[h1,h2,h3];simp only[sliceRange_one,pick_run,aX]<;>rfl
def aHv(K:aF):V->Option Int->Option Int->Hp->VK->Prop:=λx lo hi H Q=>∃a xs,x=.ref a/\lM K H a xs/\∀p,H p=none->Q (.ref p) (eS H p (.lst (FR xs lo hi)))
def XN:V4 X (aHv X.K):=by
 intro pins s σ H x v vl vu lo hi sl Q I rx hs pl pu h;obtain⟨a,xs,rfl,hx,q⟩:=h;cases rx;obtain⟨its,r,ht,hz⟩:=I.list hx;have hlen:=r.length;refine⟨"list",_,slot_list_getitem.lookup,ht.isList.typeIs,?_⟩;refine wpAny_getItem_list_slice ht.isList hs pl pu .none (by simp) ?_ (by rw[aX]<;>omega);rw[C2,<- hlen];refine⟨.ref s.heap.objs.size,_,I.laid (t':=s.toks) (o:=.lst (FR xs lo hi)) (λb ob q=>aC _ q) (aM _) ?_,rfl,q _ (I.hok.fresh (aM _))⟩;exact⟨bK (yJ xs lo hi) hz,_,0,(r.drop (HT.sIx xs.length 0 lo)).take (HT.sIx xs.length xs.length hi-HT.sIx xs.length 0 lo),aR _ rfl⟩
def FX:lG X (.builtin "len") (λxs H Q=>∃p ys,xs=[.ref p]/\(lM X.K H p ys\/pA X.K H p ys)/\Q (.int ys.length) H):=by
 intro pins s σ H xs us Q I r h;obtain⟨p,ys,rfl,hq,q⟩:=h;obtain⟨u,rfl,rx⟩:=pC r;cases rx;have hn:=uZ;rcases hq with hq | hq
 ·obtain⟨its,r',pl,hz⟩:=I.list hq;have hlen:=r'.length;exact Calls.call_len_list pl.isList (by simp only[aX]<;>omega) ⟨.int ys.length,H,I.tok _,⟨s.toks+1,by rw[aX,hlen]⟩,q⟩
 ·obtain⟨its,r',pl,hz⟩:=I.tuple hq;have hlen:=r'.length;exact len_tuple pl (by simp only[aX]<;>omega) ⟨.int ys.length,H,I.tok _,⟨s.toks+1,by rw[aX,hlen]⟩,q⟩
def FW:lG X (.builtin "len") (λxs H Q=>∃z,xs=[.str z]/\z.length<=bE/\Q (.int z.length) H):=by
 intro pins s σ H xs us Q I r h;obtain⟨z,rfl,hz,q⟩:=h;obtain⟨u,rfl,t,rfl⟩:=pC r;have hn:=uZ;exact len_str (by omega) ⟨.int z.length,H,I.tok _,⟨_,rfl⟩,q⟩
def lG.or{f}{r r':List V->Hp->VK->Prop}(h:lG X f r)(h':lG X f r'):lG X f (λxs H Q=>r xs H Q\/r' xs H Q):=by
 intro pins s σ H xs us Q I rs q;rcases q with q | q
 ·exact h pins s σ H xs us Q I rs q
 ·exact h' pins s σ H xs us Q I rs q
def mY:lG X (.type "tuple") (λxs H Q=>∃p ys,xs=[.ref p]/\((lM X.K H p ys/\∀l,H l=none->Q (.ref l) (eS H l (.tup ys)))\/(pA X.K H p ys/\Q (.ref p) H))):=by
 intro pins s σ H xs us Q I r h;obtain⟨p,ys,rfl,h⟩:=h;obtain⟨u,rfl,rx⟩:=pC r;cases rx;rcases h with⟨hq,q⟩ | ⟨hq,q⟩
 ·obtain⟨its,r',pl,hz⟩:=I.list hq;have hlen:=r'.length;refine call_tuple_list pl.isList (λh' kp=>?_) (by simp only[aX]<;>omega);have I1:cN X pins σ H { s with heap:=h' }:=I.kept (t':=s.toks) kp
  have I2:cN X pins σ (eS H h'.objs.size (.tup ys)) { s with heap:=h'.push { cls:=.type "tuple",data:=.seq its.toArray } }:=
   I1.laid (t':=s.toks) (λb o e=>aC _ e) (aM _) (show iE X.prog X.w _ _ _ (.tup ys)from⟨hz,its,r',C6.new _ _⟩)
  exact⟨.ref h'.objs.size,_,I2,rfl,q _ (I1.hok.fresh (aM _))⟩
 ·obtain⟨its,r',pl,hz⟩:=I.tuple hq;exact call_tuple_same pl ⟨.ref p,H,I,rfl,q⟩
def tyV(K:aF)(T:String)(x:V)(H:Hp):Prop:=match x with
|.str _=>T="str"
|.int _=>T="int"
|.ref p=>(T="list"/\∃xs,lM K H p xs)\/(T="tuple"/\((∃o,K.lookup p=some o/\o.cls=.type "tuple"/\o.dict=none)\/∃xs,pA K H p xs)) \/
  (T="dict"/\((∃kvs,H p=some (.dK kvs))\/∃kvs,H p=some (.dT kvs)))\/(T="set"/\∃S n,H p=some (.set S n))
|_=>False
def QY{pins σ H}{s:Shared}{T x v}(I:cN X pins σ H s)(r:eZ x v)(ty:tyV X.K T x H) :
  s.TypeIs v T/\∀a,v=.ref a->∃ob,s.heap.get? a=some ob/\ob.dict=none:=by
 cases x with
 |str z=>
  obtain⟨t,rfl⟩:=r;cases (show T="str" from ty);exact⟨typeIs_str s z t,λ_ e=>nomatch e⟩
 |int i=>
  obtain⟨t,rfl⟩:=r;cases (show T="int" from ty);exact⟨typeIs_int s i t,λ_ e=>nomatch e⟩
 |ref p=>
  cases r;rcases ty with⟨rfl,xs,hq⟩ | ⟨rfl,⟨o,hk,hc,hd⟩ | ⟨xs,hq⟩⟩ | ⟨rfl,hk⟩ | ⟨rfl,S,n,hk⟩
  ·obtain⟨its,_,pl,_⟩:=I.list hq;refine⟨pl.isList.typeIs,λa e=>?_⟩;cases e;obtain⟨o,n,e,c,hd,_⟩:=pl;exact⟨o,e,hd⟩
  ·refine⟨⟨o,I.kIn p o hk,hc⟩,λa e=>?_⟩;cases e;exact⟨o,I.kIn _ o hk,hd⟩
  ·obtain⟨o,e,hc,hd⟩:=I.tupleN hq;refine⟨⟨o,e,hc⟩,λa e2=>?_⟩;cases e2;exact⟨o,e,hd⟩
  ·have z:∃o,s.heap.get? p=some o/\o.ExactDict:=by
    rcases hk with⟨kvs,hk⟩ | ⟨kvs,hk⟩
    ·obtain⟨_,_,_,_,o,_,_,e,ex,_⟩:=I.hok p _ hk;exact⟨o,e,ex⟩
    ·obtain⟨_,_,_,_,o,_,_,e,ex,_⟩:=I.hok p _ hk;exact⟨o,e,ex⟩
   obtain⟨o,e,ex⟩:=z;refine⟨⟨o,e,ex.1⟩,λa e2=>?_⟩;cases e2;exact⟨o,e,ex.2.1⟩
  ·obtain⟨o,_,_,_,e,ex,_⟩:=I.hok p _ hk;refine⟨⟨o,e,ex.1⟩,λa e2=>?_⟩;cases e2;exact⟨o,e,ex.2.1⟩
 |_=>exact False.elim ty
def aDz(K:aF)(T:String)(r:V->List V->Hp->VK->Prop)(to:TE):TE:=λσ H Q=>to σ H λx H1=>tyV K T x H1/\r x [] H1 Q
def Q9(K:aF)(T:String)(r:V->List V->Hp->VK->Prop)(to:TE)(t:TA):TE:=λσ H Q=>to σ H λx H1=>tyV K T x H1/\t σ H1 λxs H2=>r x xs H2 Q
variable{o e:Expr}{es:List Expr}{to:TE}{t:TA}{name:Str}{apos cpos:Pos}{T id:String}{r:V->List V->Hp->VK->Prop}
def S8(pa:PlainAttrs T)(slot:Slot T name id)(hty:typeOf (.builtin id)=pure (.type "method_descriptor"))(hm:P9 X id r)(ho:PE X o to)
  (hbase:attributeBase o name X.env (eval o X.env)=eval o X.env:=by rfl) (hline:(apos.endLine==cpos.line)=true:=by rfl):PE X (.Call (.Attribute o name apos) [] [] cpos) (aDz X.K T r to):=by
 intro pins s σ H Q I h;refine wpAny_Call_method0_late hbase hline (iU (ho pins s σ H _ I h) λv s1 zq=>?_);obtain⟨x,H1,I1,r1,ty,q1⟩:=zq;obtain⟨h1,h2⟩:=QY I1 r1 ty;exact⟨T,id,pa,slot,hty,h1,h2,Calls.callWith_builtin rfl (PySem.evalArgs_none (hm pins s1 σ H1 x [] v [] Q I1 r1 .nil q1))⟩
def mI(pa:PlainAttrs T)(slot:Slot T name id)(hty:typeOf (.builtin id)=pure (.type "method_descriptor"))(hm:P9 X id r)(ho:PE X o to)(ha:PA X (e::es) t)
  (hbase:attributeBase o name X.env (eval o X.env)=eval o X.env:=by rfl)
  (hfew:((backTo cpos (bL (e::es) X.env)).all (λx=>!x.1)&&(backToKw cpos (keywordEach [] X.env)).all (λx=>x.1.isSome)
  &&decide ((e::es).length+([]:List Keyword).length+(if([]:List Keyword).isEmpty then 0 else 1)<30))=true:=by rfl)
  (hline:(apos.endLine==cpos.line)=true:=by rfl) (hs:bL (e::es) X.env=(false,eval e X.env)::bL es X.env:=by rfl) (hplain:(backTo cpos (bL es X.env)).any (·.1)=false:=by rfl) :
  PE X (.Call (.Attribute o name apos) (e::es) [] cpos) (Q9 X.K T r to t):=by
 intro pins s σ H Q I h;refine wpAny_Call_method_late hbase hfew hline rfl (iU (ho pins s σ H _ I h) λv s1 zq=>?_);obtain⟨x,H1,I1,r1,ty,q1⟩:=zq;obtain⟨h1,h2⟩:=QY I1 r1 ty;refine⟨T,id,pa,slot,hty,h1,h2,?_⟩;have hA:=ha cpos pins s1 σ H1 _ I1 q1;rw[hs]at hA |-
 refine Calls.callWith_builtin (by show(false||(backTo cpos (bL es X.env)).any (·.1))=false;rw[hplain]<;>rfl) (Calls.evalArgs_plain ?_);exact iU hA λus s2 ⟨vs,H2,I2,r2,q2⟩=>hm pins s2 σ H2 x vs v us Q I2 r1 r2 q2
end
def MtM(X:Cx)(id:String)(r:V->List V->Hp->VK->Prop):Prop:=
 ∀pins s σ H(x:V)(xs:List V)(v:Value)(us:List Value)Q,cN X pins σ H s->eZ x v->eW xs us->r x xs H Q ->
  wpAny (model X.prog X.w) X.A (call (.builtin id) (v::us)) (EP X pins σ Q) X.xe s
def eW.one:∀{x us},eW [x] us->∃u,us=[u]/\eZ x u
|_,_,.cons r .nil=>⟨_,rfl,r⟩
theorem eW.eraseIdx:∀{xs:List V}{us:List Value}(i:Nat),eW xs us->eW (xs.eraseIdx i) (us.eraseIdx i)
|_,_,_,.nil=>.nil
|_,_,0,.cons _ t=>t
|_,_,i+1,.cons r t=>.cons r (eW.eraseIdx i t)
theorem DU{α:Type}:∀(l:List α)(i:Nat),(l.eraseIdx i).length<=l.length
|[],_=>aM _
|_::_,0=>PR _
|_::r,i+1=>Nat.succ_le_succ (DU r i)
section
variable{X:Cx}{pins:List (Addr×Obj)}{σ:St}{H:Hp}{s:Shared}{l:Addr}{xs ys:List V}
def cN.lset{its its':List Value}{n:Nat}{f:Array Value->Array Value}{t':Nat}(I:cN X pins σ H s)(hH:H l=some (.lst xs))
  (e:s.heap.get? l=some { cls:=.type "list",data:=.seq its.toArray n }) (hf:f its.toArray=its'.toArray) (hv:eW ys its') (hz:ys.length<=bE) :
  cN X pins σ (eS H l (.lst ys)) { s with heap:=s.heap.update l (Obj.mapSeq f),toks:=t' }:=by
 have q:=PySem.IsL.update e f;rw[hf]at q;refine I.write (x:=l) (e:=l) (by rw[hH];exact trivial) (.inl rfl) (λb' u hb hu=>(fL s.heap (Obj.mapSeq f) (Ne.symm hb)).trans hu) ⟨_,q⟩ ?_;exact⟨hz,its',_,hv,q⟩
def cN.lnew{its:List Value}{t':Nat}(I:cN X pins σ H s)(hv:eW ys its)(hz:ys.length<=bE) :
  cN X pins σ (eS H s.heap.objs.size (.lst ys)) { s with heap:=s.heap.push { cls:=.type "list",data:=.seq its.toArray },toks:=t' }:=
 I.laid (λ_ _ q=>aC _ q) (aM _) ⟨hz,its,0,hv,aR _ rfl⟩
theorem cN.fresh(I:cN X pins σ H s):H s.heap.objs.size=none:=I.hok.fresh (aM _)
def cN.lstM(I:cN X pins σ H s)(hH:H l=some (.lst xs)):xs.length<=bE/\∃(its:List Value)(n:Nat),eW xs its/\xs.length=its.length/\s.heap.get? l=some { cls:=.type "list",data:=.seq its.toArray n }:=by
 obtain⟨z,its,n,r,e⟩:=I.hok l _ hH;exact⟨z,its,n,r,r.length,e⟩
def TN{n:Nat}(h:n<=bE):Builtin.List.listTooLong n=false:=by
 unfold Builtin.List.listTooLong;exact decide_eq_false (by omega)
end
section
variable{X:Cx}
def E6:V->List V->Hp->VK->Prop:=λx vs H Q=>∃l xs y,x=.ref l/\vs=[y]/\H l=some (.lst xs)/\xs.length<bE/\Q .non (eS H l (.lst (xs++[y])))
def mU:MtM X "list.append" E6:=by
 intro pins s σ H x vs v us Q I rx rv h;obtain⟨l,xs,y,rfl,rfl,hH,hz,q⟩:=h;cases rx;obtain⟨u,rfl,ru⟩:=rv.one;obtain⟨z,its,n,r,hl,e⟩:=I.lstM hH;refine call_meets F.slot_list_append ⟨_,e,rfl⟩ F.entry_list_append (F.args_list_append_2 _ _) (PySem.list_append l its.toArray n u (by rw[aX];omega)) ⟨e,?_⟩;refine⟨.non,_,I.lset (its':=its++[u]) hH e (by simp) (r.append (.cons ru .nil)) ?_,rfl,q⟩;rw[bQ,nH];omega
def SF:V->List V->Hp->VK->Prop:=λx vs H Q=>∃l xs i k y,x=.ref l/\vs=[.int i]/\H l=some (.lst xs)/\-(2^63)<=i/\i<2^63/\seqIndex? i xs.length=some k/\xs[k]?=some y/\Q y (eS H l (.lst (xs.eraseIdx k)))
def T6:MtM X "list.pop" SF:=by
 intro pins s σ H x vs v us Q I rx rv h;obtain⟨l,xs,i,k,y,rfl,rfl,hH,h1,h2,hk,hy,q⟩:=h;cases rx;obtain⟨u,rfl,ru⟩:=rv.one;obtain⟨t,rfl⟩:=ru;obtain⟨z,its,n,r,hl,e⟩:=I.lstM hH;obtain⟨w,hw,rw'⟩:=r.get hy
 refine call_meets F.slot_list_pop ⟨_,e,rfl⟩ F.entry_list_pop (F.args_list_pop_2 _ _)
  (MeetsSeq.list_pop_at l its.toArray n i t k w (fitsIndex_both h1 h2) (by rw[aX,<- hl];exact hk) (by rw[<- iY];exact hw) (by rw[aX];omega)) ⟨e,?_⟩
 refine⟨y,_,I.lset (its':=its.eraseIdx k) hH e ?_ (r.eraseIdx k) ?_,rw',q⟩
 ·show its.toArray.eraseIdxIfInBounds k=(its.eraseIdx k).toArray;rw[List.eraseIdxIfInBounds_toArray]
 ·have:=DU xs k;omega
end
end L2
namespace Att
open PySem.W PySem.Calls
def yW{P h}:∀(ns:List Int)(vs:List Value),WellAll P h vs (ns.map WData.int)->IntsAre vs ns:=by
 intro ns
 induction ns with
 |nil=>
  intro vs w;rw[oX]at w;cases w;exact .nil
 |cons n ns ih=>
  intro vs w;rw[bX]at w
  cases w with
  |cons a b=>
   cases a;exact .cons _ _ (ih _ b)
def N0{l:OpenLaw}{n:Nat}(hn:l.most=some n){P}{h:Heap}{args vals}
  (hpre:l.row.toRowW.claim.pre args=true) (hwl:WellAll P h vals args) :
  ∃a vs ns,vals=[Value.ref a]/\args=[WData.list (ns.map WData.int)]/\h.get? a=some { cls:=.type "list",data:=.seq vs.toArray }/\IntsAre vs ns/\ns.length<=n:=by
 have hsh:WShape.hasAll [] args [.list .int]=true:=(pre_splitW hpre).1;have hc:l.pre.holds [] { args:=args }=true:=(pre_splitW hpre).2;obtain⟨d,r,rfl,h1,h2⟩:=hasAllW_cons hsh;obtain rfl:=hasAllW_nil h2;obtain⟨xs,rfl,h3⟩:=hasW_list h1;obtain⟨ns,rfl⟩:=items_int h3
 have hlen:ns.length<=n:=by
  unfold OpenLaw.pre at hc
  have h4:(WTm.not (.lt (.lit (.int (n:Int))) (.len (.arg 0)))).holds [] { args:=[.list (ns.map .int)] }=true:=by
   have h4:=(holds_andW hc).1;rw[hn]at h4;exact h4
  have h5:=condW_of h4 (w_not (w_lt w_lit (w_len_list (w_arg rfl))));rw[aA]at h5;refine ZZ λq=>?_;have q':(n:Int)<((ns.length:Nat):Int):=by omega
  first
   | (rw[decide_eq_true q']at h5;exact absurd h5 (by decide))
   | (simp at h5;omega)
 cases hwl with
 |cons w1 w2=>
  cases w2
  cases w1 with
  |list ho hall=>exact⟨_,_,ns,rfl,rfl,ho,yW ns _ hall,hlen⟩
def N3(l:OpenLaw)(args:List WData):l.row.toRowW.claim.post args (.bool true) args=true:=
 postW_of (r:=l.row.toRowW) (X:=(true==true))
  (show WShape.has [] (.bool true) .bool=true by first | rfl | decide | simp[WShape.has,WShape.arms,WShape.armsAll])
  (show(WTm.eq .res (.lit (.bool true))).value [] { args:=args,res:=some (.bool true),after:=args }=some (.bool (true==true))from w_eq_bool (w_res rfl) w_lit) rfl
def attach_call{l:OpenLaw}{n:Nat}{q loose}{XP:(Str->Option Value)->Heap->Prop}{YP:World->Heap->Prop}{d:DefRec}
  (hn:l.most=some n) (hdf:d.params.defaults=[])
  (call:∀(w:World)(s₀ s₁:Shared)(mg mb:Str->Option Value)(fa:Addr)(o:Obj)(pm cd doc:Value)(a:Addr)(vs:List Value)(ns:List Int),
   Ground q loose [] XP w s₀ mg mb s₁.heap->YP w s₁.heap ->
   s₁.heap.get? fa=some o->o.data=.func (docDef d.name d.params d.body d.scope pm cd doc)->s₁.heap.CodeRec cd d.name->mg d.name=some (.ref fa) ->
   s₁.heap.get? a=some { cls:=.type "list",data:=.seq vs.toArray }->IntsAre vs ns->ns.length<=n->s₁.gens=#[] ->
   codeAny (model l.prog w) callerA (.call (.ref fa) ⟨[.ref a],[]⟩) (λr s'=>r=.ok (.ret (.bool true))/\OldK s₁.heap s'.heap/\s'.os=s₁.os/\AllBare s'.gens) s₁) :
  WalkO q loose XP YP l.row.toRowW d [] (λf vs=>PySem.call f vs):=by
 intro w s₀ s₁ mg mb G Y fa o pm cd doc dV kV ho hd hcd hD hmg hg args vals as hpre hlay hrd hwl hlo;obtain rfl:dV=.none:=Dflts.none hD hdf;obtain rfl:kV=.none:=Dflts.noKw hD;obtain⟨a,vs,ns,rfl,rfl,hobj,hints,hlen⟩:=N0 hn hpre hwl;refine enter_call (codeAny_mono (call w s₀ s₁ mg mb fa o pm cd doc a vs ns G Y ho (fd_plain hd) hcd hmg hobj hints hlen hg) λr s' hq=>?_);obtain⟨rfl,h2,h3,h4⟩:=hq;exact⟨.inl ⟨.bool true,.bool true,[],rfl,λ_=>rfl,.bool true,N3 l _,λ_=>⟨aGf.nil,λ_ hm=>(nomatch hm)⟩⟩,h2,h3,h4⟩
end Att
namespace L2
theorem DI:∀{vs}{ns:List Int},IntsAre vs ns->eW (ns.map V.int) vs
|_,_,.nil=>.nil
|_,_,.cons n t h=>.cons ⟨t,rfl⟩ (DI h)
def aF7(H:Hp):Prop:=∀b,H b=none\/(∃o xs,H b=some (.frz o (.lst xs)))\/(tabA=some b/\∃ps,H b=some (.tbl ps))
def UJ{P w}{K:aF}{mg mb:Str->Option Value}{CX:V8}{k:Nat}{fa a:Addr}{fd}{x:Str}{sp:Sp}{s₁:Shared}{vs:List Value}{ns:List Int}
  (KX:K.In s₁.heap) (hns:s₁.heap.Ns dS mg) (hb:s₁.heap.Ns builtinsNs mb) (hbb:∀x:Str,x≠"__name__"->mb x=bootBuiltins x) (hlim:s₁.heap.NoLimit) (hg:s₁.gens=#[])
  (ha:s₁.heap.get? a=some { cls:=.type "list",data:=.seq vs.toArray }) (hi:IntsAre vs ns) (hl:ns.length<=bE) (hr:gM k callerA)
  (hbm:∃bm o,mg "__builtins__"=some (.ref bm)/\bm≠builtinsNs/\s₁.heap.get? bm=some o/\o.cls=.type "module"/\o.dict=some builtinsNs/\o.data=.plain)
  (hT:∀P,tabA=some P->s₁.heap.get? P=some { cls:=.none,data:=.fields #[] }/\K.lookup P=none/\isCodeTable s₁.heap P)
  (F:∀base:Heap,K.In base->base.Ns dS mg->bU P w K mg base CX k fa fd [x] sp) (hbind:∀s(u:Value),BindsTo s fd ⟨[u],[]⟩ [(x,u)])
  (hsp:∀H:Hp,aF7 H->lM K H a (ns.map V.int)->sp [.ref a] H (λv _=>v=.bl true) λ_ _ _=>False)
  (hCX:∀H e s',CX [] H s₁ (λ_ _ _=>False) e s'->False) :
  codeAny (model P w) callerA (.call (.ref fa) ⟨[.ref a],[]⟩) (λr s'=>r=.ok (.ret (.bool true))/\OldK s₁.heap s'.heap/\s'.os=s₁.os/\AllBare s'.gens) s₁:=by
 have rv:=DI hi;have lenV:=hi.length
 have aT:∀P,tabA=some P->P≠a:=λP e z=>by
  have h1:=(hT P e).1;rw[z,ha]at h1;cases h1
 have core:∀H:Hp,aF7 H->lM K H a (ns.map V.int)->oF P w H s₁.heap->(∀b,H b≠none->b=a\/tabA=some b)->(H a≠none->K.lookup a=none)->Tb H ->
   codeAny (model P w) callerA (.call (.ref fa) ⟨[.ref a],[]⟩) (λr s'=>r=.ok (.ret (.bool true))/\OldK s₁.heap s'.heap/\s'.os=s₁.os/\AllBare s'.gens) s₁:=by
  intro H hO hS hok hA hK hTb;have base_of:∀{b:Addr}{o:Obj},s₁.heap.get? b=some o->H b=none->(FK s₁.heap H).get? b=some o:=λe n=>UX e n
  have noA:∀{b:Addr}{o:Obj}{es:Array DictEntry}{ep:Nat},s₁.heap.get? b=some o->o.data=.dict es ep->H b=none:=λ{b o es ep} e d=>by
   cases q:H b with
   |none=>rfl
   |some u=>
    rcases hA b (by rw[q];simp)with e' | e'
    ·subst e';rw[ha]at e;cases e;have d':Data.seq vs.toArray _=Data.dict es ep:=d;cases d'
    ·rw[(hT b e').1]at e;cases e;have d':Data.fields #[]=Data.dict es ep:=d;cases d'
  have noP:∀{b:Addr}{o:Obj},s₁.heap.get? b=some o->o.data=.plain->H b=none:=λ{b o} e d=>by
   cases q:H b with
   |none=>rfl
   |some u=>
    rcases hA b (by rw[q];simp)with e' | e'
    ·subst e';rw[ha]at e;cases e;have d':Data.seq vs.toArray _=Data.plain:=d;cases d'
    ·rw[(hT b e').1]at e;cases e;have d':Data.fields #[]=Data.plain:=d;cases d'
  have nsK:∀{b:Addr}{m:Str->Option Value},s₁.heap.Ns b m->(FK s₁.heap H).Ns b m:=λ{b m} ⟨o,es,ep,e,d,r⟩=>⟨o,es,ep,base_of e (noA e d),d,r⟩
  have hKb:K.In (FK s₁.heap H):=λb o e=>base_of (KX b o e) (by
   cases q:H b with
   |none=>rfl
   |some u=>
    rcases hA b (by rw[q];simp)with e' | e'
    ·subst e';rw[hK (by rw[q];simp)]at e;cases e
    ·rw[(hT b e').2.1]at e;cases e)
  have hM:Mod K mg (FK s₁.heap H):=⟨hKb,nsK hns,⟨mb,nsK hb,hbb⟩,let ⟨mc,h1,h2⟩:=hlim;⟨mc,nsK h1,h2⟩,let ⟨bm,o,b1,b2,b3,b4,b5,b6⟩:=hbm;⟨bm,o,b1,b2,base_of b3 (noP b3 b6),b4,b5,b6⟩⟩;have e0:LC P w K mg (FK s₁.heap H) callerA [] s₁ H:=⟨rfl,hM,λb o e=>YI e,kI (OV _ _),trivial,λb hb=>absurd (show b∈([]:List Addr)from hb) (by simp),hok,.of_eq hg,hTb⟩;refine codeAny_mono ((F _ hKb (nsK hns)).run callerA [] s₁ H ⟨[.ref a],[]⟩ [.ref a] [.ref a] _ _ hr e0 (hbind s₁ (.ref a)) (.cons rfl .nil) (hsp H hO hS)) λr s' h=>?_
  cases r with
  |error e=>exact(hCX H e s' h).elim
  |ok fl=>
   cases fl with
   |next=>exact False.elim h
   |brk=>exact False.elim h
   |cont=>exact False.elim h
   |ret u=>
    obtain⟨v,H',os,bare,un,hok',r',q⟩:=h;have q':v=.bl true:=q;subst q';obtain rfl:u=Value.bool true:=r'
    have old:∀b o,s₁.heap.get? b=some o->s'.heap.get? b=some o\/(isCodeTable s₁.heap b/\o={ cls:=.none,data:=.fields #[] }/\∃qs:Array Value,s'.heap.get? b=some { cls:=.none,data:=.fields qs }):=λb o e=>by
     cases q:H b with
     |none=>exact .inl (un.keep b o e q (by intro z;exact absurd (show b∈([]:List Addr)from z) (by simp)) (by simp))
     |some u=>
      rcases hO b with z | ⟨ob,xs,z⟩ | ⟨t,ps,z⟩
      ·rw[q]at z;cases z
      ·have z2:=un.frzs b ob _ z;obtain⟨e1,_⟩:=hok b _ z;obtain⟨e2,_⟩:=hok' b _ z2;rw[e]at e1;cases e1;exact .inl e2
      ·obtain⟨h1,h2,h3⟩:=hT b t;obtain⟨m,z2⟩:=un.tbls b ps z;obtain⟨qs,e2,_⟩:=hok' b _ z2;rw[e]at h1;cases h1;exact .inr ⟨h3,rfl,qs,e2⟩
    refine⟨rfl,⟨λb o e=>?_,λb o e=>?_⟩,os,bare⟩
    ·rcases old b o e with h1 | ⟨h1,rfl,qs,h2⟩
     ·exact .inl h1
     ·exact .inr (.inl ⟨h1,rfl,#[],qs,rfl,by rw[h2];simp⟩)
    ·rcases old b o e with h1 | ⟨h1,rfl,qs,h2⟩
     ·exact⟨_,h1⟩
     ·exact⟨_,h2⟩
 have dT:∀b,Decidable (tabA=some b):=λb=>inferInstance
 cases hk:K.lookup a with
 |some o=>
  have e:=KX a o hk;rw[ha]at e;cases e;refine core (λb=>if tabA=some b then some (.tbl #[])else none) (λb=>?_) (.inr ⟨_,vs.toArray,_,hk,rfl,rfl,rfl,by rw[aX,lenV];exact hl,by simpa using rv⟩) (λb u z=>?_) (λb z=>?_) (λz=>?_) λP e=>⟨#[],if_pos e⟩
  ·by_cases hb:tabA=some b
   ·exact .inr (.inr ⟨hb,#[],if_pos hb⟩)
   ·exact .inl (if_neg hb)
  ·by_cases hb:tabA=some b
   ·have z':=(if_pos hb).symm.trans z;cases z';exact⟨#[],(hT b hb).1,trivial,λp c q=>by cases q⟩
   ·have z':=(if_neg hb).symm.trans z;cases z'
  ·by_cases hb:tabA=some b
   ·exact .inr hb
   ·exact absurd (if_neg hb) z
  ·exact absurd (if_neg λe=>aT a e rfl) z
 |none=>
  refine core (λb=>if tabA=some b then some (.tbl #[])else if b=a then some (.frz { cls:=.type "list",data:=.seq vs.toArray } (.lst (ns.map V.int)))else none) (λb=>?_) (.inl (.inr ⟨{ cls:=.type "list",data:=.seq vs.toArray },(if_neg λe=>aT a e rfl).trans (if_pos rfl)⟩)) (λb u z=>?_) (λb z=>?_) (λ_=>hk) λP e=>⟨#[],if_pos e⟩
  ·by_cases hT':tabA=some b
   ·exact .inr (.inr ⟨hT',#[],if_pos hT'⟩)
   ·by_cases hb:b=a
    ·exact .inr (.inl ⟨_,_,(if_neg hT').trans (if_pos hb)⟩)
    ·exact .inl ((if_neg hT').trans (if_neg hb))
  ·by_cases hT':tabA=some b
   ·have z':=(if_pos hT').symm.trans z;cases z';exact⟨#[],(hT b hT').1,trivial,λp c q=>by cases q⟩
   ·by_cases hb:b=a
    ·have z':=((if_neg hT').trans (if_pos hb)).symm.trans z;cases z';subst hb;exact⟨ha,by rw[aA];exact hl,vs,_,rv,ha⟩
    ·have z':=((if_neg hT').trans (if_neg hb)).symm.trans z;cases z'
  ·by_cases hT':tabA=some b
   ·exact .inr hT'
   ·by_cases hb:b=a
    ·exact .inl hb
    ·exact absurd ((if_neg hT').trans (if_neg hb)) z
def WT{l:PySem.W.OpenLaw}{n k:Nat}{q loose}{XP:(Str->Option Value)->Heap->Prop}{YP:World->Heap->Prop}{d:DefRec}{K:Params->aF}{CX:World->V8}{sp:World->Sp}{x}
  (hn:l.most=some n) (hn2:n<=bE) (hdf:d.params.defaults=[]) (hr:gM k callerA)
  (hY:∀(w:World)(h:Heap),YP w h->(K w.params).In h) (hT:∀(w:World)(h:Heap),YP w h->∀P,tabA=some P->h.get? P=some { cls:=.none,data:=.fields #[] }/\(K w.params).lookup P=none/\isCodeTable h P)
  (F:∀(w:World)(mg:Str->Option Value)(fa:Addr)(h:Heap),(K w.params).In h->h.Ns dS mg->mg d.name=some (.ref fa) ->
   ∃fd:gT,(∀s(u:Value),BindsTo s fd ⟨[u],[]⟩ [(x,u)]) /\
    ∀base:Heap,(K w.params).In base->base.Ns dS mg->bU l.prog w (K w.params) mg base (CX w) k fa fd [x] (sp w))
  (hsp:∀(w:World)H(a:Addr)(ns:List Int),ns.length<=n->aF7 H->lM (K w.params) H a (ns.map V.int)->sp w [.ref a] H (λv _=>v=.bl true) λ_ _ _=>False)
  (hCX:∀(w:World)H s(e:Value)s',CX w [] H s (λ_ _ _=>False) e s'->False) :
  WK q loose XP YP l.row.toRowW d [] (λf vs=>PySem.call f vs):=by
 refine Att.attach_call hn hdf λw s₀ s₁ mg mb fa o pm cd doc a vs ns G Y ho hd hcd hmg hobj hints hlen hg=>?_;have KX:=hY w _ Y;obtain⟨fd,hb,hF⟩:=F w mg fa _ KX G.T.g hmg;exact UJ KX G.T.g G.T.b G.T.builtins G.T.nolimit hg hobj hints (bK hlen hn2) hr G.T.bmain (hT w _ Y) hF hb (λH hO hS=>hsp w H a ns hlen hO hS) λH e s'=>hCX w H s₁ e s'
noncomputable def wP(s:Stmt):Arguments:=match s with
|.FunctionDef _ a _ _ _ _ _ _ _ _=>a
|_=>{ posonlyargs:=[],args:=[],vararg:=none,kwonlyargs:=[],kw_defaults:=[],kwarg:=none,defaults:=[] }
noncomputable def kN(s:Stmt):List Stmt:=match s with
|.FunctionDef _ _ b _ _ _ _ _ _ _=>b
|_=>[]
noncomputable def aY(s:Stmt):Scope:=match s with
|.FunctionDef _ _ _ _ _ _ sc _ _ _=>sc
|_=>{ kind:=.function,names:=[],isGenerator:=false,isCoroutine:=false }
abbrev eG:V8:=λ_ _ _ _ _ _=>False
abbrev E0:XK:=λ_ _ _=>False
def iK{X}:sQ eG X E0:=λ_ _ _ _ _ _ _ h=>h.elim
structure LB(K:aF)(x qual:Str)(st:Stmt)(f:Addr)(fd:gT):Prop where
 ex:∃(oc:Value)(od:Option Addr)(kV doc pm:Value)(an:Option Addr)(cdv ct:Value)(osl:Array (Option Value)),
  fd=mO x qual (wP st) (kN st) (aY st) .none kV doc pm an cdv ct/\K.lookup f=some ⟨oc,od,.func fd,osl⟩/\oS K cdv qual=true
 kp:fV K (.ref f)=true
section
variable{P:cC}{w:World}{K:aF}{mg:Str->Option Value}{base:Heap}
def LB.ok{x qual st}{f:Addr}{fd}{N ps:List Str}{k:Nat}{sp:Sp}(F:LB K x qual st f fd)(S:bZ N ps (aY st))(len:∀vs H Q E,sp vs H Q E->vs.length=ps.length)
  (hbody:∀(cdv:Value)(A:Around)outer(s:Shared)H(vs:List V)Q E,gM k (A.deeper (envOfC qual (aY st) s.heap.objs.size f cdv))->sp vs H Q E ->
   ∃t,yN (qB eG P w K mg base N qual (aY st) f cdv A outer s H E).nox (kN st) t/\t { nx:=λ_ H'=>Q .non H',rt:=Q } (lP N vs) H):bU P w K mg base eG (k+1) f fd ps sp:=by
 obtain⟨oc,od,kV,doc,pm,an,cdv,ct,osl,rfl,lk,hcd⟩:=F.ex;refine U4 lk hcd S len λA outer s H vs Q E hr hsp=>?_;obtain⟨t,h,q⟩:=hbody cdv A outer s H vs Q E hr hsp;exact⟨t,h.nox,q⟩
def LB.binds{x qual st}{f:Addr}{fd}{ps:List Str}(F:LB K x qual st f fd)
  (h:∀(kV doc pm:Value)(an:Option Addr)(cdv ct:Value)(us:List Value),us.length=ps.length->bindArgs (mO x qual (wP st) (kN st) (aY st) .none kV doc pm an cdv ct) ⟨us,[]⟩=pure (ps.zip us)):oR K fd ps []:=by
 obtain⟨oc,od,kV,doc,pm,an,cdv,ct,osl,rfl,lk,hcd⟩:=F.ex;exact .all (h kV doc pm an cdv ct)
def U2{x qual st}{f:Addr}{oc od an osl kV doc pm cdv ct}(l:K.lookup f=some ⟨oc,od,.func (mO x qual (wP st) (kN st) (aY st) .none kV doc pm an cdv ct),osl⟩)
  (c:oS K cdv qual=true) (k:fV K (.ref f)=true):LB K x qual st f (mO x qual (wP st) (kN st) (aY st) .none kV doc pm an cdv ct):=⟨⟨oc,od,kV,doc,pm,an,cdv,ct,osl,rfl,l,c⟩,k⟩
end
def NW{n:Nat}(h:n<=1000):n<bE:=pQ h (by decide)
section
variable{X:Cx}
def pv(i:Nat){x:Str}{pos}(hN:X.N[i]?=some x:=by rfl)(hv:Vis X.env.scope x:=by first | exact Or.inl rfl | exact Or.inr (Or.inl rfl) | exact Or.inr (Or.inr rfl))(hd:(x==("__debug__":Str))=false:=by decide)
  (hcd:(x==("__classdict__":Str))=false:=by decide):PE X (.Name x pos) (oI i):=SX hN hv hd hcd
end
def aS(H H':Hp):Prop:=∀b o,H b=some o->H' b=some o
def aS.refl(H:Hp):aS H H:=λ_ _ h=>h
def aS.trans{H H1 H2}(a:aS H H1)(b:aS H1 H2):aS H H2:=λc o h=>b c o (a c o h)
def aS.seq{K H H'}{a:Addr}{xs}(e:aS H H')(h:lM K H a xs):lM K H' a xs:=by
 rcases h with(h | ⟨o,h⟩) | h
 ·exact .inl (.inl (e _ _ h))
 ·exact .inl (.inr ⟨o,e _ _ h⟩)
 ·exact .inr h
def Y4{M A}{E:Value->Shared->Prop}{s tg it z t}{Q:Unit->Shared->Prop}(hQ:Q () s) :
  wpAny M A (letOwnedTupleGo tg it (.str z t)) Q E s:=by
 unfold letOwnedTupleGo
 cases tg<;>first
  |exact aW hQ
  | (cases it<;>exact aW hQ)
noncomputable def Its(z:Str):It:=⟨λi _=>i<z.cps.size,λi H x H'=>H'=H/\∃c,z.cps[i]?=some c/\x=.str ⟨#[c]⟩,λi _=>z.cps.size<=i⟩
def NM{P w K tg ty}(it:Addr)(z:Str)(t:Tok)
  (W:∀A:Around,A.handled=none->Walks P w A it [it] [it] z.cps.size (SignAt z) (λi h=>h.IsStrIter it ty z t i))
  (S:∀A(i:Nat)(s:Shared)Q E,s.heap.IsStrIter it ty z t i->Q (.ref it) s->wpAny (model P w) A (pyIter (.ref it)) Q E s) :
  IS P w K tg (Its z) [it] it (λi h=>i<=z.cps.size/\h.IsStrIter it ty z t i) where
 mem:=by simp
 obj:=λi h st b hb=>by
  obtain rfl:b=it:=by simpa using hb
  obtain⟨_,o,e,c,d⟩:=st;exact⟨o,e,λv q=>by rw[d]at q;cases q⟩
 keep:=λi h h' st k=>by
  obtain⟨l,o,e,r⟩:=st;exact⟨l,o,k it (by simp) o e,r⟩
 item:=by
  intro X hP hw hK hc i pins s σ H E I hf st hg;subst hP hw hK;obtain⟨f0,f1,f2,f3,f4,f5⟩:=hf it (by simp);refine(W X.A (I.ok.hd hc)).item i s _ _ hg st.2 λv h' tk hv st' kk=>?_;obtain⟨c,u,hx,rfl⟩:=hv;have I1:cN X pins σ H { s with heap:=h',toks:=tk }:=I.turned (λb o hb e=>kk b o (by simpa using hb) e) f0 f1 f3 f4 f5;exact⟨_,rfl,Y4 ⟨.str ⟨#[c]⟩,H,I1,⟨u,rfl⟩,⟨rfl,c,hx,rfl⟩,⟨hg,st'⟩,λb hb=>(hf b hb).1⟩⟩
 done:=by
  intro X hP hw hK hc i pins s σ H E I hf st hg;subst hP hw hK;obtain⟨f0,f1,f2,f3,f4,f5⟩:=hf it (by simp);have e:i=z.cps.size:=Nat.le_antisymm st.1 hg;subst e;exact(W X.A (I.ok.hd hc)).done s _ _ st.2 λh' tk kk=>⟨rfl,I.turned (λb o hb e=>kk b o (by simpa using hb) e) f0 f1 f3 f4 f5⟩
 self:=λA i s Q E st h=>S A i s Q E st.2 h
def aMk(K:aF)(tl:TE):TI:=λσ H R=>tl σ H λx H1=>(∃a,x=.ref a/\(∃xs,lM K H1 a xs)/\R (Itl K a) H1)\/(∃a,x=.ref a/\(∃xs,pA K H1 a xs)/\R (Itt K a) H1)\/∃z,x=.str z/\R (Its z) H1
def aEl{X:Cx}{tg l tl}(hl:PE X l tl):PI X tg l (aMk X.K tl):=by
 intro pins s σ H R I h;refine iU (hl pins s σ H _ I h) λv s1 zq=>?_;obtain⟨x,H1,I1,r1,q1⟩:=zq;rcases q1 with⟨a,rfl,⟨xs,hq⟩,q⟩ | ⟨a,rfl,⟨xs,hq⟩,q⟩ | ⟨z,rfl,q⟩
 ·cases r1;obtain⟨its,rv,p,hz⟩:=I1.list hq;refine wpAny_pyIter_list p.isList ⟨s1.heap.objs.size,[s1.heap.objs.size],_,_,H1,rfl,I1.kept (t':=s1.toks) λb o e=>aC _ e,NN a _,⟨_,aR _ rfl,rfl,rfl⟩,λb hb=>?_,q⟩;obtain rfl:b=s1.heap.objs.size:=by simpa using hb
  exact I1.fpOk (aM _) (I1.hok.fresh (aM _))
 ·cases r1;obtain⟨its,rv,p,hz⟩:=I1.tuple hq;refine wpAny_pyIter_tuple (show s1.heap.IsTuple a its.toArray from p) ⟨s1.heap.objs.size,[s1.heap.objs.size],_,_,H1,rfl,I1.kept (t':=s1.toks) λb o e=>aC _ e,JO a _,⟨_,aR _ rfl,rfl,rfl⟩,λb hb=>?_,q⟩;obtain rfl:b=s1.heap.objs.size:=by simpa using hb
  exact I1.fpOk (aM _) (I1.hok.fresh (aM _))
 ·obtain⟨t,rfl⟩:=r1
  have fin:∀(o:Obj)(ty:String),(∀A:Around,A.handled=none->Walks X.prog X.w A s1.heap.objs.size [s1.heap.objs.size] [s1.heap.objs.size] z.cps.size (SignAt z) (λi h=>h.IsStrIter s1.heap.objs.size ty z t i)) ->
    (∀A(i:Nat)(s:Shared)Q E,s.heap.IsStrIter s1.heap.objs.size ty z t i->Q (.ref s1.heap.objs.size) s->wpAny (model X.prog X.w) A (pyIter (.ref s1.heap.objs.size)) Q E s) ->
    (s1.heap.push o).IsStrIter s1.heap.objs.size ty z t 0->PIE X pins σ tg R (.ref s1.heap.objs.size) { s1 with heap:=s1.heap.push o }:=λo ty W S st=>by
   refine⟨s1.heap.objs.size,[s1.heap.objs.size],_,Its z,H1,rfl,I1.kept (t':=s1.toks) λb o e=>aC _ e,NM _ z t W S,⟨cT _,st⟩,λb hb=>?_,q⟩;obtain rfl:b=s1.heap.objs.size:=by simpa using hb
   exact I1.fpOk (aM _) (I1.hok.fresh (aM _))
  cases ha:z.cps.all (·<128)
  ·exact wpAny_pyIter_wide ha (fin _ "str_iterator" (λA hA=>Walks.strWide hA _ z t) (λ_ _ _ _ _ st h=>wpAny_pyIter_striter_wide st h) ⟨_,aR _ rfl,rfl,rfl⟩)
  ·exact wpAny_pyIter_ascii ha (fin _ "str_ascii_iterator" (λA hA=>Walks.strAscii hA _ z t) (λ_ _ _ _ _ st h=>wpAny_pyIter_striter_ascii st h) ⟨_,aR _ rfl,rfl,rfl⟩)
structure BP where
 cl:List (Str×Addr)
 C:Addr
 s3:Shared
 H3:Hp
 ex:List Addr
 pn:List (Addr×Obj)
noncomputable def blk(X:Cx)(scope:Scope)(N':List Str)(b:BP):Cx where
 prog:=X.prog
 w:=X.w
 K:=X.K
 mg:=X.mg
 base:=X.base
 A:=X.A
 N:=N'
 s₀:=b.s3
 H₀:=b.H3
 env:=compEnvC scope b.cl b.C X.env
 outer:=X.stack
 stack:=X.stack
 ex:=b.ex
 fn:=λx=>scope.names.lookup x==some .cell
 calm:=X.calm
 pn:=b.pn
 xe:=λ_ _=>False
theorem vF{env:Env}:∀(names:List (Str×NameKind))(acc:List (Str×Addr)),(∀x∈names,x.2=.free->∃c,env.cells.lookup x.1=some c) ->
 (∀n c,acc.lookup n=some c->env.cells.lookup n=some c) ->
 ∃cl:List (Str×Addr),(forIn names acc (λx cs=>match x with | (name,kind)=>if kind==.free then do let a <- cellOf env name;pure (ForInStep.yield ((name,a)::cs))else pure (ForInStep.yield cs)):Sem (List (Str×Addr)))=pure cl /\
  (∀n c,cl.lookup n=some c->env.cells.lookup n=some c)/\(∀n,((∃c,acc.lookup n=some c)\/(n,NameKind.free)∈names)->∃c,cl.lookup n=some c)
|[],acc,_,ha=>⟨acc,rfl,ha,λn h=>h.elim id λz=>absurd z (by simp)⟩
| (n,k)::r,acc,h,ha=>by
 by_cases hk:k=.free
 ·subst hk;obtain⟨c,hc⟩:=h (n,.free) (aL ..) rfl
  obtain⟨cl,e,h1,h2⟩:=vF r ((n,c)::acc) (λx hx=>h x (aI _ hx)) (λm d hm=>by
   rw[dF]at hm
   cases hb:m==n with
   |true=>
    rw[hb]at hm;obtain rfl:m=n:=by simpa using hb
    cases hm;exact hc
   |false=>rw[hb]at hm;exact ha m d hm)
  refine⟨cl,?_,h1,λm hm=>h2 m ?_⟩
  ·rw[sX];have ec:cellOf env n=pure c:=by unfold cellOf;rw[hc]
   simp only[beq_self_eq_true,if_true,ec];exact e
  ·rcases hm with⟨d,hd⟩ | hm
   ·left
    rw[dF]
    cases hb:m==n with
    |true=>exact⟨c,rfl⟩
    |false=>exact⟨d,hd⟩
   ·rcases aN.mp hm with z | z
    ·left
     cases z;exact⟨c,by simp[dF]⟩
    ·exact .inr z
 ·obtain⟨cl,e,h1,h2⟩:=vF r acc (λx hx=>h x (aI _ hx)) ha;refine⟨cl,?_,h1,λm hm=>h2 m (hm.imp id λz=>?_)⟩
  ·rw[sX];have eb:(k==NameKind.free)=false:=by simpa using hk
   simp only[eb,fE,if_false];exact e
  ·rcases aN.mp z with z | z
   ·cases z;exact absurd rfl hk
   ·exact z
def vE{env:Env}{scope:Scope}(h:∀x∈scope.names,x.2=.free->∃c,env.cells.lookup x.1=some c) :
  ∃cl,closureFor scope env=pure cl/\(∀n c,cl.lookup n=some c->env.cells.lookup n=some c)/\∀n,(n,NameKind.free)∈scope.names->∃c,cl.lookup n=some c:=by
 obtain⟨cl,e,h1,h2⟩:=vF (env:=env) scope.names [] h (λn c z=>by simp at z);refine⟨cl,?_,h1,λn z=>h2 n (.inr z)⟩;unfold closureFor;refine Eq.trans ?_ (congrArg (λm=>m >>= λr=>(pure r:Sem (List (Str×Addr)))) e)
 rfl
theorem qQ{env:Env}{x k}:∀{names:List (Str×NameKind)},
 (names.map λ(n,k)=>if(k==NameKind.free&&env.scope.kind==.function&&env.kindOf n==some .cell)then(n,NameKind.cell)else(n,k)).lookup x=some k ->
 ∃k0,(x,k0)∈names/\(k0=k\/(k0=.free/\k=.cell))
|[],h=>by simp at h
| (n,j)::r,h=>by
 rw[bX,dF]at h;dsimp only at h;by_cases hc:(j==NameKind.free&&env.scope.kind==.function&&env.kindOf n==some .cell)=true
 ·rw[if_pos hc]at h;dsimp only at h
  cases hb:x==n with
  |true=>
   rw[hb]at h;obtain rfl:x=n:=by simpa using hb
   cases h;have hj:j=.free:=by simp only[dI,beq_iff_eq]at hc;exact hc.1.1
   exact⟨j,aL ..,.inr ⟨hj,rfl⟩⟩
  |false=>
   rw[hb]at h;obtain⟨k0,h1,h2⟩:=qQ (names:=r) h;exact⟨k0,aI _ h1,h2⟩
 ·rw[if_neg hc]at h;dsimp only at h
  cases hb:x==n with
  |true=>
   rw[hb]at h;obtain rfl:x=n:=by simpa using hb
   cases h;exact⟨_,aL ..,.inl rfl⟩
  |false=>
   rw[hb]at h;obtain⟨k0,h1,h2⟩:=qQ (names:=r) h;exact⟨k0,aI _ h1,h2⟩
theorem wC{env:Env}{x}:∀{names:List (Str×NameKind)},names.lookup x=some .free ->
 (names.map λ(n,k)=>if(k==NameKind.free&&env.scope.kind==.function&&env.kindOf n==some .cell)then(n,NameKind.cell)else(n,k)).lookup x=some .cell \/
 (names.map λ(n,k)=>if(k==NameKind.free&&env.scope.kind==.function&&env.kindOf n==some .cell)then(n,NameKind.cell)else(n,k)).lookup x=some .free
|[],h=>by simp at h
| (n,j)::r,h=>by
 rw[dF]at h;rw[bX,dF];dsimp only
 cases hb:x==n with
 |true=>
  rw[hb]at h;cases h;by_cases hc:(NameKind.free==NameKind.free&&env.scope.kind==.function&&env.kindOf n==some .cell)=true
  ·rw[if_pos hc];dsimp only;rw[hb];exact .inl rfl
  ·rw[if_neg hc];dsimp only;rw[hb];exact .inr rfl
 |false=>
  rw[hb]at h;have ih:=wC (env:=env) (names:=r) h;by_cases hc:(j==NameKind.free&&env.scope.kind==.function&&env.kindOf n==some .cell)=true
  ·rw[if_pos hc];dsimp only;rw[hb];exact ih
  ·rw[if_neg hc];dsimp only;rw[hb];exact ih
noncomputable def sL(names outer:List (Str×NameKind))(Nx:List Str):List Str->List (Option Nat)->Bool
|[],[]=>true
|x::r,none::f=>sL names outer Nx r f
|x::r,some j::f=>(names.lookup x==some .free)&&(Nx[j]?==some x)&&(outer.lookup x==some .cell)&&sL names outer Nx r f
|_,_=>false
theorem xN{names outer:List (Str×NameKind)}{Nx}:∀{N':List Str}{fr:List (Option Nat)},sL names outer Nx N' fr=true ->
 N'.length=fr.length/\∀(i:Nat)(x:Str)(j:Nat),N'[i]?=some x->fr[i]?=some (some j)->names.lookup x=some .free/\Nx[j]?=some x/\outer.lookup x=some .cell
|[],[],_=>⟨rfl,λi x j h=>by simp at h⟩
|x::r,none::f,h=>by
 obtain⟨h1,h2⟩:=xN (N':=r) (fr:=f) h;refine⟨by simp[h1],λi y j e1 e2=>?_⟩
 cases i with
 |zero=>simp at e2
 |succ i=>exact h2 i y j (by simpa using e1) (by simpa using e2)
|x::r,some k::f,h=>by
 simp only[sL,dI,beq_iff_eq]at h;obtain⟨⟨⟨a1,a2⟩,a3⟩,h⟩:=h;obtain⟨h1,h2⟩:=xN (N':=r) (fr:=f) h;refine⟨by simp[h1],λi y j e1 e2=>?_⟩
 cases i with
 |zero=>
  simp at e1 e2;subst e1;subst e2;exact⟨a1,a2,a3⟩
 |succ i=>exact h2 i y j (by simpa using e1) (by simpa using e2)
|[],_::_,h=>by simp[sL]at h
|_::_,[],h=>by simp[sL]at h
noncomputable def wJ(fr:List (Option Nat))(σ:St):St:=fr.map λo=>o.bind λj=>(σ[j]?).join
def oF.but{P w H h h'}{a:Addr}(ok:oF P w H h)(n:H a=none)(sb:eY a h h'):oF P w H h':=λb ob e=>by
 refine(ok b ob e).stay (λc u hc q=>(sb.2 c ?_).trans q) (λ_ q=>q) λ_ _ q=>q;rintro rfl;rcases hc with rfl | hc
 ·rw[n]at e;cases e
 ·rw[n]at hc;cases hc
def PM(X:Cx)(ifs:List Expr)(tt:TT):Prop:=
 ∀pins s σ H(Q:Bool->Hp->Prop),cN X pins σ H s->tt σ H Q ->
  wpAny (model X.prog X.w) X.A (forIn ifs true λc r=>if r=true then do let ok <- isTrue c X.env (eval c X.env);pure (ForInStep.yield ok)else pure (ForInStep.yield r)) (TP X pins σ Q) X.xe s
def WX:TT:=λ_ H Q=>Q true H
def X6{X}:PM X [] WX:=λ_ _ _ H _ I h=>wpAny_tests_nil ⟨H,I,h⟩
def X5{X c tt}(h:PT X c tt):PM X [c] tt:=λpins s σ H Q I q=>wpAny_tests_one (h pins s σ H Q I q)
def Q6(fr:List (Option Nat))(wi:TI)(g:BP->TG)(tt:BP->TT)(te:BP->TE):TE:=λσ H Q=>wi σ H λJ H1=>∀(bp:BP)(acc:Addr),H1 acc=none->∃W:Nat->Nat->St->Hp->Prop,
 (∃m,W 0 m (wJ fr σ) (eS H1 acc (.lst [])))/\∀i m σ' H',W i m σ' H' ->
  (J.stop i H'/\Q (.ref acc) H')\/(J.go i H'/\∀x H2,J.yld i H' x H2->g bp x σ' H2 λσ2 H3=>tt bp σ2 H3 λb H4=>
   if b=true then te bp σ2 H4 λy H5=>∃ys,H5 acc=some (.lst ys)/\ys.length<bE/\∃m',m'<m/\W (i+1) m' σ2 (eS H5 acc (.lst (ys++[y])))
   else∃m',m'<m/\W (i+1) m' σ2 H4)
theorem qY:∀{names:List (Str×NameKind)},names.filter (λy=>y.2==NameKind.cell)=[]->∀(n:Nat)(acc:List (Str×Addr))h,cellsFrom n names acc=acc/\pushCells h names=h
|[],_,_,_,_=>⟨rfl,rfl⟩
| (x,k)::r,e,n,acc,h=>by
 rw[eF]at e
 cases hk:(k==NameKind.cell)with
 |true=>dsimp only at e;rw[hk,if_pos rfl]at e;cases e
 |false=>
  dsimp only at e;rw[hk,if_neg bY]at e;unfold cellsFrom pushCells;rw[hk,if_neg bY,if_neg bY];exact qY e n acc h
theorem xU{z:Str}:∀{names:List (Str×NameKind)},names.filter (λy=>y.2==NameKind.cell)=[(z,.cell)]->∀(n:Nat)(acc:List (Str×Addr))(h:Heap),cellsFrom n names acc=(z,n)::acc/\pushCells h names=h.push { cls:=.type "cell",data:=.cell none }
|[],e,_,_,_=>by cases e
| (x,k)::r,e,n,acc,h=>by
 rw[eF]at e
 cases hk:(k==NameKind.cell)with
 |true=>
  dsimp only at e;rw[hk,if_pos rfl]at e;injection e with e1 e2
  injection e1 with e1 _
  subst e1;unfold cellsFrom pushCells;rw[hk,if_pos rfl,if_pos rfl];exact qY e2 (n+1) ((x,n)::acc) _
 |false=>
  dsimp only at e;rw[hk,if_neg bY]at e;unfold cellsFrom pushCells;rw[hk,if_neg bY,if_neg bY];exact xU e n acc h
def tT(names:List (Str×NameKind)):Prop:=names.filter (λy=>y.2==NameKind.cell)=[]\/∃z,names.filter (λy=>y.2==NameKind.cell)=[(z,.cell)]/\names.lookup z=some .cell
structure aM6(names:List (Str×NameKind))(cl cl':List (Str×Addr))(h:Heap)(C:Addr):Prop where
 get:∀x c,cl'.lookup x=some c->(C<c/\(x,NameKind.cell)∈names/\h.IsCell c none)\/(cl.lookup x=some c/\(x,NameKind.cell)∉names)
 old:∀x c,names.lookup x=some .free->cl.lookup x=some c->cl'.lookup x=some c
 has:∀x,(x,NameKind.cell)∈names->∃c,cl'.lookup x=some c
 keep:∀x c,cl.lookup x=some c->∃c',cl'.lookup x=some c'
 inj:∀x y c,cl'.lookup x=some c->cl'.lookup y=some c->C<c->x=y
def YK{M A}{E:Value->Shared->Prop}{s:Shared}{scope:Scope}{globals:Addr}{closure:List (Str×Addr)}{qual outer}{Q:Env->Shared->Prop}(hz:tT scope.names)(hlt:∀x c,closure.lookup x=some c->c<s.heap.objs.size)
  (hQ:∀h' cl',h'.Ns s.heap.objs.size (λ_=>none)->(∀b o,s.heap.get? b=some o->h'.get? b=some o)->aM6 scope.names closure cl' h' s.heap.objs.size->Q (newEnv scope s.heap.objs.size globals cl' qual none .none (some outer) builtinsNs) { s with heap:=h' }) :
  wpAny M A (newFunctionEnv scope globals closure [] qual none .none (some outer)) Q E s:=by
 simp only[newFunctionEnv,NG,if_true];refine aG (wpAny_alloc ?_);refine aG (wpAny_layCells _ (λname kind cells=>by cases hkc:kind==NameKind.cell<;>simp[hkc]) _ _ _ _ ?_);have mem:∀x,(x,NameKind.cell)∈scope.names->(x,NameKind.cell)∈scope.names.filter (λy=>y.2==NameKind.cell):=λx hx=>cU.mpr ⟨hx,rfl⟩;rcases hz with hz | ⟨z,hz,hzl⟩
 ·rw[(qY hz _ _ s.heap).1,(qY hz 0 [] _).2]
  have no:∀x,(x,NameKind.cell)∉scope.names:=λx hx=>by
   have:=mem x hx;rw[hz]at this;cases this
  exact aG (aW (aW (hQ _ _ (WF.new s.heap (.type "dict")) (λb o e=>aC _ e) ⟨λx c h=>.inr ⟨h,no x⟩,λx c _ h=>h,λx h=>absurd h (no x),λx c h=>⟨c,h⟩,λx y c h _ l=>absurd (hlt x c h) (sV l)⟩)))
 ·rw[(xU hz _ _ s.heap).1,(xU hz 0 [] _).2,show({ s with heap:=s.heap.push { cls:=.type "dict",data:=.dict #[] } }:Shared).heap.objs.size=s.heap.objs.size+1 from dW ..]
  have isz:∀x,(x,NameKind.cell)∈scope.names->x=z:=λx hx=>by
   have:=mem x hx;rw[hz]at this;exact congrArg Prod.fst (bF.mp this)
  have lk:∀x c,((z,s.heap.objs.size+1)::closure).lookup x=some c->(x=z/\c=s.heap.objs.size+1)\/(x≠z/\closure.lookup x=some c):=λx c h=>by
   rw[dF]at h
   cases hb:x==z with
   |true=>rw[hb]at h;cases h;exact .inl ⟨eq_of_beq hb,rfl⟩
   |false=>rw[hb]at h;exact .inr ⟨ne_of_beq_false hb,h⟩
  have lko:∀x c,x≠z->closure.lookup x=some c->((z,s.heap.objs.size+1)::closure).lookup x=some c:=λx c hx h=>by
   rw[dF,beq_eq_false_iff_ne.mpr hx];exact h
  have g:((s.heap.push { cls:=.type "dict",data:=.dict #[] }).push { cls:=.type "cell",data:=.cell none }).get? (s.heap.objs.size+1)=some { cls:=.type "cell",data:=.cell none }:=by
   have:=aR (s.heap.push { cls:=.type "dict",data:=.dict #[] }) (o:={ cls:=.type "cell",data:=.cell none }) rfl
   rwa [dW]at this
  refine aG (aW (aW (hQ _ _ ((WF.new s.heap (.type "dict")).keeps λb o e=>aC _ e) (λb o e=>aC _ (aC _ e)) ⟨λx c h=>?_,λx c hx h=>lko x c (λe=>by rw[e,hzl]at hx;cases hx) h,λx hx=>⟨s.heap.objs.size+1,by rw[isz x hx];simp⟩,λx c h=>?_,λx y c h1 h2 l=>?_⟩)))
  ·rcases lk x c h with⟨rfl,rfl⟩ | ⟨n,h⟩
   ·exact .inl ⟨nT _,PySem.mem_of_lookup hzl,_,g,rfl⟩
   ·exact .inr ⟨h,λhx=>n (isz x hx)⟩
  ·by_cases e:x=z
   ·exact⟨s.heap.objs.size+1,by rw[e];simp⟩
   ·exact⟨c,lko x c e h⟩
  ·rcases lk x c h1 with⟨e1,_⟩ | ⟨_,g1⟩
   ·rcases lk y c h2 with⟨e2,_⟩ | ⟨_,g2⟩
    ·exact e1.trans e2.symm
    ·exact absurd (hlt y c g2) (sV l)
   ·exact absurd (hlt x c g1) (sV l)
section
variable{X:Cx}
def O3{prog w A}{R:Result->Shared->Prop}{s elt target iter ifs scope pos it acc env}(I:Nat->Shared->Prop)
  (turn:∀n s,I n s->wpAny (model prog w) A (pyNext it) (λr s₁=>match r with
   |none=>R (.ok .next) s₁
   |some v=>wpAny (model prog w) A (letOwnedTupleGo target it v) (λ_ s1=>wpAny (model prog w) A (assign target env v) (λ_ s₂=>
     wpAny (model prog w) A (forIn ifs true λc r=>if r=true then do let ok <- isTrue c env (eval c env);pure (ForInStep.yield ok)else pure (ForInStep.yield r)) (λok s₃=>
      if ok=true then wpAny (model prog w) A (eval elt env) (λx s₄=>wpAny (model prog w) A (call (.builtin "list.append") [acc,x]) (λ_ s₅=>∃m,m<n/\I m s₅) (λ_ _=>False) s₄) (λ_ _=>False) s₃
      else∃m,m<n/\I m s₃) (λ_ _=>False) s₂) (λ_ _=>False) s1) (λ_ _=>False) s₁) (λ_ _=>False) s)
  (n:Nat) (h:I n s):codeAny (model prog w) A (.compLoop (.ListComp elt [⟨target,iter,ifs,0⟩] scope pos) 0 it acc env) R s:=by
 refine codeAny_loop rfl I (λn s hI=>?_) n h;show wpAny _ A ((compTurn (.ListComp elt [⟨target,iter,ifs,0⟩] scope pos) 0 it acc env).onRaise (λx=>do noteFrame x env;theTreesLotGoes x)) _ _ s;refine wpAny_noted ?_;rw[compTurn_list];have no:∀{E:Value->Shared->Prop}(e:Value)(s:Shared),False->E e s:=λ_ _ z=>z.elim;refine aG (wpAny_standAt (aG (dY (turn n s hI) (λr s₁ h₁=>?_) no)))
 cases r with
 |none=>exact aW h₁
 |some v=>
  refine aG (dY h₁ (λ_ s1 h1=>aG (dY h1 (λ_ s₂ h₂=>aG (dY h₂ (λok s₃ h₃=>?_) no)) no)) no)
  cases ok with
  |false=>exact aW ⟨rfl,h₃⟩
  |true=>exact aG (aG (dY h₃ (λx s₄ h₄=>aG (dY h₄ (λ_ s₅ h₅=>aW (aW ⟨rfl,h₅⟩)) no)) no))
variable{elt iter tg:Expr}{ifs:List Expr}{scope:Scope}{pos:Pos}{N':List Str}{fr:List (Option Nat)}{wi:TI}{g:BP->TG}{tt:BP->TT}{te:BP->TE}
def HI{pins σ}{H2:Hp}{s2:Shared}{it:Addr}{fp}{tn:Nat->Heap->Prop}{J:It}{Q:VK}{RR:Value->Addr->Result->Shared->Prop}{cl:List (Str×Addr)}{E:Value->Shared->Prop}
  (hcalm:X.calm=true) (hkind:scope.kind=.function) (hz:tT scope.names) (hfr:sL scope.names X.env.scope.names X.N N' fr=true)
  (hcl1:∀n c,cl.lookup n=some c->X.env.cells.lookup n=some c) (hcl2:∀n,(n,NameKind.free)∈scope.names->∃c,cl.lookup n=some c)
  (hY:∀b:BP,PG (blk X scope N' b) tg (g b)/\PM (blk X scope N' b) ifs (tt b)/\PE (blk X scope N' b) elt (te b))
  (I2:cN X pins σ H2 s2) (T:IS X.prog X.w X.K tg J fp it tn) (st2:tn 0 s2.heap) (f2:∀b∈fp,zD X pins H2 b)
  (q:∀(bp:BP)(acc:Addr),H2 acc=none->∃W:Nat->Nat->St->Hp->Prop,(∃m,W 0 m (wJ fr σ) (eS H2 acc (.lst [])))/\∀i m σ' H',W i m σ' H' ->
   (J.stop i H'/\Q (.ref acc) H')\/(J.go i H'/\∀x H2,J.yld i H' x H2->g bp x σ' H2 λσ2 H3=>tt bp σ2 H3 λb H4=>
    if b=true then te bp σ2 H4 λy H5=>∃ys,H5 acc=some (.lst ys)/\ys.length<bE/\∃m',m'<m/\W (i+1) m' σ2 (eS H5 acc (.lst (ys++[y])))
    else∃m',m'<m/\W (i+1) m' σ2 H4))
  (hRR:∀acc C s' HY m,cN X pins σ HY s'->zD X pins HY C->s'.heap.Ns C m->Q (.ref acc) HY->RR (.ref acc) C (.ok .next) s') :
  wpAny (model X.prog X.w) X.A (newList []) (λacc s₃=>wpAny (model X.prog X.w) X.A (newFunctionEnv scope X.env.globals cl [] X.env.qual none .none (some X.env)) (λcenv s₄=>
   codeAny (model X.prog X.w) X.A (.compStart (.ListComp elt [⟨tg,iter,ifs,0⟩] scope pos) 0 (.ref it) acc { cenv with scope:=relabel scope X.env }) (RR acc cenv.locals) s₄) E s₃) E s2:=by
 obtain⟨hfl,hfg⟩:=xN hfr;have hacc:H2 s2.heap.objs.size=none:=I2.hok.fresh (aM _);refine iS ?_ (by show 0<=bE;exact cT _)
 generalize hs3:({ s2 with heap:=s2.heap.push { cls:=.type "list",dict:=none,data:=.seq ([]:List Value).toArray } }:Shared)=s3
 have I3:cN X pins σ (eS H2 s2.heap.objs.size (.lst [])) s3:=by
  rw[<- hs3];exact I2.laid (t':=s2.toks) (λb u e=>aC _ e) (aM _) ⟨cT _,[],0,.nil,aR _ rfl⟩
 have hfp:∀b∈fp,b<s3.heap.objs.size:=λb hb=>by
  obtain⟨o,e,_⟩:=T.obj 0 _ st2 b hb;rw[<- hs3];exact aV (aC _ e)
 have st3:tn 0 s3.heap:=T.keep 0 _ _ st2 λb _ o e=>by rw[<- hs3];exact aC _ e
 have f3:∀b∈fp,zD X pins (eS H2 s2.heap.objs.size (.lst [])) b:=λb hb=>⟨by
  obtain⟨o,e,_⟩:=T.obj 0 _ st2 b hb;rw[bT (cO (aV e))];exact(f2 b hb).1,(f2 b hb).2⟩
 refine YK hz (λx c e=>by obtain⟨v,o,ho,_⟩:=I3.cell x c (hcl1 x c e);exact aV ho) λh₁ cl' hns keep hnw=>?_
 generalize hH3:eS H2 s2.heap.objs.size (.lst [])=H3 at *
 generalize hac:s2.heap.objs.size=ac at *
 generalize hC:s3.heap.objs.size=C at *
 obtain⟨W,⟨m0,w0⟩,turn⟩:=q ⟨cl',C,s3,H3,fp,X.pn++pins⟩ ac hacc;rw[hH3]at w0
 have cellLt:∀x c,X.env.cells.lookup x=some c->c<C:=λx c e=>by
  obtain⟨v,o,ho,_⟩:=I3.cell x c e;rw[<- hC];exact aV ho
 have hCfp:∀b∈fp,b≠C:=λb hb=>by exact cO (hfp b hb)
 have hCl:X.env.locals<C:=by rw[<- hC];exact I3.lt
 have hstk:∀b∈oE X.stack,b≠C/\H3 b=none:=λb hb=>⟨by
  rintro rfl;rcases aN.mp (I3.stkSub b hb)with z | z
  ·rw[z]at hCl;exact absurd hCl (eK _)
  ·exact I3.nofs (by rw[hC];exact aM _) z,I3.stkFree b hb⟩
 have cellNe:∀x c,X.env.cells.lookup x=some c->c≠C:=λx c e z=>by
  obtain⟨v,o,ho,_⟩:=I3.cell x c e;have:=aV ho;rw[z,hC]at this;exact absurd this (eK _)
 -- the block's context
 have okY:(blk X scope N' ⟨cl',C,s3,H3,fp,X.pn++pins⟩).Ok:=by
  refine⟨I3.ok.mod,hkind,I3.ok.glob,I3.ok.blt,kI hC,λx y c h1 h2=>by
   rcases hnw.get x c h1 with⟨l1,_⟩ | ⟨g1,_⟩<;>rcases hnw.get y c h2 with⟨l2,_⟩ | ⟨g2,_⟩
   ·exact hnw.inj x y c h1 h2 l1
   ·exact absurd (cellLt y _ (hcl1 y _ g2)) (sV l1)
   ·exact absurd (cellLt x _ (hcl1 x _ g1)) (sV l2)
   ·exact I3.ok.inj x y c (hcl1 x c g1) (hcl1 y c g2),λx hx=>?_,λx c hf h=>by
   rcases hnw.get x c h with⟨l,_⟩ | ⟨_,n⟩
   ·exact bK (kI hC) (iA l)
   ·exact absurd (PySem.mem_of_lookup (beq_iff_eq.mp hf)) n,λ_=>I3.ok.hd hcalm,I3.ok.frames,.inl rfl,
   λb hb=>⟨hCfp b hb,λx c h=>by
    rcases hnw.get x c h with⟨l,_⟩ | ⟨h,_⟩
    ·exact iV (LH (hfp b hb) l)
    ·exact(f3 b hb).2.2.2.2.1 x c (hcl1 x c h)⟩,λb o e=>I3.bs b o e,?_,λb o e hb=>?_,λb hb hs=>?_,I3.stack,λb hb=>(hstk b hb).2,I3.env0.tab⟩
  ·have back:∀k,(relabel scope X.env).names.lookup x=some k->(k=.cell\/k=.free)->∃c,(cl').lookup x=some c:=λk h hk=>by
    obtain⟨k0,h1,h2⟩:=qQ h;rcases(show k0=.cell\/k0=.free from h2.elim (λe=>by rw[e];exact hk) λe=>.inr e.1)with rfl | rfl
    ·exact hnw.has x h1
    ·obtain⟨c,hc⟩:=hcl2 x h1;exact hnw.keep x c hc
   rcases hx with hx | hx
   ·exact back _ hx (.inl rfl)
   ·exact back _ hx (.inr rfl)
  ·exact bK I3.ok.bsz (bK I3.sz (aM _))
  ·rcases(f3 b hb).2.2.2.1 with z | z
   ·exact I3.ok.noex b o e z
   ·exact absurd (bR (aV (I3.ok.bs b o e).1) z) (eK _)
  ·rcases aN.mp (I3.stkSub b hs)with z | z
   ·exact(f3 b hb).2.1 z
   ·exact(f3 b hb).2.2.1 z
 have hH3C:H3 C=none:=I3.hok.fresh (kI hC)
 have IY:cN (blk X scope N' ⟨cl',C,s3,H3,fp,X.pn++pins⟩) [] (wJ fr σ) H3 { s3 with heap:=h₁ }:=by
  refine⟨okY,rfl,I3.bare,Un.kept keep,⟨_,hns,λi x v h1 h2 _=>?_⟩,λx c e=>?_,hH3C,λx c e=>(by
   rcases hnw.get x c e with⟨l,_⟩ | ⟨e,_⟩
   ·exact I3.hok.fresh (by rw[hC];exact iA l)
   ·exact I3.freeC x c (hcl1 x c e)),λp hp=>?_,I3.hok.kept keep,?_⟩
  ·have e:∃j,fr[i]?=some (some j)/\σ[j]?=some (some v):=by
    unfold wJ at h2;rw[aK]at h2
    cases hf:fr[i]? with
    |none=>rw[hf]at h2;cases h2
    |some o=>
     rw[hf]at h2
     cases o with
     |none=>cases h2
     |some j=>
      refine⟨j,rfl,?_⟩;have h2':(σ[j]?).join=some v:=by simpa using h2
      cases hj:σ[j]? with
      |none=>rw[hj]at h2';cases h2'
      |some o=>rw[hj]at h2';rw[show o=some v from h2']
   obtain⟨j,e1,e2⟩:=e;obtain⟨a1,a2,a3⟩:=hfg i x j h1 e1;obtain⟨m,hn,hl⟩:=I3.loc;obtain⟨u,r,l⟩:=hl j x v a2 e2 (.inr (.inl a3));refine⟨u,r,.inr ⟨wC a1,?_⟩⟩;rcases l with⟨k,_⟩ | ⟨_,c,hc,o,ho,hd⟩
   ·have k':X.env.scope.names.lookup x=some .local:=k;rw[a3]at k';cases k'
   ·obtain⟨c',hc'⟩:=hcl2 x (PySem.mem_of_lookup a1);have z:=hcl1 x c' hc';rw[hc]at z;cases z;exact⟨c,hnw.old x c a1 hc',o,keep c o ho,hd⟩
  ·rcases hnw.get x c e with⟨_,_,hnc⟩ | ⟨e,_⟩
   ·exact⟨none,hnc⟩
   ·obtain⟨v,o,ho,hd⟩:=I3.cell x c (hcl1 x c e);exact⟨v,o,keep c o ho,hd⟩
  ·obtain⟨e,n,ne,nf,d⟩:=I3.pin p (by have hp':p∈(X.pn++pins)++[]:=hp;simpa using hp');refine⟨keep _ _ e,n,?_,λz=>?_,d⟩
   ·have:=aV e;rw[hC]at this;exact cO this
   ·rcases aN.mp (I3.stkSub p.1 z)with z | z
    ·exact ne z
    ·exact nf z
  ·unfold wJ;rw[aA];exact hfl.symm
 have stat:∀{H':Hp},(∀b∈fp,H' b=none)->∀b∈fp,zD (blk X scope N' ⟨cl',C,s3,H3,fp,X.pn++pins⟩) [] H' b:=λ{H'} hn b hb=>
  ⟨hn b hb,hCfp b hb,λz=>by
   rcases aN.mp (I3.stkSub b z)with z | z
   ·exact(f3 b hb).2.1 z
   ·exact(f3 b hb).2.2.1 z,  .inl hb,λx c e=>(by
   rcases hnw.get x c e with⟨l,_⟩ | ⟨e,_⟩
   ·exact iV (LH (hfp b hb) l)
   ·exact(f3 b hb).2.2.2.2.1 x c (hcl1 x c e)),λp hp=>(f3 b hb).2.2.2.2.2 p (by have hp':p∈(X.pn++pins)++[]:=hp;simpa using hp')⟩
 obtain⟨hg,ht,he⟩:=hY ⟨cl',C,s3,H3,fp,X.pn++pins⟩
 have loop:codeAny (model X.prog X.w) X.A (.compLoop (.ListComp elt [⟨tg,iter,ifs,0⟩] scope pos) 0 (.ref it) (.ref ac) (compEnvC scope cl' C X.env)) (RR (.ref ac) C) { s3 with heap:=h₁ }:=by
  refine O3 (λn s'=>∃i σ' H',cN (blk X scope N' ⟨cl',C,s3,H3,fp,X.pn++pins⟩) [] σ' H' s'/\tn i s'.heap/\(∀b∈fp,H' b=none)/\W i n σ' H') ?_ m0
   ⟨0,wJ fr σ,H3,IY,T.keep 0 _ _ st3 λb _ o e=>keep b o e,λb hb=>(f3 b hb).1,w0⟩
  rintro n s4 ⟨i,σ4,H4,I4,st4,fr4,w4⟩;rcases turn i n σ4 H4 w4 with⟨stop,qn⟩ | ⟨go,step⟩
  ·refine iU (T.done (blk X scope N' ⟨cl',C,s3,H3,fp,X.pn++pins⟩) rfl rfl rfl hcalm i [] s4 σ4 H4 _ I4 (stat fr4) st4 stop) λr s5 zq=>?_;obtain⟨hr,I5⟩:=zq;subst hr;obtain⟨m,hn,_⟩:=I5.loc;have IX:cN X pins σ H4 s5:=I3.call' I5.os I5.base I5.hok I5.bare λb hb=>⟨(f3 b hb).2.2.2.1,(f3 b hb).2.1,(f3 b hb).2.2.2.2.1,(f3 b hb).2.2.2.2.2⟩;exact hRR ac C s5 H4 m IX (I3.fpOk (kI hC) I5.free) hn qn
  ·refine iU (T.item (blk X scope N' ⟨cl',C,s3,H3,fp,X.pn++pins⟩) rfl rfl rfl hcalm i [] s4 σ4 H4 (λ_ _=>False) I4 (stat fr4) st4 go) λr s5 zq=>?_;obtain⟨u,hr,h5⟩:=zq;subst hr;refine iU h5 λ_ s6 zq=>?_;obtain⟨x,H6,I6,r6,y6,st6,fr6⟩:=zq;have I6':=I6.pinned (stat fr6) (T.obj _ _ st6);refine iU (hg _ s6 σ4 H6 x u _ I6' r6 (step x H6 y6)) λ_ s7 zq=>?_;obtain⟨σ7,H7,I7,q7⟩:=zq;refine iU (ht _ s7 σ7 H7 _ I7 q7) λok s8 zq=>?_;obtain⟨H8,I8,q8⟩:=zq
   have again:∀{s9:Shared}{σ9:St}{H9:Hp}{m':Nat},cN (blk X scope N' ⟨cl',C,s3,H3,fp,X.pn++pins⟩) ([]++BF fp s6.heap) σ9 H9 s9->m'<n->W (i+1) m' σ9 H9 ->
     ∃m,m<n/\∃i σ' H',cN (blk X scope N' ⟨cl',C,s3,H3,fp,X.pn++pins⟩) [] σ' H' s9/\tn i s9.heap/\(∀b∈fp,H' b=none)/\W i m σ' H':=λ{s9 σ9 H9 m'} I9 hm w9=>by
    refine⟨m',hm,i+1,σ9,H9,I9.unpinned,T.keep _ _ _ st6 λb hb o e=>(I9.pin (b,o) (cH _ (cH _ (qS hb e)))).1,λb hb=>?_,w9⟩;obtain⟨o,e,d⟩:=T.obj _ _ st6 b hb;exact(I9.pin (b,o) (cH _ (cH _ (qS hb e)))).2.1
   cases ok with
   |false=>
    obtain⟨m',hm,w8⟩:=q8;exact again I8 hm w8
   |true=>
    refine iU (he _ s8 σ7 H8 _ I8 q8) λy s9 zq=>?_;obtain⟨yv,H9,I9,r9,ys,hys,hz,m',hm,w9⟩:=zq;refine iU (mU (X:=blk X scope N' ⟨cl',C,s3,H3,fp,X.pn++pins⟩) _ s9 σ7 H9 (.ref ac) [yv] (.ref ac) [y] (λ_ H'=>H'=eS H9 ac (.lst (ys++[yv]))) I9 rfl (.cons r9 .nil) ⟨ac,ys,yv,rfl,rfl,hys,hz,rfl⟩) λ_ s10 zq=>?_;obtain⟨_,H10,I10,_,e10⟩:=zq;subst e10;exact again I10 hm w9
 exact codeAny_compStart_list loop (T.self _ 0 _ _ _ (T.keep 0 _ _ st3 λb _ o e=>keep b o e) loop)
def aH5(hcalm:X.calm=true)(hkind:scope.kind=.function)(hz:tT scope.names)(hfr:sL scope.names X.env.scope.names X.N N' fr=true)
  (hfree:∀y∈scope.names,y.2=.free->X.env.scope.names.lookup y.1=some .cell) (hnames:∀x∈scope.names,x.2=.local->scope.names.lookup x.1=some .local) (hi:PI X tg iter wi)
  (hY:∀b:BP,PG (blk X scope N' b) tg (g b)/\PM (blk X scope N' b) ifs (tt b)/\PE (blk X scope N' b) elt (te b))
  (hs:∀x,foldedSetIterable iter X.env x=pure x:=by intro _;rfl):PE X (.ListComp elt [⟨tg,iter,ifs,0⟩] scope pos) (Q6 fr wi g tt te):=by
 intro pins s σ H Q I h;obtain⟨cl,hclos,hcl1,hcl2⟩:=vE (env:=X.env) (scope:=scope) λy hy hk=>I.ok.has y.1 (.inl (hfree y hy hk));rw[eval_ListComp];refine wpAny_comprehension_free (use:=none) rfl hs hclos hkind hnames (iU (hi pins s σ H _ I h) λv s1 h1=>iU h1 λitv s2 h2=>?_);obtain⟨it,fp,tn,J,H2,rfl,I2,T,st2,f2,q⟩:=h2;refine HI (RR:=λacc C=>compPost (model X.prog X.w) X.A X.xe none (EP X pins σ Q) acc C) hcalm hkind hz hfr hcl1 hcl2 hY I2 T st2 f2 q λacc C s' HY m I' f' hn q'=>?_;exact⟨m,hn,λh' sb=>⟨.ref acc,HY,I'.turned (t':=s'.toks) (λb o hb e=>(sb.2 b hb).trans e) f'.1 f'.2.1 f'.2.2.2.1 f'.2.2.2.2.1 f'.2.2.2.2.2,rfl,q'⟩⟩
def SQ{i:Nat}{x:Str}{px spos:Pos}(hN:X.N.Nodup)(hix:X.N[i]?=some x)(hx:QA X.env.scope x)(hcalm:X.calm=true)(hkind:scope.kind=.function)(hz:tT scope.names)(hfr:sL scope.names X.env.scope.names X.N N' fr=true)
  (hfree:∀y∈scope.names,y.2=.free->X.env.scope.names.lookup y.1=some .cell) (hnames:∀x∈scope.names,x.2=.local->scope.names.lookup x.1=some .local) (hi:PI X tg iter wi)
  (hY:∀b:BP,PG (blk X scope N' b) tg (g b)/\PM (blk X scope N' b) ifs (tt b)/\PE (blk X scope N' b) elt (te b))
  (hsw:kH (.ListComp elt [⟨tg,iter,ifs,0⟩] scope pos) (some (.Name x px)) spos.line X.env=pure true)
  (hs:∀x,foldedSetIterable iter X.env x=pure x:=by intro _;rfl) (hf:X.fn x=true\/X.env.scope.names.lookup x=some .local:=by first | exact .inl rfl | exact .inr rfl | assumption) :
  PS X (.Assign [.Name x px] (.ListComp elt [⟨tg,iter,ifs,0⟩] scope pos) spos) (tW (Q6 fr wi g tt te) (lF i)):=by
 intro pins s σ H D I h;obtain⟨cl,hclos,hcl1,hcl2⟩:=vE (env:=X.env) (scope:=scope) λy hy hk=>I.ok.has y.1 (.inl (hfree y hy hk));rw[exec_Assign_Name_used _ _ _ _ hsw];refine aG (wpAny_standAt (aG ?_));show wpAny _ _ (do let _ <- comprehension (.ListComp elt [⟨tg,iter,ifs,0⟩] scope pos) scope X.env _ (newList []) false (eval iter X.env) (some (assign (.Name x px) X.env))) _ _ s
 refine aG (dY (wpAny_comprehension_free (use:=some (assign (.Name x px) X.env)) (Q:=λ_ s'=>SP X pins D .next s') rfl hs hclos hkind hnames
  (iU (hi pins s σ H _ I h) λv s1 h1=>iU h1 λitv s2 h2=>?_)) (λ_ s' hq=>aW (aW hq)) λ_ _ e=>e)
 obtain⟨it,fp,tn,J,H2,rfl,I2,T,st2,f2,q⟩:=h2;refine HI (RR:=λacc C=>compPost (model X.prog X.w) X.A X.xe (some (assign (.Name x px) X.env)) (λ_ s'=>SP X pins D .next s') acc C) (Q:=λx H1=>lF i x σ H1 D.nx) hcalm hkind hz hfr hcl1 hcl2 hY I2 T st2 f2 q λacc C s' HY m I' f' hn q'=>?_;show wpAny _ _ (assign (.Name x px) X.env (.ref acc)) _ _ _;refine wpAny_assign_Name (DM I' hN hix hx (v:=.ref acc) rfl (λs2' I2' hch=>?_) hf);obtain⟨a,sb,ha⟩:=hch
 have hCa:C≠a:=by
  rcases ha with z | z
  ·rw[z];exact f'.2.1
  ·exactλe=>f'.2.2.2.2.1 x a z e.symm
 exact⟨m,hn.sameBut sb hCa,λh' sb'=>⟨_,HY,I2'.turned (t':=s2'.toks) (λb o hb e=>(sb'.2 b hb).trans e) f'.1 f'.2.1 f'.2.2.2.1 f'.2.2.2.2.1 f'.2.2.2.2.2,q'⟩⟩
end
section
variable{prog:cC}{w:World}{A:Around}{E:Value->Shared->Prop}{h:Heap}{g:Array GenState}{d:Drawn}{t:Nat}{os:OsState}{a C:Addr}{ox:Obj}{od:Option Obj}{K:aF}
structure CO(K:aF)(C:Addr):Prop where
 ga:dA K (.ref C) "__getattribute__"=some (some (.builtin "BaseException.__getattribute__"))
 gt:dA K (.ref C) "__getattr__"=some none
 cl:dA K (.ref C) "__class__"=some (some (.builtin "object.__class__"))
 ob:bD K C (.type "object")=some true
 be:bD K C (.type "BaseException")=some true
def ZT(K:aF)(C:Addr):Prop:=CO K C/\∀T∈["int","str","list","tuple","bool"],bW K (.ref C) (.type T)=some false
def O5{M nameV}{Q:Unit->Shared->Prop}(X:K.In h)(c:CO K C)(I:kY h a ox C od)(hq:Q () ⟨h,g,d,t,os⟩):wpAny M A (checkBuiltinCall "BaseException.__getattribute__" ⟨[.ref a,nameV],[]⟩) Q E ⟨h,g,d,t,os⟩:=by
 have hk:builtinKind "BaseException.__getattribute__"=some .slot:=by decide +kernel
 have hsplit:splitId "BaseException.__getattribute__"=some ("BaseException","__getattribute__"):=by decide +kernel
 have ha:=F.args_bexc_ga (.ref a) nameV;have L0:=I.type (M:=M);have L1:=PySem.W.looks_mroIn (M:=M) X c.be;simp only[checkBuiltinCall,hk,hsplit];refine aG ?_;unfold isInstance;refine aG (L0.at (L1.at ?_))
 repeat (first | exact hq | wp_step)
def FS{tk}{Q:Fin->Shared->Prop}(X:K.In h)(c:CO K C)(I:kY h a ox C od)(hq:Q (.done (.ret (.ref C))) ⟨h,g,d,t,os⟩) :
  wpAny (model prog w) A (Builtin.«object.__getattribute__» ⟨[.ref a,.str "__class__" tk],[]⟩) Q E ⟨h,g,d,t,os⟩:=by
 have hT5:(⟨h,g,d,t,os⟩:Shared).TypeIs (.builtin "object.__class__") "getset_descriptor":=F.typeOf_object_class;have f5:=F.typeOf_object_class;have f6:=F.slot_gs_get.lookup;have f7:=F.slot_gs_set.lookup;have L0:=I.type (M:=model prog w);have L1:=nG (M:=model prog w) X c.cl
 repeat (any_goals (first | assumption | with_reducible refine L0.at ?_ | with_reducible refine L1.at ?_ | wp_step))
 refine PySem.W.class_get (s:=⟨h,g,d,t,os⟩) X I c.ob ?_
 repeat (any_goals (first | assumption | wp_step))
def IF{tk}{R:Result->Shared->Prop}(X:K.In h)(c:CO K C)(I:kY h a ox C od)(hq:R (.ok (.ret (.ref C))) ⟨h,g,d,t,os⟩) :
  codeAny (model prog w) A (.call (.builtin "BaseException.__getattribute__") ⟨[.ref a,.str "__class__" tk],[]⟩) R ⟨h,g,d,t,os⟩:=
 codeAny_call_builtin F.excAttr_ValueError.ga.plain F.entry_bexc_ga (O5 X c I (FS X c I hq))
def O4{tk}{Q:Value->Shared->Prop}(X:K.In h)(c:CO K C)(I:kY h a ox C od)(hq:Q (.ref C) ⟨h,g,d,t,os⟩):wpAny (model prog w) A (getAttrBy (.ref a) (.str "__class__" tk) false) Q E ⟨h,g,d,t,os⟩:=by
 have f3:=F.excAttr_ValueError.ga.bind (.ref a);have hx2:(Value.builtin "BaseException.__getattribute__"==Value.builtin "object.__getattribute__")=false:=by decide +kernel
 have hx1:(onTheHeap (Value.ref C)&&Value.builtin "BaseException.__getattribute__"==Value.builtin "object.__getattribute__")=false:=by rw[hx2];rfl
 have L0:=I.type (M:=model prog w);have L1:=nG (M:=model prog w) X c.ga;have L2':=nG (M:=model prog w) X c.gt
 repeat (any_goals (first | assumption | with_reducible refine L0.at ?_ | with_reducible refine L1.at ?_ | with_reducible refine L2'.at ?_ | wp_step))
 refine IF X c I ?_
 repeat (any_goals (first | assumption | wp_step))
def IG{Q:Option Value->Shared->Prop}(X:K.In h)(c:CO K C)(I:kY h a ox C od)(hq:Q (some (.ref C)) ⟨h,g,d,t+1,os⟩):wpAny (model prog w) A (getAttr? (.ref a) "__class__") Q E ⟨h,g,d,t,os⟩:=by
 unfold getAttr? getAttrBy?
 repeat (any_goals (first | assumption | with_reducible apply O4 X c I | wp_step))
def HM(c:CO K C):PySem.W.KitX K (.ref a) (.ref C) (λh=>∃ox od,kY h a ox C od) where
 ty:=λ_ _ _ ⟨_,_,I⟩=>I.type
 it:=λ_ _ X _=>by
  obtain⟨cd,hc,_⟩:=F7.mp c.ob;unfold fW at hc;split at hc
  ·rename_i c' d' cd' sl' ho;intro A' Q' E' s' k q;unfold isType loadHead;exact aG (wpAny_loadPart (k _ _ (X _ _ ho)) (aW q))
  ·cases hc
 ne:=λh tp dd its n sl X htp=>by
  obtain⟨cd,hc,_⟩:=F7.mp c.ob;refine Bool.eq_false_iff.mpr λq=>?_;have e:C=tp:=Value.ref.inj (beq_iff_eq.mp q);subst e;unfold fW at hc;split at hc
  ·rename_i c' d' cd' sl' ho;have z:=(X _ _ ho).symm.trans htp;cases z
  ·cases hc
 ca:=λ{_ _ _ _ _ s} X ⟨_,_,I⟩ k=>by
  obtain⟨hh,g,d,t,os⟩:=s;exact IG X c I k
end
end L2
namespace TL
open L2
abbrev D:=PySem.PyData
def aE2(p:Addr)(h:Heap):Prop:=∃(its:List Value)(n:Nat),h.get? p=some { cls:=.type "list",data:=.seq its.toArray n }/\its.length<=1000/\∀v∈its,∃(i:Int)(t:Tok),v=.int i t/\0<=i/\i<4096
def nB(p C:Addr)(dx:Option Addr)(h:Heap):Prop:=∃o vs,h.get? p=some o/\o.cls=.ref C/\o.dict=dx/\o.data=.fields vs
def qP(p q:Addr)(h:Heap):Prop:=∃(a b c:Int)(ta tb tc:Tok)(n:Nat),h.get? p=some { cls:=.type "list",data:=.seq [Value.ref q,.int a ta,.int b tb,.int c tc].toArray n }/\0<=a/\(c=0\/c=1)
def aKn(e:Int×Addr×V)(x:DictEntry):Prop:=x.hash=e.1/\x.key=.ref e.2.1/\eZ e.2.2 x.val
def aKo(p:Addr)(es:List (Int×Addr×V))(h:Heap):Prop:=(p==sysModules)=false/\es.length<=bE/\∃o xs ep,h.get? p=some o/\o.ExactDict/\o.data=.dict xs ep/\Paired aKn es xs.toList
noncomputable def aMu(p:Addr)(es:List (Int×Addr×V)):HO:=.ext (aKo p es)
def aGb(p:Addr)(es:List (Int×Addr×V))(ep:Nat)(h:Heap):Prop:=(p==sysModules)=false/\es.length<=bE/\∃o xs,h.get? p=some o/\o.ExactDict/\o.data=.dict xs ep/\Paired aKn es xs.toList
noncomputable def aMv(p:Addr)(es:List (Int×Addr×V))(ep:Nat):HO:=.ext (aGb p es ep)
mutual
inductive gD(K:aF)(H:Hp):D->V->Prop
|none:gD K H .none .non
|bool (b:Bool):gD K H (.bool b) (.bl b)
|int (i:Int):gD K H (.int i) (.int i)
|str (x:Str):gD K H (.str x) (.str x)
|list {p:Addr} {xs:List V} {ts:List D}:lM K H p xs->Reps K H ts xs->gD K H (.list ts) (.ref p)
|tuple {p:Addr} {xs:List V} {ts:List D}:pA K H p xs->Reps K H ts xs->gD K H (.tuple ts) (.ref p)
|wild {p:Addr}:H p=some (.ext (aE2 p))->gD K H (.dict []) (.ref p)
|exc {p C:Addr}:ZT K C->H p=some (.ext (nB p C Option.none))->gD K H (.dict [(.int (C:Nat),.none)]) (.ref p)
|excA {p C dx:Addr} {n:Int}:ZT K C->H p=some (.ext (nB p C (some dx)))->H dx=some (.xd [("at",.int n)])->gD K H (.dict [(.int (C:Nat),.int n)]) (.ref p)
|excD {p C dx:Addr} {v:V} {cs:List D}:ZT K C->H p=some (.ext (nB p C (some dx)))->H dx=some (.xd [("case",v)])->gD K H (.tuple cs) v->gD K H (.dict [(.int (C:Nat),.tuple cs)]) (.ref p)
|tape {p q:Addr} {ns:List Int}:H p=some (.ext (qP p q))->lM K H q (ns.map V.int)->gD K H (.dict [(.none,.list (ns.map bI))]) (.ref p)
|dct {p:Addr} {es:List (Int×Addr×V)} {ep:Nat} {kvs:List (D×D)}:H p=some (aMv p es ep)->(kvs.map (·.1)).Nodup->Reps K H (kvs.map (·.1)) (es.map λe=>.ref e.2.1)->Reps K H (kvs.map (·.2)) (es.map λe=>e.2.2)->gD K H (.dict ((.str "{}",.list ((es.map (·.1)).map bI))::kvs)) (.ref p)
|addr {p:Addr} (z:List D):gD K H (.dict [(.str "@",.list (.int (p:Nat)::z))]) (.ref p)
|ins {p C dx:Addr} {fs:List (Str×V)} {ds:List D}:H p=some (.ins C dx fs)->Reps K H ds (fs.map (·.2))->gD K H (.dict [(.str "obj",.tuple [.int (C:Nat),.list ((fs.map (·.1)).map aP),.list ds])]) (.ref p)
inductive Reps(K:aF)(H:Hp):List D->List V->Prop
|nil:Reps K H [] []
|cons {t:D} {ts:List D} {x:V} {xs:List V}:gD K H t x->Reps K H ts xs->Reps K H (t::ts) (x::xs)
end
variable{K:aF}{H H' H1 H2:Hp}
def aS.seqT{a:Addr}{xs}(e:aS H H')(h:pA K H a xs):pA K H' a xs:=by
 rcases h with(h | ⟨o,h⟩) | h
 ·exact .inl (.inl (e _ _ h))
 ·exact .inl (.inr ⟨o,e _ _ h⟩)
 ·exact .inr h
def gD.same(e:aS H H'){d:D}{v:V}(r:gD K H d v):gD K H' d v:=
 gD.rec (motive_1:=λd v _=>gD K H' d v) (motive_2:=λds vs _=>Reps K H' ds vs) .none .bool .int .str (λq _ a=>.list (L2.aS.seq e q) a) (λq _ a=>.tuple (aS.seqT e q) a) (λh=>.wild (e _ _ h)) (λx h=>.exc x (e _ _ h)) (λx h g=>.excA x (e _ _ h) (e _ _ g))
  (λx h g _ a=>.excD x (e _ _ h) (e _ _ g) a) (λh g=>.tape (e _ _ h) (L2.aS.seq e g)) (λh n _ _ a b=>.dct (e _ _ h) n a b) .addr (λh _ a=>.ins (e _ _ h) a) .nil (λ_ _ a b=>.cons a b) r
theorem Reps.same(e:aS H H'){ds:List D}:∀{vs:List V},Reps K H ds vs->Reps K H' ds vs:=by
 induction ds with
 |nil=>intro vs r;cases r;exact .nil
 |cons d ds ih=>
  intro vs r
  cases r with
  |cons a b=>exact .cons (a.same e) (ih b)
theorem Reps.length:∀{ds:List D}{vs:List V},Reps K H ds vs->ds.length=vs.length
|_,_,.nil=>rfl
|_,_,.cons _ s=>by simp[Reps.length s]
theorem Reps.get:∀{ds vs}{i:Nat}{d},Reps K H ds vs->ds[i]?=some d->∃v,vs[i]?=some v/\gD K H d v
|_,_,_,_,.nil,e=>by simp at e
|_,_,0,_,.cons r _,e=>by simp at e;subst e;exact⟨_,rfl,r⟩
|_,_,i+1,d,.cons _ s,e=>by
 obtain⟨v,h1,h2⟩:=Reps.get (i:=i) (d:=d) s (by simpa using e);exact⟨v,by simpa using h1,h2⟩
theorem Reps.get':∀{ds vs}{i:Nat}{v},Reps K H ds vs->vs[i]?=some v->∃d,ds[i]?=some d/\gD K H d v
|_,_,_,_,.nil,e=>by simp at e
|_,_,0,_,.cons r _,e=>by simp at e;subst e;exact⟨_,rfl,r⟩
|_,_,i+1,d,.cons _ s,e=>by
 obtain⟨v,h1,h2⟩:=Reps.get' (i:=i) (v:=d) s (by simpa using e);exact⟨v,by simpa using h1,h2⟩
theorem Reps.append:∀{ds es vs us},Reps K H ds vs->Reps K H es us->Reps K H (ds++es) (vs++us)
|_,_,_,_,.nil,s=>s
|_,_,_,_,.cons r t,s=>.cons r (Reps.append t s)
theorem Reps.take:∀{ds:List D}{vs:List V}(n:Nat),Reps K H ds vs->Reps K H (ds.take n) (vs.take n)
|_,_,0,_=>.nil
|_,_,_+1,.nil=>.nil
|_,_,n+1,.cons r t=>.cons r (Reps.take n t)
theorem Reps.drop:∀{ds:List D}{vs:List V}(n:Nat),Reps K H ds vs->Reps K H (ds.drop n) (vs.drop n)
|_,_,0,r=>r
|_,_,_+1,.nil=>.nil
|_,_,n+1,.cons _ t=>Reps.drop n t
noncomputable def mask(H:Hp)(ps:List Addr):Hp:=λb=>if b∈ps then none else H b
def bH{ps}(e:aS H H'):aS (mask H ps) (mask H' ps):=λb o h=>by
 unfold mask at h |-
 by_cases hb:b∈ps
 ·rw[if_pos hb]at h;cases h
 ·rw[if_neg hb]at h |-;exact e b o h
def gF{ps ps'}(h:∀p∈ps',p∈ps):aS (mask H ps) (mask H ps'):=λb o e=>by
 unfold mask at e |-
 by_cases hb:b∈ps
 ·rw[if_pos hb]at e;cases e
 ·rw[if_neg hb]at e;rw[if_neg λz=>hb (h b z)];exact e
def bN{ps}:aS (mask H ps) H:=λb o e=>by
 unfold mask at e;by_cases hb:b∈ps
 ·rw[if_pos hb]at e;cases e
 ·rw[if_neg hb]at e;exact e
def kT{ps}{p:Addr}{o}(h:H p=none):mask (eS H p o) (p::ps)=mask H ps:=by
 funext b;unfold mask;by_cases hb:b=p
 ·subst hb;rw[if_pos (aL ..),h];by_cases z:b∈ps<;>simp[z]
 ·rw[bT hb];by_cases z:b∈ps
  ·rw[if_pos (aI _ z),if_pos z]
  ·rw[if_neg (λq=>(aN.mp q).elim hb z),if_neg z]
def fB{ps}{p:Addr}{o}(h:p∈ps):mask (eS H p o) ps=mask H ps:=by
 funext b;unfold mask;by_cases hb:b=p
 ·subst hb;rw[if_pos h,if_pos h]
 ·rw[bT hb]
def cZ{p:Addr}{o}(h:H p=none):aS H (eS H p o):=λb u q=>by rw[bT (eJ q h)];exact q
def jY{ps}{p:Addr}{o}(h:p∉ps)(e:H p=some o):mask H ps p=some o:=by
 unfold mask;rw[if_neg h];exact e
noncomputable def Y1:HO->Bool
|.tup _=>true
|.frz _ (.tup _)=>true
|_=>false
def yO(u:Option HO):Prop:=∃v,u=some v/\Y1 v=false
def yO.ne{u}(h:yO u):u≠none:=λz=>by obtain⟨v,e,_⟩:=h;rw[z]at e;cases e
theorem yO.lst{xs}:yO (some (.lst xs)):=⟨_,rfl,rfl⟩
def hV{ps:List Addr}{p:Addr}(live:∀q∈ps,yO (H q))(h:H p=none):p∉ps:=λz=>(live p z).ne h
inductive Sl where
|un | val (d:D) | own (ts:List D) | dic (hs:List Int) (kvs:List (D×D))
def qC(K:aF)(B:Hp)(p0:List Addr)(H:Hp)(ps:List Addr)(σT:List Sl)(σ:L2.St):Prop:=∀(i:Nat)(hs:List Int)(kvs:List (D×D)),σT[i]?=some (.dic hs kvs) ->
 (∃(p:Addr)(es:List (Int×Addr×V)),σ[i]?=some (some (.ref p))/\p∈ps/\B p=none/\p∉p0/\H p=some (aMu p es)/\hs=es.map (·.1)/\(kvs.map (·.1)).Nodup/\Reps K (mask H ps) (kvs.map (·.1)) (es.map λe=>.ref e.2.1)/\Reps K (mask H ps) (kvs.map (·.2)) (es.map λe=>e.2.2)) /\
 ∀(j:Nat)(hs':List Int)(kws:List (D×D)),σT[j]?=some (.dic hs' kws)->i=j
def qC.to{B B':Hp}{p0 p0' ps ps' σT σT' σ σ'}(o:qC K B p0 H ps σT σ)(hσ:∀(i:Nat)(hs:List Int)(kvs:List (D×D)),σT'[i]?=some (.dic hs kvs)->σT[i]?=some (.dic hs kvs)/\σ'[i]?=σ[i]?)
  (hp:∀(p:Addr)(φ:Heap->Prop),p∈ps->H p=some (.ext φ)->p∉p0->p∈ps'/\H' p=H p) (hB:∀(p:Addr)(φ:Heap->Prop),p∈ps->H p=some (.ext φ)->B p=none->p∉p0->B' p=none/\p∉p0') (hm:aS (mask H ps) (mask H' ps')):qC K B' p0' H' ps' σT' σ':=λi hs kvs h=>by
 obtain⟨h1,h2⟩:=hσ i hs kvs h;obtain⟨⟨p,es,a1,a2,a3,a4,a5,a6,a7,a8,a9⟩,u⟩:=o i hs kvs h1;obtain⟨b1,b2⟩:=hp p _ a2 a5 a4;obtain⟨c1,c2⟩:=hB p _ a2 a5 a3 a4;exact⟨⟨p,es,h2.trans a1,b1,c1,c2,b2.trans a5,a6,a7,a8.same hm,a9.same hm⟩,λj hs' kws hj=>u j hs' kws (hσ j hs' kws hj).1⟩
def FP{σT:List Sl}{i j:Nat}{s hs kvs}(hn:∀hs kvs,s≠.dic hs kvs)(h:(σT.set i s)[j]?=some (.dic hs kvs)):i≠j/\σT[j]?=some (.dic hs kvs):=by
 by_cases e:i=j
 ·subst e;have hi:i<σT.length:=by simpa using(aH.mp h).1
  rw[bB hi]at h;exact absurd (Option.some.inj h) (hn hs kvs)
 ·rw[aU e]at h;exact⟨e,h⟩
def qC.setS{B p0 ps}{σT:List Sl}{σ:L2.St}(o:qC K B p0 H ps σT σ){i:Nat}{s v}(hn:∀hs kvs,s≠.dic hs kvs):qC K B p0 H ps (σT.set i s) (σ.set i v):=
 o.to (λj hs kvs h=>let ⟨e,h'⟩:=FP hn h;⟨h',aU e⟩) (λp φ a b _=>⟨a,rfl⟩) (λp φ _ _ a b=>⟨a,b⟩) (L2.aS.refl _)
def qC.setT{B p0 ps}{σT:List Sl}{σ}(o:qC K B p0 H ps σT σ){i:Nat}{s}(hn:∀hs kvs,s≠.dic hs kvs):qC K B p0 H ps (σT.set i s) σ:=
 o.to (λj hs kvs h=>⟨(FP hn h).2,rfl⟩) (λp φ a b _=>⟨a,rfl⟩) (λp φ _ _ a b=>⟨a,b⟩) (L2.aS.refl _)
def qC.grow{B p0 ps σT σ}(o:qC K B p0 H ps σT σ)(e:aS H H'):qC K B p0 H' ps σT σ:=
 o.to (λj hs kvs h=>⟨h,rfl⟩) (λp φ a b _=>⟨a,(e p _ b).trans b.symm⟩) (λp φ _ _ a b=>⟨a,b⟩) (bH e)
structure Ok(K:aF)(B:Hp)(p0:List Addr)(H:Hp)(ps:List Addr)(σT:List Sl)(σ:L2.St):Prop where
 base:aS B H
 sub:∀p∈p0,p∈ps
 live:∀p∈ps,yO (H p)
 len:σT.length=σ.length
 val:∀(i:Nat)(d:D),σT[i]?=some (.val d)->∃v,σ[i]?=some (some v)/\gD K (mask H ps) d v
 own:∀(i:Nat)(ts:List D),σT[i]?=some (.own ts)->∃p xs,σ[i]?=some (some (.ref p))/\p∈ps/\B p=none/\p∉p0/\H p=some (.lst xs)/\Reps K (mask H ps) ts xs
 dis:∀(i j:Nat)(ts us:List D)(p:Addr),σT[i]?=some (.own ts)->σT[j]?=some (.own us)->σ[i]?=some (some (.ref p))->σ[j]?=some (some (.ref p))->i=j
 dc:qC K B p0 H ps σT σ
variable{B:Hp}{p0 ps:List Addr}{σT:List Sl}{σ:L2.St}
theorem Ok.grow(o:Ok K B p0 H ps σT σ)(e:aS H H'):Ok K B p0 H' ps σT σ where
 base:=o.base.trans e
 sub:=o.sub
 live:=λp hp=>let ⟨u,h1,h2⟩:=o.live p hp;⟨u,e p u h1,h2⟩
 len:=o.len
 val:=λi d h=>let ⟨v,h1,h2⟩:=o.val i d h;⟨v,h1,h2.same (bH e)⟩
 own:=λi ts h=>let ⟨p,xs,h1,h2,h3,h4,h5,h6⟩:=o.own i ts h;⟨p,xs,h1,h2,h3,h4,e _ _ h5,h6.same (bH e)⟩
 dis:=o.dis
 dc:=o.dc.grow e
theorem Ok.set(o:Ok K B p0 H ps σT σ){i:Nat}{d v}(r:gD K (mask H ps) d v):Ok K B p0 H ps (σT.set i (.val d)) (σ.set i (some v)) where
 base:=o.base
 sub:=o.sub
 live:=o.live
 len:=by simpa using o.len
 val:=λj d' h=>by
  by_cases e:i=j
  ·subst e
   have hi:i<σT.length:=by
    have:=(aH.mp h).1;simpa using this
   rw[bB hi]at h;cases h;exact⟨v,by rw[bB (by rw[<- o.len];exact hi)],r⟩
  ·rw[aU e]at h |-
   exact o.val j d' h
 own:=λj ts h=>by
  by_cases e:i=j
  ·subst e
   have hi:i<σT.length:=by
    have:=(aH.mp h).1;simpa using this
   rw[bB hi]at h;cases h
  ·rw[aU e]at h |-
   exact o.own j ts h
 dis:=λj k ts us p h1 h2 h3 h4=>by
  have ne:∀{l:Nat}{ts:List D},(σT.set i (.val d))[l]?=some (.own ts)->i≠l:=λ{l ts} h e=>by
   subst e
   have hi:i<σT.length:=by
    have:=(aH.mp h).1;simpa using this
   rw[bB hi]at h;cases h
  have e1:=ne h1;have e2:=ne h2;rw[aU e1]at h1 h3;rw[aU e2]at h2 h4;exact o.dis j k ts us p h1 h2 h3 h4
 dc:=o.dc.setS λ_ _ z=>nomatch z
def Ok.setOwn(o:Ok K B p0 H ps σT σ){i:Nat}{ts:List D}{xs:List V}{p:Addr}(hp:H p=none)(r:Reps K (mask H ps) ts xs):Ok K B p0 (eS H p (.lst xs)) (p::ps) (σT.set i (.own ts)) (σ.set i (some (.ref p))):=by
 have hm:mask (eS H p (.lst xs)) (p::ps)=mask H ps:=kT hp;have hps:p∉ps:=hV o.live hp
 have hn:∀{l:Nat}{us:List D},i≠l->σT[l]?=some (.own us)->σ[l]?≠some (some (.ref p)):=λ{l us} _ h z=>by
  obtain⟨q,_,h1,h2,_⟩:=o.own l us h;rw[z]at h1;cases h1;exact hps h2
 refine⟨o.base.trans (cZ hp),λq hq=>aI _ (o.sub q hq),λq hq=>?_,by simpa using o.len,λj d h=>?_,λj us h=>?_,λj k us ws q h1 h2 h3 h4=>?_,?_⟩
 ·by_cases e:q=p
  ·subst e;rw[bS];exact .lst
  ·rw[bT e];rcases aN.mp hq with z | z
   ·exact absurd z e
   ·exact o.live q z
 ·rw[hm];by_cases e:i=j
  ·subst e;have hi:i<σT.length:=by simpa using(aH.mp h).1
   rw[bB hi]at h;cases h
  ·rw[aU e]at h |-
   exact o.val j d h
 ·rw[hm];by_cases e:i=j
  ·subst e;have hi:i<σT.length:=by simpa using(aH.mp h).1
   rw[bB hi]at h;cases h;refine⟨p,xs,by rw[bB (by rw[<- o.len];exact hi)],aL ..,?_,λz=>hps (o.sub p z),bS,r⟩
   cases q:B p with
   |none=>rfl
   |some u=>rw[o.base p u q]at hp;cases hp
  ·rw[aU e]at h |-
   obtain⟨q,ys,h1,h2,h3,h4,h5,h6⟩:=o.own j us h;refine⟨q,ys,h1,aI _ h2,h3,h4,?_,h6⟩;rw[bT (λz:q=p=>hps (z▸h2))];exact h5
 ·by_cases e1:i=j
  ·by_cases e2:i=k
   ·exact e1.symm.trans e2
   ·subst e1;have hi:i<σT.length:=by simpa using(aH.mp h1).1
    rw[bB (by rw[<- o.len];exact hi)]at h3;cases h3;rw[aU e2]at h2 h4;exact absurd h4 (hn e2 h2)
  ·by_cases e2:i=k
   ·subst e2;have hi:i<σT.length:=by simpa using(aH.mp h2).1
    rw[bB (by rw[<- o.len];exact hi)]at h4;cases h4;rw[aU e1]at h1 h3;exact absurd h3 (hn e1 h1)
   ·rw[aU e1]at h1 h3;rw[aU e2]at h2 h4;exact o.dis j k us ws q h1 h2 h3 h4
 ·exact(o.dc.setS (i:=i) (s:=.own ts) (v:=some (.ref p)) λ_ _ z=>nomatch z).to (λj hs kvs h=>⟨h,rfl⟩) (λq φ a b _=>⟨aI _ a,bT λz=>by rw[z,hp]at b;cases b⟩) (λq φ _ _ a b=>⟨a,b⟩) (by rw[hm];exact L2.aS.refl _)
def Ok.write(o:Ok K B p0 H ps σT σ){i:Nat}{ts us ys}{p:Addr}(hi:σT[i]?=some (.own ts))(hσ:σ[i]?=some (some (.ref p)))(r:Reps K (mask H ps) us ys) :
  Ok K B p0 (eS H p (.lst ys)) ps (σT.set i (.own us)) σ:=by
 obtain⟨q,zs,h1,h2,h3,h4,h5,h6⟩:=o.own i ts hi;rw[hσ]at h1;cases h1;have hm:mask (eS H p (.lst ys)) ps=mask H ps:=fB h2;have hil:i<σT.length:=(aH.mp hi).1;refine⟨λb u e=>?_,o.sub,λq hq=>?_,by simpa using o.len,λj d h=>?_,λj ws h=>?_,λj k vs ws q k1 k2 k3 k4=>?_,?_⟩
 ·have ne:b≠p:=λz=>by rw[z,h3]at e;cases e
  rw[bT ne];exact o.base b u e
 ·by_cases e:q=p
  ·subst e;rw[bS];exact .lst
  ·rw[bT e];exact o.live q hq
 ·rw[hm];by_cases e:i=j
  ·subst e;rw[bB hil]at h;cases h
  ·rw[aU e]at h;exact o.val j d h
 ·rw[hm];by_cases e:i=j
  ·subst e;rw[bB hil]at h;cases h;exact⟨p,ys,hσ,h2,h3,h4,bS,r⟩
  ·rw[aU e]at h;obtain⟨q,vs,k1,k2,k3,k4,k5,k6⟩:=o.own j ws h;refine⟨q,vs,k1,k2,k3,k4,?_,k6⟩;rw[bT (λz:q=p=>e (o.dis i j ts ws p hi h hσ (z▸k1)))];exact k5
 ·have back:∀{l:Nat}{vs:List D},(σT.set i (.own us))[l]?=some (.own vs)->∃vs',σT[l]?=some (.own vs'):=λ{l vs} h=>by
   by_cases e:i=l
   ·subst e;exact⟨ts,hi⟩
   ·rw[aU e]at h;exact⟨vs,h⟩
  obtain⟨vs',k1⟩:=back k1;obtain⟨ws',k2⟩:=back k2;exact o.dis j k vs' ws' q k1 k2 k3 k4
 ·exact(o.dc.setT (i:=i) (s:=.own us) λ_ _ z=>nomatch z).to (λj hs kvs h=>⟨h,rfl⟩) (λq φ a b _=>⟨a,bT λz=>by rw[z,h5]at b;cases b⟩) (λq φ _ _ a b=>⟨a,b⟩) (by rw[hm];exact L2.aS.refl _)
def Ok.share(o:Ok K B p0 H ps σT σ){i:Nat}{ts}(hi:σT[i]?=some (.own ts)):∃ps',Ok K B p0 H ps' (σT.set i (.val (.list ts))) σ/\aS (mask H ps) (mask H ps'):=by
 obtain⟨p,xs,h1,h2,h3,h4,h5,h6⟩:=o.own i ts hi;have hil:i<σT.length:=(aH.mp hi).1;have hsub:aS (mask H ps) (mask H (ps.filter λq=>decide (q≠p))):=gF λq hq=>(cU.mp hq).1;have hpn:p∉ps.filter λq=>decide (q≠p):=λz=>(of_decide_eq_true (cU.mp z).2) rfl;refine⟨ps.filter λq=>decide (q≠p),⟨o.base,λq hq=>cU.mpr ⟨o.sub q hq,decide_eq_true λz=>h4 (z▸hq)⟩,λq hq=>o.live q (cU.mp hq).1,by simpa using o.len,λj d h=>?_,λj us h=>?_,λj k us ws q k1 k2 k3 k4=>?_,?_⟩,hsub⟩
 ·by_cases e:i=j
  ·subst e;rw[bB hil]at h;cases h;exact⟨_,h1,.list (lM.of (jY hpn h5)) (h6.same hsub)⟩
  ·rw[aU e]at h;obtain⟨v,k1,k2⟩:=o.val j d h;exact⟨v,k1,k2.same hsub⟩
 ·by_cases e:i=j
  ·subst e;rw[bB hil]at h;cases h
  ·rw[aU e]at h;obtain⟨q,ys,k1,k2,k3,k4,k5,k6⟩:=o.own j us h;exact⟨q,ys,k1,cU.mpr ⟨k2,decide_eq_true λz=>e (o.dis i j ts us p hi h h1 (z▸k1))⟩,k3,k4,k5,k6.same hsub⟩
 ·have back:∀{l:Nat}{vs:List D},(σT.set i (.val (.list ts)))[l]?=some (.own vs)->σT[l]?=some (.own vs):=λ{l vs} h=>by
   by_cases e:i=l
   ·subst e;rw[bB hil]at h;cases h
   ·rw[aU e]at h;exact h
  exact o.dis j k us ws q (back k1) (back k2) k3 k4
 ·exact(o.dc.setT (i:=i) (s:=.val (.list ts)) λ_ _ z=>nomatch z).to (λj hs kvs h=>⟨h,rfl⟩) (λq φ a b _=>⟨cU.mpr ⟨a,decide_eq_true λz=>by rw[z,h5]at b;cases b⟩,rfl⟩) (λq φ _ _ a b=>⟨a,b⟩) hsub
abbrev ET:=List Sl->(D->Prop)->Prop
abbrev vN:=List Sl->(Bool->Prop)->Prop
abbrev AT:=List Sl->(List D->Prop)->Prop
def gK(X:Cx)(e:Expr)(t:ET):Prop:=∃te:TE,PE X e te/\∀B p0 H ps σT σ (Q:D->Prop)(QV:VK),Ok X.K B p0 H ps σT σ->t σT Q ->
 (∀d v H',aS H H'->gD X.K (mask H' ps) d v->Q d->QV v H')->te σ H QV
def IV(X:Cx)(e:Expr)(t:vN):Prop:=∃tt:TT,PT X e tt/\∀B p0 H ps σT σ (Q:Bool->Prop)(QV:Bool->Hp->Prop),Ok X.K B p0 H ps σT σ->t σT Q ->
 (∀b H',aS H H'->Q b->QV b H')->tt σ H QV
def PWt(X:Cx)(e:Expr)(t:vN):Prop:=∃tt:TT,PW X e tt/\∀B p0 H ps σT σ (Q:Bool->Prop)(QV:Bool->Hp->Prop),Ok X.K B p0 H ps σT σ->t σT Q ->
 (∀b H',aS H H'->Q b->QV b H')->tt σ H QV
def vK(X:Cx)(es:List Expr)(t:AT):Prop:=∃ta:TA,PA X es ta/\∀B p0 H ps σT σ (Q:List D->Prop)(QV:List V->Hp->Prop),Ok X.K B p0 H ps σT σ->t σT Q ->
 (∀ds vs H',aS H H'->Reps X.K (mask H' ps) ds vs->Q ds->QV vs H')->ta σ H QV
structure uK where
 nx:List Sl->Prop
 rt:D->Prop
 bk:List Sl->Prop:=λ_=>False
 ct:List Sl->Prop:=λ_=>False
 ro:List D->Prop:=λ_=>False
 rp:List D->List D->Prop:=λ_ _=>False
 rq:D->List D->Prop:=λ_ _=>False
 xB:Hp->Prop:=λ_=>True
abbrev vH:=uK->List Sl->Prop
structure F3(K:aF)(B:Hp)(p0:List Addr)(H:Hp)(ps:List Addr)(DT:uK)(DV:CS):Prop where
 nx:∀H' ps' σT' σ',Ok K B p0 H' ps' σT' σ'->aS (mask H ps) (mask H' ps')->DT.nx σT'->DV.nx σ' H'
 bk:∀H' ps' σT' σ',Ok K B p0 H' ps' σT' σ'->aS (mask H ps) (mask H' ps')->DT.bk σT'->DV.bk σ' H'
 ct:∀H' ps' σT' σ',Ok K B p0 H' ps' σT' σ'->aS (mask H ps) (mask H' ps')->DT.ct σT'->DV.ct σ' H'
 rt:∀d v H',aS B H'->gD K (mask H' p0) d v->DT.rt d->DV.rt v H'
 ro:∀ts p xs H',aS B H'->B p=none->p∉p0->H' p=some (.lst xs)->Reps K (mask H' (p::p0)) ts xs->DT.ro ts->DV.rt (.ref p) H'
 rp:∀as bs r p q xs ys H',aS B H'->B r=none->B p=none->B q=none->p≠q->H' r=some (.tup [.ref p,.ref q])->H' p=some (.lst xs)->H' q=some (.lst ys)->Reps K (mask H' (p::q::p0)) as xs->Reps K (mask H' (p::q::p0)) bs ys->DT.rp as bs->DV.rt (.ref r) H'
 rq:∀a ts r p x xs H',aS B H'->B r=none->B p=none->H' r=some (.tup [x,.ref p])->H' p=some (.lst xs)->gD K (mask H' (p::p0)) a x->Reps K (mask H' (p::p0)) ts xs->DT.rq a ts->DV.rt (.ref r) H'
 xb:DT.xB B
def F3.later{DT DV ps'}(f:F3 K B p0 H ps DT DV)(e:aS (mask H ps) (mask H' ps')):F3 K B p0 H' ps' DT DV:=
 ⟨λ_ _ _ _ o s q=>f.nx _ _ _ _ o (e.trans s) q,λ_ _ _ _ o s q=>f.bk _ _ _ _ o (e.trans s) q,λ_ _ _ _ o s q=>f.ct _ _ _ _ o (e.trans s) q,f.rt,f.ro,f.rp,f.rq,f.xb⟩
def AM(X:Cx)(st:Stmt)(t:vH):Prop:=∃ts:TS,PS X st ts/\∀B p0 H ps σT σ (DT:uK)(DV:CS),Ok X.K B p0 H ps σT σ->t DT σT->F3 X.K B p0 H ps DT DV->ts DV σ H
def uA(X:Cx)(st:List Stmt)(t:vH):Prop:=∃ts:TS,yN X st ts/\∀B p0 H ps σT σ (DT:uK)(DV:CS),Ok X.K B p0 H ps σT σ->t DT σT->F3 X.K B p0 H ps DT DV->ts DV σ H
def CP(X:Cx)(r:R2)(f:D->D->(D->Prop)->Prop):Prop:=∀H ps(d1 d2:D)(x y:V)(Q:D->Prop)QV,(∀p∈ps,yO (H p))->gD X.K (mask H ps) d1 x->gD X.K (mask H ps) d2 y->f d1 d2 Q ->
 (∀d v H',aS H H'->gD X.K (mask H' ps) d v->Q d->QV v H')->r x y H QV
def uL(X:Cx)(r:List V->Hp->VK->Prop)(f:List D->(D->Prop)->Prop):Prop:=∀H ps(ds:List D)(xs:List V)(Q:D->Prop)QV,(∀p∈ps,yO (H p))->Reps X.K (mask H ps) ds xs->f ds Q ->
 (∀d v H',aS H H'->gD X.K (mask H' ps) d v->Q d->QV v H')->r xs H QV
section
variable{X:Cx}{a b e:Expr}{es:List Expr}{ta tb te:ET}{pos:Pos}
inductive aC2(σ:List Sl)(i:Nat)(Q:D->Prop):Prop
|mk (d:D) (h:σ[i]?=some (.val d)) (k:Q d):aC2 σ i Q
def IB(i:Nat):ET:=λσ Q=>aC2 σ i Q
def eC(d:D):ET:=λ_ Q=>Q d
def aJ(i:Nat){x:Str}{pos}(hN:X.N[i]?=some x:=by rfl)(hv:Vis X.env.scope x:=by first | exact Or.inl rfl | exact Or.inr (Or.inl rfl) | exact Or.inr (Or.inr rfl))(hd:(x==("__debug__":Str))=false:=by decide)
  (hcd:(x==("__classdict__":Str))=false:=by decide):gK X (.Name x pos) (IB i):=
 ⟨_,SX hN hv hd hcd,λB p0 H ps σT σ Q QV o h k=>by
  obtain⟨d,e,q⟩:=h;obtain⟨v,e1,r⟩:=o.val i d e;exact⟨v,e1,k d v H (L2.aS.refl H) r q⟩⟩
def aQ{i j pos}:gK X (.Constant (.int i) j pos) (eC (.int i)):=⟨_,mH,λ_ _ H _ _ _ _ _ _ h k=>k _ _ H (L2.aS.refl H) (.int i) h⟩
def sM{b j pos}:gK X (.Constant (.bool b) j pos) (eC (.bool b)):=⟨_,aH6,λ_ _ H _ _ _ _ _ _ h k=>k _ _ H (L2.aS.refl H) (.bool b) h⟩
def qW{j pos}:gK X (.Constant .none j pos) (eC .none):=⟨_,aEo,λ_ _ H _ _ _ _ _ _ h k=>k _ _ H (L2.aS.refl H) .none h⟩
def eU{x j pos}:gK X (.Constant (.str x) j pos) (eC (.str x)):=⟨_,aEm,λ_ _ H _ _ _ _ _ _ h k=>k _ _ H (L2.aS.refl H) (.str x) h⟩
def MW{x:Str}{i:Int}{t pos}(hg:Gl X x)(hm:X.mg x=some (.int i t))(hd:(x==("__debug__":Str))=false:=by decide):gK X (.Name x pos) (eC (.int i)):=⟨_,kL (v:=.int i) hg hm ⟨t,rfl⟩ hd,λ_ _ H _ _ _ _ _ _ h k=>k _ _ H (L2.aS.refl H) (.int i) h⟩
def eOp(f:D->D->(D->Prop)->Prop)(ta tb:ET):ET:=λσ Q=>ta σ λx=>tb σ λy=>f x y Q
def zU{r}{f:D->D->(D->Prop)->Prop}(h2:CP X r f){va vb:TE}
  (ha:∀B p0 H ps σT σ (Q:D->Prop)(QV:VK),Ok X.K B p0 H ps σT σ->ta σT Q->(∀d v H',aS H H'->gD X.K (mask H' ps) d v->Q d->QV v H')->va σ H QV)
  (hb:∀B p0 H ps σT σ (Q:D->Prop)(QV:VK),Ok X.K B p0 H ps σT σ->tb σT Q->(∀d v H',aS H H'->gD X.K (mask H' ps) d v->Q d->QV v H')->vb σ H QV)
  (B:Hp) (p0:List Addr) (H:Hp) (ps:List Addr) (σT:List Sl) (σ:L2.St) (Q:D->Prop) (QV:VK) (o:Ok X.K B p0 H ps σT σ) (h:eOp f ta tb σT Q) (k:∀d v H',aS H H'->gD X.K (mask H' ps) d v->Q d->QV v H'):tOp r va vb σ H QV:=by
 refine ha B p0 H ps σT σ _ _ o h λd1 x H1 s1 r1 q1=>?_;refine hb B p0 H1 ps σT σ _ _ (o.grow s1) q1 λd2 y H2 s2 r2 q2=>?_;exact h2 H2 ps d1 d2 x y Q QV ((o.grow s1).grow s2).live (r1.same (bH s2)) r2 q2 λd v H' s' r' q'=>k d v H' (s1.trans (s2.trans s')) r' q'
def dD{op r}{f:D->D->(D->Prop)->Prop}(ho:pB X (binaryOp op) r)(h2:CP X r f)(ha:gK X a ta)(hb:gK X b tb):gK X (.BinOp a op b pos) (eOp f ta tb):=by
 obtain⟨va,pa,ra⟩:=ha;obtain⟨vb,pb,rb⟩:=hb;exact⟨_,G6 ho pa pb,zU h2 ra rb⟩
def pK{op r}{f:D->D->(D->Prop)->Prop}(ho:pB X (compareOp op) r)(h2:CP X r f)(ha:gK X a ta)(hb:gK X b tb)(hm:behindInMarks op b=false:=by first | exact KB _ | rfl):gK X (.Compare a [op] [b] pos) (eOp f ta tb):=by
 obtain⟨va,pa,ra⟩:=ha;obtain⟨vb,pb,rb⟩:=hb;exact⟨_,YD ho pa pb hm,zU h2 ra rb⟩
def cG{r}{f:D->D->(D->Prop)->Prop}(ho:V5 X r)(h2:CP X r f)(ha:gK X a ta)(hb:gK X b tb)(hs:F1 b:=by intro _ _;rfl):gK X (.Subscript a b pos) (eOp f ta tb):=by
 obtain⟨va,pa,ra⟩:=ha;obtain⟨vb,pb,rb⟩:=hb;exact⟨_,sD ho pa pb hs,zU h2 ra rb⟩
def aMr(ta:ET):ET:=λσ Q=>ta σ λx=>match x with | .int i=>Q (.int (-i)) | _=>False
def aFu(ha:gK X a ta):gK X (.UnaryOp .USub a pos) (aMr ta):=by
 obtain⟨va,pa,ra⟩:=ha;refine⟨_,aH4 aDn pa,λB p0 H ps σT σ Q QV o h k=>ra B p0 H ps σT σ _ _ o h λd x H1 s1 r1 q1=>?_⟩
 cases r1 with
 |int i=>exact⟨i,rfl,k _ _ H1 s1 (.int _) q1⟩
 |_=>exact q1.elim
def IR:AT:=λ_ Q=>Q []
def yM(t:ET)(r:AT):AT:=λσ Q=>t σ λx=>r σ λxs=>Q (x::xs)
def aO:vK X [] IR:=⟨_,gL,λ_ _ H _ _ _ _ _ _ h k=>k _ _ H (L2.aS.refl H) .nil h⟩
def aB{tr}(ha:gK X e te)(hr:vK X es tr)(hs:bL (e::es) X.env=(false,eval e X.env)::bL es X.env:=by rfl):vK X (e::es) (yM te tr):=by
 obtain⟨va,pa,ra⟩:=ha;obtain⟨vr,pr,rr⟩:=hr;refine⟨_,cL pa pr hs,λB p0 H ps σT σ Q QV o h k=>ra B p0 H ps σT σ _ _ o h λd x H1 s1 r1 q1=>?_⟩;refine rr B p0 H1 ps σT σ _ _ (o.grow s1) q1 λds xs H2 s2 r2 q2=>?_;exact k _ _ H2 (s1.trans s2) (.cons (r1.same (bH s2)) r2) q2
def aMq(t:AT):ET:=λσ Q=>t σ λds=>ds.length<=1000/\Q (.tuple ds)
def aMs(t:AT):ET:=λσ Q=>t σ λds=>ds.length<=1000/\Q (.list ds)
def oA{ps:List Addr}{p:Addr}{ds:List D}{xs:List V}(live:∀q∈ps,yO (H q))(hp:H p=none)(r:Reps K (mask H ps) ds xs):gD K (mask (eS H p (.tup xs)) ps) (.tuple ds) (.ref p):=
 .tuple (pA.of (jY (hV live hp) bS)) (r.same (bH (cZ hp)))
def E3{ps:List Addr}{p:Addr}{ds:List D}{xs:List V}(live:∀q∈ps,yO (H q))(hp:H p=none)(r:Reps K (mask H ps) ds xs):gD K (mask (eS H p (.lst xs)) ps) (.list ds) (.ref p):=
 .list (lM.of (jY (hV live hp) bS)) (r.same (bH (cZ hp)))
def qT{n:Nat}(h:n<=1000):n<=bE:=iA (NW h)
def gG{x1 t}(h:vK X es t):gK X (.Tuple es x1 pos) (aMq t):=by
 obtain⟨v,p,r⟩:=h;refine⟨_,BG p,λB p0 H ps σT σ Q QV o h k=>r B p0 H ps σT σ _ _ o h λds xs H1 s1 r1 q1=>⟨qT (by rw[<- r1.length];exact q1.1),λq hq=>?_⟩⟩;exact k _ _ _ (s1.trans (cZ hq)) (oA (o.grow s1).live hq r1) q1.2
def xQ{t}(h:vK X es t):gK X (.List es pos) (aMs t):=by
 obtain⟨v,p,r⟩:=h;refine⟨_,FA p,λB p0 H ps σT σ Q QV o h k=>r B p0 H ps σT σ _ _ o h λds xs H1 s1 r1 q1=>⟨qT (by rw[<- r1.length];exact q1.1),λq hq=>?_⟩⟩;exact k _ _ _ (s1.trans (cZ hq)) (E3 (o.grow s1).live hq r1) q1.2
def nX(f:List D->(D->Prop)->Prop)(t:AT):ET:=λσ Q=>t σ λds=>f ds Q
abbrev oV:=List D->(D->Prop)->Prop
def bJ(K:aF)(sp:oV):Sp:=λvs H Q _=>∃(ps:List Addr)(ds:List D)(QD:D->Prop),(∀p∈ps,yO (H p))/\Reps K (mask H ps) ds vs/\sp ds QD/\∀d v H',aS H H'->gD K (mask H' ps) d v->QD d->Q v H'
def ZD{k:Nat}{f:Addr}{fd pn sp x p t}(F:bU X.prog X.w X.K X.mg X.base eG k f fd pn (bJ X.K sp))(hm:X.mg x=some (.ref f))(hk:fV X.K (.ref f)=true)(hb:oR X.K fd pn [])
  (hr:gM k X.A) (ha:vK X (e::es) t) (pc:∀{ta},PA X (e::es) ta->PE X (.Call (.Name x p) (e::es) [] pos) (xZ (bJ X.K sp) [] E0 ta)):gK X (.Call (.Name x p) (e::es) [] pos) (nX sp t):=by
 obtain⟨v,pa,ra⟩:=ha;refine⟨_,pc pa,λB p0 H ps σT σ Q QV o h k=>ra B p0 H ps σT σ _ _ o h λds xs H1 s1 r1 q1=>?_⟩;show bJ X.K sp (xs++[]) H1 QV E0;rw[dQ];exact⟨ps,ds,Q,(o.grow s1).live,r1,q1,λd v H' s' r' q'=>k d v H' (s1.trans s') r' q'⟩
def M6(t:ET):vN:=λσ Q=>t σ λx=>match x with | .bool b=>Q b | _=>False
def aDq(h:gK X e te)(pt:∀{t},PE X e t->PT X e (tB t)):IV X e (M6 te):=by
 obtain⟨v,p,r⟩:=h;refine⟨_,pt p,λB p0 H ps σT σ Q QV o h k=>r B p0 H ps σT σ _ _ o h λd x H1 s1 r1 q1=>?_⟩
 cases r1 with
 |bool c=>exact⟨c,rfl,k c H1 s1 q1⟩
 |_=>exact q1.elim
def eQ{op r}{f:D->D->(D->Prop)->Prop}(ho:pB X (compareOp op) r)(h2:CP X r f)(ha:gK X a ta)(hb:gK X b tb)(hm:behindInMarks op b=false:=by first | exact KB _ | rfl):IV X (.Compare a [op] [b] pos) (M6 (eOp f ta tb)):=by
 obtain⟨va,pa,ra⟩:=ha;obtain⟨vb,pb,rb⟩:=hb;refine⟨_,L6 ho pa pb hm,λB p0 H ps σT σ Q QV o h k=>?_⟩;refine zU h2 ra rb B p0 H ps σT σ (λx=>match x with | .bool b=>Q b | _=>False) _ o h λd v H' s' r' q'=>?_
 cases r' with
 |bool c=>exact⟨c,rfl,k c H' s' q'⟩
 |_=>exact q'.elim
def aMw(t:vN):vN:=λσ Q=>t σ λb=>Q (!b)
def aMx(t u:vN):vN:=λσ Q=>t σ λb=>if b=true then u σ Q else Q false
def cOr(t u:vN):vN:=λσ Q=>t σ λb=>if b=true then Q true else u σ Q
variable{tA tB':vN}{kD:List Expr}
def EQ(h:IV X a tA):IV X (.UnaryOp .Not a pos) (aMw tA):=by
 obtain⟨v,p,r⟩:=h;exact⟨_,SM p,λB p0 H ps σT σ Q QV o h k=>r B p0 H ps σT σ _ _ o h λb H' s' q'=>k _ H' s' q'⟩
def rQ(h:PWt X e tA):IV X e tA:=by
 obtain⟨v,p,r⟩:=h;exact⟨_,p.pt,r⟩
def vU(h:IV X a tA):PWt X (.BoolOp .And [a] pos) tA:=by
 obtain⟨v,p,r⟩:=h;exact⟨_,XZ p,r⟩
def xA(h:IV X a tA):PWt X (.BoolOp .Or [a] pos) tA:=by
 obtain⟨v,p,r⟩:=h;exact⟨_,SI p,r⟩
def AU(ha:IV X a tA)(hb:PWt X (.BoolOp .And (b::kD) pos) tB'):PWt X (.BoolOp .And (a::b::kD) pos) (aMx tA tB'):=by
 obtain⟨va,pa,ra⟩:=ha;obtain⟨vb,pb,rb⟩:=hb;refine⟨_,aEi pa pb,λB p0 H ps σT σ Q QV o h k=>ra B p0 H ps σT σ _ _ o h λc H1 s1 q1=>?_⟩
 cases c with
 |true=>exact rb B p0 H1 ps σT σ Q _ (o.grow s1) q1 λb H' s' q'=>k b H' (s1.trans s') q'
 |false=>exact k _ H1 s1 q1
def AS(ha:IV X a tA)(hb:PWt X (.BoolOp .Or (b::kD) pos) tB'):PWt X (.BoolOp .Or (a::b::kD) pos) (cOr tA tB'):=by
 obtain⟨va,pa,ra⟩:=ha;obtain⟨vb,pb,rb⟩:=hb;refine⟨_,aCb pa pb,λB p0 H ps σT σ Q QV o h k=>ra B p0 H ps σT σ _ _ o h λc H1 s1 q1=>?_⟩
 cases c with
 |true=>exact k _ H1 s1 q1
 |false=>exact rb B p0 H1 ps σT σ Q _ (o.grow s1) q1 λb H' s' q'=>k b H' (s1.trans s') q'
def aMt(ta tb:ET):ET:=λσ Q=>ta σ λx=>match x with | .bool c=>if c=true then tb σ Q else Q (.bool false) | _=>False
def B6{op}(h:gK X a ta):gK X (.BoolOp op [a] pos) ta:=by
 obtain⟨v,p,r⟩:=h;exact⟨_,aEn p,r⟩
def B8(ha:gK X a ta)(hb:gK X (.BoolOp .And (b::kD) pos) tb):gK X (.BoolOp .And (a::b::kD) pos) (aMt ta tb):=by
 obtain⟨va,pa,ra⟩:=ha;obtain⟨vb,pb,rb⟩:=hb;refine⟨_,aEq pa pb,λB p0 H ps σT σ Q QV o h k=>ra B p0 H ps σT σ _ _ o h λd x H1 s1 r1 q1=>?_⟩
 cases r1 with
 |bool c=>
  refine⟨c,rfl,?_⟩
  cases c with
  |true=>exact rb B p0 H1 ps σT σ Q _ (o.grow s1) q1 λd v H' s' r' q'=>k d v H' (s1.trans s') r' q'
  |false=>exact k _ _ H1 s1 (.bool false) q1
 |_=>exact q1.elim
def VH(f g:D->D->(D->Prop)->Prop)(ta tb tc:ET):ET:=λσ Q=>ta σ λx=>tb σ λy=>f x y λz=>match z with | .bool c=>if c=true then tc σ λw=>g y w Q else Q (.bool false) | _=>False
end
end TL
set_option maxHeartbeats 1000000
namespace L2
def K4{p}{a b:Int}{x}:∀(l:List Value),TriplesOk l->∀y,codeAmong p (l++[rawInt a,rawInt b,x])=some y->codeAmong p l=some y\/y=x:=by
 intro l h
 fun_induction TriplesOk l with
 |case1=>
  intro y e;have e':(if(a==p.line&&b==p.col)=true then some x else codeAmong p [])=some y:=e;split at e'
  ·exact .inr (Option.some.inj e').symm
  ·cases e'
 |case2 u t v w z r ih=>
  intro y e;simp only[List.cons_append,codeAmong]at e |-
  split at e
  ·rename_i hc;rw[if_pos hc];exact .inl e
  ·rename_i hc;rw[if_neg hc];exact ih h y e
 |case3=>exact h.elim
section
variable{X:Cx}{pins:List (Addr×Obj)}{σ:St}{H:Hp}{s:Shared}
structure Lam(X:Cx)(H:Hp)(h:Heap)(f c:Addr)(fd:gT):Prop where
 obj:h.get? f=some { cls:=.type "function",data:=.func fd }
 free:H f=none
 code:fd.code=.ref c
 trk:∃oc P,H c=some (.frz oc (.own P))/\V7 oc
 nfr:f∉oE X.stack
def cN.builtinsAt(I:cN X pins σ H s){P:Addr}{qs}(e:s.heap.get? P=some { cls:=.none,data:=.fields qs }):s.heap.BuiltinsAt X.mg P/\dS≠P:=by
 obtain⟨bm,o,b1,b2,b3,b4,b5,b6⟩:=I.mod.bmod;have hg:=I.mod.glob;obtain⟨og,es,ep,g1,g2,_⟩:=hg;refine⟨⟨bm,o,b1,b2,λz=>?_,λz=>?_,I.bk _ _ b3,b4,b5,b6⟩,λz=>?_⟩
 ·rw[z,g1]at b3;cases b3;rw[g2]at b6;cases b6
 ·have:=I.bk _ _ b3;rw[z,e]at this;cases this;cases b6
 ·have:=I.bk _ _ g1;rw[z,e]at this;cases this;cases g2
def UK{params body}{scope:Scope}{pos}{c P:Addr}{Q:Value->Shared->Prop}{E:Value->Shared->Prop}{name qual}{line:Nat}(I:cN X pins σ H s)(hT:tabA=some P)(hc:X.env.code=.ref c)(C:WA X.base c P)(hfr:∀x∈scope.names,x.2=.free->∃c,X.env.cells.lookup x.1=some c)
  (h:∀H'(s':Shared)(f c':Addr)(cl:List (Str×Addr))(pm ctv:Value),cN X pins σ H' s'->(∀b u,H b=some u->H' b=some u)->Lam X H' s'.heap f c' (PySem.W.kla_fn name qual params body scope cl pm (.ref c') ctv)->(∀n c,cl.lookup n=some c->X.env.cells.lookup n=some c)->(∀n,(n,NameKind.free)∈scope.names->∃c,cl.lookup n=some c)->Q (.ref f) s') :
  wpAny (model X.prog X.w) X.A (makeFunction name qual params (.expr body) scope X.env [] [] [] pos line) Q E s:=by
 obtain⟨cl,hcl,hc1,hc2⟩:=vE hfr;obtain⟨ps,hP⟩:=I.env0.tab P hT;obtain⟨qs,e1,e2,e3⟩:=I.hok P _ hP;obtain⟨hb,hgP⟩:=I.builtinsAt e1;have hg:=I.mod.glob.keeps I.bk;have C':=C.keeps I.bk
 have nofr:∀b,s.heap.objs.size<=b->b∉oE X.stack:=λb hb z=>by
  rcases aN.mp (I.stkSub b z)with y | y
  ·rw[y]at hb;exact absurd I.lt (WB.mpr hb)
  ·exact I.nofs hb y
 cases hm:codeAmong pos qs.toList with
 |none=>
  refine PySem.W.kla_makeFunction (mg:=X.mg) hcl I.ok.glob hg hc C' e1 e2 hm hgP hb λc' ctv h' tk hx hge hlt hrec htb=>?_;obtain⟨c2,oc,vs,t,q1,q2,q3,q4⟩:=hrec;cases q1;have hcn:H c'=none:=I.hok.fresh hge;have hfn:H h'.objs.size=none:=I.hok.fresh (bK hge (iA hlt));have cP:c'≠P:=λz=>by rw[z,hP]at hcn;cases hcn
  have kp:∀b o,b≠P->s.heap.get? b=some o->(h'.push (zH name qual params body scope cl ((X.mg "__name__").getD .none) c' ctv)).get? b=some o:=λb o z e=>aC _ (hx b o z e);have nP:∀b,H b=none->b≠P:=λb e z=>by rw[z,hP]at e;cases e
  have sH:∀b u,H b=some u->eS H c' (.frz oc (.own P)) b=some u:=λb u e=>by rw[bT (eJ e hcn)];exact e
  have un:Un X.fs [] H (eS H c' (.frz oc (.own P))) s.heap (h'.push (zH name qual params body scope cl ((X.mg "__name__").getD .none) c' ctv)):=
   ⟨λb o e n _ _=>kp b o (nP b n) e,λb o e n _ _=>⟨o.slots,kp b o (nP b n) e⟩,λb o e n _=>by rw[bT (cO (bR (aV e) hge))];exact n,λb o e _=>by
    by_cases z:b=P
    ·exact⟨_,by rw[z];exact aC _ htb⟩
    ·exact⟨o,kp b o z e⟩,λb xs e=>sH _ _ e,λb o u e=>sH _ _ e,λb ps e=>⟨#[],by rw[sH _ _ e];simp⟩⟩
  have hok:oF X.prog X.w (eS H c' (.frz oc (.own P))) (h'.push (zH name qual params body scope cl ((X.mg "__name__").getD .none) c' ctv)):=λb u e=>by
   by_cases z:b=c'
   ·subst z;rw[bS]at e;cases e;exact⟨aC _ q2,_,aC _ q2⟩
   ·rw[bT z]at e;by_cases z2:b=P
    ·subst z2;rw[hP]at e;cases e;refine⟨_,aC _ htb,?_,λp x hp=>?_⟩
     ·rw[NJ];exact TriplesOk_snoc _ _ _ _ e2
     ·rw[NJ]at hp;rcases K4 _ e2 _ hp with hp | hp
      ·obtain⟨c3,o3,r1,r2,r3⟩:=e3 p x hp;exact⟨c3,o3,r1,sH _ _ r2,r3⟩
      ·exact⟨c',oc,hp,bS,vs,_,t,q3,q4⟩
    ·refine(I.hok b u e).stay (λy v hy r=>kp y v ?_ r) (λy r=>sH _ _ r) (λy xs r=>sH _ _ r) λy o v r=>sH _ _ r;rcases hy with rfl | hy
     ·exact z2
     ·intro z3;rw[z3,hP]at hy;cases hy
  refine h _ _ h'.objs.size c' cl _ ctv (I.un (t':=tk) un hok) sH ⟨aR _ rfl,by rw[bT (iV hlt)];exact hfn,rfl,⟨oc,P,bS,vs,_,t,q3,q4⟩,nofr _ (bK hge (iA hlt))⟩ hc1 hc2
 |some cv=>
  obtain⟨c',oc,r1,r2,r3⟩:=e3 pos cv hm;subst r1;refine PySem.W.kla_makeFunctionHit (mg:=X.mg) hcl I.ok.glob hg hc C' e1 e2 hm hb λctv h' tk hx hsz=>?_;exact h H _ h'.objs.size c' cl _ ctv (I.kept (t':=tk) λb o e=>aC _ (hx b o e)) (λ_ _ e=>e) ⟨aR _ rfl,I.hok.fresh hsz,rfl,⟨oc,P,r2,r3⟩,nofr _ hsz⟩ hc1 hc2
end
def O7{prog w}{A:Around}{R:Result->Shared->Prop}{s:Shared}{f c:Addr}{args}{fd:gT}{body oc}{binds:List (Str×Value)}(hroom:A.depth<recursionLimit)(hlim:s.heap.NoLimit)
  (ho:s.heap.get? f=some { cls:=.type "function",data:=.func fd }) (hco:fd.scope.isCoroutine=false) (hgen:fd.scope.isGenerator=false) (hb:fd.body=.expr body) (hc:fd.code=.ref c) (oco:s.heap.get? c=some oc) (hC:V7 oc)
  (hbind:bindArgs fd args=pure binds) (hcell:∀x∈fd.scope.names,x.2≠.cell) (hloc:∀x∈binds,fd.scope.names.lookup x.1=some .local) (hk:fd.scope.kind=.function) (hgl:fd.globals=dS) (hbl:fd.builtins=builtinsNs)
  (h:∀(q:Str)(h1:Heap),h1.Ns s.heap.objs.size (λy=>binds.reverse.lookup y)->(∀b o,s.heap.get? b=some o->h1.get? b=some o) ->
   wpAny (model prog w) (A.deeper (rC q fd.scope s.heap.objs.size f fd.code fd.closure)) (eval body (rC q fd.scope s.heap.objs.size f fd.code fd.closure)) (λv s'=>R (.ok (.ret v)) s') (λ_ _=>False) { s with heap:=h1,toks:=s.toks+binds.length }) :
  codeAny (model prog w) A (.call (.ref f) args) R s:=by
 obtain⟨vs,q,t,hd,hq⟩:=hC;refine codeAny_of_tree ?_;show wpAny _ A.in1 (callAny (.ref f) args) _ _ s;simp only[callAny];refine aG (wpAny_load ho ?_);simp only[callFunction,hco,hgen,hb,hc];refine aG (m:=field (.ref c) 1) (wpAny_field oco hd hq (aG (aW ?_)));rw[hbind,hgl,hbl];refine aG (aW (aG (wpAny_newFunctionEnv hcell hloc (λh1 hns hsb=>?_) hk)));have kp:∀b o,s.heap.get? b=some o->h1.get? b=some o:=λb o e=>hsb.extBut b o (cO (aV e)) (aC _ e);refine aG (wpAny_enterFrame (hlim.keeps kp) hroom (aW ⟨rfl,?_⟩));have:=h q h1 hns kp;rw[hc]at this;exact PySem.W.kla_codeExpr (dY this (λ_ _ r=>r) λ_ _ r=>r.elim)
noncomputable abbrev wG:Scope:={ kind:=.function,names:=[(Str.ofString "entry",.local),(Str.ofString "bottom",.free)],isGenerator:=false,isCoroutine:=false,more:=[] }
noncomputable def HK(X:Cx)(A':Around)(q:Str)(f:Addr)(cd:Value)(cl:List (Str×Addr))(s:Shared)(H:Hp):Cx where
 prog:=X.prog
 w:=X.w
 K:=X.K
 mg:=X.mg
 base:=X.base
 A:=A'.deeper (rC q wG s.heap.objs.size f cd cl)
 N:=["entry","bottom"]
 s₀:=s
 H₀:=H
 env:=rC q wG s.heap.objs.size f cd cl
 outer:=X.stack
 stack:=rC q wG s.heap.objs.size f cd cl::X.stack
 ex:=[]
 fn:=λ_=>false
 calm:=true
 pn:=[]
 xe:=λ_ _=>False
def Y3{X:Cx}{pins σ}{A':Around}{q:Str}{f cb:Addr}{cd}{cl:List (Str×Addr)}{s:Shared}{H}{h1:Heap}{tk:Nat}{u x}{b:Int}{t}(I:cN X pins σ H s)(hF:A'.frames=some X.stack)(hA:A'.handled=none)
  (hcl:∀n c,cl.lookup n=some c->X.env.cells.lookup n=some c) (hcb:cl.lookup ("bottom":Str)=some cb) (hcell:s.heap.IsCell cb (some (.int b t))) (r:eZ x u)
  (hns:h1.Ns s.heap.objs.size (λy=>[((Str.ofString "entry":Str),u)].reverse.lookup y)) (kp:∀b o,s.heap.get? b=some o->h1.get? b=some o) :
  cN (HK X A' q f cd cl s H) [] [some x,some (.int b)] H { s with heap:=h1,toks:=tk }:=by
 have e0:=I.env0;have noA:∀b:Addr,b∉(HK X A' q f cd cl s H).ex:=λb z=>absurd (show b∈([]:List Addr)from z) (by simp)
 have kd:∀y:Str,wG.names.lookup y=some .cell\/wG.names.lookup y=some .free->y="bottom":=λy hy=>by
  have e:wG.names.lookup y=if y==(Str.ofString "entry")then some .local else if y==(Str.ofString "bottom")then some .free else none:=by
   show jK y [(Str.ofString "entry",NameKind.local),(Str.ofString "bottom",NameKind.free)]=_;rw[dF,dF];cases (y==Str.ofString "entry")<;>cases (y==Str.ofString "bottom")<;>rfl
  rw[e]at hy;split at hy
  ·rcases hy with z | z<;>cases z
  ·split at hy
   ·rename_i z;exact eq_of_beq z
   ·rcases hy with z | z<;>cases z
 obtain⟨oc,ho,hdc⟩:=hcell;have cell1:h1.IsCell cb (some (.int b t)):=⟨oc,kp _ _ ho,hdc⟩
 refine⟨⟨e0.mod,rfl,rfl,rfl,aM _,λy z c a1 a2=>I.ok.inj y z c (hcl y c a1) (hcl z c a2),λy hy=>?_,λy c z=>(nomatch (show false=true from z)),λ_=>hA,Around.frames_deeper hF,.inr ⟨rfl,rfl⟩,λb z=>absurd z (noA b),e0.bs,e0.bsz,λb _ _=>noA b,λb z=>absurd z (noA b),e0.funs,e0.frf,e0.tab⟩,
  rfl,e0.bare,Un.kept kp,⟨_,hns,λi y v a1 a2 a3=>?_⟩,λy c a1=>?_,e0.hok.fresh (aM _),λy c a1=>I.freeC y c (hcl y c a1),λp hp=>absurd (show p∈([]:List (Addr×Obj))from hp) (by simp),e0.hok.kept kp,rfl⟩
 ·have:=kd y hy;rw[this];exact⟨cb,hcb⟩
 ·match i,a1,a2 with
  |0,a1,a2=>
   cases a1;cases a2;exact⟨u,r,.inl ⟨rfl,rfl⟩⟩
  |1,a1,a2=>
   cases a1;cases a2;exact⟨.int b t,⟨t,rfl⟩,.inr ⟨.inr rfl,cb,hcb,cell1⟩⟩
  |i+2,a1,a2=>cases a1
 ·obtain⟨v,o,h1,h2⟩:=I.cell y c (hcl y c a1);exact⟨v,o,kp _ _ h1,h2⟩
def Un.butA{fs ex H H1}{h h1 h':Heap}{a:Addr}(u:Un fs ex H H1 h h1)(hs:eY a h1 h')(ha:h.objs.size<=a):Un fs ex H H1 h h':=by
 have ne:∀b o,h.get? b=some o->b≠a:=λb o e=>cO (bR (aV e) ha);refine⟨λb o e n h1 h2=>(hs.2 b (ne b o e)).trans (u.keep b o e n h1 h2),λb o e n h1 h2=>?_,u.free,λb o e h2=>?_,u.tups,u.frzs,u.tbls⟩
 ·obtain⟨sl,z⟩:=u.slot b o e n h1 h2;exact⟨sl,(hs.2 b (ne b o e)).trans z⟩
 ·obtain⟨o',z⟩:=u.there b o e h2;exact⟨o',(hs.2 b (ne b o e)).trans z⟩
def Un.new{fs ex H H1}{h h1:Heap}{a:Addr}{o}(u:Un fs ex H H1 h h1)(hn:H1 a=none)(ha:h.objs.size<=a):Un fs ex H (eS H1 a o) h h1 where
 keep:=u.keep
 slot:=u.slot
 free:=λb ob e n hx=>by rw[bT (cO (bR (aV e) ha))];exact u.free b ob e n hx
 there:=u.there
 tups:=λb xs e=>by have z:=u.tups b xs e;rw[bT (eJ z hn)];exact z
 frzs:=λb ob v e=>by have z:=u.frzs b ob v e;rw[bT (eJ z hn)];exact z
 tbls:=λb ps e=>by
  obtain⟨m,z⟩:=u.tbls b ps e;exact⟨m,by rw[bT (eJ z hn)];exact z⟩
theorem oF.new{P w H h}{a:Addr}{o}(x:oF P w H h)(hn:H a=none)(new:iE P w (eS H a o) h a o):oF P w (eS H a o) h:=λb u e=>by
 by_cases hb:b=a
 ·subst hb;rw[bS]at e;cases e;exact new
 ·rw[bT hb]at e;have st:∀c v,H c=some v->eS H a o c=some v:=λc v q=>by rw[bT (eJ q hn)];exact q
  exact(x b u e).stay (λc v _ q=>q) (λc q=>st _ _ q) (λc xs q=>st _ _ q) λc ob v q=>st _ _ q
noncomputable abbrev aCm(p:Pos):Arguments:={ posonlyargs:=[],args:=[{ arg:="entry",annotation:=none,pos:=p }],vararg:=none,kwonlyargs:=[],kw_defaults:=[],kwarg:=none,defaults:=[] }
def C7(K:aF)(H:Hp)(b:Int)(x:V)(k:Int):Prop:=∃(q:Addr)(x0 x1:V)(d:Addr)(top bot:Int),x=.ref q/\pA K H q [x0,x1,.ref d]/\pA K H d [.int top,.int bot]/\aGc b bot/\LD top (b / bot)/\k=top*(b / bot)
def C7.same{K}{H H':Hp}{b:Int}{x}{k:Int}(h:C7 K H b x k)(s:∀c u,H c=some u->H' c=some u):C7 K H' b x k:=by
 obtain⟨q,x0,x1,d,top,bot,h1,h2,h3,h4⟩:=h;exact⟨q,x0,x1,d,top,bot,h1,TL.aS.seqT s h2,TL.aS.seqT s h3,h4⟩
section
variable{p1 p2 p3 p4 p5 p6 p7 p8 p9 q1 q2 q3 q4:Pos}
def aEp{X:Cx}{A'}{q:Str}{f:Addr}{cd cl s H}{pins:List (Addr×Obj)}{s1 x}{b k:Int}(I:cN (HK X A' q f cd cl s H) [] [some x,some (.int b)] H s1)(h:C7 X.K H b x k) :
  wpAny (model X.prog X.w) (HK X A' q f cd cl s H).A (eval (.BinOp (.Subscript (.Subscript (.Name "entry" p1) (.Constant (.int 2) 0 p2) p3) (.Constant (.int 0) 0 p4) p5) .Mult (.BinOp (.Name "bottom" p6) .FloorDiv (.Subscript (.Subscript (.Name "entry" p7) (.Constant (.int 2) 0 p8) p9) (.Constant (.int 1) 0 q1) q2) q3) q4) (HK X A' q f cd cl s H).env)
   (EP (HK X A' q f cd cl s H) [] [some x,some (.int b)] λv H'=>v=.int k/\H'=H) (λ_ _=>False) s1:=by
 have pe:PE (HK X A' q f cd cl s H) (.BinOp (.Subscript (.Subscript (.Name "entry" p1) (.Constant (.int 2) 0 p2) p3) (.Constant (.int 0) 0 p4) p5) .Mult (.BinOp (.Name "bottom" p6) .FloorDiv (.Subscript (.Subscript (.Name "entry" p7) (.Constant (.int 2) 0 p8) p9) (.Constant (.int 1) 0 q1) q2) q3) q4) _:=
  G6 TB (sD bM (sD bM (pv 0) mH (by intro _ _;rfl)) mH (by intro _ _;rfl)) (G6 wD (pv 1) (sD bM (sD bM (pv 0) mH (by intro _ _;rfl)) mH (by intro _ _;rfl)))
 obtain⟨qa,x0,x1,d,top,bot,rfl,h1,h2,h3,h4,rfl⟩:=h;refine pe [] s1 _ H _ I ?_;refine⟨_,rfl,.inr (.inl ⟨qa,_,2,.ref d,rfl,rfl,h1,rfl,.inr (.inl ⟨d,_,0,.int top,rfl,rfl,h2,rfl,?_⟩)⟩)⟩;refine⟨_,rfl,_,rfl,.inr (.inl ⟨qa,_,2,.ref d,rfl,rfl,h1,rfl,.inr (.inl ⟨d,_,1,.int bot,rfl,rfl,h2,rfl,?_⟩)⟩)⟩;exact⟨b,bot,rfl,rfl,h3,top,b / bot,rfl,rfl,h4,rfl,rfl⟩
def aDw(K:aF)(ib:Nat)(ta:TA):TE:=λσ H Q=>ta σ H λvs H1=>∃(p:Addr)(xs:List V)(b:Int)(kz:List Int),vs=[.ref p]/\lM K H1 p xs/\xs.length<64/\σ[ib]?=some (some (.int b))/\kz.length=xs.length/\(∀(i:Nat) x k,xs[i]?=some x->kz[i]?=some k->C7 K H1 b x k) /\
 ∀H2,(∀c u,H1 c=some u->H2 c=some u)->∀(J:List Nat) r,SS.GH xs.length (λi=>kz.getD i 0) J->H2 r=none->Q (.ref r) (eS H2 r (.lst (J.map λi=>xs.getD i .non)))
def SY{X:Cx}{ib:Nat}{e ta}{k:Nat}{c P:Addr}{np lp ap kp pos}(hr:gM (k+3) X.A)(hT:tabA=some P)(hc:X.env.code=.ref c)(C:xW X.K c P=true)(hib:X.N[ib]?=some "bottom")(hk:X.env.kindOf "bottom"=some .cell)
  (hg:Gl X "sorted") (hm:X.mg "sorted"=none) (hv:bootBuiltins "sorted"=some (.builtin "sorted")) (ha:PA X [e] ta)
  (he:backTo pos (bL [e] X.env)=(false,eval e X.env)::backTo pos (bL [] X.env):=by rfl)
  (hpl:(backTo pos (bL [e] X.env)).any (·.1)=false:=by rfl) :
  PE X (.Call (.Name "sorted" np) [e] [⟨some (Str.ofString "key"),.Lambda (aCm ap) (.BinOp (.Subscript (.Subscript (.Name "entry" p1) (.Constant (.int 2) 0 p2) p3) (.Constant (.int 0) 0 p4) p5) .Mult (.BinOp (.Name "bottom" p6) .FloorDiv (.Subscript (.Subscript (.Name "entry" p7) (.Constant (.int 2) 0 p8) p9) (.Constant (.int 1) 0 q1) q2) q3) q4) wG lp,kp⟩] pos) (aDw X.K ib ta):=by
 intro pins s σ H Q I h;refine wpAny_Call_Name_kw (sI I hg hm hv ?_ (by decide) (by decide));refine callWith_kw (iU (ha pos pins s σ H _ I h) λus s1 zq=>?_) he hpl;obtain⟨vs,H1,I1,r1,q1⟩:=zq;obtain⟨p,xs,b,kz,rfl,hS,h128,hσ,hkz,hent,q⟩:=q1;obtain⟨u,rfl,ru⟩:=pC r1;cases ru
 have hcells:∀x∈wG.names,x.2=.free->∃c,X.env.cells.lookup x.1=some c:=λx hx hf=>by
  have hx':x=(Str.ofString "entry",NameKind.local)\/x=(Str.ofString "bottom",NameKind.free):=by simpa using hx
  rcases hx' with rfl | rfl
  ·cases hf
  ·exact I.ok.has "bottom" (.inl hk)
 refine kws_cons (PySem.W.kla_eval rfl (UK I1 hT hc (PySem.W.codeHd_of_K I.mod.kin C) hcells λH2 s2 f c' cl pm ctv I2 sH L hc1 hc2=>kws_nil ?_));obtain⟨cb,hcb⟩:=hc2 "bottom" (aI _ (aL ..));have hS2:lM X.K H2 p xs:=L2.aS.seq sH hS;obtain⟨its,rv,hpl,hz⟩:=I2.list hS2;have hlen:=rv.length;have hA:=I2.ok.frames;have room2:gM (k+1) X.A.in1.in1:=(gM.in1 (k:=k+2) hr).in1
 have nofr:∀b,s2.heap.objs.size<=b->b∉oE X.stack:=λb hb z=>by
  rcases aN.mp (I2.stkSub b z)with y | y
  ·rw[y]at hb;exact absurd I2.lt (WB.mpr hb)
  ·exact I2.nofs hb y
 let Tp:Shared->Prop:=λs'=>s'.os=s2.os/\AllBare s'.gens/\Un (oE X.stack) [] H2 H2 s2.heap s'.heap/\oF X.prog X.w H2 s'.heap
 have toI:∀s',Tp s'->cN X pins σ H2 s':=λs' t=>I2.call' (ch:=[]) t.1 t.2.2.1 t.2.2.2 t.2.1 (λb z=>absurd z (by simp))
 have T:SS.PK Tp s2.heap.objs.size:=by
  refine⟨λs' x h' tk t hx hs=>⟨t.1,t.2.1,t.2.2.1.butA hs hx,t.2.2.2.but (I2.hok.fresh hx) hs⟩,λs' o t=>⟨t.1,t.2.1,t.2.2.1.trans (Un.kept λb u e=>aC _ e),t.2.2.2.kept λb u e=>aC _ e⟩⟩
 have t0:Tp s2:=⟨rfl,I2.bare,Un.refl,I2.hok⟩;have nff:f∉oE X.stack:=L.nfr
 have turn:SS.lB X.prog X.w X.A.in1.in1 Tp s2.heap.objs.size f its kz:=λi v k0 s' hv hk0 t=>by
  have I':=toI s' t
  obtain⟨x,hx,rx⟩:∃x,xs[i]?=some x/\eZ x v:=by
   have hi:i<xs.length:=by rw[hlen];exact(aH.mp hv).1
   obtain⟨u,h1,h2⟩:=rv.get (aE hi);rw[hv]at h1;cases h1;exact⟨_,aE hi,h2⟩
  have ent:=(hent i x k0 hx hk0).same sH;obtain⟨m,hn,hl⟩:=I'.loc;obtain⟨ub,rub,lb⟩:=hl ib "bottom" (.int b) hib hσ (.inr (.inl hk));obtain⟨tb,rfl⟩:=rub
  have cell:s'.heap.IsCell cb (some (.int b tb)):=by
   rcases lb with⟨z,_⟩ | ⟨_,c0,z1,z2⟩
   ·rw[hk]at z;cases z
   ·have:=hc1 _ _ hcb;rw[this]at z1;cases z1;exact z2
  obtain⟨oc,P',w1,w2⟩:=L.trk;obtain⟨oc1,_⟩:=I'.hok c' _ w1;refine wpAny_call (O7 room2.depth I'.nolimit (t.2.2.1.keep f _ L.obj L.free nff (by simp)) rfl rfl rfl rfl oc1 w2 (binds:=[(Str.ofString "entry",v)]) rfl (λy hy=>?_) (λy hy=>?_) rfl rfl rfl λqn h1 hns kp=>?_)
  ·have hy':y=(Str.ofString "entry",NameKind.local)\/y=(Str.ofString "bottom",NameKind.free):=by simpa using hy
   rcases hy' with rfl | rfl<;>simp
  ·rw[bF.mp hy];rfl
  ·have J:=Y3 (q:=qn) (f:=f) (cd:=.ref c') (tk:=s'.toks+1) (A':=X.A.in1.in1) I' hA room2.hd hc1 hcb cell rx hns kp;refine dY (aEp (pins:=pins) J ent) (λu s3 hu=>?_) λ_ _ z=>z;obtain⟨v3,H3,J3,r3,rfl,rfl⟩:=hu;obtain⟨t3,rfl⟩:=r3;exact⟨t3,rfl,⟨J3.os.trans t.1,J3.bare,t.2.2.1.trans J3.base,J3.hok⟩,λb o hb e=>J3.base.keep b o e (I2.hok.fresh hb) (nofr b hb) (by simp[HK])⟩
 show wpAny (model X.prog X.w) X.A (call (.builtin "sorted") [.ref p] [(Str.ofString "key",.ref f)]) _ _ s2;refine SS.NV T t0 hpl.isList (aM _) (by rw[hkz,hlen]) (by rw[<- hlen];exact h128) turn λs' D out cc J t hD ho sb hout=>?_;have hDn:H2 D=none:=I2.hok.fresh hD;rw[<- hlen]at sb;have hL:(2:Nat)^24=bE:=rfl
 have vals:eW (J.map λi=>xs.getD i .non) out.toList:=by
  rw[hout]
  have:∀J:List Nat,(∀i∈J,i<xs.length)->eW (J.map λi=>xs.getD i .non) (J.map λi=>its.getD i .none):=by
   intro J hJ
   induction J with
   |nil=>exact .nil
   |cons j J ih=>
    refine .cons ?_ (ih λi hi=>hJ i (aI _ hi));have hj:=hJ j (aL ..);obtain⟨u,h1,h2⟩:=rv.get (aE hj);show eZ (xs.getD j .non) (its.getD j .none);rw[cX,cX,h1,aE hj];exact h2
  exact this J sb.lt
 refine⟨.ref D,_,I2.call' (ch:=[]) (s':=s') (H':=eS H2 D (.lst (J.map λi=>xs.getD i .non))) t.1 (t.2.2.1.new hDn hD) (t.2.2.2.new hDn ⟨?_,out.toList,cc,vals,?_⟩) t.2.1 (λb z=>absurd z (by simp)),rfl,q H2 sH J D sb hDn⟩
 ·rw[aA,sb.len,<- hL];omega
 ·simpa[seqObj]using ho
end
end L2
namespace TL
open L2
variable{K:aF}{H H' H1 H2:Hp}{B:Hp}{p0 ps:List Addr}{σT:List Sl}{σ:L2.St}
section
variable{X:Cx}{a b c e:Expr}{es:List Expr}{ta tb tc te:ET}{pos:Pos}
def K1{r r'}{f g:D->D->(D->Prop)->Prop}(h2:CP X r f)(h2':CP X r' g){va vb vc:TE}
  (ha:∀B p0 H ps σT σ (Q:D->Prop)(QV:VK),Ok X.K B p0 H ps σT σ->ta σT Q->(∀d v H',aS H H'->gD X.K (mask H' ps) d v->Q d->QV v H')->va σ H QV)
  (hb:∀B p0 H ps σT σ (Q:D->Prop)(QV:VK),Ok X.K B p0 H ps σT σ->tb σT Q->(∀d v H',aS H H'->gD X.K (mask H' ps) d v->Q d->QV v H')->vb σ H QV)
  (hc:∀B p0 H ps σT σ (Q:D->Prop)(QV:VK),Ok X.K B p0 H ps σT σ->tc σT Q->(∀d v H',aS H H'->gD X.K (mask H' ps) d v->Q d->QV v H')->vc σ H QV)
  (B:Hp) (p0:List Addr) (H:Hp) (ps:List Addr) (σT:List Sl) (σ:L2.St) (Q:D->Prop) (QV:VK) (o:Ok X.K B p0 H ps σT σ) (h:VH f g ta tb tc σT Q) (k:∀d v H',aS H H'->gD X.K (mask H' ps) d v->Q d->QV v H'):Q8 r r' va vb vc σ H QV:=by
 refine ha B p0 H ps σT σ _ _ o h λd1 x H1 s1 r1 q1=>?_;refine hb B p0 H1 ps σT σ _ _ (o.grow s1) q1 λd2 y H2 s2 r2 q2=>?_;refine h2 H2 ps d1 d2 x y _ _ ((o.grow s1).grow s2).live (r1.same (bH s2)) r2 q2 λd3 z H3 s3 r3 q3=>?_
 cases r3 with
 |bool c=>
  refine⟨c,rfl,?_⟩
  cases c with
  |false=>exact k _ _ H3 (s1.trans (s2.trans s3)) (.bool false) q3
  |true=>
   refine hc B p0 H3 ps σT σ _ _ (((o.grow s1).grow s2).grow s3) q3 λd4 w H4 s4 r4 q4=>?_;exact h2' H4 ps d2 d4 y w Q QV ((((o.grow s1).grow s2).grow s3).grow s4).live ((r2.same (bH s3)).same (bH s4)) r4 q4 λd v H' s' r' q'=>k d v H' (s1.trans (s2.trans (s3.trans (s4.trans s')))) r' q'
 |_=>exact q3.elim
def VE{op op' r r'}{f g:D->D->(D->Prop)->Prop}(ho:pB X (compareOp op) r)(ho':pB X (compareOp op') r')(h2:CP X r f)(h2':CP X r' g)(ha:gK X a ta)(hb:gK X b tb)(hc:gK X c tc)
  (hm:lastMarks [op,op'] [b,c]=false:=by with_unfolding_all rfl):gK X (.Compare a [op,op'] [b,c] pos) (VH f g ta tb tc):=by
 obtain⟨va,pa,ra⟩:=ha;obtain⟨vb,pb,rb⟩:=hb;obtain⟨vc,pc,rc⟩:=hc;exact⟨_,S7 ho ho' pa pb pc hm,K1 h2 h2' ra rb rc⟩
abbrev OT:=List Sl->(Option Int->Prop)->Prop
def POt(X:Cx)(e:Option Expr)(t:OT):Prop:=∃to:TO,PO X e to/\∀B p0 H ps σT σ (Q:Option Int->Prop)(QV:Option Int->Hp->Prop),Ok X.K B p0 H ps σT σ->t σT Q ->
 (∀i H',aS H H'->Q i->QV i H')->to σ H QV
def aJi:OT:=λ_ Q=>Q none
def aJh(t:ET):OT:=λσ Q=>t σ λx=>match x with | .int i=>Q (some i) | _=>False
def kZ:POt X none aJi:=⟨_,X4,λ_ _ H _ _ _ _ _ _ h k=>k _ H (L2.aS.refl H) h⟩
def iO(h:gK X e te):POt X (some e) (aJh te):=by
 obtain⟨v,p,r⟩:=h;refine⟨_,X3 p,λB p0 H ps σT σ Q QV o h k=>r B p0 H ps σT σ _ _ o h λd x H1 s1 r1 q1=>?_⟩
 cases r1 with
 |int i=>exact⟨i,rfl,k _ H1 s1 q1⟩
 |_=>exact q1.elim
def SlT(X:Cx)(r:V->Option Int->Option Int->Hp->VK->Prop)(f:D->Option Int->Option Int->(D->Prop)->Prop):Prop:=∀H ps(d:D)(x:V)(lo hi:Option Int)(Q:D->Prop)QV,(∀p∈ps,yO (H p))->gD X.K (mask H ps) d x->f d lo hi Q ->
 (∀d v H',aS H H'->gD X.K (mask H' ps) d v->Q d->QV v H')->r x lo hi H QV
def eSl(f:D->Option Int->Option Int->(D->Prop)->Prop)(t:ET)(tl th:OT):ET:=λσ Q=>t σ λx=>tl σ λl=>th σ λu=>f x l u Q
def iL{r:V->Option Int->Option Int->Hp->VK->Prop}{f:D->Option Int->Option Int->(D->Prop)->Prop}{lo hi tl th p2}(hr:V4 X r)(h2:SlT X r f)(he:gK X e te)(hl:POt X lo tl)(hu:POt X hi th) :
  gK X (.Subscript e (.Slice lo hi none p2) pos) (eSl f te tl th):=by
 obtain⟨ve,pe,re⟩:=he;obtain⟨vl,pl,rl⟩:=hl;obtain⟨vu,pu,ru⟩:=hu;refine⟨_,S0 hr pe pl pu,λB p0 H ps σT σ Q QV o h k=>re B p0 H ps σT σ _ _ o h λd x H1 s1 r1 q1=>?_⟩;refine rl B p0 H1 ps σT σ _ _ (o.grow s1) q1 λl H2 s2 q2=>?_;refine ru B p0 H2 ps σT σ _ _ ((o.grow s1).grow s2) q2 λu H3 s3 q3=>?_;exact h2 H3 ps d x l u Q QV (((o.grow s1).grow s2).grow s3).live ((r1.same (bH s2)).same (bH s3)) q3 λd v H' s' r' q'=>k d v H' (s1.trans (s2.trans (s3.trans s'))) r' q'
variable{st:Stmt}{kD:List Stmt}{t u:vH}
def kC:vH:=λDT σ=>DT.nx σ
def jA(t u:vH):vH:=λDT σ=>t { DT with nx:=u DT } σ
def gZ:uA X [] kC:=⟨_,L7,λB p0 H ps σT σ DT DV o h f=>f.nx H ps σT σ o (L2.aS.refl _) h⟩
def bC(h1:AM X st t)(h2:uA X kD u):uA X (st::kD) (jA t u):=by
 obtain⟨v1,p1,r1⟩:=h1;obtain⟨v2,p2,r2⟩:=h2;refine⟨_,mG p1 p2,λB p0 H ps σT σ DT DV o h f=>r1 B p0 H ps σT σ { DT with nx:=u DT } { DV with nx:=v2 DV } o h ⟨λH' ps' σT' σ' o' s' q'=>?_,f.bk,f.ct,f.rt,f.ro,f.rp,f.rq,f.xb⟩⟩;exact r2 B p0 H' ps' σT' σ' DT DV o' q' (f.later s')
def cA(h1:AM X st t):uA X [st] t:=by
 obtain⟨v1,p1,r1⟩:=h1;exact⟨_,E8 p1,r1⟩
def aEd(i:Nat)(t:vH):vH:=λDT σ=>∃ts,σ[i]?=some (.own ts)/\t DT (σ.set i (.val (.list ts)))
def rR{sts}(i:Nat)(h:uA X sts t):uA X sts (aEd i t):=by
 obtain⟨v,p,r⟩:=h;refine⟨_,p,λB p0 H ps σT σ DT DV o h f=>?_⟩;obtain⟨ts,e,h⟩:=h;obtain⟨ps',o',s'⟩:=o.share e;exact r B p0 H ps' _ σ DT DV o' h (f.later s')
def JS(te:ET):vH:=λDT σ=>te σ DT.rt
def dO(h:gK X e te):AM X (.Return (some e) pos) (JS te):=by
 obtain⟨v,p,r⟩:=h;refine⟨_,BD p,λB p0 H ps σT σ DT DV o h f=>r B p0 H ps σT σ _ _ o h λd x H' s' r' q'=>?_⟩;exact f.rt d x H' (o.base.trans s') (r'.same (gF o.sub)) q'
def sIf(c:vN)(t u:vH):vH:=λDT σ=>c σ λb=>if b=true then t DT σ else u DT σ
def jP{c a b tc}(hc:IV X c tc)(ha:uA X a t)(hb:uA X b u):AM X (.If c a b pos) (sIf tc t u):=by
 obtain⟨vc,pc,rc⟩:=hc;obtain⟨va,pa,ra⟩:=ha;obtain⟨vb,pb,rb⟩:=hb;refine⟨_,aCc pc pa pb,λB p0 H ps σT σ DT DV o h f=>rc B p0 H ps σT σ _ _ o h λd H1 s1 q1=>?_⟩
 cases d with
 |true=>exact ra B p0 H1 ps σT σ DT DV (o.grow s1) q1 (f.later (bH s1))
 |false=>exact rb B p0 H1 ps σT σ DT DV (o.grow s1) q1 (f.later (bH s1))
def GZ(i:Nat)(te:ET):vH:=λDT σ=>te σ λd=>DT.nx (σ.set i (.val d))
def RH{i:Nat}{x pos'}(h:gK X e te)(ps':∀{v},PE X e v->PS X (.Assign [.Name x pos'] e pos) (tW v (lF i))):AM X (.Assign [.Name x pos'] e pos) (GZ i te):=by
 obtain⟨v,p,r⟩:=h;refine⟨_,ps' p,λB p0 H ps σT σ DT DV o h f=>r B p0 H ps σT σ _ _ o h λd x H' s' r' q'=>?_⟩;exact f.nx H' ps _ _ ((o.grow s').set r') (bH s') q'
def aEe(i:Nat)(t:AT):vH:=λDT σ=>t σ λds=>ds.length<=1000/\DT.nx (σ.set i (.own ds))
def aD2{i:Nat}{x pos' p2 t}(h:vK X es t)(ps':∀{v},PE X (.List es p2) v->PS X (.Assign [.Name x pos'] (.List es p2) pos) (tW v (lF i))):AM X (.Assign [.Name x pos'] (.List es p2) pos) (aEe i t):=by
 obtain⟨v,p,r⟩:=h;refine⟨_,ps' (FA p),λB p0 H ps σT σ DT DV o h f=>r B p0 H ps σT σ _ _ o h λds xs H1 s1 r1 q1=>⟨qT (by rw[<- r1.length];exact q1.1),λq hq=>?_⟩⟩;exact f.nx _ (q::ps) _ _ ((o.grow s1).setOwn hq r1) ((bH s1).trans (by rw[kT hq];exact L2.aS.refl _)) q1.2
def aHt(i:Nat)(te:ET):vH:=λDT σ=>∃ts,σ[i]?=some (.own ts)/\te σ λd=>ts.length<=100000/\DT.nx (σ.set i (.own (ts++[d])))
def EU{i:Nat}{n e te ap cp}(hn:PE X n (oI i))(he:gK X e te)(hs:bL [e] X.env=(false,eval e X.env)::bL [] X.env:=by rfl)
  (pb:∀{ta},PA X [e] ta->PS X (.Expr (.Call (.Attribute n "append" ap) [e] [] cp) pos) (DK (Q9 X.K "list" E6 (oI i) ta))):AM X (.Expr (.Call (.Attribute n "append" ap) [e] [] cp) pos) (aHt i te):=by
 obtain⟨v,p,r⟩:=he;refine⟨_,pb (cL p gL hs),λB p0 H ps σT σ DT DV o h f=>?_⟩;obtain⟨ts,e,h⟩:=h;obtain⟨q,xs,h1,h2,h3,h4,h5,h6⟩:=o.own i ts e;refine⟨.ref q,h1,.inl ⟨rfl,xs,lM.of h5⟩,r B p0 H ps σT σ _ _ o h λd x H1 s1 r1 q1=>?_⟩;refine⟨q,xs,x,rfl,rfl,s1 _ _ h5,?_,?_⟩
 ·rw[<- h6.length];have:bE=2^24:=rfl;omega
 ·have o1:=o.grow s1;have hr:Reps X.K (mask H1 ps) (ts++[d]) (xs++[x]):=(h6.same (bH s1)).append (.cons r1 .nil);exact f.nx _ ps _ σ (o1.write (ys:=xs++[x]) e h1 hr) ((bH s1).trans (by rw[fB h2];exact L2.aS.refl _)) q1.2
noncomputable def GX(x:Str):List D:=x.cps.toList.map λc=>.str ⟨#[c]⟩
noncomputable def MN:D->Option (List D)
|.list ts=>some ts
|.tuple ts=>some ts
|.str x=>some (GX x)
|_=>none
def nW(σ:List Sl):Prop:=∀(i:Nat)(s:Sl),(∀d,s≠.val d)->s≠.un->σ[i]?≠some s
def oH{σ:List Sl}(h:nW σ)(i:Nat)(d:D):nW (σ.set i (.val d)):=λj s hv hu e=>by
 by_cases z:i=j
 ·subst z;have hi:i<σ.length:=by simpa using(aH.mp e).1
  rw[bB hi]at e;exact hv d (Option.some.inj e).symm
 ·rw[aU z]at e;exact h j s hv hu e
theorem nW.own{σ}(h:nW σ)(i:Nat)(ts:List D):σ[i]?≠some (.own ts):=h i _ (λ_ z=>nomatch z) λz=>nomatch z
theorem nW.dic{σ}(h:nW σ)(i:Nat)(hs:List Int)(kvs:List (D×D)):σ[i]?≠some (.dic hs kvs):=h i _ (λ_ z=>nomatch z) λz=>nomatch z
abbrev GT:=D->List Sl->(List Sl->Prop)->Prop
def M9(X:Cx)(tg:Expr)(g:GT):Prop:=∃gv:TG,PG X tg gv/\∀B p0 H ps σT σ (d:D)(v:V)(Q:List Sl->Prop)(QV:L2.St->Hp->Prop),Ok X.K B p0 H ps σT σ->gD X.K (mask H ps) d v->g d σT Q ->
 (∀σT' σ',Ok X.K B p0 H ps σT' σ'->(nW σT->nW σT')->Q σT'->QV σ' H)->gv v σ H QV
def gN(i:Nat):GT:=λd σ Q=>Q (σ.set i (.val d))
def eN{i:Nat}{x p}(h:PG X (.Name x p) (lF i)):M9 X (.Name x p) (gN i):=
 ⟨_,h,λB p0 H ps σT σ d v Q QV o r h k=>k _ _ (o.set r) (λn=>oH n _ _) h⟩
def gP(i j:Nat):GT:=λd σ Q=>∃a b,d=.tuple [a,b]/\Q ((σ.set i (.val a)).set j (.val b))
def tM{i j:Nat}{t}(h:PG X t (aFl X.K 2 (D1 (lF i) (D1 (lF j) aFn)))):M9 X t (gP i j):=
 ⟨_,h,λB p0 H ps σT σ d v Q QV o r h k=>by
  obtain⟨a,b,rfl,h⟩:=h
  cases r with
  |@tuple p xs _ hq r=>
   cases r with
   |cons ra r=>
    cases r with
    |cons rb r=>
     cases r;exact⟨_,_,rfl,aS.seqT bN hq,rfl,_,_,rfl,_,_,rfl,rfl,k _ _ ((o.set ra).set rb) (λn=>oH (oH n _ _) _ _) h⟩⟩
structure ZW(K:aF)(Hs:Hp)(ts:List D)(J:It):Prop where
 stop:∀(i:Nat)H,aS Hs H->ts.length<=i->J.stop i H
 go:∀(i:Nat)H,aS Hs H->i<ts.length->J.go i H
 yld:∀(i:Nat)H ps(y:V)H',(∀p∈ps,yO (H p))->aS Hs (mask H ps)->i<ts.length->J.yld i H y H'->aS H H'/\∃dx,ts[i]?=some dx/\gD K (mask H' ps) dx y
abbrev IT:=List Sl->(List D->Prop)->Prop
def K6(X:Cx)(tg iter:Expr)(t:IT):Prop:=∃wi:TI,PI X tg iter wi/\∀B p0 H ps σT σ (Q:List D->Prop)(R:It->Hp->Prop),Ok X.K B p0 H ps σT σ->t σT Q ->
 (∀ts J H',aS H H'->ZW X.K (mask H' ps) ts J->Q ts->R J H')->wi σ H R
def aMj(te:ET):IT:=λσ Q=>te σ λd=>∃ts,MN d=some ts/\Q ts
def XY{x d ts Hs}(r:gD K Hs d x)(hi:MN d=some ts){R:It->Hp->Prop}(hs:aS Hs H1)(h:∀J:It,ZW K Hs ts J->R J H1) :
  (∃a,x=.ref a/\(∃xs,lM K H1 a xs)/\R (Itl K a) H1)\/(∃a,x=.ref a/\(∃xs,pA K H1 a xs)/\R (Itt K a) H1)\/∃z,x=.str z/\R (Its z) H1:=by
 cases r with
 |@list p xs us q rs=>
  obtain rfl:us=ts:=Option.some.inj hi;refine .inl ⟨p,rfl,⟨xs,L2.aS.seq hs q⟩,h _ ⟨λi H e hl=>⟨xs,L2.aS.seq e q,by rw[<- rs.length];exact hl⟩,λi H e hl=>?_,λi H ps y H' _ e hl hy=>?_⟩⟩
  ·obtain⟨v,hv,_⟩:=rs.get (aE hl);exact⟨xs,v,L2.aS.seq e q,hv⟩
  ·obtain⟨rfl,hy⟩:=hy;obtain⟨dx,h1,h2⟩:=rs.get' (hy xs (L2.aS.seq (e.trans bN) q));exact⟨L2.aS.refl _,dx,h1,h2.same e⟩
 |@tuple p xs us q rs=>
  obtain rfl:us=ts:=Option.some.inj hi;refine .inr (.inl ⟨p,rfl,⟨xs,aS.seqT hs q⟩,h _ ⟨λi H e hl=>⟨xs,aS.seqT e q,by rw[<- rs.length];exact hl⟩,λi H e hl=>?_,λi H ps y H' _ e hl hy=>?_⟩⟩)
  ·obtain⟨v,hv,_⟩:=rs.get (aE hl);exact⟨xs,v,aS.seqT e q,hv⟩
  ·obtain⟨rfl,hy⟩:=hy;obtain⟨dx,h1,h2⟩:=rs.get' (hy xs (aS.seqT (e.trans bN) q));exact⟨L2.aS.refl _,dx,h1,h2.same e⟩
 |str z=>
  obtain rfl:GX z=ts:=Option.some.inj hi;have hl:(GX z).length=z.cps.size:=by unfold GX;simp
  refine .inr (.inr ⟨z,rfl,h _ ⟨λi H _ e=>by rw[hl]at e;exact e,λi H _ e=>by rw[hl]at e;exact e,λi H ps y H' _ _ e hy=>?_⟩⟩);obtain⟨rfl,c,h2,rfl⟩:=hy;refine⟨L2.aS.refl _,.str ⟨#[c]⟩,?_,.str _⟩;unfold GX;rw[aK];have:z.cps.toList[i]?=some c:=by simpa using h2
  rw[this];rfl
 |_=>cases hi
def fZ{tg}(he:gK X e te):K6 X tg e (aMj te):=by
 obtain⟨ve,pe,re⟩:=he;refine⟨_,aEl pe,λB p0 H ps σT σ Q R o h k=>re B p0 H ps σT σ _ _ o h λd x H1 s1 r1 q1=>?_⟩;obtain⟨ts,hi,q⟩:=q1;exact XY r1 hi bN λJ rj=>k ts J H1 s1 rj q
noncomputable def fC(n:Nat):List D:=(fQ n).map λ(k:Nat)=>bI (k:Int)
def aFi(t:AT):IT:=λσ Q=>t σ λds=>∃n:Int,ds=[.int n]/\-(2^62)<=n/\n<2^62/\Q (fC n.toNat)
def sJ{tg e t p p'}(ha:vK X [e] t)(pr:∀{ta},PA X [e] ta->PI X tg (.Call (.Name "range" p) [e] [] p') (aCp ta)):K6 X tg (.Call (.Name "range" p) [e] [] p') (aFi t):=by
 obtain⟨va,pa,ra⟩:=ha;refine⟨_,pr pa,λB p0 H ps σT σ Q R o h k=>ra B p0 H ps σT σ _ _ o h λds xs H1 s1 r1 q1=>?_⟩;obtain⟨n,rfl,h1,h2,q⟩:=q1
 cases r1 with
 |cons r1 r2=>
  cases r2;cases r1;refine⟨n,rfl,h1,h2,k (fC n.toNat) _ H1 s1 ?_ q⟩;have hl:(fC n.toNat).length=n.toNat:=by unfold fC;simp
  refine⟨λi H _ e=>by rw[hl]at e;exact e,λi H _ e=>by rw[hl]at e;exact e,λi H ps y H' _ _ e hy=>?_⟩;obtain⟨rfl,rfl⟩:=hy;have ei:(0:Int)+(i:Int)=(i:Int):=by omega
  rw[ei];rw[hl]at e;refine⟨L2.aS.refl _,.int i,?_,.int _⟩;unfold fC;rw[aK,jU e];rfl
def R4(ti:IT)(g:GT)(tb:vH):vH:=λDT σ=>ti σ λts=>∃P:Nat->List Sl->Prop,P 0 σ /\
 (∀(k:Nat)(x:D)σ',ts[k]?=some x->P k σ'->g x σ' λσ2=>tb { DT with nx:=P (k+1),ct:=P (k+1),bk:=DT.nx } σ2)/\∀σ',P ts.length σ'->DT.nx σ'
def aD3{tg iter body g tb ti}(he:K6 X tg iter ti)(hg:M9 X tg g)(hb:uA X body tb)
  (pf:∀{wi gv bv},PI X tg iter wi->PG X tg gv->yN X body bv->PS X (.For tg iter body [] pos) (aDy wi gv bv)):AM X (.For tg iter body [] pos) (R4 ti g tb):=by
 obtain⟨ve,pe,re⟩:=he;obtain⟨gv,pg,rg⟩:=hg;obtain⟨vb,pb,rb⟩:=hb;refine⟨_,pf pe pg pb,λB p0 H ps σT σ DT DV o h f=>re B p0 H ps σT σ _ _ o h λts J H1 s1 rj q1=>?_⟩;obtain⟨P,h0,hs,hd⟩:=q1;refine⟨λi m σ' H'=>m=ts.length-i/\i<=ts.length/\∃ps' σT',Ok X.K B p0 H' ps' σT' σ'/\aS (mask H1 ps) (mask H' ps')/\P i σT',⟨_,rfl,cT _,ps,σT,o.grow s1,L2.aS.refl _,h0⟩,?_⟩;rintro i m σ' H' ⟨rfl,hle,ps',σT',o',s',p'⟩;have sH:aS (mask H1 ps) H':=s'.trans bN;have f':F3 X.K B p0 H' ps' DT DV:=f.later ((bH s1).trans s');by_cases hlt:i<ts.length
 ·refine .inr ⟨rj.go i H' sH hlt,λσ2 H2=>∃ps2 σT2,Ok X.K B p0 H2 ps2 σT2 σ2/\aS (mask H1 ps) (mask H2 ps2)/\P (i+1) σT2,λσ2 H2 z=>⟨ts.length-(i+1),by omega,rfl,hlt,z⟩,λy H2 hy'=>?_⟩;obtain⟨s2,dx,hx,rx⟩:=rj.yld i H' ps' y H2 o'.live s' hlt hy';have f2:=f'.later (bH (ps:=ps') s2);have s'':aS (mask H1 ps) (mask H2 ps'):=s'.trans (bH s2);refine rg B p0 H2 ps' σT' σ' dx y _ _ (o'.grow s2) rx (hs i dx σT' hx p') λσT3 σ3 o3 _ q3=>?_;exact rb B p0 H2 ps' σT3 σ3 _ _ o3 q3 ⟨λH4 ps4 σT4 σ4 o4 s4 q4=>⟨ps4,σT4,o4,s''.trans s4,q4⟩,λH4 ps4 σT4 σ4 o4 s4 q4=>f2.nx H4 ps4 σT4 σ4 o4 s4 q4,λH4 ps4 σT4 σ4 o4 s4 q4=>⟨ps4,σT4,o4,s''.trans s4,q4⟩,f2.rt,f2.ro,f2.rp,f2.rq,f2.xb⟩
 ·obtain rfl:i=ts.length:=by omega
  exact .inl ⟨rj.stop _ H' sH (aM _),f'.nx H' ps' σT' σ' o' (L2.aS.refl _) (hd σT' p')⟩
noncomputable def IN(σ:List Sl):Option Nat->Sl
|none=>.un
|some j=>match σ[j]? with | some (.val d)=>.val d | _=>.un
noncomputable def jQ(fr:List (Option Nat))(σ:List Sl):List Sl:=fr.map (IN σ)
def O9{σ q d}(h:IN σ q=.val d):∃j,q=some j/\σ[j]?=some (.val d):=by
 cases q with
 |none=>cases h
 |some j=>
  refine⟨j,rfl,?_⟩;unfold IN at h;dsimp only at h;split at h
  ·next e=>cases h;exact e
  ·cases h
def PB{σ q s}(hv:∀d,s≠.val d)(hu:s≠.un):IN σ q≠s:=λh=>by
 cases q with
 |none=>exact hu h.symm
 |some j=>
  unfold IN at h;dsimp only at h;split at h
  ·exact hv _ h.symm
  ·exact hu h.symm
def pX(fr:List (Option Nat))(σ:List Sl):nW (jQ fr σ):=λi s hv hu h=>by
 unfold jQ at h;rw[aK]at h
 cases hf:fr[i]? with
 |none=>rw[hf]at h;cases h
 |some q=>
  rw[hf]at h;exact PB hv hu (Option.some.inj h)
def Ok.blk(o:Ok K B p0 H ps σT σ)(fr:List (Option Nat)):Ok K B p0 H ps (jQ fr σT) (wJ fr σ) where
 base:=o.base
 sub:=o.sub
 live:=o.live
 len:=by unfold jQ wJ;simp
 val:=λi d h=>by
  unfold jQ at h;rw[aK]at h
  cases hf:fr[i]? with
  |none=>rw[hf]at h;cases h
  |some q=>
   rw[hf]at h;obtain⟨j,rfl,e⟩:=O9 (Option.some.inj h);obtain⟨v,h1,h2⟩:=o.val j d e;refine⟨v,?_,h2⟩;unfold wJ;rw[aK,hf];simp[h1]
 own:=λi ts h=>absurd h ((pX fr σT).own i ts)
 dis:=λi j ts us p h=>absurd h ((pX fr σT).own i ts)
 dc:=λi hs kvs h=>absurd h ((pX fr σT).dic i hs kvs)
def Ok.adopt(o:Ok K B p0 H ps σT σ){p:Addr}{u}(hp:H p=none)(hu:Y1 u=false:=by rfl):Ok K B p0 (eS H p u) (p::ps) σT σ:=by
 have hm:mask (eS H p u) (p::ps)=mask H ps:=kT hp;refine⟨o.base.trans (cZ hp),λq hq=>aI _ (o.sub q hq),λq hq=>?_,o.len,λi d h=>by rw[hm];exact o.val i d h,λi ts h=>?_,o.dis,o.dc.to (λj hs kvs h=>⟨h,rfl⟩) (λq φ a b _=>⟨aI _ a,bT λz=>by rw[z,hp]at b;cases b⟩) (λq φ _ _ a b=>⟨a,b⟩) (by rw[hm];exact L2.aS.refl _)⟩
 ·by_cases e:q=p
  ·subst e;rw[bS];exact⟨_,rfl,hu⟩
  ·rw[bT e];rcases aN.mp hq with z | z
   ·exact absurd z e
   ·exact o.live q z
 ·rw[hm];obtain⟨q,xs,h1,h2,h3,h4,h5,h6⟩:=o.own i ts h;exact⟨q,xs,h1,aI _ h2,h3,h4,by rw[bT λz=>by rw[z,hp]at h5;cases h5];exact h5,h6⟩
def Ok.aside(o:Ok K B p0 H ps σT σ){q:Addr}{u}(hp:q∈ps)(hB:B q=none)(hn:nW σT)(hu:Y1 u=false:=by rfl):Ok K B p0 (eS H q u) ps σT σ where
 base:=λb w e=>by
  rw[bT λz=>by rw[z,hB]at e;cases e];exact o.base b w e
 sub:=o.sub
 live:=λp hp'=>by
  by_cases e:p=q
  ·subst e;rw[bS];exact⟨_,rfl,hu⟩
  ·rw[bT e];exact o.live p hp'
 len:=o.len
 val:=λi d h=>by rw[fB hp];exact o.val i d h
 own:=λi ts h=>absurd h (hn.own i ts)
 dis:=λi j ts us p h=>absurd h (hn.own i ts)
 dc:=λi hs kvs h=>absurd h (hn.dic i hs kvs)
def F2(X:Cx)(ifs:List Expr)(t:vN):Prop:=∃tt:TT,PM X ifs tt/\∀B p0 H ps σT σ (Q:Bool->Prop)(QV:Bool->Hp->Prop),Ok X.K B p0 H ps σT σ->t σT Q ->
 (∀b H',aS H H'->Q b->QV b H')->tt σ H QV
def CK:vN:=λ_ Q=>Q true
def iG:F2 X [] CK:=⟨_,X6,λ_ _ H _ _ _ _ _ _ h k=>k _ H (L2.aS.refl H) h⟩
def FI{t}(h:IV X e t):F2 X [e] t:=by
 obtain⟨v,p,r⟩:=h;exact⟨_,X5 p,r⟩
def P5(fr:List (Option Nat))(ti:IT)(g:GT)(tt:vN)(te:ET):ET:=λσ Q=>ti σ λts=>ts.length<=100000/\∃P:Nat->List Sl->List D->Prop,P 0 (jQ fr σ) [] /\
 (∀(k:Nat)(x:D)σ'(ds:List D),ts[k]?=some x->P k σ' ds->g x σ' λσ2=>tt σ2 λb=>if b=true then te σ2 λy=>P (k+1) σ2 (ds++[y])else P (k+1) σ2 ds)/\∀σ' ds,P ts.length σ' ds->Q (.list ds)
def YO{fr}{ti:IT}{g:GT}{tt:vN}{te:ET}{wi:TI}{gv:BP->TG}{vt:BP->TT}{ve:BP->TE}
  (ri:∀B p0 H ps σT σ (Q:List D->Prop)(R:It->Hp->Prop),Ok X.K B p0 H ps σT σ->ti σT Q->(∀ts J H',aS H H'->ZW X.K (mask H' ps) ts J->Q ts->R J H')->wi σ H R)
  (rg:∀(bp:BP)B p0 H ps σT σ(d:D)(v:V)(Q:List Sl->Prop)(QV:L2.St->Hp->Prop),Ok X.K B p0 H ps σT σ->gD X.K (mask H ps) d v->g d σT Q->(∀σT' σ',Ok X.K B p0 H ps σT' σ'->(nW σT->nW σT')->Q σT'->QV σ' H)->gv bp v σ H QV)
  (rt:∀(bp:BP)B p0 H ps σT σ(Q:Bool->Prop)(QV:Bool->Hp->Prop),Ok X.K B p0 H ps σT σ->tt σT Q->(∀b H',aS H H'->Q b->QV b H')->vt bp σ H QV)
  (re:∀(bp:BP)B p0 H ps σT σ(Q:D->Prop)QV,Ok X.K B p0 H ps σT σ->te σT Q->(∀d v H',aS H H'->gD X.K (mask H' ps) d v->Q d->QV v H')->ve bp σ H QV)
  (B:Hp) (p0:List Addr) (H:Hp) (ps:List Addr) (σT:List Sl) (σ:L2.St) (Q:D->Prop) (QV:VK) (o:Ok X.K B p0 H ps σT σ) (h:P5 fr ti g tt te σT Q) (k:∀d v H',aS H H'->gD X.K (mask H' ps) d v->Q d->QV v H'):Q6 fr wi gv vt ve σ H QV:=by
 refine ri B p0 H ps σT σ _ _ o h λts J H1 s1 rj q1=>?_;obtain⟨hz,P,h0,hs,hd⟩:=q1;intro bp acc hacc
 have hBacc:B acc=none:=by
  cases q:B acc with
  |none=>rfl
  |some u=>rw[(o.grow s1).base acc u q]at hacc;cases hacc
 have hnps:acc∉ps:=hV (o.grow s1).live hacc
 refine⟨λi m σ' H'=>m=ts.length-i/\i<=ts.length/\∃σT' ds ys,Ok X.K B p0 H' (acc::ps) σT' σ'/\nW σT'/\H' acc=some (.lst ys)/\ds.length<=i/\Reps X.K (mask H' (acc::ps)) ds ys/\aS (mask H1 ps) (mask H' (acc::ps))/\aS H1 H'/\P i σT' ds,
  ⟨_,rfl,cT _,jQ fr σT,[],[],((o.grow s1).blk fr).adopt hacc,pX fr σT,bS,aM _,.nil,by rw[kT hacc];exact L2.aS.refl _,cZ hacc,h0⟩,?_⟩
 rintro i m σ' H' ⟨rfl,hle,σT',ds,ys,o',n',ha,hl,hr,s',sF,p'⟩;have hL:bE=2^24:=rfl;by_cases hlt:i<ts.length
 ·refine .inr ⟨rj.go i H' (s'.trans bN) hlt,λy H2 hy=>?_⟩;obtain⟨s2,dx,hx,rx⟩:=rj.yld i H' (acc::ps) y H2 o'.live s' hlt hy;refine rg bp B p0 H2 (acc::ps) σT' σ' dx y _ _ (o'.grow s2) rx (hs i dx σT' ds hx p') λσT3 σ3 o3 n3 q3=>?_;refine rt bp B p0 H2 (acc::ps) σT3 σ3 _ _ o3 q3 λb H4 s4 q4=>?_;have s24:=s2.trans s4
  cases b with
  |false=>
   exact⟨ts.length-(i+1),by omega,rfl,hlt,σT3,ds,ys,o3.grow s4,n3 n',s24 _ _ ha,by omega,hr.same (bH s24),s'.trans (bH s24),sF.trans s24,q4⟩
  |true=>
   refine re bp B p0 H4 (acc::ps) σT3 σ3 _ _ (o3.grow s4) q4 λd v H5 s5 r5 q5=>?_;have s25:=s24.trans s5;have hm:mask (eS H5 acc (.lst (ys++[v]))) (acc::ps)=mask H5 (acc::ps):=fB (aL ..);refine⟨ys,s25 _ _ ha,by rw[<- hr.length];omega,ts.length-(i+1),by omega,rfl,hlt,σT3,ds++[d],ys++[v],((o3.grow s4).grow s5).aside (aL ..) hBacc (n3 n'),n3 n',bS,by rw[bQ,nH];omega,?_,?_,?_,q5⟩
   ·rw[hm];exact(hr.same (bH s25)).append (.cons r5 .nil)
   ·rw[hm];exact s'.trans (bH s25)
   ·intro b u e;have ne:b≠acc:=λz=>by rw[z,hacc]at e;cases e
    rw[bT ne];exact(sF.trans s25) b u e
 ·obtain rfl:i=ts.length:=by omega
  refine .inl ⟨rj.stop _ H' (s'.trans bN) (aM _),k (.list ds) _ H' (s1.trans sF) (.list (lM.of (jY hnps ha)) (hr.same (gF λp hp=>aI _ hp))) (hd σT' ds p')⟩
def UH{elt iter tg ifs scope fr N' ti g tt te}(hi:K6 X tg iter ti)
  (hY:∀b:BP,M9 (blk X scope N' b) tg g/\F2 (blk X scope N' b) ifs tt/\gK (blk X scope N' b) elt te) {M:(TE)->Prop}
  (fin:∀{wi}{gv:BP->TG}{vt:BP->TT}{ve:BP->TE},PI X tg iter wi->(∀b:BP,PG (blk X scope N' b) tg (gv b)/\PM (blk X scope N' b) ifs (vt b)/\PE (blk X scope N' b) elt (ve b))->M (Q6 fr wi gv vt ve)) :
  ∃v:TE,M v/\∀B p0 H ps σT σ (Q:D->Prop)(QV:VK),Ok X.K B p0 H ps σT σ->P5 fr ti g tt te σT Q ->
   (∀d v H',aS H H'->gD X.K (mask H' ps) d v->Q d->QV v H')->v σ H QV:=by
 obtain⟨wi,pi,ri⟩:=hi;refine⟨_,fin (gv:=λb=>Classical.choose (hY b).1) (vt:=λb=>Classical.choose (hY b).2.1) (ve:=λb=>Classical.choose (hY b).2.2) pi λb=>⟨(Classical.choose_spec (hY b).1).1,(Classical.choose_spec (hY b).2.1).1,(Classical.choose_spec (hY b).2.2).1⟩,?_⟩;exact YO ri (λb=>(Classical.choose_spec (hY b).1).2) (λb=>(Classical.choose_spec (hY b).2.1).2) λb=>(Classical.choose_spec (hY b).2.2).2
def aJ4{elt iter tg ifs scope fr N' ti g tt te}(hi:K6 X tg iter ti)
  (hY:∀b:BP,M9 (blk X scope N' b) tg g/\F2 (blk X scope N' b) ifs tt/\gK (blk X scope N' b) elt te)
  (pl:∀{wi}{gv:BP->TG}{vt:BP->TT}{ve:BP->TE},PI X tg iter wi->(∀b:BP,PG (blk X scope N' b) tg (gv b)/\PM (blk X scope N' b) ifs (vt b)/\PE (blk X scope N' b) elt (ve b))->PE X (.ListComp elt [⟨tg,iter,ifs,0⟩] scope pos) (Q6 fr wi gv vt ve)) :
  gK X (.ListComp elt [⟨tg,iter,ifs,0⟩] scope pos) (P5 fr ti g tt te):=UH hi hY pl
def mZ{i:Nat}{x px spos elt iter tg ifs scope fr N' ti g tt te}(hi:K6 X tg iter ti)
  (hY:∀b:BP,M9 (blk X scope N' b) tg g/\F2 (blk X scope N' b) ifs tt/\gK (blk X scope N' b) elt te)
  (pl:∀{wi}{gv:BP->TG}{vt:BP->TT}{ve:BP->TE},PI X tg iter wi->(∀b:BP,PG (blk X scope N' b) tg (gv b)/\PM (blk X scope N' b) ifs (vt b)/\PE (blk X scope N' b) elt (ve b)) ->
   PS X (.Assign [.Name x px] (.ListComp elt [⟨tg,iter,ifs,0⟩] scope pos) spos) (tW (Q6 fr wi gv vt ve) (lF i))) :
  AM X (.Assign [.Name x px] (.ListComp elt [⟨tg,iter,ifs,0⟩] scope pos) spos) (GZ i (P5 fr ti g tt te)):=by
 obtain⟨v,p,r⟩:=UH (M:=λv=>PS X (.Assign [.Name x px] (.ListComp elt [⟨tg,iter,ifs,0⟩] scope pos) spos) (tW v (lF i))) (fr:=fr) hi hY pl;refine⟨_,p,λB p0 H ps σT σ DT DV o h f=>r B p0 H ps σT σ _ _ o h λd x H' s' r' q'=>?_⟩;exact f.nx H' ps _ _ ((o.grow s').set r') (bH s') q'
noncomputable def iZ(N:List Str)(ds:List D):List Sl:=ds.map Sl.val++EN (N.length-ds.length) .un
def oM{N ds vs}(live:∀p∈ps,yO (H p))(r:Reps K (mask H ps) ds vs):Ok K H ps H ps (iZ N ds) (L2.lP N vs):=by
 have hl:=r.length;refine⟨L2.aS.refl _,λ_ h=>h,live,?_,λi d h=>?_,λi ts h=>?_,λi j ts us p h=>?_,λi hs kvs h=>?_⟩
 ·unfold iZ L2.lP;simp[hl]
 ·unfold iZ at h;by_cases hi:i<ds.length
  ·rw[dM (by simpa using hi),aK]at h
   cases hd:ds[i]? with
   |none=>rw[hd]at h;cases h
   |some d'=>
    rw[hd]at h;cases h;obtain⟨v,h1,h2⟩:=r.get hd;refine⟨v,?_,h2⟩;unfold L2.lP;rw[dM (by rw[aA,<- hl];exact hi),aK,h1];rfl
  ·rw[dU (by simpa using hi),jX]at h;split at h<;>cases h
 ·unfold iZ at h;by_cases hi:i<ds.length
  ·rw[dM (by simpa using hi),aK]at h
   cases hd:ds[i]? with
   |none=>rw[hd]at h;cases h
   |some d'=>rw[hd]at h;cases h
  ·rw[dU (by simpa using hi),jX]at h;split at h<;>cases h
 ·unfold iZ at h;by_cases hi:i<ds.length
  ·rw[dM (by simpa using hi),aK]at h
   cases hd:ds[i]? with
   |none=>rw[hd]at h;cases h
   |some d'=>rw[hd]at h;cases h
  ·rw[dU (by simpa using hi),jX]at h;split at h<;>cases h
 ·unfold iZ at h;by_cases hi:i<ds.length
  ·rw[dM (by simpa using hi),aK]at h
   cases hd:ds[i]? with
   |none=>rw[hd]at h;cases h
   |some d'=>rw[hd]at h;cases h
  ·rw[dU (by simpa using hi),jX]at h;split at h<;>cases h
def tZ{P w}{mg:Str->Option Value}{base x qual st}{f:Addr}{fd}{N pn:List Str}{k:Nat}{sp:oV}(F:LB K x qual st f fd)(S:bZ N pn (aY st))(len:∀ds Q,sp ds Q->ds.length=pn.length)
  (hbody:∀(cdv:Value)(A:Around)outer(s:Shared)H E,gM k (A.deeper (envOfC qual (aY st) s.heap.objs.size f cdv))->∀(ds:List D)(Q:D->Prop),sp ds Q ->
   ∃t,uA (qB eG P w K mg base N qual (aY st) f cdv A outer s H E).nox (kN st) t/\t { nx:=λ_=>Q .none,rt:=Q } (iZ N ds)):bU P w K mg base eG (k+1) f fd pn (bJ K sp):=by
 refine F.ok S (λvs H Q E h=>?_) λcdv A outer s H vs Q E hr h=>?_
 ·obtain⟨ps,ds,QD,_,r,q,_⟩:=h;rw[<- r.length];exact len ds QD q
 ·obtain⟨ps,ds,QD,live,r,q,k⟩:=h;obtain⟨t,⟨ts,p,rd⟩,h⟩:=hbody cdv A outer s H E hr ds QD q;refine⟨ts,p,rd H ps H ps _ _ _ _ (oM live r) h ⟨λH' ps' σT' σ' o' s' q'=>?_,λ_ _ _ _ _ _ q'=>q'.elim,λ_ _ _ _ _ _ q'=>q'.elim,λd v H' s' r' q'=>k d v H' s' r' q',λ_ _ _ _ _ _ _ _ _ q'=>q'.elim,λ_ _ _ _ _ _ _ _ _ _ _ _ _ _ _ _ _ _ q'=>q'.elim,λ_ _ _ _ _ _ _ _ _ _ _ _ _ _ q'=>q'.elim,True.intro⟩⟩;exact k _ _ H' o'.base .none q'
end
end TL
namespace HT
section
variable{prog:cC}{w:World}{A:Around}{E:Value->Shared->Prop}{s:Shared}
def getItem_tuple_all{t sl:Addr}{items:Array Value}{vl vu lo hi}{Q:Value->Shared->Prop}(ht:IsTup s.heap t items)(hs:s.heap.IsSliceOf sl vl vu .none)(pl:IsPart vl lo)(pu:IsPart vu hi)
  (hw:sIx items.size 0 lo=0/\sIx items.size items.size hi=items.size) (h:Q (.ref t) s):wpAny (model prog w) A (getItem (.ref t) (.ref sl)) Q E s:=by
 obtain⟨os,hos,hcs,hds⟩:=id hs;have hTs:s.TypeIs (.ref sl) "slice":=⟨os,hos,hcs⟩;unfold getItem
 try with_reducible refine wpAny_holding ?_
 first | refine aG (aW ?_) | skip
 refine aG (wpAny_sequenceKey ht.typeIs (by decide) ?_)
 refine aG (wpAny_callSpecial?_slot (name:=Str.ofString "__getitem__") ht.typeIs PyProof.Rows.slot_tuple_getitem
  (lZ PyProof.Rows.slot_tuple_getitem ht.typeIs entry_tuple_getitem ?_ (args_tuple_getitem _ _)))
 show wpAny _ _ (Builtin.Tuple.tupleItemsOf (.ref t) >>= _) _ _ s;refine aG (tupleItemsOf_ ht ?_);refine aG (wpAny_typeOf hTs ?_);rw[if_pos (by decide)];refine aG (pS hs pl pu ?_)
 have hyes:(((sIx items.size 0 lo:Nat):Int)==0&&(1:Int)==1&&(sIx items.size items.size hi-sIx items.size 0 lo)==items.size)=true:=by
  rw[hw.1,hw.2];simp
 show wpAny _ _ (if(((sIx items.size 0 lo:Nat):Int)==0&&(1:Int)==1&&(sIx items.size items.size hi-sIx items.size 0 lo)==items.size)=true then _ else _) _ _ s;rw[if_pos hyes];unfold Builtin.Tuple.tupleIsExact;refine aG (aG (wpAny_typeOf ht.typeIs (aW ?_)));rw[if_pos (by decide)]
 first
  |exact aG (wpAny_rule (aG (aW (aW ⟨_,rfl,aW h⟩))))
  |exact aG (wpAny_rule (aW ⟨_,rfl,aW h⟩))
  |exact aG (wpAny_rule (aG (aW ⟨_,rfl,aW h⟩)))
end
end HT
namespace L2
section
variable{X:Cx}
def aHu:V->Option Int->Option Int->Hp->VK->Prop:=λx lo hi H Q=>∃z,x=.str z/\z.length<=bE/\Q (.str (Txt.slice z lo hi)) H
def aEb:V4 X aHu:=by
 intro pins s σ H x v vl vu lo hi sl Q I rx hs pl pu h;obtain⟨z,rfl,hz,q⟩:=h;obtain⟨t,rfl⟩:=rx;refine⟨"str",_,PySem.F.slot_str_getitem.lookup,typeIs_str _ _ _,?_⟩
 have fin:∀lo hi:Option Int,Q (.str (Txt.slice z lo hi)) H->(Txt.slice z lo hi).length<=bE/\∀(t':Tok)(k:Nat),EP X pins σ Q (.str (Txt.slice z lo hi) t') { s with toks:=k }:=λlo hi q=>
  ⟨bK (Txt.slice_le z _ _) hz,λt' k=>⟨.str _,H,I.tok k,⟨t',rfl⟩,q⟩⟩
 cases pl with
 |none=>
  cases pu with
  |none=>exact wpAny_getItem_str_slice (l:=none) (u:=none) (st:=none) hs rfl (post_val_or_str (fin none none q))
  |int j uj=>exact wpAny_getItem_str_slice (l:=none) (u:=some (j,uj)) (st:=none) hs rfl (post_val_or_str (fin none (some j) q))
 |int i ui=>
  cases pu with
  |none=>exact wpAny_getItem_str_slice (l:=some (i,ui)) (u:=none) (st:=none) hs rfl (post_val_or_str (fin (some i) none q))
  |int j uj=>exact wpAny_getItem_str_slice (l:=some (i,ui)) (u:=some (j,uj)) (st:=none) hs rfl (post_val_or_str (fin (some i) (some j) q))
def aB7(K:aF):V->Option Int->Option Int->Hp->VK->Prop:=λx lo hi H Q=>∃a xs,x=.ref a/\pA K H a xs /\
 ((HT.sIx xs.length 0 lo=0/\HT.sIx xs.length xs.length hi=xs.length)->Q (.ref a) H)/\(¬(HT.sIx xs.length 0 lo=0/\HT.sIx xs.length xs.length hi=xs.length)->∀p,H p=none->Q (.ref p) (eS H p (.tup (FR xs lo hi))))
def XM:V4 X (aB7 X.K):=by
 intro pins s σ H x v vl vu lo hi sl Q I rx hs pl pu h;obtain⟨a,xs,rfl,hx,q1,q2⟩:=h;by_cases hw:HT.sIx xs.length 0 lo=0/\HT.sIx xs.length xs.length hi=xs.length
 ·cases rx;obtain⟨its,r,ht,hz⟩:=I.tuple hx;have hlen:its.toArray.size=xs.length:=by rw[aX];exact r.length.symm
  exact⟨"tuple",_,PyProof.Rows.slot_tuple_getitem.lookup,ht.typeIs,HT.getItem_tuple_all ht hs pl pu (by rw[hlen];exact hw) ⟨.ref a,H,I,rfl,q1 hw⟩⟩
 ·exact aEa pins s σ H (.ref a) v vl vu lo hi sl Q I rx hs pl pu ⟨a,xs,rfl,hx,hw,q2 hw⟩
def SD(K:aF):V->Option Int->Option Int->Hp->VK->Prop:=λx lo hi H Q=>aHv K x lo hi H Q\/aB7 K x lo hi H Q\/aHu x lo hi H Q
def lK:V4 X (SD X.K):=XN.or (XM.or aEb)
def SH(K:aF):R2:=λx y H Q=>∃a b xs ys,x=.ref a/\y=.ref b/\pA K H a xs/\pA K H b ys/\xs.length+ys.length<=bE /\
 (xs=[]->Q (.ref b) H)/\(xs≠[]->ys=[]->Q (.ref a) H)/\(xs≠[]->ys≠[]->∀p,H p=none->Q (.ref p) (eS H p (.tup (xs++ys))))
def TF:pB X (binaryOp .Add) (SH X.K):=by
 intro pins s σ H x y v u Q I rx ry h;obtain⟨a,b,xs,ys,rfl,rfl,ha,hb,hz,q0,q1,q2⟩:=h;by_cases hx:xs=[]
 ·cases rx;cases ry;obtain⟨its,r1,p1,_⟩:=I.tuple ha;obtain⟨its2,r2,p2,_⟩:=I.tuple hb;obtain⟨⟨cls,dd,data,sl⟩,ho,hc,n,hd⟩:=id p1;obtain⟨⟨cls2,dd2,data2,sl2⟩,ho2,hc2,n2,hd2⟩:=id p2;simp only at hc hd hc2 hd2;subst hc hd hc2 hd2;have he:its=[]:=r1.nil_iff.mpr hx;exact concat_meets ⟨_,ho,rfl⟩ ⟨_,ho2,rfl⟩ noFill_tuple_add seq_tuple_add rD qG (pP _ _) (tuple_addW0 a b its.toArray its2.toArray n n2 dd dd2 sl sl2 (by simp[he])) ⟨ho,ho2,⟨.ref b,H,I,rfl,q0 hx⟩⟩
 ·exact YE pins s σ H (.ref a) (.ref b) v u Q I rx ry ⟨a,b,xs,ys,rfl,rfl,ha,hb,hx,hz,q1 hx,q2 hx⟩
def aCa(K:aF):R2:=λx y H Q=>∃l b xs zs,x=.ref l/\y=.ref b/\lM K H l xs/\lM K H b zs/\xs.length+zs.length<=bE/\∀p,H p=none->Q (.ref p) (eS H p (.lst (xs++zs)))
def FB:pB X (binaryOp .Add) (aCa X.K):=by
 intro pins s σ H x y v u Q I rx ry h;obtain⟨l,b,xs,zs,rfl,rfl,ha,hb,hz,q⟩:=h;cases rx;cases ry;obtain⟨its,r1,⟨⟨cls,dd,data,sl⟩,n,ho,hc,hdd,hd⟩,_⟩:=I.list ha;obtain⟨its2,r2,⟨⟨cls2,dd2,data2,sl2⟩,n2,ho2,hc2,hdd2,hd2⟩,_⟩:=I.list hb;simp only at hc hd hc2 hd2;subst hc hd hc2 hd2;have hz':its.toArray.size+its2.toArray.size<=bE:=by rw[aX,aX,<- r1.length,<- r2.length];exact hz
 refine concat_meets ⟨_,ho,rfl⟩ ⟨_,ho2,rfl⟩ noFill_list_add seq_list_add PySem.F.slot_list_add PySem.F.entry_list_add (PySem.F.args_list_add_2 _ _) (list_addW l b its.toArray its2.toArray n n2 dd dd2 sl sl2 hz') ⟨ho,ho2,?_⟩;have ea:its.toArray++its2.toArray=(its++its2).toArray:=by simp
 rw[ea];exact⟨.ref _,_,I.lnew (t':=s.toks) (r1.append r2) (by rw[bQ];exact hz),rfl,q _ I.fresh⟩
def L5(K:aF):R2:=λx y H Q=>(SG λi j=>.int (i+j)) x y H Q\/(∃i j,x=.str i/\y=.str j/\i.length+j.length<=bE/\Q (.str (i++j)) H)\/SH K x y H Q\/aCa K x y H Q
def dG:pB X (binaryOp .Add) (L5 X.K):=aEu.or (J6.or (TF.or FB))
def L4:R2:=λx y H Q=>(rI LD λi j=>.int (i*j)) x y H Q\/∃z n,x=.str z/\y=.int n/\z.length<=1000/\0<=n/\n<=1000/\Q (.str (Txt.mul z n)) H
def J1:pB X (binaryOp .Mult) (λx y H Q=>∃z n,x=.str z/\y=.int n/\z.length<=1000/\0<=n/\n<=1000/\Q (.str (Txt.mul z n)) H):=by
 intro pins s σ H x y v u Q I rx ry h;obtain⟨z,n,rfl,rfl,hz,h0,h1,q⟩:=h;obtain⟨t,rfl⟩:=rx;obtain⟨t',rfl⟩:=ry;refine SB.mul ⟨by simp;omega,λa _=>?_,λ_ _=>?_⟩ λt'' k=>⟨.str _,H,I.tok k,⟨t'',rfl⟩,q⟩
 ·have hn:1<=n:=by omega
  have:(1000:Int)<=(2^63-1) / n:=by
   rw[Int.le_ediv_iff_mul_le (by omega)];omega
  omega
 ·have:z.length*n.toNat<=1000*1000:=lN hz (by omega);unfold Builtin.Str.tooLong;have hL:bE=2^24:=rfl;simp only[decide_eq_false_iff_not];omega
def fF:pB X (binaryOp .Mult) L4:=TB.or J1
def wS(hc:X.calm=true):lG X (.builtin "all") (λxs H Q=>∃(p:Addr)(bs:List Bool),xs=[.ref p]/\lM X.K H p (bs.map V.bl)/\Q (.bl (bs.all id)) H):=by
 intro pins s σ H xs us Q I r h;obtain⟨p,bs,rfl,hq,q⟩:=h;obtain⟨u,rfl,rx⟩:=pC r;cases rx;obtain⟨its,rv,pl,hz⟩:=I.list hq
 have hne:p≠s.heap.objs.size:=by
  obtain⟨o,ho,_⟩:=pl.isList;exact cO (aV ho)
 have hl1:=pl.isList;refine call_all_walk (wpAny_pyIter_list hl1 ?_);refine⟨_,_,_,_,_,_,λi=>(bs[i]?).getD true,rfl,Walks.list (A:=X.A.in1) (I.ok.hd hc) _ p hne its.toArray,⟨⟨_,aR _ rfl,rfl,rfl⟩,hl1.push _⟩,λi v s' Q' E' hP hq'=>?_,λh' tk hk=>?_⟩
 ·have hv:its[i]?=some v:=by simpa using hP
  have hlen:=rv.length;have hi:i<its.length:=(aH.mp hv).1;have hb:i<bs.length:=by rw[aA]at hlen;omega
  obtain⟨w',h1,h2⟩:=rv.get (i:=i) (x:=.bl bs[i]) (by rw[aK,aE hb];rfl);rw[hv]at h1;cases h1;cases h2;refine wpAny_truthy_bool ?_;dsimp only at hq';rw[aE hb]at hq';exact hq'
 ·have e:(fQ its.toArray.size).all (λi=>(bs[i]?).getD true)=bs.all id:=by
   have hlen:=rv.length;rw[aA]at hlen;rw[aX,<- hlen];rw[fG,gY,gY];constructor
   ·intro h b hb;obtain⟨i,hi,rfl⟩:=uM.mp hb;have:=h i (pJ.mpr hi);rw[aE hi]at this;exact this
   ·intro h i hi;have hi':=pJ.mp hi;rw[aE hi'];exact h _ (fK hi')
  rw[e];have I1:cN X pins σ H { s with heap:=s.heap.push { cls:=.type "list_iterator",data:=.fields #[.ref p,.int 0 0] } }:=I.kept (t':=s.toks) λb o e=>aC _ e;refine⟨.bl _,H,I.kept λb o e=>hk b o ?_ (aC _ e),rfl,q⟩;intro z;have:b=s.heap.objs.size:=by simpa using z
  exact absurd (aV e) (by rw[this];exact eK _)
def aEh:R2:=λx y H Q=>∃b,y=.bl b/\Q (.bl (decide (x=.bl b))) H
def aJn{x v}{b:Bool}(r:eZ x v):plainIs v (.bool b)=true/\(v==Value.bool b)=decide (x=.bl b):=by
 cases x with
 |non=>cases r;exact⟨rfl,rfl⟩
 |bl c=>cases r;cases b<;>cases c<;>exact⟨rfl,rfl⟩
 |int _=>obtain⟨t,rfl⟩:=r;exact⟨rfl,rfl⟩
 |str _=>obtain⟨t,rfl⟩:=r;exact⟨rfl,rfl⟩
 |byt _=>obtain⟨t,rfl⟩:=r;exact⟨rfl,rfl⟩
 |flt _=>obtain⟨t,rfl⟩:=r;exact⟨rfl,rfl⟩
 |ref _=>cases r;exact⟨rfl,rfl⟩
 |ty _=>cases r;exact⟨rfl,rfl⟩
def aEt:pB X (compareOp .Is) aEh:=by
 intro pins s σ H x y v u Q I rx ry h;obtain⟨b,rfl,q⟩:=h;cases ry;obtain⟨h1,h2⟩:=aJn (b:=b) rx;refine wpAny_is_plain h1 ?_;rw[h2];exact⟨.bl _,H,I,rfl,q⟩
theorem LN:∀{ys:List Str}{us},eW (ys.map V.str) us->StrsAre us ys
|[],_,r=>by rw[oX]at r;cases r;exact .nil
|y::ys,us,r=>by
 rw[bX]at r
 cases r with
 |cons r1 r2=>
  obtain⟨t,rfl⟩:=r1;exact .cons y t (LN r2)
def YM:P9 X "str.join" (λx xs H Q=>∃z p ys,x=.str z/\xs=[.ref p]/\lM X.K H p (ys.map V.str)/\(ys.map (·.length)).sum+ys.length*z.length<=16777216/\Q (.str (Txt.join z ys)) H):=by
 intro pins s σ H x xs v us Q I rx r h;obtain⟨z,p,ys,rfl,rfl,hq,hz,q⟩:=h;obtain⟨t,rfl⟩:=rx;obtain⟨u,rfl,ru⟩:=pC r;cases ru;obtain⟨its,rv,pl,_⟩:=I.list hq;exact PyProof.Rows.join_list pl.isList (by simpa using LN rv) hz λt' k=>⟨.str _,H,I.tok k,⟨t',rfl⟩,q⟩
def JN(K:aF)(H:Hp):V->String->Prop
|.non,T=>T="NoneType"
|.bl _,T=>T="bool"
|.int _,T=>T="int"
|.str _,T=>T="str"
|.ref p,T=>(T="list"/\∃xs,lM K H p xs)\/(T="tuple"/\∃xs,pA K H p xs)\/(T="list"/\∃P,H p=some (.ext P)/\∀h:Heap,P h->∃o,h.get? p=some o/\o.cls=.type "list")
|_,_=>False
def YZ{pins σ H s A}{E:Value->Shared->Prop}{Q:Value->Shared->Prop}{x u c T}{b:Bool}(I:cN X pins σ H s)(rx:eZ x u)(ty:JN X.K H x T)
  (e:bW X.K (.type T) c=some b) (h:∀tk,Q (.bool b) { s with toks:=tk }):wpAny (model X.prog X.w) A (call (.builtin "isinstance") [u,c]) Q E s:=by
 cases x with
 |non=>cases (show T="NoneType" from ty);exact tL I rx .non e h
 |bl y=>cases (show T="bool" from ty);exact tL I rx (.bl y) e h
 |int i=>cases (show T="int" from ty);exact tL I rx (.int i) e h
 |str y=>cases (show T="str" from ty);exact tL I rx (.str y) e h
 |ref p=>
  cases rx;rcases ty with⟨rfl,xs,hq⟩ | ⟨rfl,xs,hq⟩ | ⟨rfl,P,hq,hP⟩
  ·obtain⟨its,_,pl,_⟩:=I.list hq;obtain⟨o,n,ho,hc,_⟩:=pl;exact dZ pI I.kIn ⟨o,ho,hc⟩ e (λz=>nomatch z) h
  ·obtain⟨its,_,pl,_⟩:=I.tuple hq;obtain⟨o,ho,hc,_⟩:=pl;exact dZ LE I.kIn ⟨o,ho,hc⟩ e (λz=>nomatch z) h
  ·obtain⟨o,ho,hc⟩:=hP _ (I.hok p _ hq).1;exact dZ pI I.kIn ⟨o,ho,hc⟩ e (λz=>nomatch z) h
 |_=>exact False.elim ty
end
end L2
namespace TL
open L2
variable{K:aF}{H H' H1 H2:Hp}{B:Hp}{p0 ps:List Addr}{σT:List Sl}{σ:L2.St}
section
variable{X:Cx}{a b c e:Expr}{es:List Expr}{ta te:ET}{pos p:Pos}
def fI(C:Int->Int->Prop)(g:Int->Int->Int):D->D->(D->Prop)->Prop
|.int i,.int j,Q=>C i j/\Q (.int (g i j))
|_,_,_=>False
def fI0(g:Int->Int->Int):D->D->(D->Prop)->Prop
|.int i,.int j,Q=>Q (.int (g i j))
|_,_,_=>False
def fB0(g:Int->Int->Bool):D->D->(D->Prop)->Prop
|.int i,.int j,Q=>Q (.bool (g i j))
|_,_,_=>False
def GF{C:Int->Int->Prop}{g:Int->Int->Int}:CP X (rI C λi j=>.int (g i j)) (fI C g):=by
 intro H ps d1 d2 x y Q QV live r1 r2 h k
 cases r1 with
 |int i=>
  cases r2 with
  |int j=>exact⟨i,j,rfl,rfl,h.1,k _ _ H (L2.aS.refl H) (.int _) h.2⟩
  |_=>exact h.elim
 |_=>exact h.elim
def HB{g:Int->Int->Int}:CP X (SG λi j=>.int (g i j)) (fI0 g):=by
 intro H ps d1 d2 x y Q QV live r1 r2 h k
 cases r1 with
 |int i=>
  cases r2 with
  |int j=>exact⟨i,j,rfl,rfl,k _ _ H (L2.aS.refl H) (.int _) h⟩
  |_=>exact h.elim
 |_=>exact h.elim
def rL{g:Int->Int->Bool}:CP X (SG λi j=>.bl (g i j)) (fB0 g):=by
 intro H ps d1 d2 x y Q QV live r1 r2 h k
 cases r1 with
 |int i=>
  cases r2 with
  |int j=>exact⟨i,j,rfl,rfl,k _ _ H (L2.aS.refl H) (.bool _) h⟩
  |_=>exact h.elim
 |_=>exact h.elim
def aJ3:D->D->(D->Prop)->Prop
|.int i,.int j,Q=>Q (.int (i+j))
|.str x,.str y,Q=>x.length+y.length<=100000/\Q (.str (x++y))
|.tuple x,.tuple y,Q=>x.length+y.length<=100000/\Q (.tuple (x++y))
|.list x,.list y,Q=>x.length+y.length<=100000/\Q (.list (x++y))
|_,_,_=>False
def wF{n:Nat}(h:n<=100000):n<=bE:=by have:bE=2^24:=rfl;omega
def jF:CP X (L5 X.K) aJ3:=by
 intro H ps d1 d2 x y Q QV live r1 r2 h k
 cases r1 with
 |int i=>
  cases r2 with
  |int j=>exact .inl ⟨i,j,rfl,rfl,k _ _ H (L2.aS.refl H) (.int _) h⟩
  |_=>exact h.elim
 |str i=>
  cases r2 with
  |str j=>exact .inr (.inl ⟨i,j,rfl,rfl,wF h.1,k _ _ H (L2.aS.refl H) (.str _) h.2⟩)
  |_=>exact h.elim
 |tuple q1 s1=>
  cases r2 with
  |tuple q2 s2=>
   refine .inr (.inr (.inl ⟨_,_,_,_,rfl,rfl,aS.seqT bN q1,aS.seqT bN q2,wF (by rw[<- s1.length,<- s2.length];exact h.1),λz=>?_,λz1 z2=>?_,λz1 z2 p hp=>?_⟩))
   ·subst z;cases s1;exact k _ _ H (L2.aS.refl H) (.tuple q2 s2) h.2
   ·subst z2;cases s2;have e:=h.2;rw[dQ]at e;exact k _ _ H (L2.aS.refl H) (.tuple q1 s1) e
   ·exact k _ _ _ (cZ hp) (oA live hp (s1.append s2)) h.2
  |_=>exact h.elim
 |list q1 s1=>
  cases r2 with
  |list q2 s2=>
   exact .inr (.inr (.inr ⟨_,_,_,_,rfl,rfl,L2.aS.seq bN q1,L2.aS.seq bN q2,wF (by rw[<- s1.length,<- s2.length];exact h.1),λp hp=>k _ _ _ (cZ hp) (E3 live hp (s1.append s2)) h.2⟩))
  |_=>exact h.elim
 |_=>exact h.elim
def aMo:D->D->(D->Prop)->Prop
|.int i,.int j,Q=>LD i j/\Q (.int (i*j))
|.str z,.int n,Q=>z.length<=1000/\0<=n/\n<=1000/\Q (.str (Txt.mul z n))
|_,_,_=>False
def mK:CP X L4 aMo:=by
 intro H ps d1 d2 x y Q QV live r1 r2 h k
 cases r1 with
 |int i=>
  cases r2 with
  |int j=>exact .inl ⟨i,j,rfl,rfl,h.1,k _ _ H (L2.aS.refl H) (.int _) h.2⟩
  |_=>exact h.elim
 |str z=>
  cases r2 with
  |int n=>exact .inr ⟨z,n,rfl,rfl,h.1,h.2.1,h.2.2.1,k _ _ H (L2.aS.refl H) (.str _) h.2.2.2⟩
  |_=>exact h.elim
 |_=>exact h.elim
noncomputable def eqF:D->D->Option Bool
|.none,.none=>some true
|.bool x,.bool y=>some (decide (x=y))
|.int x,.int y=>some (decide (x=y))
|.str x,.str y=>some (decide (x=y))
|.str _,.none | .none,.str _=>some false
|_,_=>none
def fEq(x y:D)(Q:D->Prop):Prop:=match eqF x y with | some c=>Q (.bool c) | none=>False
def fNe(x y:D)(Q:D->Prop):Prop:=match eqF x y with | some c=>Q (.bool (!c)) | none=>False
def HZ{x y:D}{u v:V}{c:Bool}(r1:gD K H x u)(r2:gD K H y v)(h:eqF x y=some c):aEc u v=true/\decide (u=v)=c:=by
 unfold eqF at h;split at h<;>cases h<;>cases r1<;>cases r2<;>exact⟨rfl,by simp⟩
def pW:CP X rEq fEq:=by
 intro H ps d1 d2 x y Q QV live r1 r2 h k;unfold fEq at h
 cases e:eqF d1 d2 with
 |none=>rw[e]at h;exact h.elim
 |some c=>
  rw[e]at h;obtain⟨h1,h2⟩:=HZ r1 r2 e;refine⟨h1,?_⟩;rw[h2];exact k _ _ H (L2.aS.refl H) (.bool c) h
def aE1:CP X rNe fNe:=by
 intro H ps d1 d2 x y Q QV live r1 r2 h k;unfold fNe at h
 cases e:eqF d1 d2 with
 |none=>rw[e]at h;exact h.elim
 |some c=>
  rw[e]at h;obtain⟨h1,h2⟩:=HZ r1 r2 e;refine⟨h1,?_⟩;rw[h2];exact k _ _ H (L2.aS.refl H) (.bool (!c)) h
noncomputable def FG(b:Bool):D->Bool
|.bool c=>decide (c=b)
|_=>false
theorem Reps.atI{ds vs}{i:Int}{d}(r:Reps K H ds vs)(h:atI ds i=some d):∃v,atI vs i=some v/\gD K H d v:=by
 unfold L2.atI at h |-
 rw[<- r.length]
 cases e:UQ ds.length i with
 |none=>rw[e]at h;cases h
 |some j=>
  rw[e]at h;exact r.get h
inductive LA(ts:List D)(i:Int)(Q:D->Prop):Prop
|mk (d:D) (h:atI ts i=some d) (k:Q d):LA ts i Q
def fIx(x y:D)(Q:D->Prop):Prop:=match x,y with
|.list ts,.int i=>LA ts i Q
|.tuple ts,.int i=>LA ts i Q
|.str z,.int i=>z.length<=100000/\∃c,atI z.cps.toList i=some c/\Q (.str ⟨#[c]⟩)
|_,_=>False
def dP:CP X (rIx X.K) fIx:=by
 intro H ps d1 d2 x y Q QV live r1 r2 h k
 cases r2 with
 |int i=>
  cases r1 with
  |list q s=>
   obtain⟨d,e,h⟩:=h;obtain⟨v,e',r⟩:=s.atI e;exact .inl ⟨_,_,i,v,rfl,rfl,L2.aS.seq bN q,e',k _ _ H (L2.aS.refl H) r h⟩
  |tuple q s=>
   obtain⟨d,e,h⟩:=h;obtain⟨v,e',r⟩:=s.atI e;exact .inr (.inl ⟨_,_,i,v,rfl,rfl,aS.seqT bN q,e',k _ _ H (L2.aS.refl H) r h⟩)
  |str z=>
   obtain⟨hz,c,e,h⟩:=h;exact .inr (.inr ⟨z,i,c,rfl,rfl,wF hz,e,k _ _ H (L2.aS.refl H) (.str _) h⟩)
  |_=>exact h.elim
 |_=>cases d1<;>exact h.elim
noncomputable def kW{α:Type}(xs:List α)(lo hi:Option Int):List α:=(xs.drop (HT.sIx xs.length 0 lo)).take (HT.sIx xs.length xs.length hi-HT.sIx xs.length 0 lo)
def fSl(x:D)(lo hi:Option Int)(Q:D->Prop):Prop:=match x with
|.list ts=>Q (.list (kW ts lo hi))
|.tuple ts=>Q (.tuple (kW ts lo hi))
|.str z=>z.length<=100000/\Q (.str (Txt.slice z lo hi))
|_=>False
def Reps.cut{ds vs}(r:Reps K H ds vs)(lo hi:Option Int):Reps K H (kW ds lo hi) (FR vs lo hi):=by
 unfold kW FR;rw[r.length];exact(r.drop _).take _
def tY:SlT X (SD X.K) fSl:=by
 intro H ps d x lo hi Q QV live r h k
 cases r with
 |list q s=>exact .inl ⟨_,_,rfl,L2.aS.seq bN q,λp hp=>k _ _ _ (cZ hp) (E3 live hp (s.cut lo hi)) h⟩
 |@tuple p xs ts q s=>
  refine .inr (.inl ⟨_,_,rfl,aS.seqT bN q,λz=>?_,λ_ p hp=>k _ _ _ (cZ hp) (oA live hp (s.cut lo hi)) h⟩)
  have e:kW ts lo hi=ts:=by
   unfold kW;rw[s.length,z.1,z.2,LG,EO,<- s.length,eO]
  have h':Q (.tuple (kW ts lo hi)):=h;rw[e]at h';exact k _ _ H (L2.aS.refl H) (.tuple q s) h'
 |str z=>exact .inr (.inr ⟨z,rfl,wF h.1,k _ _ H (L2.aS.refl H) (.str _) h.2⟩)
 |_=>exact h.elim
theorem DO:∀{ys:List Str}{vs},Reps K H (ys.map aP) vs->vs=ys.map V.str
|[],_,r=>by rw[oX]at r;cases r;rfl
|y::ys,vs,r=>by
 rw[bX]at r
 cases r with
 |cons r1 r2=>
  cases r1;rw[bX,DO r2]
def aCu{r:List V->Hp->VK->Prop}{f:List D->(D->Prop)->Prop}{t g}(hf:uL X r f)(ha:vK X (e::es) t)(pc:∀{ta},PA X (e::es) ta->PE X (.Call g (e::es) [] pos) (WW r ta)):gK X (.Call g (e::es) [] pos) (nX f t):=by
 obtain⟨v,pa,ra⟩:=ha;refine⟨_,pc pa,λB p0 H ps σT σ Q QV o h k=>ra B p0 H ps σT σ _ _ o h λds xs H1 s1 r1 q1=>?_⟩;exact hf H1 ps ds xs Q QV (o.grow s1).live r1 q1 λd v H' s' r' q'=>k d v H' (s1.trans s') r' q'
def f1(f:D->(D->Prop)->Prop):List D->(D->Prop)->Prop
|[d],Q=>f d Q
|_,_=>False
def c1{r:List V->Hp->VK->Prop}{f:D->(D->Prop)->Prop}(h:∀H ps(d:D)(x:V)(Q:D->Prop)QV,(∀p∈ps,yO (H p))->gD X.K (mask H ps) d x->f d Q ->
  (∀d v H',aS H H'->gD X.K (mask H' ps) d v->Q d->QV v H')->r [x] H QV):uL X r (f1 f):=by
 intro H ps ds xs Q QV live rs hf k
 cases rs with
 |nil=>exact hf.elim
 |cons r1 r2=>
  cases r2 with
  |nil=>exact h H ps _ _ Q QV live r1 hf k
  |cons _ _=>exact hf.elim
def aJs(d:D)(Q:D->Prop):Prop:=match d with
|.list ts=>Q (.int ts.length)
|.tuple ts=>Q (.int ts.length)
|.str z=>z.length<=100000/\Q (.int z.length)
|_=>False
def cJ:lG X (.builtin "len") (λxs H Q=>(∃p ys,xs=[.ref p]/\(lM X.K H p ys\/pA X.K H p ys)/\Q (.int ys.length) H)\/∃z,xs=[.str z]/\z.length<=bE/\Q (.int z.length) H):=FX.or FW
def jG:uL X (λxs H Q=>(∃p ys,xs=[.ref p]/\(lM X.K H p ys\/pA X.K H p ys)/\Q (.int ys.length) H)\/∃z,xs=[.str z]/\z.length<=bE/\Q (.int z.length) H) (f1 aJs):=c1 λH ps d x Q QV live r h k=>by
 cases r with
 |list q s=>
  refine .inl ⟨_,_,rfl,.inl (L2.aS.seq bN q),?_⟩;rw[<- s.length];exact k _ _ H (L2.aS.refl H) (.int _) h
 |tuple q s=>
  refine .inl ⟨_,_,rfl,.inr (aS.seqT bN q),?_⟩;rw[<- s.length];exact k _ _ H (L2.aS.refl H) (.int _) h
 |str z=>exact .inr ⟨z,rfl,wF h.1,k _ _ H (L2.aS.refl H) (.int _) h.2⟩
 |_=>exact h.elim
def aFk(d:D)(Q:D->Prop):Prop:=match d with
|.list ts=>Q (.tuple ts)
|.tuple ts=>Q (.tuple ts)
|_=>False
def AJ:uL X (λxs H Q=>∃p ys,xs=[.ref p]/\((lM X.K H p ys/\∀l,H l=none->Q (.ref l) (eS H l (.tup ys)))\/(pA X.K H p ys/\Q (.ref p) H))) (f1 aFk):=c1 λH ps d x Q QV live r h k=>by
 cases r with
 |list q s=>exact⟨_,_,rfl,.inl ⟨L2.aS.seq bN q,λl hl=>k _ _ _ (cZ hl) (oA live hl s) h⟩⟩
 |tuple q s=>exact⟨_,_,rfl,.inr ⟨aS.seqT bN q,k _ _ H (L2.aS.refl H) (.tuple q s) h⟩⟩
 |_=>exact h.elim
theorem G3:∀{ys:List Bool}{vs},Reps K H (ys.map zK) vs->vs=ys.map V.bl
|[],_,r=>by rw[oX]at r;cases r;rfl
|y::ys,vs,r=>by
 rw[bX]at r
 cases r with
 |cons r1 r2=>
  cases r1;rw[bX,G3 r2]
theorem tG:∀{ys:List Int}{vs},Reps K H (ys.map bI) vs->vs=ys.map V.int
|[],_,r=>by rw[oX]at r;cases r;rfl
|y::ys,vs,r=>by
 rw[bX]at r
 cases r with
 |cons r1 r2=>
  cases r1;rw[bX,tG r2]
def aJu(d:D)(Q:D->Prop):Prop:=∃bs:List Bool,d=.list (bs.map zK)/\Q (.bool (bs.all id))
def aC1:uL X (λxs H Q=>∃(p:Addr)(bs:List Bool),xs=[.ref p]/\lM X.K H p (bs.map V.bl)/\Q (.bl (bs.all id)) H) (f1 aJu):=c1 λH ps d x Q QV live r h k=>by
 obtain⟨bs,rfl,h⟩:=h
 cases r with
 |list q s=>
  have e:=G3 s;subst e;exact⟨_,bs,rfl,L2.aS.seq bN q,k _ _ H (L2.aS.refl H) (.bool _) h⟩
noncomputable def tyD:D->String
|.none=>"NoneType"
|.bool _=>"bool"
|.int _=>"int"
|.str _=>"str"
|.list _=>"list"
|.tuple _=>"tuple"
|.dict []=>"list"
|.dict [(.none,_)]=>"list"
|.dict _=>"dict"
noncomputable def MO(T:String)(d:D):Bool:=(tyD d==T)||(T=="int"&&tyD d=="bool")
def FH{T}{i:Int}{x}(h:T∈["int","str","list","tuple","bool"]):MO T (.dict [(.int i,x)])=false:=by
 simp only[aN,bV,or_false]at h;rcases h with rfl | rfl | rfl | rfl | rfl<;>rfl
def aFf(T:String)(d:D)(Q:D->Prop):Prop:=match d with | .dict ((.str _,_)::_)=>False | d=>Q (.bool (MO T d))
def Y0{T d}{Q:D->Prop}(h:∀x y r,d≠.dict ((.str x,y)::r))(q:aFf T d Q):Q (.bool (MO T d)):=by
 unfold aFf at q;split at q
 ·exact q.elim
 ·exact q
def aJ7(T:String)(te:ET):ET:=λσ Q=>te σ λd=>aFf T d Q
def NA(K:aF)(T:String):Prop:=∀tn∈["NoneType","bool","int","str","list","tuple"],bW K (.type tn) (.type T)=some ((tn==T)||(T=="int"&&tn=="bool"))
def aEg(K:aF)(T:String):List V->Hp->VK->Prop:=λxs H Q=>∃x b,xs=[x,.ty T]/\((∃Tn,JN K H x Tn/\bW K (.type Tn) (.type T)=some b)\/(∃p C dx,x=.ref p/\H p=some (.ext (nB p C dx))/\(∀d,dx=some d->∃fs,H d=some (.xd fs))/\CO K C/\bW K (.ref C) (.type T)=some b))/\Q (.bl b) H
def BV{pins s σ}{H:Hp}{A}{E:Value->Shared->Prop}{Q:Value->Shared->Prop}{p C:Addr}{dx c}{b:Bool}(I:cN X pins σ H s)(hp:H p=some (.ext (nB p C dx)))(hd:∀d,dx=some d->∃fs,H d=some (.xd fs))(x:CO X.K C)
  (e:bW X.K (.ref C) c=some b) (h:∀tk,Q (.bool b) { s with toks:=tk }):wpAny (model X.prog X.w) A (call (.builtin "isinstance") [.ref p,c]) Q E s:=by
 refine dZ (HM x) I.kIn ?_ e (λz=>nomatch z) h;obtain⟨⟨o,vs,h1,h2,h3,h4⟩,_⟩:=I.hok p _ hp;have hn:sS o=true:=by unfold sS;rw[h4]
 cases dx with
 |none=>exact⟨o,none,h1,h2,hn,by rw[h3];trivial⟩
 |some d=>
  obtain⟨fs,hf⟩:=hd d rfl;obtain⟨mA,⟨od,es,ep,he,_⟩,_⟩:=I.hok d _ hf;exact⟨o,some od,h1,h2,hn,by rw[h3];exact he⟩
def mM{T}:lG X (.builtin "isinstance") (aEg X.K T):=by
 intro pins s σ H xs us Q I r h;obtain⟨x,b,rfl,⟨Tn,ht,hk⟩ | ⟨p,C,dx,rfl,hp,hd,hx,hk⟩,q⟩:=h
 ·obtain⟨u,w,rfl,ru,rw'⟩:=LK r;cases rw';exact YZ I ru ht hk λtk=>⟨.bl b,H,I.tok tk,rfl,q⟩
 ·obtain⟨u,w,rfl,ru,rw'⟩:=LK r;cases rw';cases ru;exact BV I hp hd hx hk λtk=>⟨.bl b,H,I.tok tk,rfl,q⟩
def qX{T g1 g2}(hk:NA X.K T)(he:gK X e te)
  (pc:∀{v},PE X e v->PE X (.Call g1 [e,g2] [] pos) (WW (aEg X.K T) (pR v (pR (tC (.ty T)) xC))))
  (hT:T∈["int","str","list","tuple","bool"]:=by decide):gK X (.Call g1 [e,g2] [] pos) (aJ7 T te):=by
 obtain⟨v,pe,re⟩:=he;refine⟨_,pc pe,λB p0 H ps σT σ Q QV o h k=>re B p0 H ps σT σ _ _ o h λd x H1 s1 r1 q1=>?_⟩
 have fin:∀tn,tn∈["NoneType","bool","int","str","list","tuple"]->tyD d=tn->JN X.K H1 x tn->aEg X.K T [x,V.ty T] H1 QV:=λtn hm ht hn=>by
  refine⟨x,_,rfl,.inl ⟨tn,hn,hk tn hm⟩,?_⟩;have q:Q (.bool (MO T d)):=Y0 (λx y r z=>by subst z;have z2:("dict":String)=tn:=ht;subst z2;exact absurd hm (by decide)) q1;unfold MO at q;rw[ht]at q;exact k _ _ H1 s1 (.bool _) q
 cases r1 with
 |none=>exact fin "NoneType" (by simp) rfl rfl
 |bool b=>exact fin "bool" (by simp) rfl rfl
 |int i=>exact fin "int" (by simp) rfl rfl
 |str z=>exact fin "str" (by simp) rfl rfl
 |list q s=>exact fin "list" (by simp) rfl (.inl ⟨rfl,_,L2.aS.seq bN q⟩)
 |tuple q s=>exact fin "tuple" (by simp) rfl (.inr (.inl ⟨rfl,_,aS.seqT bN q⟩))
 |wild h=>exact fin "list" (by simp) rfl (.inr (.inr ⟨rfl,_,bN _ _ h,λ_ ⟨_,_,e,_⟩=>⟨_,e,rfl⟩⟩))
 |tape h _=>exact fin "list" (by simp) rfl (.inr (.inr ⟨rfl,_,bN _ _ h,λ_ ⟨_,_,_,_,_,_,_,e,_⟩=>⟨_,e,rfl⟩⟩))
 |exc x h=>
  refine⟨_,false,rfl,.inr ⟨_,_,_,rfl,bN _ _ h,(λ_ z=>nomatch z),x.1,x.2 T hT⟩,?_⟩;have q2:Q (.bool (MO T (.dict _))):=q1;rw[FH hT]at q2;exact k _ _ H1 s1 (.bool _) q2
 |excA x h g=>
  refine⟨_,false,rfl,.inr ⟨_,_,_,rfl,bN _ _ h,λ_ z=>by cases z;exact⟨_,bN _ _ g⟩,x.1,x.2 T hT⟩,?_⟩;have q2:Q (.bool (MO T (.dict _))):=q1;rw[FH hT]at q2;exact k _ _ H1 s1 (.bool _) q2
 |excD x h g _=>
  refine⟨_,false,rfl,.inr ⟨_,_,_,rfl,bN _ _ h,λ_ z=>by cases z;exact⟨_,bN _ _ g⟩,x.1,x.2 T hT⟩,?_⟩;have q2:Q (.bool (MO T (.dict _))):=q1;rw[FH hT]at q2;exact k _ _ H1 s1 (.bool _) q2
 |dct _ _ _ _=>exact(show False from q1).elim
 |addr z=>exact(show False from q1).elim
 |ins _ _=>exact(show False from q1).elim
def aCx(f:Str->List D->(D->Prop)->Prop)(te:ET)(t:AT):ET:=λσ Q=>te σ λd=>∃z,d=.str z/\t σ λds=>f z ds Q
def aJt(z:Str)(ds:List D)(Q:D->Prop):Prop:=match ds with | [.list ts]=>∃ys:List Str,ts=ys.map aP/\(ys.map (·.length)).sum+ys.length*z.length<=16777216/\Q (.str (Txt.join z ys)) | _=>False
def OM{f:Str->List D->(D->Prop)->Prop}{r:V->List V->Hp->VK->Prop}{n g t}(hn:gK X n te)(ha:vK X (e::es) t)
  (hf:∀H ps(z:Str)(ds:List D)(xs:List V)(Q:D->Prop)QV,Reps X.K (mask H ps) ds xs->f z ds Q->(∀d v H',aS H H'->gD X.K (mask H' ps) d v->Q d->QV v H')->r (.str z) xs H QV)
  (pc:∀{v ta},PE X n v->PA X (e::es) ta->PE X (.Call g (e::es) [] pos) (Q9 X.K "str" r v ta)):gK X (.Call g (e::es) [] pos) (aCx f te t):=by
 obtain⟨v,pe,re⟩:=hn;obtain⟨va,pa,ra⟩:=ha;refine⟨_,pc pe pa,λB p0 H ps σT σ Q QV o h k=>re B p0 H ps σT σ _ _ o h λd x H1 s1 r1 q1=>?_⟩;obtain⟨z,rfl,q1⟩:=q1;cases r1;refine⟨rfl,ra B p0 H1 ps σT σ _ _ (o.grow s1) q1 λds xs H2 s2 r2 q2=>?_⟩;exact hf H2 ps z ds xs Q QV r2 q2 λd v H' s' r' q'=>k d v H' (s1.trans (s2.trans s')) r' q'
def ZB{n ap t}(hn:gK X n te)(ha:vK X (e::es) t)
  (pc:∀{v ta},PE X n v->PA X (e::es) ta->PE X (.Call (.Attribute n "join" ap) (e::es) [] pos) (Q9 X.K "str" (λx xs H Q=>∃z p ys,x=.str z/\xs=[.ref p]/\lM X.K H p (ys.map V.str)/\(ys.map (·.length)).sum+ys.length*z.length<=16777216/\Q (.str (Txt.join z ys)) H) v ta)):gK X (.Call (.Attribute n "join" ap) (e::es) [] pos) (aCx aJt te t):=
 OM hn ha (λH ps z ds xs Q QV r h k=>by
  cases r with
  |nil=>exact h.elim
  |cons r1 r2=>
   cases r2 with
   |cons _ _=>cases r1<;>exact h.elim
   |nil=>
    cases r1 with
    |list q s=>
     obtain⟨ys,rfl,hz,h⟩:=h;have e:=DO s;subst e;exact⟨z,_,ys,rfl,rfl,L2.aS.seq bN q,hz,k _ _ H (L2.aS.refl H) (.str _) h⟩
    |_=>exact h.elim) pc
def gD.reads{pins:List (Addr×Obj)}{s:Shared}{σ:L2.St}(I:cN X pins σ H s){d:D}{x:V}{u:Value}(hd:d.hasDict=false)(r:gD X.K H d x)(rv:eZ x u):∃as,Reads s.heap u d as:=by
 refine gD.rec (motive_1:=λd x _=>∀u,d.hasDict=false->eZ x u->∃as,Reads s.heap u d as) (motive_2:=λds xs _=>∀us,kQ ds=false->eW xs us->∃as,ReadsAll s.heap us ds as)
  (λu _ r=>by cases r;exact⟨_,.none⟩) (λb u _ r=>by cases r;exact⟨_,.bool b⟩) (λi u _ r=>by obtain⟨t,rfl⟩:=r;exact⟨_,.int i t⟩) (λz u _ r=>by obtain⟨t,rfl⟩:=r;exact⟨_,.str z t⟩)
  (λq _ a u hd r=>?_) (λq _ a u hd r=>?_) ?_ ?_ ?_ ?_ ?_ ?_ ?_ ?_ (λus _ r=>by cases r;exact⟨_,.nil⟩) (λ{d ds x xs} _ _ a b us hd r=>?_) r u hd rv
 ·cases r;obtain⟨its,rv,⟨o,n,h1,h2,_,h3⟩,_⟩:=I.list q;obtain⟨as,h4⟩:=a _ hd rv;exact⟨_,.list h1 h2 h3 (by simpa using h4)⟩
 ·cases r;obtain⟨its,rv,⟨o,h1,h2,n,h3⟩,_⟩:=I.tuple q;obtain⟨as,h4⟩:=a _ hd rv;exact⟨_,.tuple h1 h2 h3 (by simpa using h4)⟩
 case refine_11=>
  have hd':(d.hasDict||kQ ds)=false:=hd;rw[NI]at hd'
  cases r with
  |cons v1 v2=>
   obtain⟨as,h1⟩:=a _ hd'.1 v1;obtain⟨bs,h2⟩:=b _ hd'.2 v2;exact⟨_,.cons h1 h2⟩
 all_goals intros;rename_i hd _;cases hd
end
end TL
namespace TL
open L2
noncomputable def aEx(names:List (Str×NameKind)):Bool:=match names.filter (λy=>y.2==NameKind.cell)with
|[]=>true
|[x]=>names.lookup x.1==some .cell
|_=>false
def YG{names}(h:aEx names=true):tT names:=by
 unfold aEx at h;split at h
 ·rename_i e;exact .inl e
 ·rename_i x e;have hx:x∈names.filter (λy=>y.2==NameKind.cell):=by rw[e];exact bF.mpr rfl
  have hk:x.2=.cell:=eq_of_beq (cU.mp hx).2;exact .inr ⟨x.1,by rw[e,<- hk],beq_iff_eq.mp h⟩
 ·cases h
noncomputable def pG(sc out:Scope)(Nx N':List Str)(fr:List (Option Nat)):Bool:=
 decide (sc.kind=.function)&&aEx sc.names&&sc.names.all (λy=>decide (y.2≠.free)||decide (out.names.lookup y.1=some .cell))&&sc.names.all (λy=>decide (y.2≠.local)||decide (sc.names.lookup y.1=some .local))&&sL sc.names out.names Nx N' fr
section
variable{X:Cx}{elt iter tg:Expr}{ifs:List Expr}{scope:Scope}{pos:Pos}{N':List Str}{fr:List (Option Nat)}{wi:TI}{g:BP->TG}{tt:BP->TT}{te:BP->TE}
def DW{out:Scope}{Nx}(h:pG scope out Nx N' fr=true):scope.kind=.function/\tT scope.names/\(∀y∈scope.names,y.2=.free->out.names.lookup y.1=some .cell)/\(∀y∈scope.names,y.2=.local->scope.names.lookup y.1=some .local)/\sL scope.names out.names Nx N' fr=true:=by
 unfold pG at h;simp only[dI,gY,sZ,decide_eq_true_eq]at h;obtain⟨⟨⟨⟨h1,h2⟩,h3⟩,h4⟩,h5⟩:=h;exact⟨h1,YG h2,λy hy e=>(h3 y hy).elim (λz=>absurd e z) id,λy hy e=>(h4 y hy).elim (λz=>absurd e z) id,h5⟩
def S3(h:pG scope X.env.scope X.N N' fr=true)(hcalm:X.calm=true)(hi:PI X tg iter wi)
  (hY:∀b:BP,PG (blk X scope N' b) tg (g b)/\PM (blk X scope N' b) ifs (tt b)/\PE (blk X scope N' b) elt (te b)) (hs:∀x,foldedSetIterable iter X.env x=pure x:=by intro _;rfl):PE X (.ListComp elt [⟨tg,iter,ifs,0⟩] scope pos) (Q6 fr wi g tt te):=by
 obtain⟨h1,h2,h3,h4,h5⟩:=DW h;exact aH5 hcalm h1 h2 h5 h3 h4 hi hY hs
def lU{i:Nat}{x}{px spos:Pos}(h:pG scope X.env.scope X.N N' fr=true)(hN:X.N.Nodup)(hix:X.N[i]?=some x)(hx:QA X.env.scope x)(hcalm:X.calm=true)(hi:PI X tg iter wi)
  (hY:∀b:BP,PG (blk X scope N' b) tg (g b)/\PM (blk X scope N' b) ifs (tt b)/\PE (blk X scope N' b) elt (te b))
  (hsw:kH (.ListComp elt [⟨tg,iter,ifs,0⟩] scope pos) (some (.Name x px)) spos.line X.env=pure true) (hs:∀x,foldedSetIterable iter X.env x=pure x:=by intro _;rfl) (hf:X.fn x=true\/X.env.scope.names.lookup x=some .local:=by first | exact .inl rfl | exact .inr rfl) :
  PS X (.Assign [.Name x px] (.ListComp elt [⟨tg,iter,ifs,0⟩] scope pos) spos) (tW (Q6 fr wi g tt te) (lF i)):=by
 obtain⟨h1,h2,h3,h4,h5⟩:=DW h;exact SQ hN hix hx hcalm h1 h2 h5 h3 h4 hi hY hsw hs hf
end
def VX:bootBuiltins "all"=some (.builtin "all"):=by decide +kernel
def VW:bootBuiltins "max"=some (.builtin "max"):=by decide +kernel
def eV:bootBuiltins "isinstance"=some (.builtin "isinstance"):=by decide +kernel
def gA:bootBuiltins "len"=some (.builtin "len"):=by decide +kernel
def nE:bootBuiltins "tuple"=some (.type "tuple"):=by decide +kernel
def wT:bootBuiltins "list"=some (.type "list"):=by decide +kernel
def M7:bootBuiltins "bool"=some (.type "bool"):=by decide +kernel
def aF0:bootBuiltins "int"=some (.type "int"):=by decide +kernel
def tK(K:aF):NA K "tuple":=by
 intro tn h;simp only[aN,bV,or_false]at h;rcases h with rfl | rfl | rfl | rfl | rfl | rfl<;>first | rfl | (with_unfolding_all rfl) | decide +kernel
def HP(K:aF):NA K "bool":=by
 intro tn h;simp only[aN,bV,or_false]at h;rcases h with rfl | rfl | rfl | rfl | rfl | rfl<;>first | rfl | (with_unfolding_all rfl) | decide +kernel
def BR(K:aF):NA K "list":=by
 intro tn h;simp only[aN,bV,or_false]at h;rcases h with rfl | rfl | rfl | rfl | rfl | rfl<;>first | rfl | (with_unfolding_all rfl) | decide +kernel
def EX{α:Type}(l:List α)(i:Nat)(a b:α):(l.set i a).set i b=l.set i b:=by
 apply iM;intro j;by_cases h:i=j
 ·subst h;by_cases hl:i<l.length
  ·rw[bB (by simpa using hl),bB hl]
  ·rw[dX (by simpa using hl),dX (by simpa using hl)]
 ·rw[aU h,aU h,aU h]
def aCl{ts:List D}{σb:List Sl}{te:ET}{Q:D->Prop}(R:Nat->D->D->Prop)(hz:ts.length<=100000)
  (ht:∀(k:Nat)(x:D)(q:D->Prop),ts[k]?=some x->(∀y,R k x y->q y)->te (σb.set 0 (.val x)) q)
  (hq:∀ys:List D,ys.length=ts.length->(∀(k:Nat)(x y:D),ts[k]?=some x->ys[k]?=some y->R k x y)->Q (.list ys)) :
  ts.length<=100000/\∃P:Nat->List Sl->List D->Prop,P 0 σb [] /\
   (∀(k:Nat)(x:D)(σ':List Sl)(ds:List D),ts[k]?=some x->P k σ' ds->gN 0 x σ' λσ2=>CK σ2 λb=>if b=true then te σ2 λy=>P (k+1) σ2 (ds++[y])else P (k+1) σ2 ds)/\∀σ' ds,P ts.length σ' ds->Q (.list ds):=by
 refine⟨hz,λk σ' ds=>(∀x,σ'.set 0 (.val x)=σb.set 0 (.val x))/\ds.length=k/\∀(j:Nat)(x y:D),ts[j]?=some x->ds[j]?=some y->R j x y,⟨λ_=>rfl,rfl,λj x y _ h=>by simp at h⟩,λk x σ' ds hx h=>?_,λσ' ds h=>hq ds h.2.1 h.2.2⟩;obtain⟨h1,h2,h3⟩:=h;show te (σ'.set 0 (.val x)) _;rw[h1 x];refine ht k x _ hx λy hy=>⟨λz=>EX _ _ _ _,by simp[h2],λj x' y' e1 e2=>?_⟩;by_cases hj:j<k
 ·rw[dM (by omega)]at e2;exact h3 j x' y' e1 e2
 ·rw[dU (by omega)]at e2
  have:j=k:=by
   by_cases e:j=k
   ·exact e
   ·have:j-ds.length≠0:=by omega
    cases q:j-ds.length with
    |zero=>exact absurd q this
    |succ n=>rw[q]at e2;simp at e2
  subst this;rw[hx]at e1;cases e1;simp[h2]at e2;subst e2;exact hy
def aE4{ts:List D}{σb:List Sl}{te:ET}{Q:D->Prop}(f:D->D)(hz:ts.length<=100000)(ht:∀(x:D)(q:D->Prop),x∈ts->q (f x)->te (σb.set 0 (.val x)) q)(hq:Q (.list (ts.map f))) :
  ts.length<=100000/\∃P:Nat->List Sl->List D->Prop,P 0 σb [] /\
   (∀(k:Nat)(x:D)σ'(ds:List D),ts[k]?=some x->P k σ' ds->gN 0 x σ' λσ2=>CK σ2 λb=>if b=true then te σ2 λy=>P (k+1) σ2 (ds++[y])else P (k+1) σ2 ds)/\∀σ' ds,P ts.length σ' ds->Q (.list ds):=by
 refine aCl (λk x y=>y=f x) hz (λk x q hx h=>ht x q (aZ hx) (h _ rfl)) λys hl h=>?_
 have e:ys=ts.map f:=by
  apply iM;intro i;rw[aK]
  cases hx:ts[i]? with
  |none=>
   rw[dX (by rw[hl];exact GB.mp hx)];rfl
  |some x=>
   have hi:i<ys.length:=by rw[hl];exact(aH.mp hx).1
   have:=h i x ys[i] hx (aE hi);rw[aE hi,this];rfl
 rw[e];exact hq
def YQ{ts:List D}{σb:List Sl}{tt:vN}{te:ET}{Q:D->Prop}(p:D->Bool)(f:D->D)(hz:ts.length<=100000)(hp:∀(x:D)(q:Bool->Prop),x∈ts->q (p x)->tt (σb.set 0 (.val x)) q)
  (ht:∀(x:D)(q:D->Prop),x∈ts->q (f x)->te (σb.set 0 (.val x)) q) (hq:Q (.list ((ts.filter p).map f))) :
  ts.length<=100000/\∃P:Nat->List Sl->List D->Prop,P 0 σb [] /\
   (∀(k:Nat)(x:D)(σ':List Sl)(ds:List D),ts[k]?=some x->P k σ' ds->gN 0 x σ' λσ2=>tt σ2 λb=>if b=true then te σ2 λy=>P (k+1) σ2 (ds++[y])else P (k+1) σ2 ds)/\∀σ' ds,P ts.length σ' ds->Q (.list ds):=by
 refine⟨hz,λk σ' ds=>(∀x,σ'.set 0 (.val x)=σb.set 0 (.val x))/\ds=((ts.take k).filter p).map f,⟨λ_=>rfl,rfl⟩,λk x σ' ds hx h=>?_,λσ' ds h=>?_⟩
 ·obtain⟨h1,rfl⟩:=h;have hm:x∈ts:=aZ hx;show tt (σ'.set 0 (.val x)) _;rw[h1 x];refine hp x _ hm ?_;have e:ts.take (k+1)=ts.take k++[x]:=by rw[cW,hx];rfl
  cases hb:p x with
  |true=>
   rw[if_pos rfl];refine ht x _ hm ⟨λz=>EX _ _ _ _,?_⟩;rw[e,iX,cK];simp[hb]
  |false=>
   rw[if_neg (by decide)];refine⟨λz=>EX _ _ _ _,?_⟩;rw[e,iX,cK];simp[hb]
 ·obtain⟨_,rfl⟩:=h;rw[eO];exact hq
section
variable{fr:List (Option Nat)}{ti:IT}{tt:vN}{te:ET}{σ:List Sl}{Q:D->Prop}{ts:List D}
abbrev qZ(ti:IT)(σ:List Sl)(ts:List D):Prop:=∀R:List D->Prop,R ts->ti σ R
def iQ(hti:qZ ti σ ts)(f:D->D)(hz:ts.length<=100000)(ht:∀(x:D)(q:D->Prop),x∈ts->q (f x)->te ((jQ fr σ).set 0 (.val x)) q)(hq:Q (.list (ts.map f))):P5 fr ti (gN 0) CK te σ Q:=
 hti _ (aE4 (te:=te) (Q:=Q) f hz ht hq)
def KN(hti:qZ ti σ ts)(R:Nat->D->D->Prop)(hz:ts.length<=100000)
  (ht:∀(k:Nat)(x:D)(q:D->Prop),ts[k]?=some x->(∀y,R k x y->q y)->te ((jQ fr σ).set 0 (.val x)) q)
  (hq:∀ys:List D,ys.length=ts.length->(∀(k:Nat)(x y:D),ts[k]?=some x->ys[k]?=some y->R k x y)->Q (.list ys)):P5 fr ti (gN 0) CK te σ Q:=
 hti _ (aCl (te:=te) (Q:=Q) R hz ht hq)
def BQ(hti:qZ ti σ ts)(p:D->Bool)(f:D->D)(hz:ts.length<=100000)(hp:∀(x:D)(q:Bool->Prop),x∈ts->q (p x)->tt ((jQ fr σ).set 0 (.val x)) q)
  (ht:∀(x:D)(q:D->Prop),x∈ts->q (f x)->te ((jQ fr σ).set 0 (.val x)) q) (hq:Q (.list ((ts.filter p).map f))):P5 fr ti (gN 0) tt te σ Q:=
 hti _ (YQ (tt:=tt) (te:=te) (Q:=Q) p f hz hp ht hq)
def aJw{g:GT}{tb}{DT:uK}(hti:qZ ti σ ts)(P:Nat->List Sl->Prop)(h0:P 0 σ)
  (hs:∀(k:Nat)(x:D)σ',ts[k]?=some x->P k σ'->g x σ' λσ2=>tb { DT with nx:=P (k+1),ct:=P (k+1),bk:=DT.nx } σ2) (hd:∀σ',P ts.length σ'->DT.nx σ'):R4 ti g tb DT σ:=hti _ ⟨P,h0,hs,hd⟩
end
def tR(x y:Str):(x++y).cps.toList=x.cps.toList++y.cps.toList:=by
 show(x.cps++y.cps).toList=_;simp
def JZ(xs:Array Nat)(a k:Nat):(fQ k).filterMap (λm=>xs[a+m]?)=(xs.toList.drop a).take k:=by
 induction k with
 |zero=>simp
 |succ k ih=>
  rw[Z2,List.filterMap_append,ih,cW,mD];congr 1;simp only[jV,List.filterMap_nil];rw[iY];cases xs[a+k]?<;>rfl
def M4(v:Option Int)(n d:Nat)(hd:d<=n):(match v with | none=>(d:Int) | some i=>max 0 (min (if i<0 then i+(n:Int)else i) (n:Int)))=((HT.sIx n d v:Nat):Int):=by
 cases v with
 |none=>rfl
 |some i=>
  have:=HT.clip_eq i n d;rw[<- this];dsimp only;split<;>omega
def VQ(v:Option Int)(n:Nat):(match v with | none=>(0:Int) | some i=>max 0 (min (if i<0 then i+(n:Int)else i) (n:Int)))=((HT.sIx n 0 v:Nat):Int):=M4 v n 0 (cT _)
def RI{a a' b b':Int}(h1:a=a')(h2:b=b'):sliceRange a b 1=sliceRange a' b' 1:=by rw[h1,h2]
def rX(z:Str)(lo hi:Option Int):(Txt.slice z lo hi).cps.toList=kW z.cps.toList lo hi:=by
 have hn:z.cps.toList.length=z.length:=by simp[Str.length]
 have ha:=HT.sIx_le z.length 0 (cT _) lo;have hb:=HT.sIx_le z.length z.length (aM _) hi
 have hI:Builtin.Str.strSliceIndices lo hi 1 z.length=(fQ (HT.sIx z.length z.length hi-HT.sIx z.length 0 lo)).map (λk=>HT.sIx z.length 0 lo+k):=by
  unfold Builtin.Str.strSliceIndices;simp only[show(1:Int)>0 by decide,if_true];refine(RI (VQ lo z.length) (M4 hi z.length z.length (aM _))).trans ?_;unfold sliceRange;simp only[show(1:Int)>0 by decide,if_true]
  generalize HT.sIx z.length 0 lo=a
  generalize HT.sIx z.length z.length hi=b
  have ec:(if(a:Int)<(b:Int)then((b:Int)-a+1-1) / 1 else 0).toNat=b-a:=by split<;>omega
  rw[ec];apply jT;intro k _;omega
 unfold Txt.slice kW;rw[hn,hI]
 generalize HT.sIx z.length 0 lo=a at *
 generalize HT.sIx z.length z.length hi=b at *
 split
 ·next h=>
  simp only[beq_self_eq_true,nV,beq_iff_eq,aA,qH]at h;have h1:a=0:=by omega
  have h2:b-a=z.cps.toList.length:=by rw[hn];exact h
  rw[h2,h1,EO,eO]
 ·rw[QG];exact JZ z.cps a (b-a)
def KP:∀ys:List Str,(Txt.join ⟨#[]⟩ ys).cps.toList=(ys.map (·.cps.toList)).flatten:=by
 intro ys;show(Builtin.Str.glued ⟨#[]⟩ ys).cps.toList=_;rw[StrLaws.glued_eq_join]
 induction ys with
 |nil=>rfl
 |cons x ys ih=>
  cases ys with
  |nil=>simp[Str.join]
  |cons y r=>
   show(x++⟨#[]⟩++Str.join ⟨#[]⟩ (y::r)).cps.toList=_;rw[tR,tR,ih];simp
def UV(x:Str)(c:Nat):Txt.contains x ⟨#[c]⟩=decide (c∈x.cps.toList):=StrLaws.found_one x c
section
variable{te:ET}{u t e:vH}{c:vN}{DT:uK}{σ:List Sl}{i:Nat}
def dB(v:D)(h:∀q:D->Prop,q v->te σ q)(k:u DT (σ.set i (.val v))):jA (GZ i te) u DT σ:=h _ k
def eA(R:D->Prop)(h:∀q:D->Prop,(∀v,R v->q v)->te σ q)(k:∀v,R v->u DT (σ.set i (.val v))):jA (GZ i te) u DT σ:=h _ k
def hU(R:Bool->Prop)(h:∀q:Bool->Prop,(∀b,R b->q b)->c σ q)(k1:R true->t { DT with nx:=u DT } σ)(k0:R false->e { DT with nx:=u DT } σ):jA (sIf c t e) u DT σ:=by
 refine h _ λb hb=>?_
 cases b with
 |true=>rw[if_pos rfl];exact k1 hb
 |false=>rw[if_neg (by decide)];exact k0 hb
def uY(R:Bool->Prop)(h:∀q:Bool->Prop,(∀b,R b->q b)->c σ q)(k1:R true->t DT σ)(k0:R false->e DT σ):sIf c t e DT σ:=by
 refine h _ λb hb=>?_
 cases b with
 |true=>rw[if_pos rfl];exact k1 hb
 |false=>rw[if_neg (by decide)];exact k0 hb
def pE{ti}{ts:List D}{g:GT}{tb}(hti:qZ ti σ ts)(P:Nat->List Sl->Prop)(h0:P 0 σ)
  (hs:∀(k:Nat)(x:D)σ',ts[k]?=some x->P k σ'->g x σ' λσ2=>tb { DT with nx:=P (k+1),ct:=P (k+1),bk:=u DT } σ2) (hd:∀σ',P ts.length σ'->u DT σ'):jA (R4 ti g tb) u DT σ:=
 aJw (DT:={ DT with nx:=u DT }) hti P h0 hs hd
def tE{t:AT}(ds:List D)(hz:ds.length<=1000)(h:∀q:List D->Prop,q ds->t σ q)(k:u DT (σ.set i (.own ds))):jA (aEe i t) u DT σ:=h _ ⟨hz,k⟩
def wE{ts:List D}(v:D)(ho:σ[i]?=some (.own ts))(hz:ts.length<=100000)(h:∀q:D->Prop,q v->te σ q)(k:DT.nx (σ.set i (.own (ts++[v])))):aHt i te DT σ:=⟨ts,ho,h _ ⟨hz,k⟩⟩
def tH(v:D)(h:∀q:D->Prop,q v->te σ q)(k:DT.nx (σ.set i (.val v))):GZ i te DT σ:=h _ k
end
mutual
theorem mT:∀{d:D},d.canLay0=true->d.hasDict=false
|.none,_=>rfl
|.bool _,_=>rfl
|.int _,_=>rfl
|.str _,_=>rfl
|.list _,h=>noDictAll h
|.tuple _,h=>noDictAll h
|.dict _,h=>by cases h
theorem noDictAll:∀{ds:List D},eE ds=true->kQ ds=false
|[],_=>rfl
|d::ds,h=>by
 have h':(d.canLay0&&eE ds)=true:=h;rw[dI]at h';show(d.hasDict||kQ ds)=false;rw[mT h'.1,noDictAll h'.2];rfl
end
section
variable{X:Cx}{b e:Expr}
def BA(K:aF)(ok:D->D->Prop)(f:D->D->Bool):R2:=λx y H Q=>∃d1 d2,gD K H d1 x/\gD K H d2 y/\ok d1 d2/\Q (.bl (f d1 d2)) H
def aJ1(ok:D->D->Prop)(f:D->D->Bool)(x y:D)(Q:D->Prop):Prop:=ok x y/\Q (.bool (f x y))
def nM{ok:D->D->Prop}{f:D->D->Bool}:CP X (BA X.K ok f) (aJ1 ok f):=by
 intro H ps d1 d2 x y Q QV live r1 r2 h k;exact⟨d1,d2,r1.same bN,r2.same bN,h.1,k _ _ H (L2.aS.refl H) (.bool _) h.2⟩
def aE0(d1 d2:D):Prop:=d1.canLay0=true/\d2.canLay0=true/\min d1.depth d2.depth<=60
def xI{k:Nat}(hr:gM k X.A):pB X (compareOp .Eq) (BA X.K aE0 bP):=by
 intro pins s σ H x y v u Q I rx ry h;obtain⟨d1,d2,r1,r2,⟨c1,c2,hm⟩,q⟩:=h;obtain⟨as,h1⟩:=gD.reads I (mT c1) r1 rx;obtain⟨bs,h2⟩:=gD.reads I (mT c2) r2 ry;exact SeqAt.compareEq_reads h1 h2 c1 c2 (by have:=hr.un;omega) ⟨.bl _,H,I,rfl,q⟩
def xH{k:Nat}(hr:gM k X.A):pB X (compareOp .NotEq) (BA X.K aE0 λx y=>!bP x y):=by
 intro pins s σ H x y v u Q I rx ry h;obtain⟨d1,d2,r1,r2,⟨c1,c2,hm⟩,q⟩:=h;obtain⟨as,h1⟩:=gD.reads I (mT c1) r1 rx;obtain⟨bs,h2⟩:=gD.reads I (mT c2) r2 ry;exact SeqAt.compareNe_reads h1 h2 c1 c2 (by have:=hr.un;omega) ⟨.bl _,H,I,rfl,q⟩
def C4(x y:D):Prop:=match y with
|.list ts=>eE ts=true/\x.canLay0=true/\min (eL ts) x.depth<=60
|.tuple ts=>eE ts=true/\x.canLay0=true/\min (eL ts) x.depth<=60
|_=>False
noncomputable def OU(x y:D):Bool:=match y with
|.list ts=>ts.any λz=>bP z x
|.tuple ts=>ts.any λz=>bP z x
|_=>false
def N8{k:Nat}(hr:gM k X.A):pB X (compareOp .In) (BA X.K C4 OU):=by
 intro pins s σ H x y v u Q I rx ry h;obtain⟨d1,d2,r1,r2,ho,q⟩:=h
 have hd:d1.hasDict=false/\d2.hasDict=false:=by
  cases d2 with
  |list ts=>exact⟨mT ho.2.1,noDictAll ho.1⟩
  |tuple ts=>exact⟨mT ho.2.1,noDictAll ho.1⟩
  |_=>exact ho.elim
 obtain⟨as,h1⟩:=gD.reads I hd.1 r1 rx;obtain⟨bs,h2⟩:=gD.reads I hd.2 r2 ry
 cases d2 with
 |list ts=>exact SeqAt.in_list_reads h2 h1 ho.1 ho.2.1 (by have:=hr.un;have:=ho.2.2;omega) ⟨.bl _,H,I,rfl,q⟩
 |tuple ts=>exact SeqAt.in_tuple_reads h2 h1 ho.1 ho.2.1 (by have:=hr.un;have:=ho.2.2;omega) ⟨.bl _,H,I,rfl,q⟩
 |_=>exact ho.elim
def aJ0(x y:D)(Q:D->Prop):Prop:=match x,y with
|.str z,.str y=>Q (.bool (Txt.contains y z))
|x,y=>C4 x y/\Q (.bool (OU x y))
def J5{k:Nat}(hr:gM k X.A):pB X (compareOp .In) (λx y H Q=>(∃i j,x=.str i/\y=.str j/\Q (.bl (!(Builtin.Str.occurrences j i 0 j.length 1).isEmpty)) H)\/BA X.K C4 OU x y H Q):=N7.or (N8 hr)
def TK:CP X (λx y H Q=>(∃i j,x=.str i/\y=.str j/\Q (.bl (!(Builtin.Str.occurrences j i 0 j.length 1).isEmpty)) H)\/BA X.K C4 OU x y H Q) aJ0:=by
 intro H ps d1 d2 x y Q QV live r1 r2 h k;have gen:C4 d1 d2/\Q (.bool (OU d1 d2))->_:=λh=>(.inr ⟨d1,d2,r1.same bN,r2.same bN,h.1,k _ _ H (L2.aS.refl H) (.bool _) h.2⟩:(∃i j,x=.str i/\y=.str j/\QV (.bl (!(Builtin.Str.occurrences j i 0 j.length 1).isEmpty)) H)\/BA X.K C4 OU x y H QV)
 cases r1 with
 |str z=>
  cases r2 with
  |str w=>exact .inl ⟨z,w,rfl,rfl,k _ _ H (L2.aS.refl H) (.bool _) h⟩
  |_=>exact gen h
 |_=>exact gen h
noncomputable def AC:D->Bool
|.none=>true
|_=>false
def fIs(x y:D)(Q:D->Prop):Prop:=match y with | .bool b=>Q (.bool (FG b x)) | .none=>Q (.bool (AC x)) | _=>False
def J2:pB X (compareOp .Is) (λx y H Q=>aEh x y H Q\/(y=.non/\Q (.bl (decide (x=.non))) H)):=aEt.or aEs
def TJ:CP X (λx y H Q=>aEh x y H Q\/(y=.non/\Q (.bl (decide (x=.non))) H)) fIs:=by
 intro H ps d1 d2 x y Q QV live r1 r2 h k
 cases r2 with
 |bool b=>
  refine .inl ⟨b,rfl,?_⟩;have e:(decide (x=V.bl b))=FG b d1:=by cases r1<;>simp[FG]
  rw[e];exact k _ _ H (L2.aS.refl H) (.bool _) h
 |none=>
  refine .inr ⟨rfl,?_⟩;have e:(decide (x=V.non))=AC d1:=by cases r1<;>simp[AC]
  rw[e];exact k _ _ H (L2.aS.refl H) (.bool _) h
 |_=>exact h.elim
end
end TL
namespace L2
section
variable{P:cC}{w:World}{A:Around}{E:Value->Shared->Prop}{s:Shared}
def KD{i t:Addr}{k:Nat}{xs x}{Q:Value->Shared->Prop}(hit:s.heap.IsTupleIter i t k)(ht:s.heap.IsTuple t xs)(hx:xs[k]?=some x)
  (hQ:∀h',h'.IsTupleIter i t (k+1)->eY i s.heap h'->Q x { s with heap:=h' }):wpAny (model P w) A (Builtin.SmallTypes.nextOf (.ref i)) Q E s:=by
 obtain⟨o,ho,hc,hd⟩:=id hit;obtain⟨ol,hol,_,nl,hdl⟩:=ht;unfold Builtin.SmallTypes.nextOf;refine aG (wpAny_callSpecial?_slot (name:=Str.ofString "__next__") hit.typeIs F.slot_tuple_iterator_next (lZ F.slot_tuple_iterator_next hit.typeIs F.entry_tuple_iterator_next ?_ (F.args_tuple_iterator_next_1 _)));show wpAny _ _ (field (.ref i) 0 >>= _) _ _ s;refine aG (wpAny_field ho hd (x:=.ref t) rfl ?_);show wpAny _ _ (if(Value.ref t==Value.none)=true then _ else _) _ _ s;rw[if_neg (show¬((Value.ref t==Value.none)=true)from bY)];show wpAny _ _ (field (.ref i) 1 >>= _) _ _ s;refine aG (wpAny_field ho hd (x:=.int k 0) rfl ?_);show wpAny _ _ (seqItems? (.ref t) >>= _) _ _ s;refine aG (wpAny_seqItems hol hdl ?_);simp only[zN,hx];refine aG (wpAny_setField ho hd (by simp) (aW ⟨x,rfl,aW (hQ _ ?_ (eY.update ..))⟩));exact⟨_,nI _ ho (Obj.isFreed_of_fields (Obj.data_mapFields hd _)),(Obj.cls_mapFields ..).trans hc,by rw[Obj.data_mapFields hd];simp[rawInt]⟩
def BM{i t:Addr}{k:Nat}{xs}{Q:Value->Shared->Prop}(hh:A.handled=none)(hit:s.heap.IsTupleIter i t k)(ht:s.heap.IsTuple t xs)(hx:xs[k]?=none)
  (hE:∀h' e,aKv i s.heap h'->(∃o,h'.get? e=some o/\o.cls=.type "StopIteration")->E (.ref e) { s with heap:=h' }):wpAny (model P w) A (Builtin.SmallTypes.nextOf (.ref i)) Q E s:=by
 obtain⟨o,ho,hc,hd⟩:=id hit;obtain⟨ol,hol,_,nl,hdl⟩:=ht;unfold Builtin.SmallTypes.nextOf;refine aG (wpAny_callSpecial?_slot (name:=Str.ofString "__next__") hit.typeIs F.slot_tuple_iterator_next (lZ F.slot_tuple_iterator_next hit.typeIs F.entry_tuple_iterator_next ?_ (F.args_tuple_iterator_next_1 _)));show wpAny _ _ (field (.ref i) 0 >>= _) _ _ s;refine aG (wpAny_field ho hd (x:=.ref t) rfl ?_);show wpAny _ _ (if(Value.ref t==Value.none)=true then _ else _) _ _ s;rw[if_neg (show¬((Value.ref t==Value.none)=true)from bY)];show wpAny _ _ (field (.ref i) 1 >>= _) _ _ s;refine aG (wpAny_field ho hd (x:=.int k 0) rfl ?_);show wpAny _ _ (seqItems? (.ref t) >>= _) _ _ s;refine aG (wpAny_seqItems hol hdl ?_);simp only[zN,hx];refine aG (wpAny_rule (aG (wpAny_setField ho hd (by simp) ?_)));show wpAny _ _ (newExc (.type "StopIteration") [] >>= _) _ _ _;refine aG ?_;simp only[newExc,newTuple];refine aG (iS ?_ (by size_fits));refine aG (m:=firstArgMember _ _) (wpAny_of_eq (a:=Value.none) (by first | rfl | (simp only[firstArgMember];rfl)) ?_);refine iS ?_ (by size_fits);simp only[raiseNew];refine aG (wpAny_handled ?_)
 first | rw[show A.in1.handled=none from hh] | rw[hh]
 refine aG (aW (wpAny_throw ?_));exact hE _ _ (((eY.update ..).extBut.push _).push _) ⟨_,aR _ rfl,rfl⟩
end
structure nS(P:cC)(w:World)(i l:Addr)(st:Nat->Heap->Prop)(src:Array Value->Heap->Prop):Prop where
 stAt:∀k h h',st k h->(∀o,h.get? i=some o->h'.get? i=some o)->st k h'
 srcAt:∀xs h h',src xs h->(∀o,h.get? l=some o->h'.get? l=some o)->src xs h'
 has:∀k h,st k h->∃o,h.get? i=some o/\∀v,o.data≠.cell v
 item:∀(A:Around)E(s:Shared)(k:Nat)(xs:Array Value)(x:Value)Q,st k s.heap->src xs s.heap->xs[k]?=some x ->
  (∀h',st (k+1) h'->eY i s.heap h'->Q x { s with heap:=h' })->wpAny (model P w) A (Builtin.SmallTypes.nextOf (.ref i)) Q E s
 fin:∀(A:Around)E(s:Shared)(k:Nat)(xs:Array Value)Q,A.handled=none->st k s.heap->src xs s.heap->xs[k]?=none ->
  (∀h' e,aKv i s.heap h'->(∃o,h'.get? e=some o/\o.cls=.type "StopIteration")->E (.ref e) { s with heap:=h' })->wpAny (model P w) A (Builtin.SmallTypes.nextOf (.ref i)) Q E s
def CD{P w}(i l:Addr):nS P w i l (λk h=>h.IsListIter i l k) (λxs h=>h.IsList l xs) where
 stAt:=λ_ _ _ x e=>x.at e
 srcAt:=λ_ _ _ x e=>x.at e
 has:=λk h x=>by obtain⟨o,e,c,d⟩:=x;exact⟨o,e,λv q=>by rw[d]at q;cases q⟩
 item:=λ_ _ _ _ _ _ _ h1 h2 hx hQ=>wpAny_nextOf_list_item h1 h2 hx hQ
 fin:=λ_ _ _ _ _ _ hh h1 h2 hx hE=>wpAny_nextOf_list_end hh h1 h2 hx hE
def tP{P w}(i l:Addr):nS P w i l (λk h=>h.IsTupleIter i l k) (λxs h=>h.IsTuple l xs) where
 stAt:=λ_ _ _ x e=>x.at e
 srcAt:=λ_ _ _ x e=>x.at e
 has:=λk h x=>by obtain⟨o,e,c,d⟩:=x;exact⟨o,e,λv q=>by rw[d]at q;cases q⟩
 item:=λ_ _ _ _ _ _ _ h1 h2 hx hQ=>KD h1 h2 hx hQ
 fin:=λ_ _ _ _ _ _ hh h1 h2 hx hE=>BM hh h1 h2 hx hE
section
variable{P:cC}{w:World}{A:Around}{E:Value->Shared->Prop}{s:Shared}{z TI TO i1 i2 l1 l2:Addr}{st1 st2:Nat->Heap->Prop}{src1 src2:Array Value->Heap->Prop}{k:Nat}{xs ys:Array Value}{a b:Value}
def QL{x y}{Q:Value->Shared->Prop}(d1:nS P w i1 l1 st1 src1)(d2:nS P w i2 l2 st2 src2)(D:ZipApart z TI TO i1 i2 l1 l2)(hz:IsZip s.heap z TI TO .none)(hTI:IsPair s.heap TI (.ref i1) (.ref i2))(hTO:IsPair s.heap TO a b)
  (h1:st1 k s.heap) (h2:st2 k s.heap) (hl1:src1 xs s.heap) (hl2:src2 ys s.heap) (hx:xs[k]?=some x) (hy:ys[k]?=some y)
  (hQ:∀h',IsZip h' z TI TO (rawInt s.heap.objs.size)->IsPair h' TO x y->st1 (k+1) h'->st2 (k+1) h'->IsPair h' s.heap.objs.size x y->h'.objs.size=s.heap.objs.size+1 ->
   (∀c o,c≠z->c≠TO->c≠i1->c≠i2->s.heap.get? c=some o->h'.get? c=some o)->Q (.ref s.heap.objs.size) { s with heap:=h' }) :
  wpAny (model P w) A (Builtin.«zip.__next__» ⟨[.ref z],[]⟩) (λfin s'=>∃v,fin=.done (.ret v)/\Q v s') E s:=by
 show wpAny _ _ (field (.ref z) 2 >>= _) _ _ _;refine aG (wpAny_field hz rfl (x:=.bool false) rfl ?_);show wpAny _ _ (field (.ref z) 3 >>= _) _ _ _;refine aG (wpAny_field hz rfl (x:=.ref TI) rfl ?_);refine aG (wpAny_seqItems hTI rfl ?_);show wpAny _ _ (Builtin.SmallTypes.ownedTupleIsFree (.ref z) >>= _) _ _ _;refine aG ?_;unfold Builtin.SmallTypes.ownedTupleIsFree;refine aG (wpAny_field hz rfl (x:=.none) rfl (aW ?_));simp only[if_true];refine aG (wpAny_rule ?_);refine aG (wpAny_field hz rfl (x:=.ref TO) rfl ?_);refine aG (wpAny_setField_rec hz (by simp) λha hza sa=>?_)
 replace hza:IsZip ha z TI TO .ellipsis:=hza
 refine aG ?_;simp only[WM,Z1,sX,aDb];refine aG (aG (wpAny_onRaise ?_));show wpAny _ _ (Builtin.SmallTypes.nextOf (.ref i1) >>= _) _ _ _;refine aG (d1.item _ _ _ k xs x _ (d1.stAt _ _ _ h1 λo e=>sa.extBut _ _ D.i1z e) (d1.srcAt _ _ _ hl1 λo e=>sa.extBut _ _ D.l1z e) hx λhb h1b sb=>aW ?_);have tob:IsPair hb TO a b:=sb.extBut _ _ D.TOi1 (sa.extBut _ _ D.TOz hTO);refine aG (wpAny_seqItems tob rfl ?_);refine aG (wpAny_updateSeq_pair tob λhc toc sc=>?_)
 replace toc:IsPair hc TO x b:=toc
 refine aG (wpAny_letGo (aW ?_));refine aG (aG (wpAny_onRaise ?_));show wpAny _ _ (Builtin.SmallTypes.nextOf (.ref i2) >>= _) _ _ _
 refine aG (d2.item _ _ _ k ys y _ (d2.stAt _ _ _ h2 λo e=>sc.extBut _ _ D.TOi2.symm (sb.extBut _ _ D.i12.symm (sa.extBut _ _ D.i2z e)))
  (d2.srcAt _ _ _ hl2 λo e=>sc.extBut _ _ D.l2TO (sb.extBut _ _ D.l2i1 (sa.extBut _ _ D.l2z e))) hy λhd h2d sd=>aW ?_)
 have tod:IsPair hd TO x b:=sd.extBut _ _ D.TOi2 toc;refine aG (wpAny_seqItems tod rfl ?_);refine aG (wpAny_updateSeq_pair tod λhe toe se=>?_)
 replace toe:IsPair he TO x y:=toe
 refine aG (wpAny_letGo (aW (aW ?_)));refine aG (wpAny_seqItems toe rfl ?_);refine aG (wpAny_newTuple ?_);have hsz:he.objs.size=s.heap.objs.size:=by rw[se.1,sd.1,sc.1,sb.1,sa.1]
 have hze:IsZip he z TI TO .ellipsis:=se.extBut _ _ D.TOz.symm (sd.extBut _ _ D.i2z.symm (sc.extBut _ _ D.TOz.symm (sb.extBut _ _ D.i1z.symm hza)))
 have ke:∀c o,c≠z->c≠TO->c≠i1->c≠i2->s.heap.get? c=some o->he.get? c=some o:=λc o c1 c2 c3 c4 e=>
  se.extBut _ _ c2 (sd.extBut _ _ c4 (sc.extBut _ _ c2 (sb.extBut _ _ c3 (sa.extBut _ _ c1 e))))
 have h1e:st1 (k+1) he:=d1.stAt _ _ _ h1b λo e=>se.extBut _ _ D.TOi1.symm (sd.extBut _ _ D.i12 (sc.extBut _ _ D.TOi1.symm e));have h2e:st2 (k+1) he:=d2.stAt _ _ _ h2d λo e=>se.extBut _ _ D.TOi2.symm e;have hzlt:z<he.objs.size:=aV hze;show wpAny _ _ (Builtin.SmallTypes.ownedTupleHandOut (.ref z) (.ref he.objs.size) >>= _) _ _ _;refine aG ?_;unfold Builtin.SmallTypes.ownedTupleHandOut;have hzf:IsZip (he.push { cls:=.type "tuple",data:=.seq #[x,y] }) z TI TO .ellipsis:=aC _ hze;refine aG (wpAny_setField_rec hzf (by simp) λhg hzg sg=>?_)
 replace hzg:IsZip hg z TI TO (rawInt he.objs.size):=hzg
 refine wpAny_setField_rec hzg (by simp) λhi hzi si=>?_
 replace hzi:IsZip hi z TI TO (rawInt he.objs.size):=hzi
 have up:∀c o,c≠z->he.get? c=some o->hi.get? c=some o:=λc o c1 e=>si.extBut _ _ c1 (sg.extBut _ _ c1 (aC _ e));have hT:IsPair hi he.objs.size x y:=si.extBut _ _ (iV hzlt) (sg.extBut _ _ (iV hzlt) (aR _ rfl));have hz8:hi.objs.size=he.objs.size+1:=by rw[si.1,sg.1,dW]
 rw[hsz]at hzi hT hz8;refine aW ⟨_,rfl,?_⟩;show Q (.ref he.objs.size) _;rw[hsz];exact hQ hi hzi (up _ _ D.TOz toe) (d1.stAt _ _ _ h1e λo e=>up _ o D.i1z e) (d2.stAt _ _ _ h2e λo e=>up _ o D.i2z e) hT hz8 λc o c1 c2 c3 c4 e=>up c o c1 (ke c o c1 c2 c3 c4 e)
def QI{Q:Fin->Shared->Prop}(hh:A.handled=none)(d1:nS P w i1 l1 st1 src1)(d2:nS P w i2 l2 st2 src2)(D:ZipApart z TI TO i1 i2 l1 l2)(hz:IsZip s.heap z TI TO .none)(hTI:IsPair s.heap TI (.ref i1) (.ref i2))(hTO:IsPair s.heap TO a b)
  (h1:st1 k s.heap) (h2:st2 k s.heap) (hl1:src1 xs s.heap) (hl2:src2 ys s.heap) (hend:xs[k]?=none\/ys[k]?=none)
  (hE:∀h' e,(∀c o,c≠z->c≠TO->c≠i1->c≠i2->s.heap.get? c=some o->h'.get? c=some o)->(∃o,h'.get? e=some o/\o.cls=.type "StopIteration")->E (.ref e) { s with heap:=h' }) :
  wpAny (model P w) A (Builtin.«zip.__next__» ⟨[.ref z],[]⟩) Q E s:=by
 show wpAny _ _ (field (.ref z) 2 >>= _) _ _ _;refine aG (wpAny_field hz rfl (x:=.bool false) rfl ?_);show wpAny _ _ (field (.ref z) 3 >>= _) _ _ _;refine aG (wpAny_field hz rfl (x:=.ref TI) rfl ?_);refine aG (wpAny_seqItems hTI rfl ?_);show wpAny _ _ (Builtin.SmallTypes.ownedTupleIsFree (.ref z) >>= _) _ _ _;refine aG ?_;unfold Builtin.SmallTypes.ownedTupleIsFree;refine aG (wpAny_field hz rfl (x:=.none) rfl (aW ?_));simp only[if_true];refine aG (wpAny_rule ?_);refine aG (wpAny_field hz rfl (x:=.ref TO) rfl ?_);refine aG (wpAny_setField_rec hz (by simp) λha hza sa=>?_)
 replace hza:IsZip ha z TI TO .ellipsis:=hza
 refine aG ?_;simp only[WM,Z1,sX,aDb];refine aG (aG (wpAny_onRaise ?_));show wpAny _ _ (Builtin.SmallTypes.nextOf (.ref i1) >>= _) _ _ _;have g1:st1 k ha:=d1.stAt _ _ _ h1 λo e=>sa.extBut _ _ D.i1z e;have q1:src1 xs ha:=d1.srcAt _ _ _ hl1 λo e=>sa.extBut _ _ D.l1z e
 cases hx:xs[k]? with
 |none=>
  refine aG (d1.fin _ _ _ k xs _ hh g1 q1 hx λhb e sb he=>?_);obtain⟨oe,hoe,hce⟩:=he;have hzb:IsZip hb z TI TO .ellipsis:=sb _ _ D.i1z.symm hza;have hez:e≠z:=λx=>by subst x;rw[hzb]at hoe;cases hoe;simp at hce
  refine wpAny_setField_rec hzb (by simp) λhc _ sc=>hE hc e (λc o c1 _ c3 _ x=>sc.extBut _ _ c1 (sb _ _ c3 (sa.extBut _ _ c1 x))) ⟨oe,sc.extBut _ _ hez hoe,hce⟩
 |some x=>
  have hy:ys[k]?=none:=by rcases hend with h | h;rw[hx]at h;cases h;exact h
  refine aG (d1.item _ _ _ k xs x _ g1 q1 hx λhb h1b sb=>aW ?_);have tob:IsPair hb TO a b:=sb.extBut _ _ D.TOi1 (sa.extBut _ _ D.TOz hTO);refine aG (wpAny_seqItems tob rfl ?_);refine aG (wpAny_updateSeq_pair tob λhc toc sc=>?_);refine aG (wpAny_letGo (aW ?_));refine aG (aG (wpAny_onRaise ?_));show wpAny _ _ (Builtin.SmallTypes.nextOf (.ref i2) >>= _) _ _ _
  refine aG (d2.fin _ _ _ k ys _ hh (d2.stAt _ _ _ h2 λo e=>sc.extBut _ _ D.TOi2.symm (sb.extBut _ _ D.i12.symm (sa.extBut _ _ D.i2z e)))
   (d2.srcAt _ _ _ hl2 λo e=>sc.extBut _ _ D.l2TO (sb.extBut _ _ D.l2i1 (sa.extBut _ _ D.l2z e))) hy λhd e sd he=>?_)
  obtain⟨oe,hoe,hce⟩:=he;have hzd:IsZip hd z TI TO .ellipsis:=sd _ _ D.i2z.symm (sc.extBut _ _ D.TOz.symm (sb.extBut _ _ D.i1z.symm hza));have hez:e≠z:=λx=>by subst x;rw[hzd]at hoe;cases hoe;simp at hce
  refine wpAny_setField_rec hzd (by simp) λhf _ sf=>hE hf e (λc o c1 c2 c3 c4 x=>sf.extBut _ _ c1 (sd _ _ c4 (sc.extBut _ _ c2 (sb.extBut _ _ c3 (sa.extBut _ _ c1 x))))) ⟨oe,sf.extBut _ _ hez hoe,hce⟩
def QK{x y}{Q:Option Value->Shared->Prop}(d1:nS P w i1 l1 st1 src1)(d2:nS P w i2 l2 st2 src2)(D:ZipApart z TI TO i1 i2 l1 l2)(hz:IsZip s.heap z TI TO .none)(hTI:IsPair s.heap TI (.ref i1) (.ref i2))(hTO:IsPair s.heap TO a b)
  (h1:st1 k s.heap) (h2:st2 k s.heap) (hl1:src1 xs s.heap) (hl2:src2 ys s.heap) (hx:xs[k]?=some x) (hy:ys[k]?=some y)
  (hQ:∀h',IsZip h' z TI TO (rawInt s.heap.objs.size)->IsPair h' TO x y->st1 (k+1) h'->st2 (k+1) h'->IsPair h' s.heap.objs.size x y->h'.objs.size=s.heap.objs.size+1 ->
   (∀c o,c≠z->c≠TO->c≠i1->c≠i2->s.heap.get? c=some o->h'.get? c=some o)->Q (some (.ref s.heap.objs.size)) { s with heap:=h' }):wpAny (model P w) A (pyNext (.ref z)) Q E s:=by
 have hT:s.TypeIs (.ref z) "zip":=⟨_,hz,rfl⟩;unfold pyNext
 exact aG (wpAny_attempt (wpAny_callSpecial?_slot (name:=Str.ofString "__next__") hT F.slot_zip_next (lZ F.slot_zip_next hT F.entry_zip_next
  (QL d1 d2 D hz hTI hTO h1 h2 hl1 hl2 hx hy λh' a1 a2 a3 a4 a5 a6 a7=>aW (hQ h' a1 a2 a3 a4 a5 a6 a7)) (F.args_zip_next_1 _))))
def WP{Q:Option Value->Shared->Prop}(hh:A.handled=none)(d1:nS P w i1 l1 st1 src1)(d2:nS P w i2 l2 st2 src2)(D:ZipApart z TI TO i1 i2 l1 l2)(hz:IsZip s.heap z TI TO .none)(hTI:IsPair s.heap TI (.ref i1) (.ref i2))(hTO:IsPair s.heap TO a b)
  (h1:st1 k s.heap) (h2:st2 k s.heap) (hl1:src1 xs s.heap) (hl2:src2 ys s.heap) (hend:xs[k]?=none\/ys[k]?=none)
  (hQ:∀h',(∀c o,c≠z->c≠TO->c≠i1->c≠i2->s.heap.get? c=some o->h'.get? c=some o)->Q none { s with heap:=h' }):wpAny (model P w) A (pyNext (.ref z)) Q E s:=by
 have hT:s.TypeIs (.ref z) "zip":=⟨_,hz,rfl⟩;unfold pyNext;refine aG (wpAny_attempt (wpAny_callSpecial?_slot (name:=Str.ofString "__next__") hT F.slot_zip_next (lZ F.slot_zip_next hT F.entry_zip_next (QI hh d1 d2 D hz hTI hTO h1 h2 hl1 hl2 hend λh' e hk he=>?_) (F.args_zip_next_1 _))));obtain⟨o,ho,hc⟩:=he;refine aG (wpAny_isInstance (T:="StopIteration") (b:=true) ⟨o,ho,hc⟩ isSubtype_stop ?_);exact aW (hQ _ hk)
end
section
variable{X:Cx}{pins:List (Addr×Obj)}{σ:St}{H:Hp}{s:Shared}{h':Heap}
def cN.turnedL{t':Nat}{ch:List Addr}(I:cN X pins σ H s)(hf:∀b∈ch,zD X pins H b)(k:∀b o,b∉ch->s.heap.get? b=some o->h'.get? b=some o):cN X pins σ H { s with heap:=h',toks:=t' }:=by
 have nit:∀b u,H b=some u->b∉ch:=λb u e z=>by rw[(hf b z).1]at e;cases e
 have hL:X.env.locals∉ch:=λz=>(hf _ z).2.1 rfl
 refine I.step (g':=s.gens) (d':=s.drawn) (ch:=ch) (λb hb=>?_) (λb o _ _ hc e _=>k b o hc e) (λb o _ _ hc e _=>⟨o.slots,k b o hc e⟩) (λ_ _ _ _ n=>n)
  (λb o hc e=>⟨o,k b o hc e⟩) (λ_ _ e=>e) (λ_ _ _ e=>e) (λb ps e=>⟨#[],by rw[e];simp⟩) (λm hm=>?_) (λb u e=>?_) I.bare
 ·obtain⟨f0,f1,f2,f3,f4,f5⟩:=hf b hb;exact⟨f3,f1,f4,f5⟩
 ·obtain⟨o,es,ep,ho,r⟩:=hm;exact⟨o,es,ep,k _ o hL ho,r⟩
 ·refine(I.hok b u e).stay (λc v hc q=>k c v ?_ q) (λ_ q=>q) λ_ _ q=>q;rcases hc with z | z
  ·rw[z];exact nit b u e
  ·exact nit c _ z
def cN.turnedNew{t':Nat}{ch:List Addr}{T:Addr}{o:HO}(I:cN X pins σ H s)(hf:∀b∈ch,zD X pins H b)(k:∀b u,b∉ch->s.heap.get? b=some u->h'.get? b=some u)(hp:s.heap.objs.size<=T)(new:iE X.prog X.w (eS H T o) h' T o) :
  cN X pins σ (eS H T o) { s with heap:=h',toks:=t' }:=by
 have nit:∀b u,H b=some u->b∉ch:=λb u e z=>by rw[(hf b z).1]at e;cases e
 have hL:X.env.locals∉ch:=λz=>(hf _ z).2.1 rfl;have hn:H T=none:=I.hok.fresh hp;have ne:∀b u,H b=some u->(eS H T o) b=some u:=λb u e=>by rw[bT (eJ e hn)];exact e
 have ne2:∀b u,s.heap.get? b=some u->b≠T:=λb u e z=>by
  exact absurd (bR (aV e) hp) (by rw[z];exact eK _)
 refine I.step (g':=s.gens) (d':=s.drawn) (ch:=ch) (λb hb=>?_) (λb o _ _ hc e _=>k b o hc e) (λb o _ _ hc e _=>⟨o.slots,k b o hc e⟩) (λb u _ e n=>by rw[bT (ne2 b u e)];exact n)
  (λb o hc e=>⟨o,k b o hc e⟩) (λb xs e=>ne _ _ e) (λb u v e=>ne _ _ e) (λb ps e=>⟨#[],by rw[ne _ _ e];simp⟩) (λm hm=>?_) (λb u e=>?_) I.bare
 ·obtain⟨f0,f1,f2,f3,f4,f5⟩:=hf b hb;exact⟨f3,f1,f4,f5⟩
 ·obtain⟨o,es,ep,ho,r⟩:=hm;exact⟨o,es,ep,k _ o hL ho,r⟩
 ·by_cases hb:b=T
  ·subst hb;rw[bS]at e;cases e;exact new
  ·rw[bT hb]at e;refine(I.hok b u e).stay (λc v hc q=>k c v ?_ q) (λc q=>ne _ _ q) (λc xs q=>ne _ _ q) λc ob v q=>ne _ _ q;rcases hc with z | z
   ·rw[z];exact nit b u e
   ·exact nit c _ z
end
noncomputable def Itz(S1 S2:Hp->List V->Prop):It:=
 ⟨λi H=>∃xs ys x y,S1 H xs/\S2 H ys/\xs[i]?=some x/\ys[i]?=some y,
  λi H v H'=>∃p x y,H p=none/\v=.ref p/\H'=eS H p (.tup [x,y])/\(∀xs,S1 H xs->xs[i]?=some x)/\∀ys,S2 H ys->ys[i]?=some y,
  λi H=>∃xs ys,S1 H xs/\S2 H ys/\(xs.length<=i\/ys.length<=i)⟩
structure Src(P:cC)(w:World)(K:aF)(S:Hp->List V->Prop)(src:Array Value->Heap->Prop):Prop where
 vals:∀(X:Cx),X.prog=P->X.w=w->X.K=K->∀{pins:List (Addr×Obj)}{σ:St}{H:Hp}{s:Shared}{xs:List V},cN X pins σ H s->S H xs->∃its:List Value,eW xs its/\src its.toArray s.heap
 inj:∀(X:Cx),X.prog=P->X.w=w->X.K=K->∀{pins:List (Addr×Obj)}{σ:St}{H:Hp}{s:Shared}{xs ys:List V},cN X pins σ H s->S H xs->S H ys->xs=ys
def zR{P w K}(a:Addr):Src P w K (λH xs=>pA K H a xs) (λits h=>h.IsTuple a its) where
 vals:=λX hP hw hK _ _ _ _ _ I h=>by subst hK;obtain⟨its,r,p,_⟩:=I.tuple h;exact⟨its,r,p⟩
 inj:=λX hP hw hK _ _ _ _ _ _ I h h'=>by subst hK;exact I.tuple_inj h h'
def GU{P w K}(a:Addr):Src P w K (λH xs=>lM K H a xs) (λits h=>h.IsList a its) where
 vals:=λX hP hw hK _ _ _ _ _ I h=>by subst hK;obtain⟨its,r,p,_⟩:=I.list h;exact⟨its,r,p.isList⟩
 inj:=λX hP hw hK _ _ _ _ _ _ I h h'=>by subst hK;exact I.list_inj h h'
def AV{P:cC}{w:World}{K:aF}{elts:List Expr}{x1:Nat}{pos:Pos}{z TI TO i1 i2 l1 l2:Addr}{st1 st2:Nat->Heap->Prop}{src1 src2:Array Value->Heap->Prop}{S1 S2:Hp->List V->Prop}
  (d1:nS P w i1 l1 st1 src1) (d2:nS P w i2 l2 st2 src2) (e1:Src P w K S1 src1) (e2:Src P w K S2 src2) (D:ZipApart z TI TO i1 i2 l1 l2) :
  IS P w K (.Tuple elts x1 pos) (Itz S1 S2) [z,TI,TO,i1,i2] z (λi h=>IsZip h z TI TO .none/\IsPair h TI (.ref i1) (.ref i2)/\(∃a b,IsPair h TO a b)/\st1 i h/\st2 i h) where
 mem:=by simp
 obj:=λi h st b hb=>by
  obtain⟨hz,hTI,⟨a,c,hTO⟩,h1,h2⟩:=st;simp only[aN,bV,or_false]at hb;rcases hb with rfl | rfl | rfl | rfl | rfl
  ·exact⟨_,hz,λv q=>by cases q⟩
  ·exact⟨_,hTI,λv q=>by cases q⟩
  ·exact⟨_,hTO,λv q=>by cases q⟩
  ·exact d1.has i h h1
  ·exact d2.has i h h2
 keep:=λi h h' st k=>by
  obtain⟨hz,hTI,⟨a,b,hTO⟩,h1,h2⟩:=st;exact⟨k z (by simp) _ hz,k TI (by simp) _ hTI,⟨a,b,k TO (by simp) _ hTO⟩,d1.stAt _ _ _ h1 λo e=>k i1 (by simp) o e,d2.stAt _ _ _ h2 λo e=>k i2 (by simp) o e⟩
 item:=by
  intro X hP hw hK hc i pins s σ H E I hf st hg;obtain⟨hz,hTI,⟨a,b,hTO⟩,h1,h2⟩:=st;obtain⟨xs,ys,x,y,s1,s2,hx,hy⟩:=hg;obtain⟨us,r1,q1⟩:=e1.vals X hP hw hK I s1;obtain⟨vs,r2,q2⟩:=e2.vals X hP hw hK I s2;obtain⟨u,hu,ru⟩:=r1.get hx;obtain⟨v,hv,rv⟩:=r2.get hy;refine QK d1 d2 D hz hTI hTO h1 h2 q1 q2 (x:=u) (y:=v) (by simpa using hu) (by simpa using hv) λh' a1 a2 a3 a4 a5 a6 a7=>⟨_,rfl,?_⟩;refine wpAny_letOwnedTupleGo_zip (s:={ s with heap:=h' }) a1 λh2' hz2 sb=>?_;have hzlt:=aV hz;have neT:∀c o,s.heap.get? c=some o->c≠s.heap.objs.size:=λc o e=>cO (aV e)
  have kk:∀c o,c∉[z,TI,TO,i1,i2]->s.heap.get? c=some o->h2'.get? c=some o:=λc o hc' e=>by
   simp only[aN,bV,or_false,not_or]at hc';exact sb.extBut _ _ hc'.1 (a7 c o hc'.1 hc'.2.2.1 hc'.2.2.2.1 hc'.2.2.2.2 e)
  have hT:IsPair h2' s.heap.objs.size u v:=sb.extBut _ _ (iV hzlt) a5;have I1:cN X pins σ (eS H s.heap.objs.size (.tup [x,y])) { s with heap:=h2' }:=I.turnedNew (t':=s.toks) hf kk (aM _) ⟨(by show 2<=bE;decide),[u,v],.cons ru (.cons rv .nil),⟨_,hT,rfl,_,rfl,rfl⟩⟩;refine⟨.ref s.heap.objs.size,_,I1,rfl,⟨_,x,y,I.hok.fresh (aM _),rfl,rfl,λxs' h'=>by rw[e1.inj X hP hw hK I h' s1];exact hx,λys' h'=>by rw[e2.inj X hP hw hK I h' s2];exact hy⟩,?_,λc hc'=>?_⟩
  ·exact⟨hz2,sb.extBut _ _ D.TIz (a7 _ _ D.TIz D.TITO D.TIi1 D.TIi2 hTI),⟨_,_,sb.extBut _ _ D.TOz a2⟩,d1.stAt _ _ _ a3 λo e=>sb.extBut _ _ D.i1z e,d2.stAt _ _ _ a4 λo e=>sb.extBut _ _ D.i2z e⟩
  ·have hne:c≠s.heap.objs.size:=by
    simp only[aN,bV,or_false]at hc';rcases hc' with rfl | rfl | rfl | rfl | rfl
    ·exact neT _ _ hz
    ·exact neT _ _ hTI
    ·exact neT _ _ hTO
    ·obtain⟨o,e,_⟩:=d1.has _ _ h1;exact neT _ _ e
    ·obtain⟨o,e,_⟩:=d2.has _ _ h2;exact neT _ _ e
   rw[bT hne];exact(hf c hc').1
 done:=by
  intro X hP hw hK hc i pins s σ H E I hf st hg;obtain⟨hz,hTI,⟨a,b,hTO⟩,h1,h2⟩:=st;obtain⟨xs,ys,s1,s2,hle⟩:=hg;obtain⟨us,r1,q1⟩:=e1.vals X hP hw hK I s1;obtain⟨vs,r2,q2⟩:=e2.vals X hP hw hK I s2;have n1:=r1.length;have n2:=r2.length;refine WP (I.ok.hd hc) d1 d2 D hz hTI hTO h1 h2 q1 q2 ?_ λh' a7=>⟨rfl,I.turnedL (t':=s.toks) hf λc o hc' e=>?_⟩
  ·rcases hle with q | q
   ·exact .inl (mR (by rw[aX];omega))
   ·exact .inr (mR (by rw[aX];omega))
  ·simp only[aN,bV,or_false,not_or]at hc';exact a7 c o hc'.1 hc'.2.2.1 hc'.2.2.2.1 hc'.2.2.2.2 e
 self:=λA i s Q E st h=>wpAny_pyIter_zip st.1 h
noncomputable abbrev zH1(c1:String)(h:Heap)(l1:Addr):Heap:=h.push { cls:=.type c1,data:=.fields #[.ref l1,.int 0 0] }
noncomputable abbrev zH2(c1 c2:String)(h:Heap)(l1 l2:Addr):Heap:=(zH1 c1 h l1).push { cls:=.type c2,data:=.fields #[.ref l2,.int 0 0] }
noncomputable abbrev zH3(c1 c2:String)(h:Heap)(l1 l2:Addr):Heap:=(zH2 c1 c2 h l1 l2).push { cls:=.type "tuple",data:=.seq #[.ref h.objs.size,.ref (zH1 c1 h l1).objs.size] }
noncomputable abbrev zH4(c1 c2:String)(h:Heap)(l1 l2:Addr):Heap:=(zH3 c1 c2 h l1 l2).push { cls:=.type "tuple",data:=.seq #[.none,.none] }
noncomputable abbrev P3(c1 c2:String)(h:Heap)(l1 l2:Addr):Heap:=(zH4 c1 c2 h l1 l2).push { cls:=.type "zip",data:=.fields #[.none,.bool false,.bool false,.ref (zH2 c1 c2 h l1 l2).objs.size,.ref (zH3 c1 c2 h l1 l2).objs.size] }
def JI(l1 l2:Addr)(xs ys:Array Value) :
  Meets (Builtin.«zip.__new__» ⟨[.type "zip",.ref l1,.ref l2],[]⟩) (λ_ R s=>s.heap.IsTuple l1 xs/\s.heap.IsTuple l2 ys /\
   R (.ok (.ret (.ref (zH4 "tuple_iterator" "tuple_iterator" s.heap l1 l2).objs.size))) { s with heap:=P3 "tuple_iterator" "tuple_iterator" s.heap l1 l2 }):=
 .of_wp λprog w A R s h=>by
  obtain⟨hp,g,d,tk,os⟩:=s;obtain⟨hl1,hl2,h⟩:=h;have hsub:=sub_zip;have hL1:JG (Shared.heap ⟨hp,g,d,tk,os⟩) l1 xs:=hl1;have hL2:JG (Shared.heap ⟨hp.push { cls:=.type "tuple_iterator",data:=.fields #[.ref l1,.int 0 0] },g,d,tk,os⟩) l2 ys:=JG.push hl2 _
  wp_walk using wpAny_pyIter_tuple hL1,wpAny_pyIter_tuple hL2
  exact⟨_,rfl,h⟩
section
variable{P:cC}{w:World}{A:Around}{E:Value->Shared->Prop}{s:Shared}
def yK{l1 l2:Addr}{xs ys}{Q:Value->Shared->Prop}(hl1:s.heap.IsTuple l1 xs)(hl2:s.heap.IsTuple l2 ys)
  (h:∀h',IsZip h' (s.heap.objs.size+4) (s.heap.objs.size+2) (s.heap.objs.size+3) .none->IsPair h' (s.heap.objs.size+2) (.ref s.heap.objs.size) (.ref (s.heap.objs.size+1)) ->
   IsPair h' (s.heap.objs.size+3) .none .none->h'.IsTupleIter s.heap.objs.size l1 0->h'.IsTupleIter (s.heap.objs.size+1) l2 0 ->
   (∀c o,s.heap.get? c=some o->h'.get? c=some o)->Q (.ref (s.heap.objs.size+4)) { s with heap:=h' }) :
  wpAny (model P w) A (call (.type "zip") [.ref l1,.ref l2]) Q E s:=by
 refine callType_new F.called_zip (by decide) (F.typeCall_zip_2 _ _) (F.newCall_zip_2 _ _) (λobj=>F.args_object_init_3 obj _ _) F.entry_zip_new (JI l1 l2 xs ys) ⟨hl1,hl2,?_⟩;have n1:(zH1 "tuple_iterator" s.heap l1).objs.size=s.heap.objs.size+1:=dW ..;have n2:(zH2 "tuple_iterator" "tuple_iterator" s.heap l1 l2).objs.size=s.heap.objs.size+2:=by rw[dW,n1]
 have n3:(zH3 "tuple_iterator" "tuple_iterator" s.heap l1 l2).objs.size=s.heap.objs.size+3:=by rw[dW,n2]
 have n4:(zH4 "tuple_iterator" "tuple_iterator" s.heap l1 l2).objs.size=s.heap.objs.size+4:=by rw[dW,n3]
 have g5:(P3 "tuple_iterator" "tuple_iterator" s.heap l1 l2).get? (zH4 "tuple_iterator" "tuple_iterator" s.heap l1 l2).objs.size=some _:=aR _ rfl;have g4:(P3 "tuple_iterator" "tuple_iterator" s.heap l1 l2).get? (zH3 "tuple_iterator" "tuple_iterator" s.heap l1 l2).objs.size=some _:=aC _ (aR _ rfl);have g3:(P3 "tuple_iterator" "tuple_iterator" s.heap l1 l2).get? (zH2 "tuple_iterator" "tuple_iterator" s.heap l1 l2).objs.size=some _:=aC _ (aC _ (aR _ rfl));have g2:(P3 "tuple_iterator" "tuple_iterator" s.heap l1 l2).get? (zH1 "tuple_iterator" s.heap l1).objs.size=some _:=aC _ (aC _ (aC _ (aR _ rfl)));have g1:(P3 "tuple_iterator" "tuple_iterator" s.heap l1 l2).get? s.heap.objs.size=some _:=aC _ (aC _ (aC _ (aC _ (aR _ rfl))));show _/\_;rw[n2,n3,n4]at g5;rw[n1,n2]at g3;rw[n3]at g4;rw[n1]at g2;rw[n4];exact⟨⟨_,g5,rfl⟩,h _ g5 g3 g4 ⟨_,g1,rfl,rfl⟩ ⟨_,g2,rfl,rfl⟩ λc o x=>aC _ (aC _ (aC _ (aC _ (aC _ x))))⟩
end
def IM:bootBuiltins "zip"=some (.type "zip"):=by decide +kernel
def aJq(K:aF)(ta:TA):TI:=λσ H R=>ta σ H λvs H1=>∃l1 l2 xs ys,vs=[.ref l1,.ref l2]/\pA K H1 l1 xs/\pA K H1 l2 ys/\R (Itz (λH xs=>pA K H l1 xs) λH xs=>pA K H l2 xs) H1
section
variable{X:Cx}
def aEk{a b ta p pos tpos elts}{x1:Nat}(hg:Gl X "zip")(hm:X.mg "zip"=none)(ha:PA X [a,b] ta)(hs:bL [a,b] X.env=[(false,eval a X.env),(false,eval b X.env)]:=by rfl)(hs2:bL [b] X.env=[(false,eval b X.env)]:=by rfl) :
  PI X (.Tuple elts x1 tpos) (.Call (.Name "zip" p) [a,b] [] pos) (aJq X.K ta):=by
 intro pins s σ H R I h;refine Call_ (sI I hg hm IM (PyProof.Rows.callWith_type1 (iU (ha pos pins s σ H _ I h) λus s1 zq=>?_) (by rw[hs,hs2]) (by rw[hs2];rfl)));obtain⟨vs,H1,I1,r1,q1⟩:=zq;obtain⟨l1,l2,xs,ys,rfl,hq1,hq2,q⟩:=q1
 cases r1 with
 |cons r rr=>
  cases rr with
  |cons r' rr=>
   cases rr;cases r;cases r';obtain⟨us1,rv1,p1,hz1⟩:=I1.tuple hq1;obtain⟨us2,rv2,p2,hz2⟩:=I1.tuple hq2;have lt1:l1<s1.heap.objs.size:=p1.lt;have lt2:l2<s1.heap.objs.size:=p2.lt;refine yK (show s1.heap.IsTuple l1 us1.toArray from p1) (show s1.heap.IsTuple l2 us2.toArray from p2) λh' hz hTI hTO hi1 hi2 hk=>wpAny_pyIter_zip (s:={ s1 with heap:=h' }) hz ?_;refine⟨_,[s1.heap.objs.size+4,s1.heap.objs.size+2,s1.heap.objs.size+3,s1.heap.objs.size,s1.heap.objs.size+1],_,_,H1,rfl,I1.kept (t':=s1.toks) hk,AV (tP _ l1) (tP _ l2) (zR l1) (zR l2) (zipApart_new lt1 lt2),⟨hz,hTI,⟨_,_,hTO⟩,hi1,hi2⟩,λc hc=>?_,q⟩;simp only[aN,bV,or_false]at hc;have le:s1.heap.objs.size<=c:=by rcases hc with rfl | rfl | rfl | rfl | rfl<;>first | exact aM _ | exact rN _ _
   exact I1.fpOk le (I1.hok.fresh le)
end
end L2
namespace TL
open L2
variable{K:aF}
noncomputable def oY(as bs:List D):List D:=(as.zip bs).map λp=>.tuple [p.1,p.2]
def lO(as bs:List D):(oY as bs).length=min as.length bs.length:=by unfold oY;simp
def vQ{as bs}{i:Nat}{x}(h:(oY as bs)[i]?=some x):∃a b,as[i]?=some a/\bs[i]?=some b/\x=.tuple [a,b]:=by
 unfold oY at h;rw[aK]at h
 cases e:(as.zip bs)[i]? with
 |none=>rw[e]at h;cases h
 |some p=>
  rw[e]at h;obtain⟨h1,h2⟩:=fN.mp e;exact⟨p.1,p.2,h1,h2,(Option.some.inj h).symm⟩
def aJp(t:AT):IT:=λσ Q=>t σ λds=>∃as bs,ds=[.tuple as,.tuple bs]/\Q (oY as bs)
section
variable{X:Cx}{a b:Expr}
def aFe{t p p' tpos elts}{x1:Nat}(ha:vK X [a,b] t)(pz:∀{ta},PA X [a,b] ta->PI X (.Tuple elts x1 tpos) (.Call (.Name "zip" p) [a,b] [] p') (aJq X.K ta)):K6 X (.Tuple elts x1 tpos) (.Call (.Name "zip" p) [a,b] [] p') (aJp t):=by
 obtain⟨va,pa,ra⟩:=ha;refine⟨_,pz pa,λB p0 H ps σT σ Q R o h k=>ra B p0 H ps σT σ _ _ o h λds xs H1 s1 r1 q1=>?_⟩;obtain⟨as,bs,rfl,q⟩:=q1
 cases r1 with
 |cons r1 r2=>
  cases r2 with
  |cons r3 r4=>
   cases r4
   cases r1 with
   |@tuple p1 us _ hq1 rs1=>
    cases r3 with
    |@tuple p2 vs _ hq2 rs2=>
     have n1:=rs1.length;have n2:=rs2.length;refine⟨p1,p2,us,vs,rfl,aS.seqT bN hq1,aS.seqT bN hq2,k _ _ H1 s1 ⟨λi H e hl=>?_,λi H e hl=>?_,λi H ps' y H' live e hl hy=>?_⟩ q⟩
     ·rw[lO]at hl;exact⟨us,vs,aS.seqT e hq1,aS.seqT e hq2,by omega⟩
     ·rw[lO]at hl;exact⟨us,vs,us[i],vs[i],aS.seqT e hq1,aS.seqT e hq2,aE (by omega),aE (by omega)⟩
     ·obtain⟨p,x,y',hp,rfl,rfl,h1,h2⟩:=hy;obtain⟨d1,g1,t1⟩:=rs1.get' (h1 us (aS.seqT (e.trans bN) hq1));obtain⟨d2,g2,t2⟩:=rs2.get' (h2 vs (aS.seqT (e.trans bN) hq2));refine⟨cZ hp,.tuple [d1,d2],?_,oA live hp (.cons (t1.same e) (.cons (t2.same e) .nil))⟩;unfold oY;rw[aK,(fN (z:=(d1,d2))).mpr ⟨g1,g2⟩];rfl
end
section
variable{fr:List (Option Nat)}{ti:IT}{te:ET}{σ:List Sl}{Q:D->Prop}{ts:List D}
def xD{α:Type}(l:List α)(a b c d:α):(((l.set 0 a).set 1 b).set 0 c).set 1 d=(l.set 0 c).set 1 d:=by
 match l with
 |[]=>rfl
 |[_]=>rfl
 |_::_::_=>rfl
def FE(hti:qZ ti σ ts)(f:D->D)(hz:ts.length<=100000)(hp:∀x∈ts,∃a b,x=.tuple [a,b])(ht:∀(a b:D)(q:D->Prop),.tuple [a,b]∈ts->q (f (.tuple [a,b]))->te (((jQ fr σ).set 0 (.val a)).set 1 (.val b)) q)(hq:Q (.list (ts.map f))):P5 fr ti (gP 0 1) CK te σ Q:=by
 refine hti _ ⟨hz,λk σ' ds=>(∀x y,(σ'.set 0 (.val x)).set 1 (.val y)=((jQ fr σ).set 0 (.val x)).set 1 (.val y))/\ds=(ts.take k).map f,⟨λ_ _=>rfl,rfl⟩,λk x σ' ds hx h=>?_,λσ' ds h=>?_⟩
 ·obtain⟨h1,rfl⟩:=h;have hm:x∈ts:=aZ hx;obtain⟨a,b,rfl⟩:=hp x hm;refine⟨a,b,rfl,?_⟩;show te ((σ'.set 0 (.val a)).set 1 (.val b)) _;rw[h1 a b];refine ht a b _ hm ⟨λx y=>xD _ _ _ _ _,?_⟩;rw[cW,hx,cK];rfl
 ·obtain⟨_,rfl⟩:=h;rw[eO];exact hq
end
end TL
namespace L2
open PySem.SeqAt
open AutoSeq1 (wpAny_loadPart')
def C1(l:Addr)(items:Array Value)(n:Nat)(dd:Option Addr)(sl:Array (Option Value))(x:Value)(e:Value->Bool)(j:Nat)(hj:j<items.size)(hit:e items[j]=true)(hno:∀m (hm:m<items.size),m<j->e items[m]=false) :
  Meets (Builtin.«tuple.index» ⟨[.ref l,x],[]⟩)
   (λA R s=>s.heap.get? l=some { cls:=.type "tuple",dict:=dd,data:=.seq items n,slots:=sl }/\(∀y,y∈items->EqAt A.in1 s y x (e y))/\R (.ok (.ret (.int j s.toks))) { s with toks:=s.toks+1 }):=by
 intro prog w A R s h;obtain⟨hp,g,d,tk,os⟩:=s;obtain⟨hl,he,h⟩:=h;unfold Builtin.«tuple.index»;simp only[Std.Legacy.Range.forIn_eq_forIn_range']
 wp_walk using wpAny_loadPart' hl
 have hN:([:min items.size items.size]:Std.Legacy.Range).size=items.size:=by simp[Std.Legacy.Range.size]
 rw[hN];show wpAny _ _ (forIn (aKt 0 items.size) (none,()) _) _ _ _;refine wpAny_forIn_list _ (λkD b s'=>b=(none,())/\s'=⟨hp,g,d,tk,os⟩/\∃k,kD=aKt k (items.size-k)/\k<=j) _ (λi kD b s' h1=>?_) (λb s' h1=>?_) _ _ ⟨rfl,rfl,0,by simp,cT _⟩
 ·obtain⟨rfl,rfl,k,hr,hk⟩:=h1;have hkN:k<items.size:=by omega
  have e1:items.size-k=(items.size-(k+1))+1:=by omega
  rw[e1,List.range'_succ]at hr;obtain⟨rfl,rfl⟩:=List.cons.inj hr;have hi:items[i]?=some items[i]:=by simp[hkN]
  rw[hi];refine aG (he _ (Array.getElem_mem hkN) prog w _ _ ?_);by_cases hij:i=j
  ·subst hij;rw[hit,if_pos rfl]
   wp_walk
   exact h
  ·have hlt:i<j:=by omega
   rw[hno i hkN hlt,if_neg (by decide)];exact aW ⟨rfl,rfl,i+1,rfl,hlt⟩
 ·obtain⟨_,_,k,hr,hk⟩:=h1;have:=congrArg kF hr;simp at this;omega
end L2
namespace TL
open L2 PySem.SeqAt
section
variable{X:Cx}{e:Expr}{es:List Expr}{te ta:ET}{pos:Pos}
def OA(ts:List D)(d:D)(j:Nat):Prop:=eE ts=true/\d.canLay0=true/\min (eL ts) d.depth<=60/\(∃t,ts[j]?=some t/\bP t d=true)/\∀(m:Nat) t,m<j->ts[m]?=some t->bP t d=false
def JW(K:aF):V->List V->Hp->VK->Prop:=λx xs H Q=>∃(y:V)(ts:List D)(d:D)(j:Nat),xs=[y]/\gD K H (.tuple ts) x/\gD K H d y/\OA ts d j/\Q (.int j) H
def OJ(hu:X.A.units+200<cLine):P9 X "tuple.index" (JW X.K):=by
 intro pins s σ H x xs v us Q I rx rv h;obtain⟨y,ts,d,j,rfl,r1,r2,⟨c1,c2,hm,⟨t,ht,he⟩,hno⟩,q⟩:=h;obtain⟨u,rfl,ru⟩:=rv.one;obtain⟨as,h1⟩:=gD.reads I (show(gX ts).hasDict=false from noDictAll c1) r1 rx;obtain⟨bs,h2⟩:=gD.reads I (mT c2) r2 ru
 cases h1 with
 |@tuple l o items n _ as' h3 h4 h5 h6=>
  have hmap:=readsAll_map ts items.toList _ c1 h6;have hlen:items.size=ts.length:=by rw[<- hmap,aA,fP]
  have hjl:j<ts.length:=(aH.mp ht).1;have hj:j<items.size:=by omega
  have rd:∀(m:Nat)(hm:m<items.size),ts[m]?=some (readOf s.heap items[m]):=λm hm=>by
   rw[<- hmap,aK];simp[hm]
  obtain⟨oc,od,odt,osl⟩:=o;cases h4;cases h5;refine call_meets F.slot_tuple_index ⟨_,h3,rfl⟩ F.entry_tuple_index (F.args_tuple_index_2 _ _) (C1 _ items _ od osl u (λy=>bP (readOf s.heap y) d) j hj ?_ ?_) ⟨h3,items_eqAt h6 h2 c1 c2 (by have:=hu;omega),?_⟩
  ·have:=rd j hj;rw[ht]at this;rw[<- Option.some.inj this];exact he
  ·intro m hm' hlt;exact hno m _ hlt (rd m hm')
  ·exact⟨.int j,H,I.tok _,⟨_,rfl⟩,q⟩
def BN{k:Nat}(hr:gM k X.A):P9 X "tuple.index" (JW X.K):=OJ (by have:=hr.un;omega)
def aFw(te:ET)(t:AT):ET:=λσ Q=>te σ λd=>∃ts,d=.tuple ts/\t σ λds=>∃(x:D)(j:Nat),ds=[x]/\OA ts x j/\Q (.int j)
def B7{n ap t}(hn:gK X n te)(ha:vK X (e::es) t)
  (pc:∀{v ta},PE X n v->PA X (e::es) ta->PE X (.Call (.Attribute n "index" ap) (e::es) [] pos) (Q9 X.K "tuple" (JW X.K) v ta)):gK X (.Call (.Attribute n "index" ap) (e::es) [] pos) (aFw te t):=by
 obtain⟨v,pe,re⟩:=hn;obtain⟨va,pa,ra⟩:=ha;refine⟨_,pc pe pa,λB p0 H ps σT σ Q QV o h k=>re B p0 H ps σT σ _ _ o h λd x H1 s1 r1 q1=>?_⟩;obtain⟨ts,rfl,q1⟩:=q1
 cases r1 with
 |@tuple p xs _ hq rs=>
  refine⟨.inr (.inl ⟨rfl,.inr ⟨_,aS.seqT bN hq⟩⟩),ra B p0 H1 ps σT σ _ _ (o.grow s1) q1 λds ys H2 s2 r2 q2=>?_⟩;obtain⟨d,j,rfl,hok,q⟩:=q2
  cases r2 with
  |cons r3 r4=>
   cases r4;exact⟨_,ts,d,j,rfl,(gD.tuple hq rs).same ((bH s2).trans bN),r3.same bN,hok,k _ _ H2 (s1.trans s2) (.int _) q⟩
end
section
variable{K:aF}{H H':Hp}{B:Hp}{p0 ps:List Addr}{σT:List Sl}{σ:L2.St}
theorem Reps.put:∀{ts:List D}{xs:List V}(n:Nat){d v},Reps K H ts xs->gD K H d v->Reps K H (ts.set n d) (xs.set n v)
|_,_,_,_,_,.nil,_=>.nil
|_,_,0,_,_,.cons _ t,r=>.cons r t
|_,_,n+1,_,_,.cons s t,r=>.cons s (Reps.put n t r)
def YW{n j:Nat}(h:j<n):UQ n (j:Int)=some j:=by
 unfold UQ;rw[if_pos (by omega),if_pos (by omega)];simp
noncomputable def without(H:Hp)(p:Addr):Hp:=λb=>if b=p then none else H b
def vT{p:Addr}:mask (without H p) ps=mask H (p::ps):=by
 funext b;unfold mask without;by_cases h1:b=p
 ·simp[h1]
 ·by_cases h2:b∈ps<;>simp[h1,h2]
def qO{p:Addr}(s:aS H H')(hp:H p=none):aS H (without H' p):=λb o e=>by
 unfold without;rw[if_neg λz=>by rw[z,hp]at e;cases e];exact s b o e
def xY{p:Addr}{u}(hx:H p=some u):eS (without H p) p u=H:=by
 funext b;by_cases h:b=p
 ·subst h;rw[bS,hx]
 ·rw[bT h];unfold without;rw[if_neg h]
def aS.free'(s:aS H H'){p:Addr}(h:H' p=none):H p=none:=by
 cases q:H p with
 |none=>rfl
 |some u=>rw[s p u q]at h;cases h
def Ok.takeOwn(o:Ok K B p0 H ps σT σ){i:Nat}{ts xs}{p:Addr}(s:aS H H')(hp:H p=none)(hx:H' p=some (.lst xs))(r:Reps K (mask H' (p::ps)) ts xs) :
  Ok K B p0 H' (p::ps) (σT.set i (.own ts)) (σ.set i (some (.ref p))):=by
 have o1:=o.grow (qO s hp);have hn:without H' p p=none:=by unfold without;rw[if_pos rfl]
 have:=o1.setOwn (i:=i) (ts:=ts) (xs:=xs) hn (by rw[vT];exact r)
 rwa [xY hx]at this
end
section
variable{X:Cx}{a b c e:Expr}{es:List Expr}{ta tb te:ET}{pos:Pos}
abbrev FT:=List Sl->(List D->Prop)->Prop
def K7(X:Cx)(e:Expr)(t:FT):Prop:=∃te:TE,PE X e te/\∀B p0 H ps σT σ (Q:List D->Prop)(QV:VK),Ok X.K B p0 H ps σT σ->t σT Q ->
 (∀ts p xs H',aS H H'->H p=none->H' p=some (.lst xs)->Reps X.K (mask H' (p::ps)) ts xs->Q ts->QV (.ref p) H')->te σ H QV
def eFr(t:FT):ET:=λσ Q=>t σ λts=>Q (.list ts)
def HX{t}(h:K7 X e t):gK X e (eFr t):=by
 obtain⟨v,p,r⟩:=h;refine⟨_,p,λB p0 H ps σT σ Q QV o h k=>r B p0 H ps σT σ _ _ o h λts p xs H' s hp hx rs q=>k _ _ H' s ?_ q⟩;exact .list (lM.of (jY (hV o.live hp) hx)) (rs.same (gF λq hq=>aI _ hq))
def aMp(t:AT):FT:=λσ Q=>t σ λds=>ds.length<=1000/\Q ds
def aFo{t}(h:vK X es t):K7 X (.List es pos) (aMp t):=by
 obtain⟨v,p,r⟩:=h;refine⟨_,FA p,λB p0 H ps σT σ Q QV o h k=>r B p0 H ps σT σ _ _ o h λds xs H1 s1 r1 q1=>⟨qT (by rw[<- r1.length];exact q1.1),λq hq=>?_⟩⟩;exact k ds q xs _ (s1.trans (cZ hq)) (aS.free' s1 hq) bS (by rw[kT hq];exact r1) q1.2
def aCs(ta tb:ET):FT:=λσ Q=>ta σ λx=>tb σ λy=>∃as bs,x=.list as/\y=.list bs/\as.length+bs.length<=100000/\Q (as++bs)
def aFp(ha:gK X a ta)(hb:gK X b tb):K7 X (.BinOp a .Add b pos) (aCs ta tb):=by
 obtain⟨va,pa,ra⟩:=ha;obtain⟨vb,pb,rb⟩:=hb;refine⟨_,G6 FB pa pb,λB p0 H ps σT σ Q QV o h k=>ra B p0 H ps σT σ _ _ o h λd1 x H1 s1 r1 q1=>?_⟩;refine rb B p0 H1 ps σT σ _ _ (o.grow s1) q1 λd2 y H2 s2 r2 q2=>?_;obtain⟨as,bs,rfl,rfl,hz,q⟩:=q2
 cases r1 with
 |list h1 t1=>
  cases r2 with
  |list h2 t2=>
   refine⟨_,_,_,_,rfl,rfl,L2.aS.seq ((bH s2).trans bN) h1,L2.aS.seq bN h2,wF (by rw[<- t1.length,<- t2.length];exact hz),λp hp=>?_⟩;exact k _ p _ _ ((s1.trans s2).trans (cZ hp)) (aS.free' (s1.trans s2) hp) bS (by rw[kT hp];exact(t1.same (bH s2)).append t2) q
def aJ2(i:Nat)(tb:ET):FT:=λσ Q=>∃ts,σ[i]?=some (.own ts)/\tb σ λy=>∃bs,y=.list bs/\ts.length+bs.length<=100000/\Q (ts++bs)
def MS{i:Nat}{n}(hn:PE X n (oI i))(hb:gK X b tb):K7 X (.BinOp n .Add b pos) (aJ2 i tb):=by
 obtain⟨vb,pb,rb⟩:=hb;refine⟨_,G6 FB hn pb,λB p0 H ps σT σ Q QV o h k=>?_⟩;obtain⟨ts,e,h⟩:=h;obtain⟨q,xs,h1,h2,h3,h4,h5,h6⟩:=o.own i ts e;refine⟨.ref q,h1,rb B p0 H ps σT σ _ _ o h λd2 y H2 s2 r2 q2=>?_⟩;obtain⟨bs,rfl,hz,q2⟩:=q2
 cases r2 with
 |list g2 t2=>
  refine⟨_,_,_,_,rfl,rfl,lM.of (s2 _ _ h5),L2.aS.seq bN g2,wF (by rw[<- h6.length,<- t2.length];exact hz),λp hp=>?_⟩;exact k _ p _ _ (s2.trans (cZ hp)) (aS.free' s2 hp) bS (by rw[kT hp];exact(h6.same (bH s2)).append t2) q2
def fLc(fr:List (Option Nat))(ti:IT)(g:GT)(tt:vN)(te:ET):FT:=λσ Q=>ti σ λts=>ts.length<=100000/\∃P:Nat->List Sl->List D->Prop,P 0 (jQ fr σ) [] /\
 (∀(k:Nat)(x:D)σ'(ds:List D),ts[k]?=some x->P k σ' ds->g x σ' λσ2=>tt σ2 λb=>if b=true then te σ2 λy=>P (k+1) σ2 (ds++[y])else P (k+1) σ2 ds)/\∀σ' ds,P ts.length σ' ds->Q ds
def asL(Q:List D->Prop)(d:D):Prop:=match d with | .list ds=>Q ds | _=>False
def U7{fr ti g tt te σ}{Q:List D->Prop}(h:P5 fr ti g tt te σ (asL Q)):fLc fr ti g tt te σ Q:=h
def UG{fr}{ti:IT}{g:GT}{tt:vN}{te:ET}{wi:TI}{gv:BP->TG}{vt:BP->TT}{ve:BP->TE}
  (ri:∀B p0 H ps σT σ (Q:List D->Prop)(R:It->Hp->Prop),Ok X.K B p0 H ps σT σ->ti σT Q->(∀ts J H',aS H H'->ZW X.K (mask H' ps) ts J->Q ts->R J H')->wi σ H R)
  (rg:∀(bp:BP)B p0 H ps σT σ(d:D)(v:V)(Q:List Sl->Prop)(QV:L2.St->Hp->Prop),Ok X.K B p0 H ps σT σ->gD X.K (mask H ps) d v->g d σT Q->(∀σT' σ',Ok X.K B p0 H ps σT' σ'->(nW σT->nW σT')->Q σT'->QV σ' H)->gv bp v σ H QV)
  (rt:∀(bp:BP)B p0 H ps σT σ(Q:Bool->Prop)(QV:Bool->Hp->Prop),Ok X.K B p0 H ps σT σ->tt σT Q->(∀b H',aS H H'->Q b->QV b H')->vt bp σ H QV)
  (re:∀(bp:BP)B p0 H ps σT σ(Q:D->Prop)QV,Ok X.K B p0 H ps σT σ->te σT Q->(∀d v H',aS H H'->gD X.K (mask H' ps) d v->Q d->QV v H')->ve bp σ H QV)
  (B:Hp) (p0:List Addr) (H:Hp) (ps:List Addr) (σT:List Sl) (σ:L2.St) (Q:List D->Prop) (QV:VK) (o:Ok X.K B p0 H ps σT σ) (h:fLc fr ti g tt te σT Q) (k:∀ts p xs H',aS H H'->H p=none->H' p=some (.lst xs)->Reps X.K (mask H' (p::ps)) ts xs->Q ts->QV (.ref p) H'):Q6 fr wi gv vt ve σ H QV:=by
 refine ri B p0 H ps σT σ _ _ o h λts J H1 s1 rj q1=>?_;obtain⟨hz,P,h0,hs,hd⟩:=q1;intro bp acc hacc;have hBacc:B acc=none:=aS.free' (o.grow s1).base hacc
 refine⟨λi m σ' H'=>m=ts.length-i/\i<=ts.length/\∃σT' ds ys,Ok X.K B p0 H' (acc::ps) σT' σ'/\nW σT'/\H' acc=some (.lst ys)/\ds.length<=i/\Reps X.K (mask H' (acc::ps)) ds ys/\aS (mask H1 ps) (mask H' (acc::ps))/\aS H1 H'/\P i σT' ds,
  ⟨_,rfl,cT _,jQ fr σT,[],[],((o.grow s1).blk fr).adopt hacc,pX fr σT,bS,aM _,.nil,by rw[kT hacc];exact L2.aS.refl _,cZ hacc,h0⟩,?_⟩
 rintro i m σ' H' ⟨rfl,hle,σT',ds,ys,o',n',ha,hl,hr,s',sF,p'⟩;have hL:bE=2^24:=rfl;by_cases hlt:i<ts.length
 ·refine .inr ⟨rj.go i H' (s'.trans bN) hlt,λy H2 hy=>?_⟩;obtain⟨s2,dx,hx,rx⟩:=rj.yld i H' (acc::ps) y H2 o'.live s' hlt hy;refine rg bp B p0 H2 (acc::ps) σT' σ' dx y _ _ (o'.grow s2) rx (hs i dx σT' ds hx p') λσT3 σ3 o3 n3 q3=>?_;refine rt bp B p0 H2 (acc::ps) σT3 σ3 _ _ o3 q3 λb H4 s4 q4=>?_;have s24:=s2.trans s4
  cases b with
  |false=>
   exact⟨ts.length-(i+1),by omega,rfl,hlt,σT3,ds,ys,o3.grow s4,n3 n',s24 _ _ ha,by omega,hr.same (bH s24),s'.trans (bH s24),sF.trans s24,q4⟩
  |true=>
   refine re bp B p0 H4 (acc::ps) σT3 σ3 _ _ (o3.grow s4) q4 λd v H5 s5 r5 q5=>?_;have s25:=s24.trans s5;have hm:mask (eS H5 acc (.lst (ys++[v]))) (acc::ps)=mask H5 (acc::ps):=fB (aL ..);refine⟨ys,s25 _ _ ha,by rw[<- hr.length];omega,ts.length-(i+1),by omega,rfl,hlt,σT3,ds++[d],ys++[v],((o3.grow s4).grow s5).aside (aL ..) hBacc (n3 n'),n3 n',bS,by rw[bQ,nH];omega,?_,?_,?_,q5⟩
   ·rw[hm];exact(hr.same (bH s25)).append (.cons r5 .nil)
   ·rw[hm];exact s'.trans (bH s25)
   ·intro b u e;have ne:b≠acc:=λz=>by rw[z,hacc]at e;cases e
    rw[bT ne];exact(sF.trans s25) b u e
 ·obtain rfl:i=ts.length:=by omega
  exact .inl ⟨rj.stop _ H' (s'.trans bN) (aM _),k ds acc ys H' (s1.trans sF) (aS.free' s1 hacc) ha hr (hd σT' ds p')⟩
def YR{elt iter tg ifs scope fr N' ti g tt te}(hi:K6 X tg iter ti)
  (hY:∀b:BP,M9 (blk X scope N' b) tg g/\F2 (blk X scope N' b) ifs tt/\gK (blk X scope N' b) elt te) {M:(TE)->Prop}
  (fin:∀{wi}{gv:BP->TG}{vt:BP->TT}{ve:BP->TE},PI X tg iter wi->(∀b:BP,PG (blk X scope N' b) tg (gv b)/\PM (blk X scope N' b) ifs (vt b)/\PE (blk X scope N' b) elt (ve b))->M (Q6 fr wi gv vt ve)) :
  ∃v:TE,M v/\∀B p0 H ps σT σ (Q:List D->Prop)(QV:VK),Ok X.K B p0 H ps σT σ->fLc fr ti g tt te σT Q ->
   (∀ts p xs H',aS H H'->H p=none->H' p=some (.lst xs)->Reps X.K (mask H' (p::ps)) ts xs->Q ts->QV (.ref p) H')->v σ H QV:=by
 obtain⟨wi,pi,ri⟩:=hi;refine⟨_,fin (gv:=λb=>Classical.choose (hY b).1) (vt:=λb=>Classical.choose (hY b).2.1) (ve:=λb=>Classical.choose (hY b).2.2) pi λb=>⟨(Classical.choose_spec (hY b).1).1,(Classical.choose_spec (hY b).2.1).1,(Classical.choose_spec (hY b).2.2).1⟩,?_⟩;exact UG ri (λb=>(Classical.choose_spec (hY b).1).2) (λb=>(Classical.choose_spec (hY b).2.1).2) λb=>(Classical.choose_spec (hY b).2.2).2
def aJv{elt iter tg ifs scope fr N' ti g tt te}(hi:K6 X tg iter ti)
  (hY:∀b:BP,M9 (blk X scope N' b) tg g/\F2 (blk X scope N' b) ifs tt/\gK (blk X scope N' b) elt te)
  (pl:∀{wi}{gv:BP->TG}{vt:BP->TT}{ve:BP->TE},PI X tg iter wi->(∀b:BP,PG (blk X scope N' b) tg (gv b)/\PM (blk X scope N' b) ifs (vt b)/\PE (blk X scope N' b) elt (ve b))->PE X (.ListComp elt [⟨tg,iter,ifs,0⟩] scope pos) (Q6 fr wi gv vt ve)) :
  K7 X (.ListComp elt [⟨tg,iter,ifs,0⟩] scope pos) (fLc fr ti g tt te):=YR hi hY pl
abbrev WI:=List D->(List D->Prop)->Prop
def iP(K:aF)(sp:WI):Sp:=λvs H Q _=>∃(ps:List Addr)(ds:List D)(QD:List D->Prop),(∀p∈ps,yO (H p))/\Reps K (mask H ps) ds vs/\sp ds QD /\
 ∀ts p xs H',aS H H'->H p=none->H' p=some (.lst xs)->Reps K (mask H' (p::ps)) ts xs->QD ts->Q (.ref p) H'
def aCr(sp:WI)(t:AT):FT:=λσ Q=>t σ λds=>sp ds Q
def Y6{k:Nat}{f:Addr}{fd pn sp x p t}(F:bU X.prog X.w X.K X.mg X.base eG k f fd pn (iP X.K sp))(hm:X.mg x=some (.ref f))(hk:fV X.K (.ref f)=true)(hb:oR X.K fd pn [])
  (hr:gM k X.A) (ha:vK X (e::es) t) (pc:∀{ta},PA X (e::es) ta->PE X (.Call (.Name x p) (e::es) [] pos) (xZ (iP X.K sp) [] E0 ta)):K7 X (.Call (.Name x p) (e::es) [] pos) (aCr sp t):=by
 obtain⟨v,pa,ra⟩:=ha;refine⟨_,pc pa,λB p0 H ps σT σ Q QV o h k=>ra B p0 H ps σT σ _ _ o h λds xs H1 s1 r1 q1=>?_⟩;show iP X.K sp (xs++[]) H1 QV E0;rw[dQ];exact⟨ps,ds,Q,(o.grow s1).live,r1,q1,λts p xs' H' s' hp hx rs q=>k ts p xs' H' (s1.trans s') (aS.free' s1 hp) hx rs q⟩
def fnF{P w K}{mg:Str->Option Value}{base x qual st}{f:Addr}{fd}{N pn:List Str}{k:Nat}{sp:WI}(F:LB K x qual st f fd)(S:bZ N pn (aY st))(len:∀ds Q,sp ds Q->ds.length=pn.length)
  (hbody:∀(cdv:Value)(A:Around)outer(s:Shared)H E,gM k (A.deeper (envOfC qual (aY st) s.heap.objs.size f cdv))->∀(ds:List D)(Q:List D->Prop),sp ds Q ->
   ∃t,uA (qB eG P w K mg base N qual (aY st) f cdv A outer s H E).nox (kN st) t/\t { nx:=λ_=>False,rt:=λ_=>False,ro:=Q } (iZ N ds)):bU P w K mg base eG (k+1) f fd pn (iP K sp):=by
 refine F.ok S (λvs H Q E h=>?_) λcdv A outer s H vs Q E hr h=>?_
 ·obtain⟨ps,ds,QD,_,r,q,_⟩:=h;rw[<- r.length];exact len ds QD q
 ·obtain⟨ps,ds,QD,live,r,q,k⟩:=h;obtain⟨t,⟨ts,p,rd⟩,h⟩:=hbody cdv A outer s H E hr ds QD q;exact⟨ts,p,rd H ps H ps _ _ _ _ (oM live r) h ⟨λ_ _ _ _ _ _ q'=>q'.elim,λ_ _ _ _ _ _ q'=>q'.elim,λ_ _ _ _ _ _ q'=>q'.elim,λ_ _ _ _ _ q'=>q'.elim,λts p xs H' s' hB hp hx rs q'=>k ts p xs H' s' hB hx rs q',λ_ _ _ _ _ _ _ _ _ _ _ _ _ _ _ _ _ _ q'=>q'.elim,λ_ _ _ _ _ _ _ _ _ _ _ _ _ _ q'=>q'.elim,True.intro⟩⟩
def GY(i:Nat)(t:FT):vH:=λDT σ=>t σ λts=>DT.nx (σ.set i (.own ts))
def NX{i:Nat}{t:FT}{v:TE}(r:∀B p0 H ps σT σ (Q:List D->Prop)(QV:VK),Ok X.K B p0 H ps σT σ->t σT Q ->
   (∀ts p xs H',aS H H'->H p=none->H' p=some (.lst xs)->Reps X.K (mask H' (p::ps)) ts xs->Q ts->QV (.ref p) H')->v σ H QV)
  (B:Hp) (p0:List Addr) (H:Hp) (ps:List Addr) (σT:List Sl) (σ:L2.St) (DT:uK) (DV:CS) (o:Ok X.K B p0 H ps σT σ) (h:GY i t DT σT) (f:F3 X.K B p0 H ps DT DV):tW v (lF i) DV σ H:=by
 refine r B p0 H ps σT σ _ _ o h λts p xs H' s hp hx rs q=>?_;exact f.nx H' (p::ps) _ _ (o.takeOwn s hp hx rs) (by rw[<- vT];exact bH (qO s hp)) q
def XG{i:Nat}{x pos' t}(h:K7 X e t)(ps':∀{v},PE X e v->PS X (.Assign [.Name x pos'] e pos) (tW v (lF i))):AM X (.Assign [.Name x pos'] e pos) (GY i t):=by
 obtain⟨v,p,r⟩:=h;exact⟨_,ps' p,NX r⟩
def aB3(t:FT):vH:=λDT σ=>t σ DT.ro
def vY{t}(h:K7 X e t):AM X (.Return (some e) pos) (aB3 t):=by
 obtain⟨v,p,r⟩:=h;refine⟨_,BD p,λB p0 H ps σT σ DT DV o h f=>r B p0 H ps σT σ _ _ o h λts p xs H' s hp hx rs q=>?_⟩;refine f.ro ts p xs H' (o.base.trans s) (aS.free' o.base hp) (λz=>hV o.live hp (o.sub p z)) hx (rs.same (gF λq hq=>?_)) q;rcases aN.mp hq with rfl | hq
 ·exact aL ..
 ·exact aI _ (o.sub q hq)
def XW(i:Nat):vH:=λDT σ=>∃ts,σ[i]?=some (.own ts)/\DT.ro ts
def NU{i:Nat}{n}(hn:PE X n (oI i)):AM X (.Return (some n) pos) (XW i):=by
 refine⟨_,BD hn,λB p0 H ps σT σ DT DV o h f=>?_⟩;obtain⟨ts,e,h⟩:=h;obtain⟨q,xs,h1,h2,h3,h4,h5,h6⟩:=o.own i ts e;refine⟨.ref q,h1,f.ro ts q xs H o.base h3 h4 h5 (h6.same (gF λz hz=>?_)) h⟩;rcases aN.mp hz with rfl | hz
 ·exact h2
 ·exact o.sub z hz
def R3(c:vN)(tb:vH):vH:=λDT σ=>∃P:Nat->List Sl->Prop,(∃n,P n σ)/\∀n σ',P n σ'->c σ' λb=>if b=true then tb { DT with nx:=λσ2=>∃m,m<n/\P m σ2,ct:=λσ2=>∃m,m<n/\P m σ2,bk:=DT.nx } σ' else DT.nx σ'
def RG{c body tc tb}(hc:IV X c tc)(hb:uA X body tb)(pw:∀{vc vb},PT X c vc->yN X body vb->PS X (.While c body [] pos) (Q2 vc vb)):AM X (.While c body [] pos) (R3 tc tb):=by
 obtain⟨vc,pc,rc⟩:=hc;obtain⟨vb,pb,rb⟩:=hb;refine⟨_,pw pc pb,λB p0 H ps σT σ DT DV o h f=>?_⟩;obtain⟨P,⟨n0,h0⟩,hs⟩:=h;refine⟨λn σ' H'=>∃ps' σT',Ok X.K B p0 H' ps' σT' σ'/\aS (mask H ps) (mask H' ps')/\P n σT',⟨n0,ps,σT,o,L2.aS.refl _,h0⟩,?_⟩;rintro n σ' H' ⟨ps',σT',o',s',p'⟩;refine rc B p0 H' ps' σT' σ' _ _ o' (hs n σT' p') λb H1 s1 q1=>?_;have f':F3 X.K B p0 H1 ps' DT DV:=(f.later s').later (bH s1);have s'':aS (mask H ps) (mask H1 ps'):=s'.trans (bH s1)
 cases b with
 |true=>
  rw[if_pos rfl]at q1 |-
  refine⟨λσ2 H2=>∃m,m<n/\∃ps2 σT2,Ok X.K B p0 H2 ps2 σT2 σ2/\aS (mask H ps) (mask H2 ps2)/\P m σT2,λσ2 H2 z=>z,?_⟩;exact rb B p0 H1 ps' σT' σ' _ _ (o'.grow s1) q1 ⟨λH4 ps4 σT4 σ4 o4 s4 ⟨m,hm,q4⟩=>⟨m,hm,ps4,σT4,o4,s''.trans s4,q4⟩,λH4 ps4 σT4 σ4 o4 s4 q4=>f'.nx H4 ps4 σT4 σ4 o4 s4 q4,λH4 ps4 σT4 σ4 o4 s4 ⟨m,hm,q4⟩=>⟨m,hm,ps4,σT4,o4,s''.trans s4,q4⟩,f'.rt,f'.ro,f'.rp,f'.rq,f'.xb⟩
 |false=>
  rw[if_neg (by decide)]at q1 |-
  exact f'.nx H1 ps' σT' σ' (o'.grow s1) (L2.aS.refl _) q1
def gP3(i j k:Nat):GT:=λd σ Q=>∃a b c,d=.tuple [a,b,c]/\Q (((σ.set i (.val a)).set j (.val b)).set k (.val c))
def D0{i j k:Nat}{t}(h:PG X t (aFl X.K 3 (D1 (lF i) (D1 (lF j) (D1 (lF k) aFn))))):M9 X t (gP3 i j k):=
 ⟨_,h,λB p0 H ps σT σ d v Q QV o r h k=>by
  obtain⟨a,b,c,rfl,h⟩:=h
  cases r with
  |@tuple p xs _ hq r=>
   cases r with
   |cons ra r=>
    cases r with
    |cons rb r=>
     cases r with
     |cons rc r=>
      cases r;exact⟨_,_,rfl,aS.seqT bN hq,rfl,_,_,rfl,_,_,rfl,_,_,rfl,rfl,k _ _ (((o.set ra).set rb).set rc) (λn=>oH (oH (oH n _ _) _ _) _ _) h⟩⟩
def aB2(te:ET)(g:GT):vH:=λDT σ=>te σ λd=>g d σ DT.nx
def XE{tg g}(he:gK X e te)(hg:M9 X tg g)(pa:∀{v gv},PE X e v->PG X tg gv->PS X (.Assign [tg] e pos) (tW v gv)):AM X (.Assign [tg] e pos) (aB2 te g):=by
 obtain⟨v,pe,re⟩:=he;obtain⟨gv,pg,rg⟩:=hg;refine⟨_,pa pe pg,λB p0 H ps σT σ DT DV o h f=>re B p0 H ps σT σ _ _ o h λd x H1 s1 r1 q1=>?_⟩;exact rg B p0 H1 ps σT σ d x _ _ (o.grow s1) r1 q1 λσT' σ' o' _ q'=>f.nx H1 ps _ _ o' (bH s1) q'
def eIf(c:vN)(ta tb:ET):ET:=λσ Q=>c σ λb=>if b=true then ta σ Q else tb σ Q
def D3{tc}(hc:IV X c tc)(ha:gK X a ta)(hb:gK X b tb):gK X (.IfExp c a b pos) (eIf tc ta tb):=by
 obtain⟨vc,pc,rc⟩:=hc;obtain⟨va,pa,ra⟩:=ha;obtain⟨vb,pb,rb⟩:=hb;refine⟨_,S4 pc pa pb,λB p0 H ps σT σ Q QV o h k=>rc B p0 H ps σT σ _ _ o h λd H1 s1 q1=>?_⟩
 cases d with
 |true=>
  rw[if_pos rfl]at q1 |-
  exact ra B p0 H1 ps σT σ Q _ (o.grow s1) q1 λd v H' s' r' q'=>k d v H' (s1.trans s') r' q'
 |false=>
  rw[if_neg (by decide)]at q1 |-
  exact rb B p0 H1 ps σT σ Q _ (o.grow s1) q1 λd v H' s' r' q'=>k d v H' (s1.trans s') r' q'
def aMn(d:D)(Q:D->Prop):Prop:=match d with
|.int i=>Q (.int i)
|.bool b=>Q (.int (if b then 1 else 0))
|_=>False
def aKd:uL X (λxs H Q=>(∃i,xs=[.int i]/\Q (.int i) H)\/∃k,xs=[.bl k]/\Q (.int (if k then 1 else 0)) H) (f1 aMn):=c1 λH ps d x Q QV live r h k=>by
 cases r with
 |int i=>exact .inl ⟨i,rfl,k _ _ H (L2.aS.refl H) (.int _) h⟩
 |bool b=>exact .inr ⟨b,rfl,k _ _ H (L2.aS.refl H) (.int _) h⟩
 |_=>exact h.elim
end
end TL
namespace L2
open PySem.SeqAt
open AutoSeq1 (wpAny_loadPart')
section
variable{X:Cx}{pins:List (Addr×Obj)}{σ:St}{H:Hp}{s:Shared}{p:Addr}
def cN.retold{u u'}(I:cN X pins σ H s)(h:H p=some u)(nt:∀xs,u≠.tup xs)(nf:∀o v,u≠.frz o v)(nb:∀ps,u≠.tbl ps)(no:∀a,u≠.own a)(new:iE X.prog X.w (eS H p u') s.heap p u'):cN X pins σ (eS H p u') s:=by
 have ne:∀b v,H b=some v->v≠u->eS H p u' b=some v:=λb v e hv=>by
  rw[bT λz=>by rw[z,h]at e;exact hv (Option.some.inj e).symm];exact e
 have fin:=I.step (h':=s.heap) (H':=eS H p u') (g':=s.gens) (t':=s.toks) (d':=s.drawn) (ch:=[]) (λb hb=>by cases hb) (λb o _ _ _ e _=>e) (λb o _ _ _ e _=>⟨o.slots,e⟩)
  (λb o _ e n=>by rw[bT λz=>by rw[z,h]at n;cases n];exact n) (λb o _ e=>⟨o,e⟩) (λb xs e=>ne _ _ e (λz=>nt xs z.symm)) (λb o v e=>ne _ _ e (λz=>nf o v z.symm))
  (λb ps e=>⟨#[],by rw[ne _ _ e (λz=>nb ps z.symm)];simp⟩) (λm hm=>hm) (λb v e=>?_) I.bare
 ·exact fin
 ·by_cases hb:b=p
  ·subst hb;rw[bS]at e;cases e;exact new
  ·rw[bT hb]at e;exact(I.hok b v e).stay (λc w _ q=>q) (λc q=>ne _ _ q λz=>no b z.symm) (λc xs q=>ne _ _ q λz=>nt xs z.symm) λc ob y q=>ne _ _ q λz=>nf ob y z.symm
end
def KU(l:Addr)(items:Array Value)(n:Nat)(b:Addr)(items2:Array Value)(n2:Nat)(dd:Option Addr)(sl:Array (Option Value))(hc0:¬(!items.isEmpty&&Builtin.List.listTooLong (items.size+items2.size))=true)(hc1:items.size<=bE)(hs2:items.size+items2.size<=bE+1) :
  Meets (Builtin.«list.extend» ⟨[.ref l,.ref b],[]⟩) (λ_ R s=>s.heap.get? l=some { cls:=.type "list",dict:=none,data:=.seq items n,slots:=#[] }/\s.heap.get? b=some { cls:=.type "list",dict:=dd,data:=.seq items2 n2,slots:=sl }/\R (.ok (.ret Value.none)) { s with heap:=s.heap.update l (Obj.mapSeq λx=>x++items2),toks:=s.toks }):=
 .of_wp λprog w A R s h=>by
  obtain⟨hp,g,d,tk,os⟩:=s;obtain⟨hl,hb,h⟩:=h;have f1:=AutoSeq1.idx_int;have f2:=AutoSeq1.sub_tuple_tuple;have f3:=AutoSeq1.sub_list_list;have f4:=AutoSeq1.sub_tuple_list;have f5:=AutoSeq1.sub_list_tuple;have hz':(items++items2).size<=bE+1:=by rw[QH];exact hs2
  wp_walk using(wpAny_updateSeq hl rfl (hz:=hc1) (_hz':=hz')),wpAny_loadPart' hl,wpAny_loadPart' hb
  exact⟨_,rfl,h⟩
section
variable{X:Cx}
def aB9(K:aF):V->List V->Hp->VK->Prop:=λx vs H Q=>∃l b xs zs,x=.ref l/\vs=[.ref b]/\H l=some (.lst xs)/\lM K H b zs/\xs.length+zs.length<=bE/\Q .non (eS H l (.lst (xs++zs)))
def MG:MtM X "list.extend" (aB9 X.K):=by
 intro pins s σ H x vs v us Q I rx rv h;obtain⟨l,b,xs,zs,rfl,rfl,hH,hB,hz,q⟩:=h;cases rx;obtain⟨u,rfl,ru⟩:=rv.one;cases ru;obtain⟨z,its,n,r,hl,e⟩:=I.lstM hH;obtain⟨its2,r2,⟨o,n2,e2,hc,hdn,hd⟩,z2⟩:=I.list hB;have hl2:=r2.length;have hsz:its.toArray.size+its2.toArray.size<=bE:=by rw[aX,aX];omega
 have hlong:¬(!its.toArray.isEmpty&&Builtin.List.listTooLong (its.toArray.size+its2.toArray.size))=true:=by
  rw[TN hsz,aDe];exact bY
 obtain⟨oc,od,odt,osl⟩:=o;cases hc;cases hd;refine call_meets F.slot_list_extend ⟨_,e,rfl⟩ F.entry_list_extend (F.args_list_extend_2 _ _) (KU l its.toArray n b its2.toArray n2 od osl hlong (by rw[aX];omega) (by omega)) ⟨e,e2,?_⟩;refine⟨.non,_,I.lset (its':=its++its2) hH e (by simp) (r.append r2) ?_,rfl,q⟩;rw[bQ];omega
end
end L2
namespace TL
open L2
section
variable{X:Cx}{e:Expr}{ta te:ET}{pos:Pos}
def aB4(i:Nat)(te:ET):vH:=λDT σ=>∃ts,σ[i]?=some (.own ts)/\te σ λd=>∃us,d=.list us/\ts.length+us.length<=100000/\DT.nx (σ.set i (.own (ts++us)))
def LO{i:Nat}{n e te ap cp}(hn:PE X n (oI i))(he:gK X e te)(hs:bL [e] X.env=(false,eval e X.env)::bL [] X.env:=by rfl)
  (pb:∀{ta},PA X [e] ta->PS X (.Expr (.Call (.Attribute n "extend" ap) [e] [] cp) pos) (DK (Q9 X.K "list" (aB9 X.K) (oI i) ta))):AM X (.Expr (.Call (.Attribute n "extend" ap) [e] [] cp) pos) (aB4 i te):=by
 obtain⟨v,p,r⟩:=he;refine⟨_,pb (cL p gL hs),λB p0 H ps σT σ DT DV o h f=>?_⟩;obtain⟨ts,e,h⟩:=h;obtain⟨q,xs,h1,h2,h3,h4,h5,h6⟩:=o.own i ts e;refine⟨.ref q,h1,.inl ⟨rfl,xs,lM.of h5⟩,r B p0 H ps σT σ _ _ o h λd x H1 s1 r1 q1=>?_⟩;obtain⟨us,rfl,hz,q1⟩:=q1;have o1:=o.grow s1
 cases r1 with
 |@list p2 zs _ hq rs=>
  refine⟨q,p2,xs,zs,rfl,rfl,s1 _ _ h5,L2.aS.seq bN hq,wF (by rw[<- h6.length,<- rs.length];exact hz),?_⟩;have hr:Reps X.K (mask H1 ps) (ts++us) (xs++zs):=(h6.same (bH s1)).append rs;exact f.nx _ ps _ σ (o1.write (ys:=xs++zs) e h1 hr) ((bH s1).trans (by rw[fB h2];exact L2.aS.refl _)) q1
def wL{P w K}{mg:Str->Option Value}{base}{k:Nat}{f:Addr}{fd pn}:bU P w K mg base eG k f fd pn (bJ K λ_ _=>False):=
 ⟨λvs H Q E ⟨_,_,_,_,_,h,_⟩=>h.elim,λA outer s H args us vs Q E _ _ _ _ ⟨_,_,_,_,_,h,_⟩=>h.elim⟩
def FM{P w K}{mg:Str->Option Value}{base}{k:Nat}{f:Addr}{fd pn}{sp sp':oV}(F:bU P w K mg base eG k f fd pn (bJ K sp))(h:∀ds Q,sp' ds Q->sp ds Q):bU P w K mg base eG k f fd pn (bJ K sp'):=
 F.imp λvs H Q E ⟨ps,ds,QD,h1,h2,h3,h4⟩=>⟨ps,ds,QD,h1,h2,h ds QD h3,h4⟩
def aMm(d:D)(Q:D->Prop):Prop:=∃ns:List Int,d=.list (ns.map bI)/\ns≠[]/\∀m,m∈ns->(∀n∈ns,n<=m)->Q (.int m)
end
end TL
namespace L2
section
variable{X:Cx}
def uH(hc:X.calm=true):lG X (.builtin "max") (λxs H Q=>∃(p:Addr)(ns:List Int),xs=[.ref p]/\lM X.K H p (ns.map V.int)/\ns≠[]/\∀m,m∈ns->(∀n∈ns,n<=m)->Q (.int m) H):=by
 intro pins s σ H xs us Q I r h;obtain⟨p,ns,rfl,hq,hne0,q⟩:=h;obtain⟨u,rfl,rx⟩:=pC r;cases rx;obtain⟨its,rv,pl,hz⟩:=I.list hq;have hlen:=rv.length;rw[aA]at hlen;have hpos:0<ns.length:=PV.mpr hne0
 have hne:p≠s.heap.objs.size:=by
  obtain⟨o,ho,_⟩:=pl.isList;exact cO (aV ho)
 have hl1:=pl.isList
 have hplt:p<s.heap.objs.size:=by
  obtain⟨o,ho,_⟩:=hl1;exact aV ho
 have hval:∀(i:Nat)(v:Value),its.toArray[i]?=some v->∃t,v=.int ((ns[i]?).getD 0) t:=λi v hP=>by
  have hv:its[i]?=some v:=by simpa using hP
  have hi:i<its.length:=(aH.mp hv).1;have hb:i<ns.length:=by omega
  obtain⟨w',h1,h2⟩:=rv.get (i:=i) (x:=.int ns[i]) (by rw[aK,aE hb];rfl);rw[hv]at h1;cases h1;rw[aE hb];exact h2
 refine call_max_walk (wpAny_pyIter_list hl1 ?_);refine⟨_,_,_,_,_,_,_,rfl,Walks.list (A:=X.A.in1) (I.ok.hd hc) _ p hne its.toArray,⟨⟨_,aR _ rfl,rfl,rfl⟩,hl1.push _⟩,λb hb=>?_,by rw[aX];omega,CmpOf.ints_gt (λi=>(ns[i]?).getD 0) hval,λv h' tk hP hk=>?_⟩
 ·show b<(s.heap.push _).objs.size;rw[dW];have:b=s.heap.objs.size\/b=p:=by simpa using hb
  rcases this with rfl | rfl
  ·exact nT _
  ·exact qK hplt
 ·obtain⟨t,rfl⟩:=hval _ _ hP;have hb:=argBest_gt (λi=>(ns[i]?).getD 0) (its.toArray.size-1);have hsz:its.toArray.size=ns.length:=by rw[aX];omega
  have hi:argBest (λi j=>decide ((ns[i]?).getD 0>(ns[j]?).getD 0)) (its.toArray.size-1)<ns.length:=by have:=hb.1;omega
  refine⟨.int _,H,I.kept λb o e=>hk b o ?_ (aC _ e),⟨t,rfl⟩,q _ ?_ λn hn=>?_⟩
  ·intro z;have:b=s.heap.objs.size:=by simpa using z
   exact absurd (aV e) (by rw[this];exact eK _)
  ·rw[aE hi];exact fK hi
  ·obtain⟨j,hj,rfl⟩:=uM.mp hn;have:=hb.2 j (by omega);rw[aE hj]at this;exact this
def aKp(_ j:Int):Prop:=0<j/\j<2^200
def G9:pB X (binaryOp .FloorDiv) (rI aKp λi j=>.int (i / j)):=opI λi j _ _ _ _ _ hc q=>by
 have h1:(0:Int)<j:=hc.1;have h2:j<2^200:=hc.2;have h3:j.natAbs<2^200:=by omega
 have h4:j.natAbs.log2<200:=(Nat.log2_lt (by omega)).mpr h3;exact floordiv_int (by omega) (by rw[GC i (by omega)];exact q) (.inl (PyProof.noPylong_of_log2 (by omega)))
end
end L2
namespace TL
open L2
section
variable{X:Cx}{e:Expr}
theorem BX{K H}:∀ns:List Int,Reps K H (ns.map bI) (ns.map V.int)
|[]=>.nil
|n::ns=>.cons (.int n) (BX ns)
def aC0:uL X (λxs H Q=>∃(p:Addr)(ns:List Int),xs=[.ref p]/\lM X.K H p (ns.map V.int)/\ns≠[]/\∀m,m∈ns->(∀n∈ns,n<=m)->Q (.int m) H) (f1 aMm):=c1 λH ps d x Q QV live r h k=>by
 obtain⟨ns,rfl,hne,h⟩:=h
 cases r with
 |list q s=>
  have e:=tG s;subst e;exact⟨_,ns,rfl,L2.aS.seq bN q,hne,λm hm hn=>k _ _ H (L2.aS.refl H) (.int _) (h m hm hn)⟩
end
section
variable{X:Cx}{e:Expr}{es:List Expr}{ta te:ET}{pos:Pos}
abbrev PTm:=List Sl->(List D->List D->Prop)->Prop
def PPt(X:Cx)(e:Expr)(t:PTm):Prop:=∃te:TE,PE X e te/\∀B p0 H ps σT σ (Q:List D->List D->Prop)(QV:VK),Ok X.K B p0 H ps σT σ->t σT Q ->
 (∀as bs r p q xs ys H',aS H H'->H r=none->H p=none->H q=none->p≠q->H' r=some (.tup [.ref p,.ref q])->H' p=some (.lst xs)->H' q=some (.lst ys)->Reps X.K (mask H' (p::q::ps)) as xs->Reps X.K (mask H' (p::q::ps)) bs ys->Q as bs->QV (.ref r) H')->te σ H QV
abbrev SpP:=List D->(List D->List D->Prop)->Prop
def oC(K:aF)(sp:SpP):Sp:=λvs H Q _=>∃(ps:List Addr)(ds:List D)(QD:List D->List D->Prop),(∀p∈ps,yO (H p))/\Reps K (mask H ps) ds vs/\sp ds QD /\
 ∀as bs r p q xs ys H',aS H H'->H r=none->H p=none->H q=none->p≠q->H' r=some (.tup [.ref p,.ref q])->H' p=some (.lst xs)->H' q=some (.lst ys)->Reps K (mask H' (p::q::ps)) as xs->Reps K (mask H' (p::q::ps)) bs ys->QD as bs->Q (.ref r) H'
def aCe(sp:SpP)(t:AT):PTm:=λσ Q=>t σ λds=>sp ds Q
def SV{k:Nat}{f:Addr}{fd pn sp x p t}(F:bU X.prog X.w X.K X.mg X.base eG k f fd pn (oC X.K sp))(hm:X.mg x=some (.ref f))(hk:fV X.K (.ref f)=true)(hb:oR X.K fd pn [])
  (hr:gM k X.A) (ha:vK X (e::es) t) (pc:∀{ta},PA X (e::es) ta->PE X (.Call (.Name x p) (e::es) [] pos) (xZ (oC X.K sp) [] E0 ta)):PPt X (.Call (.Name x p) (e::es) [] pos) (aCe sp t):=by
 obtain⟨v,pa,ra⟩:=ha;refine⟨_,pc pa,λB p0 H ps σT σ Q QV o h k=>ra B p0 H ps σT σ _ _ o h λds xs H1 s1 r1 q1=>?_⟩;show oC X.K sp (xs++[]) H1 QV E0;rw[dQ];exact⟨ps,ds,Q,(o.grow s1).live,r1,q1,λas bs r p q xs ys H' s' h1 h2 h3 h4 h5 h6 h7 ra rb q=>k as bs r p _ xs ys H' (s1.trans s') (aS.free' s1 h1) (aS.free' s1 h2) (aS.free' s1 h3) h4 h5 h6 h7 ra rb q⟩
def fnP{P w K}{mg:Str->Option Value}{base x qual st}{f:Addr}{fd}{N pn:List Str}{k:Nat}{sp:SpP}(F:LB K x qual st f fd)(S:bZ N pn (aY st))(len:∀ds Q,sp ds Q->ds.length=pn.length)
  (hbody:∀(cdv:Value)(A:Around)outer(s:Shared)H E,gM k (A.deeper (envOfC qual (aY st) s.heap.objs.size f cdv))->∀(ds:List D)(Q:List D->List D->Prop),sp ds Q ->
   ∃t,uA (qB eG P w K mg base N qual (aY st) f cdv A outer s H E).nox (kN st) t/\t { nx:=λ_=>False,rt:=λ_=>False,rp:=Q } (iZ N ds)):bU P w K mg base eG (k+1) f fd pn (oC K sp):=by
 refine F.ok S (λvs H Q E h=>?_) λcdv A outer s H vs Q E hr h=>?_
 ·obtain⟨ps,ds,QD,_,r,q,_⟩:=h;rw[<- r.length];exact len ds QD q
 ·obtain⟨ps,ds,QD,live,r,q,k⟩:=h;obtain⟨t,⟨ts,p,rd⟩,h⟩:=hbody cdv A outer s H E hr ds QD q;exact⟨ts,p,rd H ps H ps _ _ _ _ (oM live r) h ⟨λ_ _ _ _ _ _ q'=>q'.elim,λ_ _ _ _ _ _ q'=>q'.elim,λ_ _ _ _ _ _ q'=>q'.elim,λ_ _ _ _ _ q'=>q'.elim,λ_ _ _ _ _ _ _ _ _ q'=>q'.elim,λas bs r p q xs ys H' s' h1 h2 h3 h4 h5 h6 h7 ra rb q'=>k as bs r p q xs ys H' s' h1 h2 h3 h4 h5 h6 h7 ra rb q',λ_ _ _ _ _ _ _ _ _ _ _ _ _ _ q'=>q'.elim,True.intro⟩⟩
def ePr(t:PTm):ET:=λσ Q=>t σ λas bs=>Q (.tuple [.list as,.list bs])
def aCt{t}(h:PPt X e t):gK X e (ePr t):=by
 obtain⟨v,p,r⟩:=h;refine⟨_,p,λB p0 H ps σT σ Q QV o h k=>r B p0 H ps σT σ _ _ o h λas bs r p q xs ys H' s1 hr0 hp0 hq0 hpq hr1 hp1 hq1 rA rB q1=>?_⟩;have fr:∀{z:Addr},H z=none->z∉ps:=λhz=>hV o.live hz;have sub:∀z∈ps,z∈p::q::ps:=λz hz=>aI _ (aI _ hz);exact k _ _ H' s1 (.tuple (pA.of (jY (fr hr0) hr1)) (.cons (.list (lM.of (jY (fr hp0) hp1)) (rA.same (gF sub))) (.cons (.list (lM.of (jY (fr hq0) hq1)) (rB.same (gF sub))) .nil))) q1
end
end TL
namespace L2
open PySem.SeqAt
section
variable{X:Cx}
theorem sA(ns:List Int):∀k:Nat,preSum (λi=>(ns[i]?).getD 0) k=(ns.take k).sum
|0=>rfl
|k+1=>by
 show preSum _ k+(ns[k]?).getD 0=_;rw[sA ns k,cW,List.sum_append]
 cases ns[k]? with
 |none=>simp
 |some x=>simp
theorem DL:∀ns:List Int,(∀n∈ns,0<=n/\n<2^40)->0<=ns.sum/\ns.sum<=(ns.length:Int)*2^40
|[],_=>by simp
|n::ns,h=>by
 have h1:=h n (aL ..);have h2:=DL ns λx hx=>h x (aI _ hx);rw[fY,dH];constructor
 ·omega
 ·have:((ns.length+1:Nat):Int)*2^40=(ns.length:Int)*2^40+2^40:=by rw[kR,PZ];rfl
  omega
def uG(hc:X.calm=true):lG X (.builtin "sum") (λxs H Q=>∃(p:Addr)(ns:List Int),xs=[.ref p]/\lM X.K H p (ns.map V.int)/\(∀n∈ns,0<=n/\n<2^40)/\ns.length<=1000/\Q (.int ns.sum) H):=by
 intro pins s σ H xs us Q I r h;obtain⟨p,ns,rfl,hq,hsm,hlen0,q⟩:=h;obtain⟨u,rfl,rx⟩:=pC r;cases rx;obtain⟨its,rv,pl,hz⟩:=I.list hq;have hlen:=rv.length;rw[aA]at hlen
 have hne:p≠s.heap.objs.size:=by
  obtain⟨o,ho,_⟩:=pl.isList;exact cO (aV ho)
 have hl1:=pl.isList
 have hplt:p<s.heap.objs.size:=by
  obtain⟨o,ho,_⟩:=hl1;exact aV ho
 have hval:∀(i:Nat)(v:Value),its.toArray[i]?=some v->∃t,v=.int ((ns[i]?).getD 0) t:=λi v hP=>by
  have hv:its[i]?=some v:=by simpa using hP
  have hi:i<its.length:=(aH.mp hv).1;have hb:i<ns.length:=by omega
  obtain⟨w',h1,h2⟩:=rv.get (i:=i) (x:=.int ns[i]) (by rw[aK,aE hb];rfl);rw[hv]at h1;cases h1;rw[aE hb];exact h2
 have small:∀k:Nat,0<=(ns.take k).sum/\(ns.take k).sum<2^63:=λk=>by
  have h1:=DL (ns.take k) λn hn=>hsm n (eI hn);have h2:(ns.take k).length<=1000:=by rw[bO];omega
  have h3:((ns.take k).length:Int)*2^40<=1000*2^40:=Int.mul_le_mul_of_nonneg_right (by omega) (by decide);omega
 refine call_sum_walk (wpAny_pyIter_list hl1 ?_);refine⟨_,_,_,_,_,_,λi=>(ns[i]?).getD 0,rfl,Walks.list (A:=X.A.in1) (I.ok.hd hc) _ p hne its.toArray,⟨⟨_,aR _ rfl,rfl,rfl⟩,hl1.push _⟩,λb hb=>?_,hval,λj hj=>?_,λh' tk t' hk=>?_⟩
 ·show b<(s.heap.push _).objs.size;rw[dW];have:b=s.heap.objs.size\/b=p:=by simpa using hb
  rcases this with rfl | rfl
  ·exact nT _
  ·exact qK hplt
 ·rw[aX]at hj;have hj':j<ns.length:=by omega
  refine⟨?_,?_⟩
  ·have:=hsm ns[j] (fK hj');show InLong ((ns[j]?).getD 0);rw[aE hj'];show -(2^63)<=ns[j]/\ns[j]<2^63;omega
  ·rw[sA];have:=small (j+1);show -(2^63)<=_/\_<2^63;omega
 ·refine⟨.int _,H,I.kept λb o e=>hk b o ?_ (aC _ e),⟨t',rfl⟩,?_⟩
  ·intro z;have:b=s.heap.objs.size:=by simpa using z
   exact absurd (aV e) (by rw[this];exact eK _)
  ·rw[sA,fJ (by rw[aX];omega)];exact q
end
def B9(l:Addr)(items:Array Value) :
  Meets (Builtin.«enumerate.__new__» ⟨[.type "enumerate",.ref l],[]⟩) (λ_ R s=>s.heap.IsList l items /\
   R (.ok (.ret (.ref (s.heap.push { cls:=.type "list_iterator",data:=.fields #[.ref l,.int 0 0] }).objs.size)))
    { s with heap:=(s.heap.push { cls:=.type "list_iterator",data:=.fields #[.ref l,.int 0 0] }).push { cls:=.type "enumerate",data:=.fields #[.none,.bool false,.ref s.heap.objs.size,rawInt 0,.none,.none] } }):=
 .of_wp λprog w A R s h=>by
  obtain⟨hp,g,d,tk,os⟩:=s;obtain⟨hl,h⟩:=h;have hsub:=sub_enumerate;have hL:CV (Shared.heap ⟨hp,g,d,tk,os⟩) l items:=hl
  wp_walk
  refine wpAny_stack_any λst=>aW ?_;split
  ·rename_i c _ _ _ _ _;cases (c==Value.type "enumerate")
   ·wp_walk using wpAny_pyIter_list hL
    exact⟨_,rfl,h⟩
   ·wp_walk using wpAny_pyIter_list hL
    exact⟨_,rfl,h⟩
  ·wp_walk using wpAny_pyIter_list hL
   exact⟨_,rfl,h⟩
section
variable{P:cC}{w:World}{A:Around}{E:Value->Shared->Prop}{s:Shared}
def yY{l:Addr}{items}{Q:Value->Shared->Prop}(hl:s.heap.IsList l items)
  (h:∀h',IsEnum h' (s.heap.objs.size+1) s.heap.objs.size 0 .none->h'.IsListIter s.heap.objs.size l 0->h'.objs.size=s.heap.objs.size+2 ->
   (∀b o,s.heap.get? b=some o->h'.get? b=some o)->Q (.ref (s.heap.objs.size+1)) { s with heap:=h' }) :
  wpAny (model P w) A (call (.type "enumerate") [.ref l]) Q E s:=by
 refine callType_new F.called_enumerate (by decide) (F.typeCall_enumerate_1 _) (F.newCall_enumerate_1 _) (λobj=>F.args_object_init_2 obj _) F.entry_enumerate_new
  (B9 l items) ⟨hl,?_⟩
 have hz:(s.heap.push { cls:=.type "list_iterator",data:=.fields #[.ref l,.int 0 0] }).objs.size=s.heap.objs.size+1:=dW ..;show _/\_;rw[hz]
 have he:IsEnum ((s.heap.push { cls:=.type "list_iterator",data:=.fields #[.ref l,.int 0 0] }).push
   { cls:=.type "enumerate",data:=.fields #[.none,.bool false,.ref s.heap.objs.size,rawInt 0,.none,.none] }) (s.heap.objs.size+1) s.heap.objs.size 0 .none:=by
  have:=aR (s.heap.push { cls:=.type "list_iterator",data:=.fields #[.ref l,.int 0 0] })
   (o:={ cls:=.type "enumerate",data:=.fields #[.none,.bool false,.ref s.heap.objs.size,rawInt 0,.none,.none] }) rfl
  rw[hz]at this;exact this
 exact⟨⟨_,he,rfl⟩,h _ he ⟨_,aC _ (aR _ rfl),rfl,rfl⟩ (by rw[dW,hz]) λb o x=>aC _ (aC _ x)⟩
end
noncomputable def Ite(K:aF)(a:Addr):It:=
 ⟨λi H=>∃xs x,lM K H a xs/\xs[i]?=some x,
  λi H v H'=>∃p x,H p=none/\v=.ref p/\H'=eS H p (.tup [.int (i:Int),x])/\∀xs,lM K H a xs->xs[i]?=some x,
  λi H=>∃xs,lM K H a xs/\xs.length<=i⟩
def NO{P w K elts}{x1:Nat}{pos}{e it l:Addr}(hei:e≠it) :
  IS P w K (.Tuple elts x1 pos) (Ite K l) [e,it] e (λi h=>(∃old,IsEnum h e it (i:Int) old)/\h.IsListIter it l i) where
 mem:=by simp
 obj:=λi h st b hb=>by
  obtain⟨⟨old,he⟩,hit⟩:=st;simp only[aN,bV,or_false]at hb;rcases hb with rfl | rfl
  ·exact⟨_,he,λv q=>by cases q⟩
  ·obtain⟨o,e,c,d⟩:=hit;exact⟨o,e,λv z=>by rw[d]at z;cases z⟩
 keep:=λi h h' st k=>by
  obtain⟨⟨old,he⟩,hit⟩:=st;exact⟨⟨old,k e (by simp) _ he⟩,hit.at λo x=>k it (by simp) o x⟩
 item:=by
  intro X hP hw hK hc i pins s σ H E I hf st hg;subst hP hw hK;obtain⟨⟨old,he⟩,hit⟩:=st;obtain⟨xs,x,hq,hx⟩:=hg;obtain⟨its,rv,p,hz⟩:=I.list hq;obtain⟨u,hu,ru⟩:=rv.get hx;refine wpAny_pyNext_enum_item he hit p.isList (x:=u) (by simpa using hu) hei λh' a1 a2 a3 a4 a5=>⟨_,rfl,?_⟩;refine wpAny_letOwnedTupleGo_enum (s:={ s with heap:=h',toks:=s.toks+1 }) a1 λh2 b1 sb=>?_;have helt:e<s.heap.objs.size:=aV he
  have kk:∀c o,c∉[e,it]->s.heap.get? c=some o->h2.get? c=some o:=λc o hc' x=>by
   simp only[aN,bV,or_false,not_or]at hc';exact sb.extBut _ _ hc'.1 (a5 c o hc'.1 hc'.2 x)
  have hT:=sb.extBut _ _ (iV helt) a3;have I1:cN X pins σ (eS H s.heap.objs.size (.tup [.int (i:Int),x])) { s with heap:=h2,toks:=s.toks+1 }:=I.turnedNew (t':=s.toks+1) hf kk (aM _) ⟨(by show 2<=bE;decide),[.int i s.toks,u],.cons ⟨_,rfl⟩ (.cons ru .nil),⟨_,hT,rfl,_,rfl,rfl⟩⟩;refine⟨.ref s.heap.objs.size,_,I1,rfl,⟨_,x,I.hok.fresh (aM _),rfl,rfl,λys hy=>by rw[I.list_inj hy hq];exact hx⟩,?_,λc hc'=>?_⟩
  ·exact⟨⟨_,by rw[kR];exact b1⟩,a2.at λo x=>sb.extBut _ _ (Ne.symm hei) x⟩
  ·have hne:c≠s.heap.objs.size:=by
    simp only[aN,bV,or_false]at hc';rcases hc' with rfl | rfl
    ·exact cO helt
    ·obtain⟨o,z,_⟩:=hit;exact cO (aV z)
   rw[bT hne];exact(hf c hc').1
 done:=by
  intro X hP hw hK hc i pins s σ H E I hf st hg;subst hP hw hK;obtain⟨⟨old,he⟩,hit⟩:=st;obtain⟨xs,hq,hx⟩:=hg;obtain⟨its,rv,p,hz⟩:=I.list hq;have hl:=rv.length;refine wpAny_pyNext_enum_end (I.ok.hd hc) he hit p.isList (by simp;omega) λh' eb=>⟨rfl,I.turnedL (t':=s.toks) hf λc o hc' x=>?_⟩;simp only[aN,bV,or_false,not_or]at hc';exact eb c o hc'.2 x
 self:=λA i s Q E st h=>by
  obtain⟨⟨old,he⟩,_⟩:=st;exact wpAny_pyIter_enum he h
def CL:bootBuiltins "enumerate"=some (.type "enumerate"):=by decide +kernel
def aCq(K:aF)(ta:TA):TI:=λσ H R=>ta σ H λvs H1=>∃l xs,vs=[.ref l]/\lM K H1 l xs/\R (Ite K l) H1
section
variable{X:Cx}
def X8{a ta p pos tpos elts}{x1:Nat}(hg:Gl X "enumerate")(hm:X.mg "enumerate"=none)(ha:PA X [a] ta)(hs:bL [a] X.env=[(false,eval a X.env)]:=by rfl) :
  PI X (.Tuple elts x1 tpos) (.Call (.Name "enumerate" p) [a] [] pos) (aCq X.K ta):=by
 intro pins s σ H R I h;refine Call_ (sI I hg hm CL (PyProof.Rows.callWith_type1 (iU (ha pos pins s σ H _ I h) λus s1 zq=>?_) (by rw[hs];rfl) (by rfl)));obtain⟨vs,H1,I1,r1,q1⟩:=zq;obtain⟨l,xs,rfl,hq,q⟩:=q1
 cases r1 with
 |cons r rr=>
  cases rr;cases r;obtain⟨us1,rv1,p1,hz1⟩:=I1.list hq;refine yY p1.isList λh' he hit hsz hk=>wpAny_pyIter_enum (s:={ s1 with heap:=h' }) he ?_;refine⟨_,[s1.heap.objs.size+1,s1.heap.objs.size],_,_,H1,rfl,I1.kept (t':=s1.toks) hk,NO (e:=s1.heap.objs.size+1) (it:=s1.heap.objs.size) (l:=l) (Nat.succ_ne_self _),⟨⟨_,he⟩,hit⟩,λc hc=>?_,q⟩;simp only[aN,bV,or_false]at hc;have le:s1.heap.objs.size<=c:=by rcases hc with rfl | rfl<;>first | exact aM _ | exact rN _ _
  exact I1.fpOk le (I1.hok.fresh le)
end
end L2
namespace TL
open L2 PySem.SeqAt
variable{K:aF}
def aF9(K:aF)(a:Addr)(ys:List Str):Prop:=∃(o:Obj)(its:Array Value)(n:Nat),K.lookup a=some o/\o.cls=.type "tuple"/\o.dict=none/\o.data=.seq its n/\its.size<=bE/\eW (ys.map V.str) its.toList
theorem A6{H}:∀ys:List Str,Reps K H (ys.map aP) (ys.map V.str)
|[]=>.nil
|y::ys=>.cons (.str y) (A6 ys)
noncomputable def yI(as:List D):List D:=oY (fC as.length) as
def qA(as:List D):(yI as).length=as.length:=by unfold yI;rw[lO];unfold fC;simp
def xS{as}{i:Nat}{a}(h:as[i]?=some a):(yI as)[i]?=some (.tuple [.int (i:Int),a]):=by
 have hi:=(aH.mp h).1;unfold yI oY fC;rw[aK,(fN (z:=(bI (i:Int),a))).mpr ⟨by rw[aK,jU hi];rfl,h⟩];rfl
def aFj(t:AT):IT:=λσ Q=>t σ λds=>∃as,ds=[.list as]/\Q (yI as)
section
variable{X:Cx}{a b e:Expr}{es:List Expr}{ta tb te:ET}{pos:Pos}
def ZC{x:Str}{p:Addr}{ys:List Str}{pos}(hg:Gl X x)(hm:X.mg x=some (.ref p))(hk:aF9 X.K p ys)(hd:(x==("__debug__":Str))=false:=by decide):gK X (.Name x pos) (eC (.tuple (ys.map aP))):=
 ⟨_,kL (v:=.ref p) hg hm rfl hd,λ_ _ H _ _ _ _ _ _ h k=>k _ _ H (L2.aS.refl H) (.tuple (.inr hk) (A6 ys)) h⟩
def YY{t p p' tpos elts}{x1:Nat}(ha:vK X [a] t)(pz:∀{ta},PA X [a] ta->PI X (.Tuple elts x1 tpos) (.Call (.Name "enumerate" p) [a] [] p') (aCq X.K ta)):K6 X (.Tuple elts x1 tpos) (.Call (.Name "enumerate" p) [a] [] p') (aFj t):=by
 obtain⟨va,pa,ra⟩:=ha;refine⟨_,pz pa,λB p0 H ps σT σ Q R o h k=>ra B p0 H ps σT σ _ _ o h λds xs H1 s1 r1 q1=>?_⟩;obtain⟨as,rfl,q⟩:=q1
 cases r1 with
 |cons r1 r2=>
  cases r2
  cases r1 with
  |@list p1 us _ hq1 rs1=>
   have n1:=rs1.length;refine⟨p1,us,rfl,L2.aS.seq bN hq1,k _ _ H1 s1 ⟨λi H e hl=>?_,λi H e hl=>?_,λi H ps' y H' live e hl hy=>?_⟩ q⟩
   ·rw[qA]at hl;exact⟨us,L2.aS.seq e hq1,by omega⟩
   ·rw[qA]at hl;exact⟨us,us[i],L2.aS.seq e hq1,aE (by omega)⟩
   ·obtain⟨p,x,hp,rfl,rfl,h1⟩:=hy;obtain⟨d1,g1,t1⟩:=rs1.get' (h1 us (L2.aS.seq (e.trans bN) hq1));exact⟨cZ hp,.tuple [.int (i:Int),d1],xS g1,oA live hp (.cons (.int _) (.cons (t1.same e) .nil))⟩
def aJr(d:D)(Q:D->Prop):Prop:=∃ns:List Int,d=.list (ns.map bI)/\(∀n∈ns,0<=n/\n<2^40)/\ns.length<=1000/\Q (.int ns.sum)
def aCz:uL X (λxs H Q=>∃(p:Addr)(ns:List Int),xs=[.ref p]/\lM X.K H p (ns.map V.int)/\(∀n∈ns,0<=n/\n<2^40)/\ns.length<=1000/\Q (.int ns.sum) H) (f1 aJr):=c1 λH ps d x Q QV live r h k=>by
 obtain⟨ns,rfl,hs,hl,h⟩:=h
 cases r with
 |list q s=>
  have e:=tG s;subst e;exact⟨_,ns,rfl,L2.aS.seq bN q,hs,hl,k _ _ H (L2.aS.refl H) (.int _) h⟩
def E4(K:aF):V->List V->Hp->VK->Prop:=λx xs H Q=>∃(y:V)(ts:List D)(d:D)(j:Nat),xs=[y]/\gD K H (.list ts) x/\gD K H d y/\OA ts d j/\j<1000000/\Q (.int j) H
def KF(hu:X.A.units+200<cLine):P9 X "list.index" (E4 X.K):=by
 intro pins s σ H x xs v us Q I rx rv h;obtain⟨y,ts,d,j,rfl,r1,r2,⟨c1,c2,hm,⟨t,ht,he⟩,hno⟩,hj0,q⟩:=h;obtain⟨u,rfl,ru⟩:=rv.one;obtain⟨as,h1⟩:=gD.reads I (show(JC ts).hasDict=false from noDictAll c1) r1 rx;obtain⟨bs,h2⟩:=gD.reads I (mT c2) r2 ru
 cases h1 with
 |@list l o items n _ as' h3 h4 h5 h6=>
  have hmap:=readsAll_map ts items.toList _ c1 h6;have hlen:items.size=ts.length:=by rw[<- hmap,aA,fP]
  have hjl:j<ts.length:=(aH.mp ht).1;have hj:j<items.size:=by omega
  have rd:∀(m:Nat)(hm:m<items.size),ts[m]?=some (readOf s.heap items[m]):=λm hm=>by
   rw[<- hmap,aK];simp[hm]
  obtain⟨oc,od,odt,osl⟩:=o;cases h4;cases h5;refine call_meets F.slot_list_index ⟨_,h3,rfl⟩ F.entry_list_index (F.args_list_index_2 _ _) (list_indexAt _ items _ od osl u (λy=>bP (readOf s.heap y) d) j hj (by omega) ?_ ?_) ⟨h3,items_eqAt h6 h2 c1 c2 (by have:=hu;omega),?_⟩
  ·have:=rd j hj;rw[ht]at this;rw[<- Option.some.inj this];exact he
  ·intro m hm' hlt;exact hno m _ hlt (rd m hm')
  ·exact⟨.int j,H,I.tok _,⟨_,rfl⟩,q⟩
def tJ{k:Nat}(hr:gM k X.A):P9 X "list.index" (E4 X.K):=KF (by have:=hr.un;omega)
def AG(te:ET)(t:AT):ET:=λσ Q=>te σ λd=>∃ts,d=.list ts/\t σ λds=>∃(x:D)(j:Nat),ds=[x]/\OA ts x j/\j<1000000/\Q (.int j)
def tO{n ap t}(hn:gK X n te)(ha:vK X (e::es) t)
  (pc:∀{v ta},PE X n v->PA X (e::es) ta->PE X (.Call (.Attribute n "index" ap) (e::es) [] pos) (Q9 X.K "list" (E4 X.K) v ta)):gK X (.Call (.Attribute n "index" ap) (e::es) [] pos) (AG te t):=by
 obtain⟨v,pe,re⟩:=hn;obtain⟨va,pa,ra⟩:=ha;refine⟨_,pc pe pa,λB p0 H ps σT σ Q QV o h k=>re B p0 H ps σT σ _ _ o h λd x H1 s1 r1 q1=>?_⟩;obtain⟨ts,rfl,q1⟩:=q1
 cases r1 with
 |@list p xs _ hq rs=>
  refine⟨.inl ⟨rfl,_,L2.aS.seq bN hq⟩,ra B p0 H1 ps σT σ _ _ (o.grow s1) q1 λds ys H2 s2 r2 q2=>?_⟩;obtain⟨d,j,rfl,hok,hj,q⟩:=q2
  cases r2 with
  |cons r3 r4=>
   cases r4;exact⟨_,ts,d,j,rfl,(gD.list hq rs).same ((bH s2).trans bN),r3.same bN,hok,hj,k _ _ H2 (s1.trans s2) (.int _) q⟩
def aJg(ts:List D)(d:D):Prop:=eE ts=true/\d.canLay0=true/\min (eL ts) d.depth<=60
def E5(K:aF):V->List V->Hp->VK->Prop:=λx xs H Q=>∃(y:V)(ts:List D)(d:D),xs=[y]/\gD K H (.list ts) x/\gD K H d y/\aJg ts d/\Q (.int ((ts.countP λt=>bP t d:Nat):Int)) H
def KG(hu:X.A.units+200<cLine):P9 X "list.count" (E5 X.K):=by
 intro pins s σ H x xs v us Q I rx rv h;obtain⟨y,ts,d,rfl,r1,r2,⟨c1,c2,hm⟩,q⟩:=h;obtain⟨u,rfl,ru⟩:=rv.one;obtain⟨as,h1⟩:=gD.reads I (show(JC ts).hasDict=false from noDictAll c1) r1 rx;obtain⟨bs,h2⟩:=gD.reads I (mT c2) r2 ru
 cases h1 with
 |@list l o items n _ as' h3 h4 h5 h6=>
  have hmap:=readsAll_map ts items.toList _ c1 h6;obtain⟨oc,od,odt,osl⟩:=o;cases h4;cases h5;refine call_meets F.slot_list_count ⟨_,h3,rfl⟩ F.entry_list_count (F.args_list_count_2 _ _) (list_countAt _ items _ od osl u (λy=>bP (readOf s.heap y) d)) ⟨h3,items_eqAt h6 h2 c1 c2 (by have:=hu;omega),?_⟩;refine⟨.int _,H,I.tok _,⟨_,rfl⟩,?_⟩
  have e:(items.toList.countP λy=>bP (readOf s.heap y) d)=ts.countP λt=>bP t d:=by
   rw[<- hmap,Z6];rfl
  rw[e];exact q
def OH{k:Nat}(hr:gM k X.A):P9 X "list.count" (E5 X.K):=KG (by have:=hr.un;omega)
def ZF(te:ET)(t:AT):ET:=λσ Q=>te σ λd=>∃ts,d=.list ts/\t σ λds=>∃x:D,ds=[x]/\aJg ts x/\Q (.int ((ts.countP λt=>bP t x:Nat):Int))
def OZ{n ap t}(hn:gK X n te)(ha:vK X (e::es) t)
  (pc:∀{v ta},PE X n v->PA X (e::es) ta->PE X (.Call (.Attribute n "count" ap) (e::es) [] pos) (Q9 X.K "list" (E5 X.K) v ta)):gK X (.Call (.Attribute n "count" ap) (e::es) [] pos) (ZF te t):=by
 obtain⟨v,pe,re⟩:=hn;obtain⟨va,pa,ra⟩:=ha;refine⟨_,pc pe pa,λB p0 H ps σT σ Q QV o h k=>re B p0 H ps σT σ _ _ o h λd x H1 s1 r1 q1=>?_⟩;obtain⟨ts,rfl,q1⟩:=q1
 cases r1 with
 |@list p xs _ hq rs=>
  refine⟨.inl ⟨rfl,_,L2.aS.seq bN hq⟩,ra B p0 H1 ps σT σ _ _ (o.grow s1) q1 λds ys H2 s2 r2 q2=>?_⟩;obtain⟨d,rfl,hok,q⟩:=q2
  cases r2 with
  |cons r3 r4=>
   cases r4;exact⟨_,ts,d,rfl,(gD.list hq rs).same ((bH s2).trans bN),r3.same bN,hok,k _ _ H2 (s1.trans s2) (.int _) q⟩
def ZL(te:ET):vN:=λσ Q=>te σ λd=>∃ts,d=.list ts/\Q (!ts.isEmpty)
def NP(h:gK X e te)(pt:∀{t},PE X e t->PT X e (λσ H Q=>t σ H λx H'=>∃k,aF4 X.K x H' k/\Q k H')):IV X e (ZL te):=by
 obtain⟨v,p,r⟩:=h;refine⟨_,pt p,λB p0 H ps σT σ Q QV o h k=>r B p0 H ps σT σ _ _ o h λd x H1 s1 r1 q1=>?_⟩;obtain⟨ts,rfl,q⟩:=q1
 cases r1 with
 |@list p xs _ hq rs=>
  have hl:=rs.length;refine⟨!xs.isEmpty,.inl ⟨xs,L2.aS.seq bN hq,rfl⟩,?_⟩
  have:(!xs.isEmpty)=(!ts.isEmpty):=by
   cases xs<;>cases ts<;>first | rfl | (simp at hl)
  rw[this];exact k _ H1 s1 q
def N1(ta tb:FT):vH:=λDT σ=>ta σ λas=>tb σ λbs=>DT.rp as bs
def GR{n m x1 p2 ta tb}(hn:K7 X n ta)(hm:K7 X m tb)(hs:bL [n,m] X.env=(false,eval n X.env)::bL [m] X.env:=by rfl)(hs2:bL [m] X.env=(false,eval m X.env)::bL [] X.env:=by rfl):AM X (.Return (some (.Tuple [n,m] x1 p2)) pos) (N1 ta tb):=by
 obtain⟨va,pa,ra⟩:=hn;obtain⟨vb,pb,rb⟩:=hm;refine⟨_,BD (BG (cL pa (cL pb gL hs2) hs)),λB p0 H ps σT σ DT DV o h f=>?_⟩;refine ra B p0 H ps σT σ _ _ o h λas p xs H1 s1 hp hx rs q1=>?_
 have o1:Ok X.K B p0 H1 (p::ps) σT σ:=by
  have o2:=o.grow (qO s1 hp);have hn:without H1 p p=none:=by unfold without;rw[if_pos rfl]
  have o3:=o2.adopt (u:=.lst xs) hn
  rwa [xY hx]at o3
 refine rb B p0 H1 (p::ps) σT σ _ _ o1 q1 λbs q ys H2 s2 hq hy rs2 q2=>?_;refine⟨aD rfl,λr hr=>?_⟩;have hp2:=s2 _ _ hx;have hpq:p≠q:=λz=>by rw[z,hq]at hx;cases hx
 have nrp:p≠r:=λz=>by rw[z,hr]at hp2;cases hp2
 have nrq:q≠r:=λz=>by rw[z,hr]at hy;cases hy
 have bn:∀{z:Addr},H z=none->B z=none:=λhz=>aS.free' o.base hz;have live:∀z∈p0,yO (H z):=λz hz=>o.live z (o.sub z hz)
 have m1:aS (mask H1 (p::ps)) (mask (eS H2 r (.tup [.ref p,.ref q])) (p::q::p0)):=λb u hb=>by
  unfold mask at hb |-
  by_cases hbp:b∈p::ps
  ·rw[if_pos hbp]at hb;cases hb
  ·rw[if_neg hbp]at hb;have h2:=s2 _ _ hb;have hbr:b≠r:=λz=>by rw[z,hr]at h2;cases h2
   have hbq:b≠q:=λz=>by rw[z,hq]at hb;cases hb
   rw[if_neg,bT hbr]
   ·exact h2
   ·intro z;rcases aN.mp z with z | z
    ·exact hbp (z▸aL ..)
    ·rcases aN.mp z with z | z
     ·exact hbq z
     ·exact hbp (aI _ (o.sub b z))
 have m2:aS (mask H2 (q::p::ps)) (mask (eS H2 r (.tup [.ref p,.ref q])) (p::q::p0)):=(bH (cZ hr)).trans (gF λz hz=>by
  rcases aN.mp hz with rfl | hz
  ·exact aI _ (aL ..)
  ·rcases aN.mp hz with rfl | hz
   ·exact aL ..
   ·exact aI _ (aI _ (o.sub z hz)))
 exact f.rp as bs r p q xs ys _ (o.base.trans (s1.trans (s2.trans (cZ hr)))) (aS.free' (o.base.trans (s1.trans s2)) hr) (bn hp) (aS.free' (o.base.trans s1) hq) hpq bS (by rw[bT nrp];exact hp2) (by rw[bT nrq];exact hy) (rs.same m1) (rs2.same m2) q2
end
end TL
namespace TL
def VV:bootBuiltins "sum"=some (.builtin "sum"):=by decide +kernel
open L2
section
variable{fr:List (Option Nat)}{ti:IT}{tt:vN}{te:ET}{σ:List Sl}{Q:D->Prop}{ts:List D}
def UF(hti:qZ ti σ ts)(p:D->Bool)(f:D->D)(hz:ts.length<=100000)(h2:∀x∈ts,∃a b,x=.tuple [a,b])
  (hp:∀(a b:D)(q:Bool->Prop),.tuple [a,b]∈ts->q (p (.tuple [a,b]))->tt (((jQ fr σ).set 0 (.val a)).set 1 (.val b)) q)
  (ht:∀(a b:D)(q:D->Prop),.tuple [a,b]∈ts->q (f (.tuple [a,b]))->te (((jQ fr σ).set 0 (.val a)).set 1 (.val b)) q) (hq:Q (.list ((ts.filter p).map f))):P5 fr ti (gP 0 1) tt te σ Q:=by
 refine hti _ ⟨hz,λk σ' ds=>(∀x y,(σ'.set 0 (.val x)).set 1 (.val y)=((jQ fr σ).set 0 (.val x)).set 1 (.val y))/\ds=((ts.take k).filter p).map f,⟨λ_ _=>rfl,rfl⟩,λk x σ' ds hx h=>?_,λσ' ds h=>?_⟩
 ·obtain⟨h1,rfl⟩:=h;have hm:x∈ts:=aZ hx;obtain⟨a,b,rfl⟩:=h2 x hm;refine⟨a,b,rfl,?_⟩;show tt ((σ'.set 0 (.val a)).set 1 (.val b)) _;rw[h1 a b];refine hp a b _ hm ?_;have e:ts.take (k+1)=ts.take k++[.tuple [a,b]]:=by rw[cW,hx];rfl
  cases hb:p (.tuple [a,b])with
  |true=>
   rw[if_pos rfl];refine ht a b _ hm ⟨λx y=>xD _ _ _ _ _,?_⟩;rw[e,iX,cK];simp[hb]
  |false=>
   rw[if_neg (by decide)];refine⟨λx y=>xD _ _ _ _ _,?_⟩;rw[e,iX,cK];simp[hb]
 ·obtain⟨_,rfl⟩:=h;rw[eO];exact hq
end
section
variable{X:Cx}
def AX{s}:AM X s (λ_ _=>False):=⟨λ_ _ _=>False,λ_ _ _ _ _ _ h=>h.elim,λ_ _ _ _ _ _ _ _ _ h _=>h.elim⟩
end
section
def PD:bootBuiltins "sorted"=some (.builtin "sorted"):=by decide +kernel
end
end TL
namespace L2
def IW(K:aF)(cd:Value):Prop:=∃c P,cd=.ref c/\tabA=some P/\xW K c P=true
def LB.okC{P w K}{mg:Str->Option Value}{base x qual st}{f:Addr}{fd:gT}{N ps:List Str}{k:Nat}{sp:Sp}(F:LB K x qual st f fd)(S:bZ N ps (aY st))(len:∀vs H Q E,sp vs H Q E->vs.length=ps.length)
  (hbody:∀(cdv:Value),fd.code=cdv->∀(A:Around)outer(s:Shared)H(vs:List V)Q E,gM k (A.deeper (envOfC qual (aY st) s.heap.objs.size f cdv))->sp vs H Q E ->
   ∃t,yN (qB eG P w K mg base N qual (aY st) f cdv A outer s H E).nox (kN st) t/\t { nx:=λ_ H'=>Q .non H',rt:=Q } (lP N vs) H):bU P w K mg base eG (k+1) f fd ps sp:=by
 obtain⟨oc,od,kV,doc,pm,an,cdv,ct,osl,rfl,lk,hcd⟩:=F.ex;refine U4 lk hcd S len λA outer s H vs Q E hr hsp=>?_;obtain⟨t,h,q⟩:=hbody cdv rfl A outer s H vs Q E hr hsp;exact⟨t,h.nox,q⟩
end L2
namespace TL
open L2
def fnL{P w K}{mg:Str->Option Value}{base x qual st}{f:Addr}{fd:gT}{N pn:List Str}{k:Nat}{sp:WI}(L:IW K fd.code)(F:LB K x qual st f fd)(S:bZ N pn (aY st))(len:∀ds Q,sp ds Q->ds.length=pn.length)
  (hbody:∀(cdv:Value),IW K cdv->∀(A:Around)outer(s:Shared)H E,gM k (A.deeper (envOfC qual (aY st) s.heap.objs.size f cdv))->∀(ds:List D)(Q:List D->Prop),sp ds Q ->
   ∃t,uA (qB eG P w K mg base N qual (aY st) f cdv A outer s H E).nox (kN st) t/\t { nx:=λ_=>False,rt:=λ_=>False,ro:=Q } (iZ N ds)):bU P w K mg base eG (k+1) f fd pn (iP K sp):=by
 refine F.okC S (λvs H Q E h=>?_) λcdv hcd A outer s H vs Q E hr h=>?_
 ·obtain⟨ps,ds,QD,_,r,q,_⟩:=h;rw[<- r.length];exact len ds QD q
 ·obtain⟨ps,ds,QD,live,r,q,k⟩:=h;obtain⟨t,⟨ts,p,rd⟩,h⟩:=hbody cdv (hcd▸L) A outer s H E hr ds QD q;exact⟨ts,p,rd H ps H ps _ _ _ _ (oM live r) h ⟨λ_ _ _ _ _ _ q'=>q'.elim,λ_ _ _ _ _ _ q'=>q'.elim,λ_ _ _ _ _ _ q'=>q'.elim,λ_ _ _ _ _ q'=>q'.elim,λts p xs H' s' hB hp hx rs q'=>k ts p xs H' s' hB hx rs q',λ_ _ _ _ _ _ _ _ _ _ _ _ _ _ _ _ _ _ q'=>q'.elim,λ_ _ _ _ _ _ _ _ _ _ _ _ _ _ q'=>q'.elim,True.intro⟩⟩
def aGa(b:Int)(e:D)(k:Int):Prop:=∃(q st:D)(top bot:Int),e=.tuple [q,st,.tuple [.int top,.int bot]]/\aGc b bot/\LD top (b / bot)/\k=top*(b / bot)
def aGa.rep{K H}{b k:Int}{e x}(h:aGa b e k)(r:gD K H e x):C7 K H b x k:=by
 obtain⟨q,st,top,bot,rfl,h1,h2,h3⟩:=h
 cases r with
 |tuple s1 r1=>
  cases r1 with
  |cons ra r1=>
   cases r1 with
   |cons rb r1=>
    cases r1 with
    |cons rc r1=>
     cases r1
     cases rc with
     |tuple s2 r2=>
      cases r2 with
      |cons rd r2=>
       cases r2 with
       |cons re r2=>
        cases r2;cases rd;cases re;exact⟨_,_,_,_,top,bot,rfl,s1,s2,h1,h2,h3⟩
theorem C7.mask{K H ps}{b k:Int}{x}(h:C7 K (TL.mask H ps) b x k):C7 K H b x k:=h.same λ_ _ e=>bN _ _ e
def aFr(ib:Nat)(t:AT):FT:=λσ Q=>t σ λds=>∃(es:List D)(b:Int)(kz:List Int),ds=[.list es]/\es.length<64/\σ[ib]?=some (.val (.int b))/\kz.length=es.length/\(∀(i:Nat) e k,es[i]?=some e->kz[i]?=some k->aGa b e k) /\
 ∀J:List Nat,SS.GH es.length (λi=>kz.getD i 0) J->Q (J.map λi=>es.getD i .none)
def U3{X:Cx}{ib:Nat}{e t}{k:Nat}{cdv np lp ap kp pos p1 p2 p3 p4 p5 p6 p7 p8 p9 q1 q2 q3 q4}(hr:gM (k+3) X.A)(L:IW X.K cdv)(hc:X.env.code=cdv)(hib:X.N[ib]?=some "bottom")(hk:X.env.kindOf "bottom"=some .cell)
  (hg:Gl X "sorted") (hm:X.mg "sorted"=none) (hv:bootBuiltins "sorted"=some (.builtin "sorted")) (ha:vK X [e] t)
  (he:backTo pos (bL [e] X.env)=(false,eval e X.env)::backTo pos (bL [] X.env):=by rfl)
  (hpl:(backTo pos (bL [e] X.env)).any (·.1)=false:=by rfl) :
  K7 X (.Call (.Name "sorted" np) [e] [⟨some (Str.ofString "key"),.Lambda (aCm ap) (.BinOp (.Subscript (.Subscript (.Name "entry" p1) (.Constant (.int 2) 0 p2) p3) (.Constant (.int 0) 0 p4) p5) .Mult (.BinOp (.Name "bottom" p6) .FloorDiv (.Subscript (.Subscript (.Name "entry" p7) (.Constant (.int 2) 0 p8) p9) (.Constant (.int 1) 0 q1) q2) q3) q4) wG lp,kp⟩] pos) (aFr ib t):=by
 obtain⟨c,P,rfl,hT,hC⟩:=L;obtain⟨ta,pa,ra⟩:=ha;refine⟨_,SY hr hT hc hC hib hk hg hm hv pa he hpl,λB p0 H ps σT σ Q QV o h k=>ra B p0 H ps σT σ _ _ o h λds vs H1 s1 r1 q1=>?_⟩;obtain⟨es,b,kz,rfl,h128,hb,hkz,hent,q⟩:=q1;obtain⟨v,hv1,hv2⟩:=o.val ib _ hb;cases hv2
 cases r1 with
 |cons r1 r2=>
  cases r2
  cases r1 with
  |@list pp xv _ hs rs=>
   have hl:=rs.length;refine⟨_,_,b,kz,rfl,L2.aS.seq bN hs,by rw[<- hl];exact h128,hv1,by rw[hkz,hl],λi x k0 hx hk0=>?_,λH2 sH J r sb hr=>?_⟩
   ·obtain⟨d,hd,rd⟩:=rs.get' hx;exact C7.mask ((hent i d k0 hd hk0).rep rd)
   ·rw[<- hl]at sb;have s2:aS H H2:=s1.trans sH;refine k _ r _ _ (s2.trans (cZ hr)) (aS.free' s2 hr) bS ?_ (q J sb);rw[kT hr];have rs2:Reps X.K (TL.mask H2 ps) es _:=rs.same (bH sH)
    have:∀J:List Nat,(∀i∈J,i<es.length)->Reps X.K (TL.mask H2 ps) (J.map λi=>es.getD i .none) (J.map λi=>xv.getD i .non):=by
     intro J hJ
     induction J with
     |nil=>exact .nil
     |cons j J ih=>
      refine .cons ?_ (ih λi hi=>hJ i (aI _ hi));have hj:=hJ j (aL ..);obtain⟨u,h1,h2⟩:=rs2.get (aE hj);show gD _ _ (es.getD j .none) (xv.getD j .non);rw[cX,cX,h1,aE hj];exact h2
    exact this J sb.lt
end TL
namespace L2
noncomputable def aJm(K:aF)(cd:Value)(P:Addr):Bool:=match cd with | .ref c=>xW K c P | _=>false
def aE5{K cd}{P:Addr}(h:aJm K cd P=true)(e:tabA=some P):IW K cd:=by
 cases cd with
 |ref c=>exact⟨c,P,rfl,e,h⟩
 |_=>cases h
def aDv{h:Heap}{c P:Addr}(C:WA h c P)(e:h.get? P=some { cls:=.none,data:=.fields #[] }):isCodeTable h P:=(C.tab e).isCodeTable
section
variable{X:Cx}{pins:List (Addr×Obj)}{σ:St}{H:Hp}{s:Shared}{p q:Addr}
def QU{u}(h:H p=some u):eS H p u=H:=by
 funext b;by_cases e:b=p
 ·subst e;rw[bS,h]
 ·rw[bT e]
def GM:∀h1 h2:Heap,TL.qP p q h1->(∀o,h1.get? p=some o->h2.get? p=some o)->TL.qP p q h2:=λh1 h2 ⟨a,b,c,ta,tb,tc,n,e,r⟩ k=>⟨a,b,c,ta,tb,tc,n,k _ e,r⟩
noncomputable def vV(q:Addr)(a b c:Int):HO:=.lst [.ref q,.int a,.int b,.int c]
def cN.openTape(I:cN X pins σ H s)(h:H p=some (.ext (TL.qP p q))):∃a b c:Int,0<=a/\(c=0\/c=1)/\cN X pins σ (eS H p (vV q a b c)) s:=by
 obtain⟨⟨a,b,c,ta,tb,tc,n,e,ha,hc⟩,_⟩:=I.hok p _ h;exact⟨a,b,c,ha,hc,I.retold h (λxs z=>by cases z) (λo v z=>by cases z) (λps z=>by cases z) (λa z=>by cases z) ⟨aD rfl,_,n,.cons rfl (.cons ⟨ta,rfl⟩ (.cons ⟨tb,rfl⟩ (.cons ⟨tc,rfl⟩ .nil))),e⟩⟩
def cN.closeTape{a b c:Int}(I:cN X pins σ H s)(h:H p=some (vV q a b c))(ha:0<=a)(hc:c=0\/c=1):cN X pins σ (eS H p (.ext (TL.qP p q))) s:=by
 obtain⟨z,its,n,r,e⟩:=I.hok p _ h
 cases r with
 |cons r0 r=>cases r with
  |cons r1 r=>cases r with
   |cons r2 r=>cases r with
    |cons r3 r=>
     cases r;cases r0;obtain⟨ta,rfl⟩:=r1;obtain⟨tb,rfl⟩:=r2;obtain⟨tc,rfl⟩:=r3;exact I.retold h (λxs z=>by cases z) (λo v z=>by cases z) (λps z=>by cases z) (λa z=>by cases z) ⟨⟨a,b,c,ta,tb,tc,n,e,ha,hc⟩,⟨_,e⟩,GM⟩
def YA{e te}(i:Nat)(h:PE X e te):PE X e (λσ H Q=>∃p q:Addr,σ[i]?=some (some (.ref p))/\H p=some (.ext (TL.qP p q))/\∀a b c:Int,0<=a->(c=0\/c=1) ->
  te σ (eS H p (vV q a b c)) λv H'=>H'=eS H p (vV q a b c)/\Q v H):=by
 intro pins s σ H Q I ⟨p,q,_,hp,hq⟩;obtain⟨a,b,c,ha,hc,I1⟩:=I.openTape hp;refine iU (h pins s σ _ _ I1 (hq a b c ha hc)) λu s' zq=>?_;obtain⟨v,H',I',r,e,q'⟩:=zq;subst e;have I2:=I'.closeTape bS ha hc;rw[zO,QU hp]at I2;exact⟨v,H,I2,r,q'⟩
def X9{tg g}(i:Nat)(h:PG X tg g):PG X tg (λv σ H Q=>∃p q:Addr,σ[i]?=some (some (.ref p))/\H p=some (.ext (TL.qP p q))/\∀a b c:Int,0<=a->(c=0\/c=1) ->
  g v σ (eS H p (vV q a b c)) λσ' H'=>(∃a b c:Int,0<=a/\(c=0\/c=1)/\H'=eS H p (vV q a b c))/\Q σ' H):=by
 intro pins s σ H v u Q I rv ⟨p,q,_,hp,hq⟩;obtain⟨a,b,c,ha,hc,I1⟩:=I.openTape hp;refine iU (h pins s σ _ v u _ I1 rv (hq a b c ha hc)) λ_ s' zq=>?_;obtain⟨σ',H',I',⟨a,b,c,ha,hc,e⟩,q'⟩:=zq;subst e;have I2:=I'.closeTape bS ha hc;rw[zO,QU hp]at I2;exact⟨σ',H,I2,q'⟩
def N4{e te}(h:PE X e te):PE X e (λσ H Q=>te σ H λv H'=>∃(p q:Addr)(a b c:Int),v=.ref p/\H' p=some (vV q a b c)/\0<=a/\(c=0\/c=1)/\Q (.ref p) (eS H' p (.ext (TL.qP p q)))):=by
 intro pins s σ H Q I hq;refine iU (h pins s σ H _ I hq) λu s' zq=>?_;obtain⟨v,H',I',r,q⟩:=zq;obtain⟨p,q,a,b,c,rfl,e,ha,hc,q'⟩:=q;exact⟨.ref p,_,I'.closeTape e ha hc,r,q'⟩
end
end L2
namespace TL
open L2
section
variable{X:Cx}{a b c e:Expr}{te:ET}{pos:Pos}
noncomputable def iH(ns:List Int):D:=.dict [(.none,.list (ns.map bI))]
def G4{K}{H:Hp}{ns:List Int}{v}(r:gD K H (iH ns) v):∃p q:Addr,v=.ref p/\H p=some (.ext (qP p q))/\lM K H q (ns.map V.int):=by
 unfold iH at r
 generalize hg:(nK [(.none,.list (ns.map bI))])=d at r
 cases r with
 |@tape p q ms h g=>
  injection hg with hg;injection hg with hg;injection hg with _ hg;injection hg with hg
  have e:ns=ms:=by
   have:=congrArg (aNm λd:D=>match d with | .int i=>i | _=>0) hg;simpa[bG,Function.comp_def]using this
  subst e;exact⟨p,q,rfl,h,g⟩
 |_=>cases hg
def aJ5(i k:Nat):ET:=λσ Q=>∃ns,σ[i]?=some (.val (iH ns))/\match k with
|0=>Q (.list (ns.map bI))
|1=>∀a:Int,0<=a->Q (.int a)
|2=>∀b:Int,Q (.int b)
|3=>∀c:Int,(c=0\/c=1)->Q (.int c)
|_=>False
def wM{n ix}{i:Nat}(k:Nat)(hp:PE X (.Subscript n ix pos) (tOp (rIx X.K) (oI i) (tC (.int k)))):gK X (.Subscript n ix pos) (aJ5 i k):=by
 refine⟨_,YA i hp,λB p0 H ps σT σ Q QV o h kk=>?_⟩;obtain⟨ns,e,h⟩:=h;obtain⟨v,hv,r⟩:=o.val i _ e;obtain⟨p,q,rfl,hH,hq⟩:=G4 r;refine⟨p,q,hv,bN _ _ hH,λa b c ha hc=>⟨.ref p,hv,?_⟩⟩
 have fin:∀(x:V)(d:D),atI [V.ref q,.int a,.int b,.int c] (k:Int)=some x->gD X.K (mask H ps) d x->Q d->rIx X.K (.ref p) (.int (k:Int)) (eS H p (vV q a b c)) (λv H'=>H'=eS H p (vV q a b c)/\QV v H):=λx d hx hr hQ=>
  .inl ⟨p,_,_,x,rfl,rfl,lM.of bS,hx,rfl,kk d x H (L2.aS.refl H) hr hQ⟩
 match k,h with
 |0,h=>exact fin _ _ rfl (.list hq (BX ns)) h
 |1,h=>exact fin _ _ rfl (.int a) (h a ha)
 |2,h=>exact fin _ _ rfl (.int b) (h b)
 |3,h=>exact fin _ _ rfl (.int c) (h c hc)
def wB(i k:Nat)(te:ET):vH:=λDT σ=>te σ λd=>(∃ns,σ[i]?=some (.val (iH ns)))/\(match k with | 1=>∃a:Int,d=.int a/\0<=a | 2=>∃b:Int,d=.int b | _=>False)/\DT.nx σ
def uU{i:Nat}{n ix e p2}(k:Nat)(he:gK X e te)(hg:PG X (.Subscript n ix p2) (aFm (oI i) (tC (.int k)) SE))
  (pa:∀{v g},PE X e v->PG X (.Subscript n ix p2) g->PS X (.Assign [.Subscript n ix p2] e pos) (tW v g)):AM X (.Assign [.Subscript n ix p2] e pos) (wB i k te):=by
 obtain⟨v,pe,re⟩:=he;refine⟨_,pa pe (X9 i hg),λB p0 H ps σT σ DT DV o h f=>?_⟩;refine re B p0 H ps σT σ _ _ o h λd x H1 s1 r1 q1=>?_;have o1:=o.grow s1;obtain⟨⟨ns,e⟩,hd,q1⟩:=q1;obtain⟨v,hv,r⟩:=o1.val i _ e;obtain⟨p,q,rfl,hH,hq⟩:=G4 r;refine⟨p,q,hv,bN _ _ hH,λa b c ha hc=>⟨.ref p,hv,?_⟩⟩;have nx:=f.nx _ ps _ σ o1 (bH s1) q1
 match k,hd with
 |1,⟨a',hd,ha'⟩=>
  subst hd;cases r1;exact⟨p,_,_,1,rfl,rfl,bS,rfl,⟨a',b,c,ha',hc,zO⟩,nx⟩
 |2,⟨b',hd⟩=>
  subst hd;cases r1;exact⟨p,_,_,2,rfl,rfl,bS,rfl,⟨a,b',c,ha,hc,zO⟩,nx⟩
def ZE(t:FT):ET:=λσ Q=>t σ λts=>∃(ns:List Int)(c:Int),ts=[.list (ns.map bI),.int 0,.int 0,.int c]/\(c=0\/c=1)/\Q (iH ns)
def OY{t}(h:K7 X e t):gK X e (ZE t):=by
 obtain⟨v,p,r⟩:=h;refine⟨_,N4 p,λB p0 H ps σT σ Q QV o h k=>r B p0 H ps σT σ _ _ o h λts p xs H' s hp hx rs q=>?_⟩;obtain⟨ns,c,rfl,hc,q⟩:=q
 cases rs with
 |cons r0 rs=>cases rs with
  |cons r1 rs=>cases rs with
   |cons r2 rs=>cases rs with
    |cons r3 rs=>
     cases rs;cases r1;cases r2;cases r3
     cases r0 with
     |@list l xs _ hq hr=>
      have e:=tG hr;subst e;refine⟨p,l,0,0,c,rfl,hx,mP 0,hc,k (iH ns) _ _ (λb u eb=>?_) (.tape (jY (hV o.live hp) bS) (L2.aS.seq (λb u eb=>?_) hq)) q⟩
      ·rw[bT λz=>by rw[z,hp]at eb;cases eb];exact s b u eb
      ·unfold mask at eb |-
       by_cases hb:b∈p::ps
       ·rw[if_pos hb]at eb;cases eb
       ·rw[if_neg hb]at eb;rw[if_neg λz=>hb (aI _ z),bT λz=>hb (by rw[z];exact aL ..)];exact eb
end
section
variable{X:Cx}{e:Expr}{es:List Expr}{te:ET}{pos:Pos}
inductive ZX:List Expr->List Str->Prop
|nil:ZX [] []
|cons {z:Str} {x1:Nat} {p:Pos} {es:List Expr} {zs:List Str}:ZX es zs->ZX (.Constant (.str z) x1 p::es) (z::zs)
def PH{es:List Expr}{zs:List Str}(h:ZX es zs):vK X es (λ_ Q=>Q (zs.map aP)):=by
 induction h with
 |nil=>exact aO
 |cons _ ih=>exact aB eU ih
def XF{i:Nat}{x pos'}(hN:X.N.Nodup)(hi:X.N[i]?=some x)(hx:QA X.env.scope x)(he:gK X e te)(hs:kH e (some (.Name x pos')) pos.line X.env=pure false:=by rfl)(hf:X.fn x=true\/X.env.scope.names.lookup x=some .local:=by first | exact .inl rfl | exact .inr rfl | assumption) :
  AM X (.Assign [.Name x pos'] e pos) (GZ i te):=RH he λh=>mS hN hi hx h hs hf
end
end TL
namespace L2
def JJ(l1 l2:Addr)(xs ys:Array Value) :
  Meets (Builtin.«zip.__new__» ⟨[.type "zip",.ref l1,.ref l2],[]⟩) (λ_ R s=>s.heap.IsList l1 xs/\s.heap.IsList l2 ys /\
   R (.ok (.ret (.ref (zH4 "list_iterator" "list_iterator" s.heap l1 l2).objs.size))) { s with heap:=P3 "list_iterator" "list_iterator" s.heap l1 l2 }):=
 .of_wp λprog w A R s h=>by
  obtain⟨hp,g,d,tk,os⟩:=s;obtain⟨hl1,hl2,h⟩:=h;have hsub:=sub_zip;have hL1:CV (Shared.heap ⟨hp,g,d,tk,os⟩) l1 xs:=hl1;have hL2:CV (Shared.heap ⟨hp.push { cls:=.type "list_iterator",data:=.fields #[.ref l1,.int 0 0] },g,d,tk,os⟩) l2 ys:=CV.push hl2 _
  wp_walk using wpAny_pyIter_list hL1,wpAny_pyIter_list hL2
  exact⟨_,rfl,h⟩
section
variable{P:cC}{w:World}{A:Around}{E:Value->Shared->Prop}{s:Shared}
def II{l1 l2:Addr}{xs ys}{Q:Value->Shared->Prop}(hl1:s.heap.IsList l1 xs)(hl2:s.heap.IsList l2 ys)
  (h:∀h',IsZip h' (s.heap.objs.size+4) (s.heap.objs.size+2) (s.heap.objs.size+3) .none->IsPair h' (s.heap.objs.size+2) (.ref s.heap.objs.size) (.ref (s.heap.objs.size+1)) ->
   IsPair h' (s.heap.objs.size+3) .none .none->h'.IsListIter s.heap.objs.size l1 0->h'.IsListIter (s.heap.objs.size+1) l2 0 ->
   (∀c o,s.heap.get? c=some o->h'.get? c=some o)->Q (.ref (s.heap.objs.size+4)) { s with heap:=h' }) :
  wpAny (model P w) A (call (.type "zip") [.ref l1,.ref l2]) Q E s:=by
 refine callType_new F.called_zip (by decide) (F.typeCall_zip_2 _ _) (F.newCall_zip_2 _ _) (λobj=>F.args_object_init_3 obj _ _) F.entry_zip_new (JJ l1 l2 xs ys) ⟨hl1,hl2,?_⟩;have n1:(zH1 "list_iterator" s.heap l1).objs.size=s.heap.objs.size+1:=dW ..;have n2:(zH2 "list_iterator" "list_iterator" s.heap l1 l2).objs.size=s.heap.objs.size+2:=by rw[dW,n1]
 have n3:(zH3 "list_iterator" "list_iterator" s.heap l1 l2).objs.size=s.heap.objs.size+3:=by rw[dW,n2]
 have n4:(zH4 "list_iterator" "list_iterator" s.heap l1 l2).objs.size=s.heap.objs.size+4:=by rw[dW,n3]
 have g5:(P3 "list_iterator" "list_iterator" s.heap l1 l2).get? (zH4 "list_iterator" "list_iterator" s.heap l1 l2).objs.size=some _:=aR _ rfl;have g4:(P3 "list_iterator" "list_iterator" s.heap l1 l2).get? (zH3 "list_iterator" "list_iterator" s.heap l1 l2).objs.size=some _:=aC _ (aR _ rfl);have g3:(P3 "list_iterator" "list_iterator" s.heap l1 l2).get? (zH2 "list_iterator" "list_iterator" s.heap l1 l2).objs.size=some _:=aC _ (aC _ (aR _ rfl));have g2:(P3 "list_iterator" "list_iterator" s.heap l1 l2).get? (zH1 "list_iterator" s.heap l1).objs.size=some _:=aC _ (aC _ (aC _ (aR _ rfl)));have g1:(P3 "list_iterator" "list_iterator" s.heap l1 l2).get? s.heap.objs.size=some _:=aC _ (aC _ (aC _ (aC _ (aR _ rfl))));show _/\_;rw[n2,n3,n4]at g5;rw[n1,n2]at g3;rw[n3]at g4;rw[n1]at g2;rw[n4];exact⟨⟨_,g5,rfl⟩,h _ g5 g3 g4 ⟨_,g1,rfl,rfl⟩ ⟨_,g2,rfl,rfl⟩ λc o x=>aC _ (aC _ (aC _ (aC _ (aC _ x))))⟩
end
def aCk{h:Heap}{a:Addr}{xs}(p:h.IsList a xs):a<h.objs.size:=by
 obtain⟨o,ho,_⟩:=p;exact aV ho
def aCo(K:aF)(ta:TA):TI:=λσ H R=>ta σ H λvs H1=>∃l1 l2 xs ys,vs=[.ref l1,.ref l2]/\((pA K H1 l1 xs/\pA K H1 l2 ys/\R (Itz (λH xs=>pA K H l1 xs) λH xs=>pA K H l2 xs) H1)\/(lM K H1 l1 xs/\lM K H1 l2 ys/\R (Itz (λH xs=>lM K H l1 xs) λH xs=>lM K H l2 xs) H1))
section
variable{X:Cx}
def X7{a b ta p pos tpos elts}{x1:Nat}(hg:Gl X "zip")(hm:X.mg "zip"=none)(ha:PA X [a,b] ta)(hs:bL [a,b] X.env=[(false,eval a X.env),(false,eval b X.env)]:=by rfl)(hs2:bL [b] X.env=[(false,eval b X.env)]:=by rfl) :
  PI X (.Tuple elts x1 tpos) (.Call (.Name "zip" p) [a,b] [] pos) (aCo X.K ta):=by
 intro pins s σ H R I h;refine Call_ (sI I hg hm IM (PyProof.Rows.callWith_type1 (iU (ha pos pins s σ H _ I h) λus s1 zq=>?_) (by rw[hs,hs2]) (by rw[hs2];rfl)));obtain⟨vs,H1,I1,r1,q1⟩:=zq;obtain⟨l1,l2,xs,ys,rfl,q1⟩:=q1;rcases q1 with⟨hq1,hq2,q⟩ | ⟨hq1,hq2,q⟩
 ·cases r1 with
  |cons r rr=>
   cases rr with
   |cons r' rr=>
    cases rr;cases r;cases r';obtain⟨us1,rv1,p1,hz1⟩:=I1.tuple hq1;obtain⟨us2,rv2,p2,hz2⟩:=I1.tuple hq2;have lt1:l1<s1.heap.objs.size:=p1.lt;have lt2:l2<s1.heap.objs.size:=p2.lt;refine yK (show s1.heap.IsTuple l1 us1.toArray from p1) (show s1.heap.IsTuple l2 us2.toArray from p2) λh' hz hTI hTO hi1 hi2 hk=>wpAny_pyIter_zip (s:={ s1 with heap:=h' }) hz ?_;refine⟨_,[s1.heap.objs.size+4,s1.heap.objs.size+2,s1.heap.objs.size+3,s1.heap.objs.size,s1.heap.objs.size+1],_,_,H1,rfl,I1.kept (t':=s1.toks) hk,AV (tP _ l1) (tP _ l2) (zR l1) (zR l2) (zipApart_new lt1 lt2),⟨hz,hTI,⟨_,_,hTO⟩,hi1,hi2⟩,λc hc=>?_,q⟩;simp only[aN,bV,or_false]at hc;have le:s1.heap.objs.size<=c:=by rcases hc with rfl | rfl | rfl | rfl | rfl<;>first | exact aM _ | exact rN _ _
    exact I1.fpOk le (I1.hok.fresh le)
 ·cases r1 with
  |cons r rr=>
   cases rr with
   |cons r' rr=>
    cases rr;cases r;cases r';obtain⟨us1,rv1,p1,hz1⟩:=I1.list hq1;obtain⟨us2,rv2,p2,hz2⟩:=I1.list hq2;have lt1:l1<s1.heap.objs.size:=(aCk p1.isList);have lt2:l2<s1.heap.objs.size:=(aCk p2.isList);refine II (show s1.heap.IsList l1 us1.toArray from p1.isList) (show s1.heap.IsList l2 us2.toArray from p2.isList) λh' hz hTI hTO hi1 hi2 hk=>wpAny_pyIter_zip (s:={ s1 with heap:=h' }) hz ?_;refine⟨_,[s1.heap.objs.size+4,s1.heap.objs.size+2,s1.heap.objs.size+3,s1.heap.objs.size,s1.heap.objs.size+1],_,_,H1,rfl,I1.kept (t':=s1.toks) hk,AV (CD _ l1) (CD _ l2) (GU l1) (GU l2) (zipApart_new lt1 lt2),⟨hz,hTI,⟨_,_,hTO⟩,hi1,hi2⟩,λc hc=>?_,q⟩;simp only[aN,bV,or_false]at hc;have le:s1.heap.objs.size<=c:=by rcases hc with rfl | rfl | rfl | rfl | rfl<;>first | exact aM _ | exact rN _ _
    exact I1.fpOk le (I1.hok.fresh le)
end
end L2
namespace TL
open L2
def aFh(t:AT):IT:=λσ Q=>t σ λds=>∃as bs,(ds=[.tuple as,.tuple bs]\/ds=[.list as,.list bs])/\Q (oY as bs)
section
variable{X:Cx}{a b:Expr}
def YX{t p p' tpos elts}{x1:Nat}(ha:vK X [a,b] t)(pz:∀{ta},PA X [a,b] ta->PI X (.Tuple elts x1 tpos) (.Call (.Name "zip" p) [a,b] [] p') (aCo X.K ta)):K6 X (.Tuple elts x1 tpos) (.Call (.Name "zip" p) [a,b] [] p') (aFh t):=by
 obtain⟨va,pa,ra⟩:=ha;refine⟨_,pz pa,λB p0 H ps σT σ Q R o h k=>ra B p0 H ps σT σ _ _ o h λds xs H1 s1 r1 q1=>?_⟩;obtain⟨as,bs,q1,q⟩:=q1;rcases q1 with rfl | rfl
 ·cases r1 with
  |cons r1 r2=>
   cases r2 with
   |cons r3 r4=>
    cases r4
    cases r1 with
    |@tuple p1 us _ hq1 rs1=>
     cases r3 with
     |@tuple p2 vs _ hq2 rs2=>
      have n1:=rs1.length;have n2:=rs2.length;refine⟨p1,p2,us,vs,rfl,.inl ⟨aS.seqT bN hq1,aS.seqT bN hq2,k _ _ H1 s1 ⟨λi H e hl=>?_,λi H e hl=>?_,λi H ps' y H' live e hl hy=>?_⟩ q⟩⟩
      ·rw[lO]at hl;exact⟨us,vs,aS.seqT e hq1,aS.seqT e hq2,by omega⟩
      ·rw[lO]at hl;exact⟨us,vs,us[i],vs[i],aS.seqT e hq1,aS.seqT e hq2,aE (by omega),aE (by omega)⟩
      ·obtain⟨p,x,y',hp,rfl,rfl,h1,h2⟩:=hy;obtain⟨d1,g1,t1⟩:=rs1.get' (h1 us (aS.seqT (e.trans bN) hq1));obtain⟨d2,g2,t2⟩:=rs2.get' (h2 vs (aS.seqT (e.trans bN) hq2));refine⟨cZ hp,.tuple [d1,d2],?_,oA live hp (.cons (t1.same e) (.cons (t2.same e) .nil))⟩;unfold oY;rw[aK,(fN (z:=(d1,d2))).mpr ⟨g1,g2⟩];rfl
 ·cases r1 with
  |cons r1 r2=>
   cases r2 with
   |cons r3 r4=>
    cases r4
    cases r1 with
    |@list p1 us _ hq1 rs1=>
     cases r3 with
     |@list p2 vs _ hq2 rs2=>
      have n1:=rs1.length;have n2:=rs2.length;refine⟨p1,p2,us,vs,rfl,.inr ⟨L2.aS.seq bN hq1,L2.aS.seq bN hq2,k _ _ H1 s1 ⟨λi H e hl=>?_,λi H e hl=>?_,λi H ps' y H' live e hl hy=>?_⟩ q⟩⟩
      ·rw[lO]at hl;exact⟨us,vs,L2.aS.seq e hq1,L2.aS.seq e hq2,by omega⟩
      ·rw[lO]at hl;exact⟨us,vs,us[i],vs[i],L2.aS.seq e hq1,L2.aS.seq e hq2,aE (by omega),aE (by omega)⟩
      ·obtain⟨p,x,y',hp,rfl,rfl,h1,h2⟩:=hy;obtain⟨d1,g1,t1⟩:=rs1.get' (h1 us (L2.aS.seq (e.trans bN) hq1));obtain⟨d2,g2,t2⟩:=rs2.get' (h2 vs (L2.aS.seq (e.trans bN) hq2));refine⟨cZ hp,.tuple [d1,d2],?_,oA live hp (.cons (t1.same e) (.cons (t2.same e) .nil))⟩;unfold oY;rw[aK,(fN (z:=(d1,d2))).mpr ⟨g1,g2⟩];rfl
end
structure wW where
 I:Type
 S:Type
 ad:I->List Addr
 tau:I->D
 At:I->aF->Hp->List Addr->S->Prop
 to:∀{T:I}{K:aF}{H H':Hp}{ps ps':List Addr}{n:S},At T K H ps n->(∀a∈ad T,H' a=H a)->aS (mask H ps) (mask H' ps')->At T K H' ps' n
 liv:∀{T:I}{K:aF}{H:Hp}{ps:List Addr}{n:S},At T K H ps n->∀a∈ad T,yO (H a)
 inj:∀{T T':I},tau T=tau T'->T=T'
def fX(as:List Addr)(H H':Hp):Prop:=∀a o,a∉as->H a=some o->H' a=some o
section
variable{K:aF}{H H' H1 H2 B:Hp}{p0 ps as:List Addr}{σT:List Sl}{σ:L2.St}
def fX.of(s:aS H H'):fX as H H':=λa o _ e=>s a o e
def fX.refl:fX as H H:=λ_ _ _ e=>e
def fX.trans(s:fX as H H1)(t:fX as H1 H2):fX as H H2:=λa o n e=>t a o n (s a o n e)
theorem fX.mask(hp:∀a∈as,a∈ps)(s:fX as H H'):aS (mask H ps) (mask H' ps):=λa o e=>by
 unfold TL.mask at e |-
 by_cases ha:a∈ps
 ·rw[if_pos ha]at e;cases e
 ·rw[if_neg ha]at e |-
  exact s a o (λz=>ha (hp a z)) e
def Ok.growZ(o:Ok K B p0 H ps σT σ)(hp:∀a∈as,a∈p0)(hB:∀a∈as,B a=none)(s:fX as H H')(hl:∀a∈as,yO (H' a)):Ok K B p0 H' ps σT σ where
 base:=λa u e=>s a u (λz=>by rw[hB a z]at e;cases e) (o.base a u e)
 sub:=o.sub
 live:=λq hq=>by
  by_cases e:q∈as
  ·exact hl q e
  ·obtain⟨u,h1,h2⟩:=o.live q hq;exact⟨u,s q u e h1,h2⟩
 len:=o.len
 val:=λi d h=>let ⟨v,h1,h2⟩:=o.val i d h;⟨v,h1,h2.same (s.mask λa z=>o.sub a (hp a z))⟩
 own:=λi ts h=>let ⟨q,xs,h1,h2,h3,h4,h5,h6⟩:=o.own i ts h;⟨q,xs,h1,h2,h3,h4,s q _ (λz=>h4 (hp q z)) h5,h6.same (s.mask λa z=>o.sub a (hp a z))⟩
 dis:=o.dis
 dc:=o.dc.to (λj hs kvs h=>⟨h,rfl⟩) (λq φ a b c=>⟨a,(s q _ (λz=>c (hp q z)) b).trans b.symm⟩) (λq φ _ _ a b=>⟨a,b⟩) (s.mask λa z=>o.sub a (hp a z))
variable{F:wW}{T:F.I}{n n':F.S}
def wW.At.grow(t:F.At T K H ps n)(s:aS H H'):F.At T K H' ps n:=F.to t (λa ha=>by
 obtain⟨u,h1,_⟩:=F.liv t a ha;rw[h1];exact s a u h1) (bH s)
structure lY(F:wW)(K:aF)(B:Hp)(p0:List Addr)(H:Hp)(ps:List Addr)(σT:List Sl)(σ:L2.St)(T:F.I)(n:F.S):Prop where
 ok:Ok K B p0 H ps σT σ
 mem:∀a∈F.ad T,a∈p0
 nb:∀a∈F.ad T,B a=none
 tp:F.At T K H ps n
def lY.mem'(o:lY F K B p0 H ps σT σ T n):∀a∈F.ad T,a∈ps:=λa h=>o.ok.sub a (o.mem a h)
theorem lY.grow(o:lY F K B p0 H ps σT σ T n)(s:aS H H'):lY F K B p0 H' ps σT σ T n:=⟨o.ok.grow s,o.mem,o.nb,o.tp.grow s⟩
def lY.growX(o:lY F K B p0 H ps σT σ T n)(s:fX (F.ad T) H H')(t:F.At T K H' ps n'):lY F K B p0 H' ps σT σ T n':=⟨o.ok.growZ o.mem o.nb s (F.liv t),o.mem,o.nb,t⟩
theorem lY.set(o:lY F K B p0 H ps σT σ T n){i:Nat}{d v}(r:gD K (mask H ps) d v):lY F K B p0 H ps (σT.set i (.val d)) (σ.set i (some v)) T n:=⟨o.ok.set r,o.mem,o.nb,o.tp⟩
end
section
variable{F:wW}
abbrev EZ(F:wW):=D->F.S->List Sl->(F.S->D->Prop)->Prop
abbrev AZ(F:wW):=D->F.S->List Sl->(F.S->List D->Prop)->Prop
abbrev TZ(F:wW):=D->F.S->List Sl->(F.S->Bool->Prop)->Prop
def wV(X:Cx)(e:Expr)(t:EZ F):Prop:=∃te:TE,PE X e te/\∀B p0 H ps σT σ T n (Q:F.S->D->Prop)(QV:VK),lY F X.K B p0 H ps σT σ T n->t (F.tau T) n σT Q ->
 (∀n' d v H',fX (F.ad T) H H'->F.At T X.K H' ps n'->gD X.K (mask H' ps) d v->Q n' d->QV v H')->te σ H QV
def P8(X:Cx)(es:List Expr)(t:AZ F):Prop:=∃ta:TA,PA X es ta/\∀B p0 H ps σT σ T n (Q:F.S->List D->Prop)(QV:List V->Hp->Prop),lY F X.K B p0 H ps σT σ T n->t (F.tau T) n σT Q ->
 (∀n' ds vs H',fX (F.ad T) H H'->F.At T X.K H' ps n'->Reps X.K (mask H' ps) ds vs->Q n' ds->QV vs H')->ta σ H QV
def PL(X:Cx)(e:Expr)(t:TZ F):Prop:=∃tt:TT,PT X e tt/\∀B p0 H ps σT σ T n (Q:F.S->Bool->Prop)(QV:Bool->Hp->Prop),lY F X.K B p0 H ps σT σ T n->t (F.tau T) n σT Q ->
 (∀n' b H',fX (F.ad T) H H'->F.At T X.K H' ps n'->Q n' b->QV b H')->tt σ H QV
def PWz(X:Cx)(e:Expr)(t:TZ F):Prop:=∃tt:TT,PW X e tt/\∀B p0 H ps σT σ T n (Q:F.S->Bool->Prop)(QV:Bool->Hp->Prop),lY F X.K B p0 H ps σT σ T n->t (F.tau T) n σT Q ->
 (∀n' b H',fX (F.ad T) H H'->F.At T X.K H' ps n'->Q n' b->QV b H')->tt σ H QV
section
variable{X:Cx}{a b e:Expr}{es:List Expr}{ta tb te:EZ F}{pos:Pos}
def zE(t:ET):EZ F:=λ_ n σ Q=>t σ (Q n)
def jS{t}(h:gK X e t):wV (F:=F) X e (zE t):=by
 obtain⟨v,p,r⟩:=h;exact⟨v,p,λB p0 H ps σT σ T n Q QV o h k=>r B p0 H ps σT σ (Q n) QV o.ok h λd v H' s rr q=>k n d v H' (.of s) (o.tp.grow s) rr q⟩
def zA(t:AT):AZ F:=λ_ n σ Q=>t σ (Q n)
def CM{t}(h:vK X es t):P8 (F:=F) X es (zA t):=by
 obtain⟨v,p,r⟩:=h;exact⟨v,p,λB p0 H ps σT σ T n Q QV o h k=>r B p0 H ps σT σ (Q n) QV o.ok h λd v H' s rr q=>k n d v H' (.of s) (o.tp.grow s) rr q⟩
def zT(t:vN):TZ F:=λ_ n σ Q=>t σ (Q n)
def aLo{t}(h:IV X e t):PL (F:=F) X e (zT t):=by
 obtain⟨v,p,r⟩:=h;exact⟨v,p,λB p0 H ps σT σ T n Q QV o h k=>r B p0 H ps σT σ (Q n) QV o.ok h λb H' s q=>k n b H' (.of s) (o.tp.grow s) q⟩
def zOp(f:D->D->(D->Prop)->Prop)(ta tb:EZ F):EZ F:=λτ n σ Q=>ta τ n σ λn1 x=>tb τ n1 σ λn2 y=>f x y (Q n2)
def G8{r}{f:D->D->(D->Prop)->Prop}(h2:CP X r f){va vb:TE}
  (ha:∀B p0 H ps σT σ T n (Q:F.S->D->Prop)(QV:VK),lY F X.K B p0 H ps σT σ T n->ta (F.tau T) n σT Q->(∀n' d v H',fX (F.ad T) H H'->F.At T X.K H' ps n'->gD X.K (mask H' ps) d v->Q n' d->QV v H')->va σ H QV)
  (hb:∀B p0 H ps σT σ T n (Q:F.S->D->Prop)(QV:VK),lY F X.K B p0 H ps σT σ T n->tb (F.tau T) n σT Q->(∀n' d v H',fX (F.ad T) H H'->F.At T X.K H' ps n'->gD X.K (mask H' ps) d v->Q n' d->QV v H')->vb σ H QV)
  (B:Hp) (p0:List Addr) (H:Hp) (ps:List Addr) (σT:List Sl) (σ:L2.St) (T:F.I) (n:F.S) (Q:F.S->D->Prop) (QV:VK) (o:lY F X.K B p0 H ps σT σ T n) (h:zOp f ta tb (F.tau T) n σT Q) (k:∀n' d v H',fX (F.ad T) H H'->F.At T X.K H' ps n'->gD X.K (mask H' ps) d v->Q n' d->QV v H'):tOp r va vb σ H QV:=by
 refine ha B p0 H ps σT σ T n _ _ o h λn1 d1 x H1 s1 t1 r1 q1=>?_;have o1:=o.growX s1 t1;refine hb B p0 H1 ps σT σ T n1 _ _ o1 q1 λn2 d2 y H2 s2 t2 r2 q2=>?_;have o2:=o1.growX s2 t2;exact h2 H2 ps d1 d2 x y (Q n2) QV o2.ok.live (r1.same (s2.mask o.mem')) r2 q2 λd v H' s' r' q'=>k n2 d v H' ((s1.trans s2).trans (.of s')) (t2.grow s') r' q'
def U9{r}{f:D->D->(D->Prop)->Prop}(ho:V5 X r)(h2:CP X r f)(ha:wV X a ta)(hb:wV X b tb)(hs:F1 b:=by intro _ _;rfl):wV X (.Subscript a b pos) (zOp f ta tb):=by
 obtain⟨va,pa,ra⟩:=ha;obtain⟨vb,pb,rb⟩:=hb;exact⟨_,sD ho pa pb hs,G8 h2 ra rb⟩
def WR:AZ F:=λ_ n _ Q=>Q n []
def QN(t:EZ F)(r:AZ F):AZ F:=λτ n σ Q=>t τ n σ λn1 x=>r τ n1 σ λn2 xs=>Q n2 (x::xs)
def kX:P8 (F:=F) X [] WR:=⟨_,gL,λ_ _ H _ _ _ _ _ _ _ o h k=>k _ _ _ H .refl o.tp .nil h⟩
def dN{tr}(ha:wV X e te)(hr:P8 X es tr)(hs:bL (e::es) X.env=(false,eval e X.env)::bL es X.env:=by rfl):P8 X (e::es) (QN te tr):=by
 obtain⟨va,pa,ra⟩:=ha;obtain⟨vr,pr,rr⟩:=hr;refine⟨_,cL pa pr hs,λB p0 H ps σT σ T n Q QV o h k=>ra B p0 H ps σT σ T n _ _ o h λn1 d x H1 s1 t1 r1 q1=>?_⟩;refine rr B p0 H1 ps σT σ T n1 _ _ (o.growX s1 t1) q1 λn2 ds xs H2 s2 t2 r2 q2=>?_;exact k _ _ _ H2 (s1.trans s2) t2 (.cons (r1.same (s2.mask o.mem')) r2) q2
def aLb(t:AZ F):EZ F:=λτ n σ Q=>t τ n σ λn1 ds=>ds.length<=1000/\Q n1 (.tuple ds)
def KS{x1}{t:AZ F}(h:P8 X es t):wV X (.Tuple es x1 pos) (aLb t):=by
 obtain⟨v,p,r⟩:=h;refine⟨_,BG p,λB p0 H ps σT σ T n Q QV o h k=>r B p0 H ps σT σ T n _ _ o h λn1 ds xs H1 s1 t1 r1 q1=>⟨qT (by rw[<- r1.length];exact q1.1),λq hq=>?_⟩⟩;exact k _ _ _ _ (s1.trans (.of (cZ hq))) (t1.grow (cZ hq)) (oA (o.growX s1 t1).ok.live hq r1) q1.2
def aG2(f:List D->(D->Prop)->Prop)(t:AZ F):EZ F:=λτ n σ Q=>t τ n σ λn1 ds=>f ds (Q n1)
def pZ{k:Nat}{f:Addr}{fd}{pn:List Str}{sp:oV}{x:Str}{p}{t:AZ F}(F:bU X.prog X.w X.K X.mg X.base eG k f fd pn (bJ X.K sp))(hm:X.mg x=some (.ref f))(hk:fV X.K (.ref f)=true)(hb:oR X.K fd pn [])
  (hr:gM k X.A) (ha:P8 X (e::es) t) (pc:∀{ta:TA},PA X (e::es) ta->PE X (.Call (.Name x p) (e::es) [] pos) (xZ (bJ X.K sp) [] E0 ta)):wV X (.Call (.Name x p) (e::es) [] pos) (aG2 sp t):=by
 obtain⟨v,pa,ra⟩:=ha;refine⟨_,pc pa,λB p0 H ps σT σ T n Q QV o h k=>ra B p0 H ps σT σ T n _ _ o h λn1 ds xs H1 s1 t1 r1 q1=>?_⟩;show bJ X.K sp (xs++[]) H1 QV E0;rw[dQ];exact⟨ps,ds,Q n1,(o.growX s1 t1).ok.live,r1,q1,λd v H' s' r' q'=>k n1 d v H' (s1.trans (.of s')) (t1.grow s') r' q'⟩
abbrev EH(F:wW):=D->F.S->List D->(F.S->D->Prop)->Prop
def eB(K:aF)(sp:EH F):Sp:=λvs H Q _=>∃(ps:List Addr)(T:F.I)(n:F.S)(ds:List D)(QD:F.S->D->Prop),(∀p∈ps,yO (H p))/\(∀a∈F.ad T,a∈ps)/\F.At T K H ps n/\Reps K (mask H ps) ds vs/\sp (F.tau T) n ds QD /\
 ∀n' d v H',fX (F.ad T) H H'->F.At T K H' ps n'->gD K (mask H' ps) d v->QD n' d->Q v H'
def aG1(sp:EH F)(t:AZ F):EZ F:=λτ n σ Q=>t τ n σ λn1 ds=>sp τ n1 ds Q
def AE{k:Nat}{f:Addr}{fd:gT}{pn:List Str}{sp:EH F}{x:Str}{p}{t:AZ F}(ha:P8 X (e::es) t)(pc:∀{ta:TA},PA X (e::es) ta->PE X (.Call (.Name x p) (e::es) [] pos) (xZ (eB X.K sp) [] E0 ta)):wV X (.Call (.Name x p) (e::es) [] pos) (aG1 sp t):=by
 obtain⟨v,pa,ra⟩:=ha;refine⟨_,pc pa,λB p0 H ps σT σ T n Q QV o h k=>ra B p0 H ps σT σ T n _ _ o h λn1 ds xs H1 s1 t1 r1 q1=>?_⟩;show eB X.K sp (xs++[]) H1 QV E0;rw[dQ];exact⟨ps,T,n1,ds,Q,(o.growX s1 t1).ok.live,o.mem',t1,r1,q1,λn' d v H' s' t' r' q'=>k n' d v H' (s1.trans s') t' r' q'⟩
def WQ(t:EZ F):TZ F:=λτ n σ Q=>t τ n σ λn1 x=>match x with | .bool b=>Q n1 b | _=>False
def uP{op r}{f:D->D->(D->Prop)->Prop}(ho:pB X (compareOp op) r)(h2:CP X r f)(ha:wV X a ta)(hb:wV X b tb)(hm:behindInMarks op b=false:=by first | exact KB _ | rfl):PL X (.Compare a [op] [b] pos) (WQ (zOp f ta tb)):=by
 obtain⟨va,pa,ra⟩:=ha;obtain⟨vb,pb,rb⟩:=hb;refine⟨_,L6 ho pa pb hm,λB p0 H ps σT σ T n Q QV o h k=>?_⟩;refine G8 h2 ra rb B p0 H ps σT σ T n (λn1 x=>match x with | .bool b=>Q n1 b | _=>False) _ o h λn' d v H' s' t' r' q'=>?_
 cases r' with
 |bool c=>exact⟨c,rfl,k n' c H' s' t' q'⟩
 |_=>exact q'.elim
variable{tA tB':TZ F}{kD:List Expr}
def QM(t:TZ F):TZ F:=λτ n σ Q=>t τ n σ λn1 b=>Q n1 (!b)
def aLg(t u:TZ F):TZ F:=λτ n σ Q=>t τ n σ λn1 b=>if b=true then Q n1 true else u τ n1 σ Q
def uO(h:PL X a tA):PL X (.UnaryOp .Not a pos) (QM tA):=by
 obtain⟨v,p,r⟩:=h;exact⟨_,SM p,λB p0 H ps σT σ T n Q QV o h k=>r B p0 H ps σT σ T n _ _ o h λn1 b H' s' t' q'=>k _ _ H' s' t' q'⟩
def QQ(h:PWz X e tA):PL X e tA:=by
 obtain⟨v,p,r⟩:=h;exact⟨_,p.pt,r⟩
def JK(h:PL X a tA):PWz X (.BoolOp .Or [a] pos) tA:=by
 obtain⟨v,p,r⟩:=h;exact⟨_,SI p,r⟩
def QR(ha:PL X a tA)(hb:PWz X (.BoolOp .Or (b::kD) pos) tB'):PWz X (.BoolOp .Or (a::b::kD) pos) (aLg tA tB'):=by
 obtain⟨va,pa,ra⟩:=ha;obtain⟨vb,pb,rb⟩:=hb;refine⟨_,aCb pa pb,λB p0 H ps σT σ T n Q QV o h k=>ra B p0 H ps σT σ T n _ _ o h λn1 c H1 s1 t1 q1=>?_⟩
 cases c with
 |true=>exact k _ _ H1 s1 t1 q1
 |false=>exact rb B p0 H1 ps σT σ T n1 Q _ (o.growX s1 t1) q1 λn' b H' s' t' q'=>k n' b H' (s1.trans s') t' q'
end
end
section
variable{F:wW}
section
variable{K:aF}{H B:Hp}{p0 ps:List Addr}{σT:List Sl}{σ:L2.St}{T:F.I}{n:F.S}{p:Addr}
def lY.ne(o:lY F K B p0 H ps σT σ T n)(hp:H p=none):p∉F.ad T:=λz=>by
 obtain⟨u,e,_⟩:=F.liv o.tp p z;rw[hp]at e;cases e
def lY.with(o:lY F K B p0 H ps σT σ T n){σT' σ'}(o':Ok K B p0 H ps σT' σ'):lY F K B p0 H ps σT' σ' T n:=⟨o',o.mem,o.nb,o.tp⟩
end
structure yP(F:wW) where
 nx:F.S->List Sl->Prop
 rt:F.S->D->Prop
 bk:F.S->List Sl->Prop:=λ_ _=>False
 ct:F.S->List Sl->Prop:=λ_ _=>False
 xB:Hp->List Addr->Prop:=λ_ _=>True
abbrev SZ(F:wW):=D->yP F->F.S->List Sl->Prop
structure CQ(F:wW)(K:aF)(B:Hp)(p0:List Addr)(H:Hp)(ps:List Addr)(T:F.I)(DC:yP F)(DV:CS):Prop where
 nx:∀H' ps' σT' σ' n',lY F K B p0 H' ps' σT' σ' T n'->aS (mask H ps) (mask H' ps')->DC.nx n' σT'->DV.nx σ' H'
 bk:∀H' ps' σT' σ' n',lY F K B p0 H' ps' σT' σ' T n'->aS (mask H ps) (mask H' ps')->DC.bk n' σT'->DV.bk σ' H'
 ct:∀H' ps' σT' σ' n',lY F K B p0 H' ps' σT' σ' T n'->aS (mask H ps) (mask H' ps')->DC.ct n' σT'->DV.ct σ' H'
 rt:∀n' d v H',aS B H'->F.At T K H' p0 n'->gD K (mask H' p0) d v->DC.rt n' d->DV.rt v H'
 xb:DC.xB B p0
def zB(X:Cx)(st:Stmt)(t:SZ F):Prop:=∃ts:TS,PS X st ts/\∀B p0 H ps σT σ T n (DC:yP F)(DV:CS),lY F X.K B p0 H ps σT σ T n->t (F.tau T) DC n σT->CQ F X.K B p0 H ps T DC DV->ts DV σ H
def vI(X:Cx)(st:List Stmt)(t:SZ F):Prop:=∃ts:TS,yN X st ts/\∀B p0 H ps σT σ T n (DC:yP F)(DV:CS),lY F X.K B p0 H ps σT σ T n->t (F.tau T) DC n σT->CQ F X.K B p0 H ps T DC DV->ts DV σ H
section
variable{K:aF}{H H' B:Hp}{p0 ps:List Addr}{σT:List Sl}{σ:L2.St}{T:F.I}{n:F.S}
def CQ.later{DC DV ps'}(f:CQ F K B p0 H ps T DC DV)(e:aS (mask H ps) (mask H' ps')):CQ F K B p0 H' ps' T DC DV:=
 ⟨λ_ _ _ _ _ o s q=>f.nx _ _ _ _ _ o (e.trans s) q,λ_ _ _ _ _ o s q=>f.bk _ _ _ _ _ o (e.trans s) q,λ_ _ _ _ _ o s q=>f.ct _ _ _ _ _ o (e.trans s) q,f.rt,f.xb⟩
noncomputable def yH(B:Hp)(as:List Addr)(H:Hp):Hp:=λa=>if a∈as then H a else B a
def AB{as}{a:Addr}(h:a∈as):yH B as H a=H a:=if_pos h
def kU{as}{a:Addr}(h:a∉as):yH B as H a=B a:=if_neg h
def xL{as}(h:∀a∈as,B a=none):aS B (yH B as H):=λa u e=>by
 rw[kU λz=>by rw[h a z]at e;cases e];exact e
def lY.up(o:lY F K B p0 H ps σT σ T n):Ok K (yH B (F.ad T) H) p0 H ps σT σ where
 base:=λa u e=>by
  by_cases z:a∈F.ad T
  ·rw[AB z]at e;exact e
  ·rw[kU z]at e;exact o.ok.base a u e
 sub:=o.ok.sub
 live:=o.ok.live
 len:=o.ok.len
 val:=o.ok.val
 own:=λi ts h=>let ⟨q,xs,h1,h2,h3,h4,h5,h6⟩:=o.ok.own i ts h;⟨q,xs,h1,h2,by rw[kU λz=>h4 (o.mem q z)];exact h3,h4,h5,h6⟩
 dis:=o.ok.dis
 dc:=o.ok.dc.to (λj hs kvs h=>⟨h,rfl⟩) (λq φ a b _=>⟨a,rfl⟩) (λq φ _ _ a b=>⟨by rw[kU λz=>b (o.mem q z)];exact a,b⟩) (L2.aS.refl _)
def lY.down(o:lY F K B p0 H ps σT σ T n){ps' σT' σ'}(o':Ok K (yH B (F.ad T) H) p0 H' ps' σT' σ')(s:aS (mask H ps) (mask H' ps')):lY F K B p0 H' ps' σT' σ' T n where
 ok:=⟨(xL o.nb).trans o'.base,o'.sub,o'.live,o'.len,o'.val,λi ts h=>let ⟨q,xs,h1,h2,h3,h4,h5,h6⟩:=o'.own i ts h;⟨q,xs,h1,h2,aS.free' (xL o.nb) h3,h4,h5,h6⟩,o'.dis,o'.dc.to (λj hs kvs h=>⟨h,rfl⟩) (λq φ a b _=>⟨a,rfl⟩) (λq φ _ _ a b=>⟨aS.free' (xL o.nb) a,b⟩) (L2.aS.refl _)⟩
 mem:=o.mem
 nb:=o.nb
 tp:=F.to o.tp (λa ha=>by
  obtain⟨u,e,_⟩:=F.liv o.tp a ha;rw[e];exact o'.base a u (by rw[AB ha];exact e)) s
def U6{DC:yP F}{DV}(o:lY F K B p0 H ps σT σ T n)(f:CQ F K B p0 H ps T DC DV):F3 K (yH B (F.ad T) H) p0 H ps { nx:=DC.nx n,rt:=λ_=>False,bk:=DC.bk n,ct:=DC.ct n } DV:=
 ⟨λH' ps' σT' σ' o' s' q'=>f.nx H' ps' σT' σ' n (o.down o' s') s' q',λH' ps' σT' σ' o' s' q'=>f.bk H' ps' σT' σ' n (o.down o' s') s' q',λH' ps' σT' σ' o' s' q'=>f.ct H' ps' σT' σ' n (o.down o' s') s' q',
  λd v H' s' r' q'=>q'.elim,
  λ_ _ _ _ _ _ _ _ _ q'=>q'.elim,λ_ _ _ _ _ _ _ _ _ _ _ _ _ _ _ _ _ _ q'=>q'.elim,λ_ _ _ _ _ _ _ _ _ _ _ _ _ _ q'=>q'.elim,True.intro⟩
end
section
variable{X:Cx}{a b c e:Expr}{es:List Expr}{te:EZ F}{pos:Pos}{st:Stmt}{kD:List Stmt}{t u:SZ F}
def zP(t:vH):SZ F:=λ_ DC n σ=>t { nx:=DC.nx n,rt:=λ_=>False,bk:=DC.bk n,ct:=DC.ct n } σ
def uT{t}(h:AM X st t):zB (F:=F) X st (zP t):=by
 obtain⟨ts,p,r⟩:=h;refine⟨ts,p,λB p0 H ps σT σ T n DC DV o h f=>?_⟩;exact r _ p0 H ps σT σ _ DV o.up h (U6 o f)
def DB:SZ F:=λ_ DC n σ=>DC.nx n σ
def qM(t u:SZ F):SZ F:=λτ DC n σ=>t τ { DC with nx:=u τ DC } n σ
def lS:vI (F:=F) X [] DB:=⟨_,L7,λB p0 H ps σT σ T n DC DV o h f=>f.nx H ps σT σ n o (L2.aS.refl _) h⟩
def dR(h1:zB X st t)(h2:vI X kD u):vI X (st::kD) (qM t u):=by
 obtain⟨v1,p1,r1⟩:=h1;obtain⟨v2,p2,r2⟩:=h2;refine⟨_,mG p1 p2,λB p0 H ps σT σ T n DC DV o h f=>r1 B p0 H ps σT σ T n { DC with nx:=u (F.tau T) DC } { DV with nx:=v2 DV } o h ⟨λH' ps' σT' σ' n' o' s' q'=>?_,f.bk,f.ct,f.rt,f.xb⟩⟩;exact r2 B p0 H' ps' σT' σ' T n' DC DV o' q' (f.later s')
def fS(h1:zB X st t):vI X [st] t:=by
 obtain⟨v1,p1,r1⟩:=h1;exact⟨_,E8 p1,r1⟩
def aLd(te:EZ F):SZ F:=λτ DC n σ=>te τ n σ DC.rt
def lI(h:wV X e te):zB X (.Return (some e) pos) (aLd te):=by
 obtain⟨v,p,r⟩:=h;refine⟨_,BD p,λB p0 H ps σT σ T n DC DV o h f=>r B p0 H ps σT σ T n _ _ o h λn' d x H' s' t' r' q'=>?_⟩;have o':=o.growX s' t';exact f.rt n' d x H' o'.ok.base (F.to t' (λ_ _=>rfl) (gF o.ok.sub)) (r'.same (gF o.ok.sub)) q'
def zIf(c:TZ F)(t u:SZ F):SZ F:=λτ DC n σ=>c τ n σ λn1 b=>if b=true then t τ DC n1 σ else u τ DC n1 σ
def oJ{c a b tc}(hc:PL X c tc)(ha:vI X a t)(hb:vI X b u):zB X (.If c a b pos) (zIf tc t u):=by
 obtain⟨vc,pc,rc⟩:=hc;obtain⟨va,pa,ra⟩:=ha;obtain⟨vb,pb,rb⟩:=hb;refine⟨_,aCc pc pa pb,λB p0 H ps σT σ T n DC DV o h f=>rc B p0 H ps σT σ T n _ _ o h λn1 d H1 s1 t1 q1=>?_⟩;have o1:=o.growX s1 t1;have f1:=f.later (s1.mask o.mem')
 cases d with
 |true=>exact ra B p0 H1 ps σT σ T n1 DC DV o1 q1 f1
 |false=>exact rb B p0 H1 ps σT σ T n1 DC DV o1 q1 f1
def aDi(i:Nat)(te:EZ F):SZ F:=λτ DC n σ=>te τ n σ λn1 d=>DC.nx n1 (σ.set i (.val d))
def uS{i:Nat}{x pos'}(h:wV X e te)(ps':∀{v},PE X e v->PS X (.Assign [.Name x pos'] e pos) (tW v (lF i))):zB X (.Assign [.Name x pos'] e pos) (aDi i te):=by
 obtain⟨v,p,r⟩:=h;refine⟨_,ps' p,λB p0 H ps σT σ T n DC DV o h f=>r B p0 H ps σT σ T n _ _ o h λn' d x H' s' t' r' q'=>?_⟩;exact f.nx H' ps _ _ n' ((o.growX s' t').set r') (s'.mask o.mem') q'
def aGz(ti:IT)(g:GT)(tb:SZ F):SZ F:=λτ DC n σ=>ti σ λts=>∃P:Nat->F.S->List Sl->Prop,P 0 n σ /\
 (∀(k:Nat)(m:F.S)(x:D)σ',ts[k]?=some x->P k m σ'->g x σ' λσ2=>tb τ { DC with nx:=P (k+1),ct:=P (k+1),bk:=DC.nx } m σ2)/\∀m σ',P ts.length m σ'->DC.nx m σ'
def aD1{tg iter body g}{tb:SZ F}{ti}(he:K6 X tg iter ti)(hg:M9 X tg g)(hb:vI X body tb)
  (pf:∀{wi:TI}{gv:TG}{bv:TS},PI X tg iter wi->PG X tg gv->yN X body bv->PS X (.For tg iter body [] pos) (aDy wi gv bv)):zB X (.For tg iter body [] pos) (aGz ti g tb):=by
 obtain⟨ve,pe,re⟩:=he;obtain⟨gv,pg,rg⟩:=hg;obtain⟨vb,pb,rb⟩:=hb;refine⟨_,pf pe pg pb,λB p0 H ps σT σ T n DC DV o h f=>re B p0 H ps σT σ _ _ o.ok h λts J H1 s1 rj q1=>?_⟩;obtain⟨P,h0,hs,hd⟩:=q1;refine⟨λi m σ' H'=>m=ts.length-i/\i<=ts.length/\∃c ps' σT',lY F X.K B p0 H' ps' σT' σ' T c/\aS (mask H1 ps) (mask H' ps')/\P i c σT',⟨_,rfl,cT _,n,ps,σT,o.grow s1,L2.aS.refl _,h0⟩,?_⟩;rintro i m σ' H' ⟨rfl,hle,c,ps',σT',o',s',p'⟩;have sH:aS (mask H1 ps) H':=s'.trans bN;have f':CQ F X.K B p0 H' ps' T DC DV:=f.later ((bH s1).trans s');by_cases hlt:i<ts.length
 ·refine .inr ⟨rj.go i H' sH hlt,λσ2 H2=>∃c2 ps2 σT2,lY F X.K B p0 H2 ps2 σT2 σ2 T c2/\aS (mask H1 ps) (mask H2 ps2)/\P (i+1) c2 σT2,λσ2 H2 z=>⟨ts.length-(i+1),by omega,rfl,hlt,z⟩,λy H2 hy'=>?_⟩;obtain⟨s2,dx,hx,rx⟩:=rj.yld i H' ps' y H2 o'.ok.live s' hlt hy';have f2:=f'.later (bH (ps:=ps') s2);have s'':aS (mask H1 ps) (mask H2 ps'):=s'.trans (bH s2);have o2:=o'.grow s2;refine rg B p0 H2 ps' σT' σ' dx y _ _ o2.ok rx (hs i c dx σT' hx p') λσT3 σ3 o3 _ q3=>?_;exact rb B p0 H2 ps' σT3 σ3 T c _ _ (o2.with o3) q3 ⟨λH4 ps4 σT4 σ4 c4 o4 s4 q4=>⟨c4,ps4,σT4,o4,s''.trans s4,q4⟩,λH4 ps4 σT4 σ4 c4 o4 s4 q4=>f2.nx H4 ps4 σT4 σ4 c4 o4 s4 q4,λH4 ps4 σT4 σ4 c4 o4 s4 q4=>⟨c4,ps4,σT4,o4,s''.trans s4,q4⟩,f2.rt,f2.xb⟩
 ·obtain rfl:i=ts.length:=by omega
  exact .inl ⟨rj.stop _ H' sH (aM _),f'.nx H' ps' σT' σ' c o' (L2.aS.refl _) (hd c σT' p')⟩
noncomputable def iT(H:Hp)(as:List Addr):Hp:=λa=>if a∈as then none else H a
def WH{P w}{mg:Str->Option Value}{base K x qual st}{f:Addr}{fd}{N pn:List Str}{k:Nat}{sp:EH F}(Fn:LB K x qual st f fd)(S:bZ N pn (aY st))(len:∀τ n ds Q,sp τ n ds Q->ds.length=pn.length)
  (hbody:∀(cdv:Value)(A:Around)outer(s:Shared)H E,gM k (A.deeper (envOfC qual (aY st) s.heap.objs.size f cdv))->∀(Tp:F.I)(n:F.S)(ds:List D)(Q:F.S->D->Prop),sp (F.tau Tp) n ds Q ->
   ∃t,vI (qB eG P w K mg base N qual (aY st) f cdv A outer s H E).nox (kN st) t/\t (F.tau Tp) { nx:=λn _=>Q n .none,rt:=Q } n (iZ N ds)):bU P w K mg base eG (k+1) f fd pn (eB K sp):=by
 refine Fn.ok S (λvs H Q E h=>?_) λcdv A outer s H vs Q E hr h=>?_
 ·obtain⟨ps,T,n,ds,QD,_,_,_,r,q,_⟩:=h;rw[<- r.length];exact len _ _ ds QD q
 ·obtain⟨ps,T,n,ds,QD,live,hp,tp,r,q,k⟩:=h;obtain⟨t,⟨ts,p,rd⟩,h⟩:=hbody cdv A outer s H E hr T n ds QD q;have o:=oM (N:=N) live r
  have hno:∀(i:Nat)(us:List D),(iZ N ds)[i]?≠some (.own us):=λi us e=>by
   obtain⟨q,_,_,_,hB,_,hH,_⟩:=o.own i us e;rw[hB]at hH;cases hH
  have sW:aS (iT H (F.ad T)) H:=λa u e=>by
   unfold iT at e;split at e
   ·cases e
   ·exact e
  have hx:∀{H':Hp},aS (iT H (F.ad T)) H'->fX (F.ad T) H H':=λs a u ne e=>s a u (by unfold iT;rw[if_neg ne];exact e)
  have o2:Ok K (iT H (F.ad T)) ps H ps (iZ N ds) (L2.lP N vs):=⟨sW,o.sub,o.live,o.len,o.val,λi us e=>absurd e (hno i us),o.dis,λi hs kvs e=>by
   obtain⟨⟨q,es,_,_,hB,_,hH,_⟩,_⟩:=o.dc i hs kvs e;rw[hB]at hH;cases hH⟩
  have o3:lY F K (iT H (F.ad T)) ps H ps (iZ N ds) (L2.lP N vs) T n:=⟨o2,hp,λa ha=>if_pos ha,tp⟩;refine⟨ts,p,rd _ ps H ps _ _ T n _ _ o3 h ⟨λH' ps' σT' σ' n' o' s' q'=>?_,λ_ _ _ _ _ _ _ q'=>q'.elim,λ_ _ _ _ _ _ _ q'=>q'.elim,λn' d v H' s' t' r' q'=>k n' d v H' (hx s') t' r' q',True.intro⟩⟩;exact k n' _ _ H' (hx o'.ok.base) (F.to o'.tp (λ_ _=>rfl) (gF o'.ok.sub)) .none q'
end
end
end TL
namespace L2
section
variable{κ:Type}[DecidableEq κ]
noncomputable def rK(kvs:List (κ×V))(k:κ):Option V:=(kvs.find? λkv=>decide (kv.1=k)).map (·.2)
noncomputable def xF(kvs:List (κ×V))(k:κ)(v:V):List (κ×V):=
 if(kvs.any λkv=>decide (kv.1=k))=true then kvs.map (λkv=>if kv.1=k then(kv.1,v)else kv)else kvs++[(k,v)]
noncomputable def kM(kvs:List (κ×V))(k:κ):List (κ×V):=kvs.filter λkv=>decide (kv.1≠k)
def AQ{p:κ×V}{r k}(e:p.1=k):rK (p::r) k=some p.2:=by simp[rK,jJ,e]
def AR{p:κ×V}{r k}(e:¬p.1=k):rK (p::r) k=rK r k:=by simp[rK,jJ,e]
theorem GL(k:κ):∀kvs:List (κ×V),(kvs.any λkv=>decide (kv.1=k))=(rK kvs k).isSome
|[]=>rfl
|p::r=>by
 rw[nU];by_cases e:p.1=k
 ·simp only[AQ e,decide_eq_true e,aGr,NG]
 ·rw[AR e,decide_eq_false e,GJ];exact GL k r
def yF(kvs:List (κ×V))(k:κ)(v:V):(xF kvs k v).length<=kvs.length+1:=by
 unfold xF;split
 ·rw[aA];omega
 ·rw[bQ,dH,Z4];omega
def sP.isSome_eq{o:Option V}{u:Option Value}(r:sP o u):o.isSome=u.isSome:=by
 cases o with
 |none=>cases u with
  |none=>rfl
  |some _=>exact(show False from r).elim
 |some _=>cases u with
  |none=>exact(show False from r).elim
  |some _=>rfl
def KV.val{kvs vs}(r:KV kvs vs)(k:κ):sP (rK kvs k) (valueAt vs k):=by
 unfold KV at r
 induction r with
 |nil=>exact True.intro
 |@cons p q ps qs h t ih=>
  obtain⟨h1,h2⟩:=h;by_cases e:p.1=k
  ·have e':q.1=k:=h1.symm.trans e;have b:valueAt (q::qs) k=some q.2:=by simp[valueAt,jJ,e']
   rw[AQ e,b];exact h2
  ·have e':¬q.1=k:=λz=>e (h1.trans z);have b:valueAt (q::qs) k=valueAt qs k:=by simp[valueAt,jJ,e']
   rw[AR e,b];exact ih
theorem KV.any{kvs:List (κ×V)}{vs:List (κ×Value)}(r:KV kvs vs)(k:κ):(kvs.any λkv=>decide (kv.1=k))=vs.any λkv=>decide (kv.1=k):=by
 unfold KV at r
 induction r with
 |nil=>rfl
 |cons h t ih=>rw[nU,nU,ih,h.1]
def KV.repl{kvs:List (κ×V)}{vs:List (κ×Value)}(r:KV kvs vs)(k:κ){y u}(ry:eZ y u) :
  KV (kvs.map λkv=>if kv.1=k then(kv.1,y)else kv) (vs.map λkv=>if kv.1=k then(kv.1,u)else kv):=by
 unfold KV at r |-
 induction r with
 |nil=>exact .nil
 |@cons p q ps qs h t ih=>
  rw[bX,bX];refine .cons ?_ ih;obtain⟨h1,h2⟩:=h;by_cases e:p.1=k
  ·rw[if_pos e,if_pos (h1.symm.trans e)];exact⟨h1,ry⟩
  ·rw[if_neg e,if_neg (λz=>e (h1.trans z))];exact⟨h1,h2⟩
def KV.put{kvs vs}(r:KV kvs vs)(k:κ){y u}(ry:eZ y u):KV (xF kvs k y) (stored vs k u):=by
 unfold xF stored;rw[r.any k];by_cases e:(vs.any λkv=>decide (kv.1=k))=true
 ·rw[if_pos e,if_pos e];exact r.repl k ry
 ·rw[if_neg e,if_neg e];exact Paired.snoc r ⟨rfl,ry⟩
def KV.drop{kvs vs}(r:KV kvs vs)(k:κ):KV (kM kvs k) (without vs k):=by
 unfold KV at r |-
 unfold kM without
 induction r with
 |nil=>exact .nil
 |@cons p q ps qs h t ih=>
  obtain⟨h1,h2⟩:=h;rw[eF,eF];by_cases e:p.1=k
  ·have a:¬decide (p.1≠k)=true:=by simp[e]
   have b:¬decide (q.1≠k)=true:=by simp[h1.symm.trans e]
   rw[if_neg a,if_neg b];exact ih
  ·have e':¬q.1=k:=λz=>e (h1.trans z);have a:decide (p.1≠k)=true:=by simp[e]
   have b:decide (q.1≠k)=true:=by simp[e']
   rw[if_pos a,if_pos b];exact .cons ⟨h1,h2⟩ ih
theorem KV.length{kvs:List (κ×V)}{vs:List (κ×Value)}(r:KV kvs vs):kvs.length=vs.length:=Paired.length r
def VI(kvs:List (κ×V))(k:κ):(kM kvs k).length<=kvs.length:=cE _ _
end
def HR{P w k u}(r:eZ (kV k) u):(iB P w).is k u=true:=by
 cases k with
 |inl i=>obtain⟨t,e⟩:=(show∃t,u=Value.int i t from r);subst e;exact HF P w i t
 |inr x=>obtain⟨t,e⟩:=(show∃t,u=Value.str x t from r);subst e;exact HE P w x t
theorem DY{P w}:∀{ks:List lB}{us},eW (ks.map kV) us->ItemsAre (iB P w) ks us
|[],_,r=>by rw[oX]at r;cases r;exact .nil
|k::ks,_,r=>by
 rw[bX]at r
 cases r with
 |cons h t=>exact .cons (HR h) (DY t)
abbrev KT(H:Hp):List (List lB×V)->List (List lB×Addr×Value)->Prop:=Paired λp q=>p.1=q.1/\H q.2.1=some (.tup (p.1.map kV))/\eZ p.2 q.2.2
def KT.val{H kvs xs}(r:KT H kvs xs)(k:List lB):sP (rK kvs k) ((atKey xs k).map (·.2)):=by
 induction r with
 |nil=>exact True.intro
 |@cons p q ps qs h t ih=>
  obtain⟨h1,_,h2⟩:=h;by_cases e:p.1=k
  ·have e':q.1=k:=h1.symm.trans e;have b:atKey (q::qs) k=some q.2:=by simp[atKey,jJ,e']
   rw[AQ e,b];exact h2
  ·have e':¬q.1=k:=λz=>e (h1.trans z);have b:atKey (q::qs) k=atKey qs k:=by simp[atKey,jJ,e']
   rw[AR e,b];exact ih
def KT.repl{H}{kvs:List (List lB×V)}{xs:List (List lB×Addr×Value)}(r:KT H kvs xs)(k:List lB){y u}(ry:eZ y u) :
  KT H (kvs.map λkv=>if kv.1=k then(kv.1,y)else kv) (xs.map (putAt k u)):=by
 induction r with
 |nil=>exact .nil
 |@cons p q ps qs h t ih=>
  rw[bX,bX];refine .cons ?_ ih;obtain⟨h1,h2,h3⟩:=h;unfold putAt;by_cases e:p.1=k
  ·rw[if_pos e,if_pos (h1.symm.trans e)];exact⟨h1,h2,ry⟩
  ·rw[if_neg e,if_neg (λz=>e (h1.trans z))];exact⟨h1,h2,h3⟩
def KT.put{H kvs xs}(r:KT H kvs xs)(k:List lB){b:Addr}{y u}(hb:H b=some (.tup (k.map kV)))(ry:eZ y u) :
  KT H (xF kvs k y) (storedH xs k b u):=by
 have e:(kvs.any λkv=>decide (kv.1=k))=(atKey xs k).isSome:=by
  rw[GL,(r.val k).isSome_eq,PQ]
 unfold xF storedH;rw[e];by_cases q:(atKey xs k).isSome=true
 ·rw[if_pos q,if_pos q];exact r.repl k ry
 ·rw[if_neg q,if_neg q];exact Paired.snoc r ⟨rfl,hb,ry⟩
def KT.keeps{H H':Hp}{kvs xs}(r:KT H kvs xs)(ht:∀b ys,H b=some (.tup ys)->H' b=some (.tup ys)):KT H' kvs xs:=
 Paired.mapP r λ_ _ z=>⟨z.1,ht _ _ z.2.1,z.2.2⟩
section
variable{P:cC}{w:World}{H:Hp}{h:Heap}{a:Addr}
def aB6{u}(ok:oF P w H h)(e:Rd H a u):iE P w H h a u:=e.ok ok
def IC{kvs:List (lB×V)}(ok:oF P w H h)(e:Rd H a (.dK kvs)):kvs.length<=bE/\(a==sysModules)=false/\∃vs,KV kvs vs/\h.DictOf (iB P w) a vs:=
 show iE P w H h a (.dK kvs)from aB6 ok e
def D6{kvs:List (lB×V)}(ok:oF P w H h)(e:H a=some (.dK kvs)):kvs.length<=bE/\(a==sysModules)=false/\∃vs,KV kvs vs/\h.DictOf (iB P w) a vs:=IC ok (.inl e)
def BS{ks:List lB}(ok:oF P w H h)(e:H a=some (.tup (ks.map kV))):(tupleKind (iB P w)).is h ks a:=by
 obtain⟨_,its,r,o,h1,h2,n,h3,_⟩:=(show iE P w H h a (.tup (ks.map kV))from ok a _ e);exact⟨o,its.toArray,n,h1,h2,h3,by simpa using DY r⟩
def MY{kvs:List (List lB×V)}(ok:oF P w H h)(e:Rd H a (.dT kvs)):kvs.length<=bE/\(a==sysModules)=false /\
  ∃xs,KT H kvs xs/\h.DictOfH (tupleKind (iB P w)) a xs:=by
 obtain⟨z,y,xs,r,o,es,ep,h1,h2,h3,h4,h5⟩:=(show iE P w H h a (.dT kvs)from aB6 ok e);refine⟨z,y,xs,r,o,es,ep,h1,h2,h3,h4,λx hx=>?_,h5⟩
 have all:∀{l:List (List lB×V)}{m:List (List lB×Addr×Value)},KT H l m->∀x∈m,(tupleKind (iB P w)).is h x.1 x.2.1:=by
  intro l m q
  induction q with
  |nil=>intro x hx;exact nomatch hx
  |@cons p q ps qs hq t ih=>
   intro x hx;rcases aN.mp hx with e | hx
   ·subst e;exact BS ok (by rw[<- hq.1];exact hq.2.1)
   ·exact ih x hx
 exact all r x hx
def aJ8{kvs:List (List lB×V)}(ok:oF P w H h)(e:H a=some (.dT kvs)):kvs.length<=bE/\(a==sysModules)=false /\
  ∃xs,KT H kvs xs/\h.DictOfH (tupleKind (iB P w)) a xs:=MY ok (.inl e)
end
def F4(H:Hp)(a:Addr)(y:V)(r:Option V):Prop:=
 (∃kvs k,Rd H a (.dK kvs)/\y=kV k/\r=rK kvs k)\/∃kvs k b,Rd H a (.dT kvs)/\y=.ref b/\H b=some (.tup (k.map kV))/\r=rK kvs k
def V6(H:Hp)(a:Addr)(y v:V)(H':Hp):Prop:=
 (∃kvs k,H a=some (.dK kvs)/\y=kV k/\kvs.length<bE/\H'=eS H a (.dK (xF kvs k v))) \/
 ∃kvs k b,H a=some (.dT kvs)/\y=.ref b/\H b=some (.tup (k.map kV))/\kvs.length<bE/\H'=eS H a (.dT (xF kvs k v))
theorem F4.k{H}{a:Addr}{kvs k}(e:H a=some (.dK kvs)):F4 H a (kV k) (rK kvs k):=.inl ⟨kvs,k,.inl e,rfl,rfl⟩
theorem V6.k{H}{a:Addr}{kvs:List (lB×V)}{k v}(e:H a=some (.dK kvs))(hl:kvs.length<bE):V6 H a (kV k) v (eS H a (.dK (xF kvs k v))):=.inl ⟨kvs,k,e,rfl,hl,rfl⟩
section
variable{X:Cx}{pins:List (Addr×Obj)}{σ:St}{H:Hp}{s:Shared}{a:Addr}{y v:V}{u r:Value}{o:Option V}{A:Around}{E:Value->Shared->Prop}
def cN.big(I:cN X pins σ H s):sysModules<s.heap.objs.size:=by
 have h:dS<s.heap.objs.size:=(I.mod.glob.keeps I.bk).lt;exact LH (by decide) h
def O1{Q:Value->Shared->Prop}(hu:A.units+1<cLine)(I:cN X pins σ H s)(g:F4 H a y (some v))(ry:eZ y u)(h:∀w' s',cN X pins σ H s'->eZ v w'->Q w' s') :
  wpAny (model X.prog X.w) A (getItem (.ref a) u) Q E s:=by
 rcases g with⟨kvs,k,e,ey,l⟩ | ⟨kvs,k,b,e,ey,eb,l⟩
 ·subst ey;obtain⟨z,hd,vs,rel,dd⟩:=IC I.hok e;obtain⟨w',hw,rw'⟩:=sP.some_of (v:=v) (o:=valueAt vs k) (by rw[l];exact rel.val k);exact wpAny_getItem_of (HR ry) dd.mapOf hw (h w' _ (I.tok _) rw')
 ·subst ey;cases (show u=Value.ref b from ry);obtain⟨z,hd,xs,rel,dd⟩:=MY I.hok e;obtain⟨w',hw,rw'⟩:=sP.some_of (v:=v) (o:=(atKey xs k).map (·.2)) (by rw[l];exact rel.val k);obtain⟨p,hp,hp2⟩:=cV.mp hw;refine wpAny_getItem_heap (tupleKind_room_in1 hu) (BS I.hok eb) dd hp ?_;rw[hp2];exact h w' _ (I.tok _) rw'
def ZG{Q:Value->Shared->Prop}(hu:A.units+1<cLine)(I:cN X pins σ H s)(g:F4 H a y o)(ry:eZ y u)(h:∀s',cN X pins σ H s'->Q (.bool (!o.isSome)) s') :
  wpAny (model X.prog X.w) A (compareOp .NotIn u (.ref a)) Q E s:=by
 rcases g with⟨kvs,k,e,ey,l⟩ | ⟨kvs,k,b,e,ey,eb,l⟩
 ·subst ey;obtain⟨z,hd,vs,rel,dd⟩:=IC I.hok e;refine wpAny_notIn_of (HR ry) hd dd.mapOf ?_;rw[<- (rel.val k).isSome_eq,<- l];exact h _ (I.tok _)
 ·subst ey;cases (show u=Value.ref b from ry);obtain⟨z,hd,xs,rel,dd⟩:=MY I.hok e;refine wpAny_notIn_heap (tupleKind_room_in1 hu) (BS I.hok eb) hd dd ?_;have q:=(rel.val k).isSome_eq;rw[PQ]at q;rw[<- q,<- l];exact h _ (I.tok _)
def FQ{h':Heap}{t':Nat}{ob}(I:cN X pins σ H s)(mu:Mut (H a))(hs:eY a s.heap h')(he:∃q,h'.get? a=some q)(new:iE X.prog X.w (eS H a ob) h' a ob) :
  cN X pins σ (eS H a ob) { s with heap:=h',toks:=t' }:=
 I.write (x:=a) (e:=a) mu (.inl rfl) (λb q hb z=>(hs.2 b hb).trans z) he new
def VL{P w H'}{h':Heap}{kvs:List (lB×V)}{vs}(z:kvs.length<=bE)(hd:(a==sysModules)=false)(rel:KV kvs vs)(dd:h'.DictOf (iB P w) a vs) :
  iE P w H' h' a (.dK kvs):=⟨z,hd,vs,rel,dd⟩
def O0{H'}{Q:Unit->Shared->Prop}(hu:A.units+1<cLine)(I:cN X pins σ H s)(g:V6 H a y v H')(ry:eZ y u)(rv:eZ v r)(h:∀s',cN X pins σ H' s'->Q () s') :
  wpAny (model X.prog X.w) A (setItem (.ref a) u r) Q E s:=by
 rcases g with⟨kvs,k,e,ey,l,eH⟩ | ⟨kvs,k,b,e,ey,eb,l,eH⟩
 ·subst ey eH;obtain⟨z,hd,vs,rel,dd⟩:=D6 I.hok e;have hz:vs.length<=bE:=by rw[<- rel.length];exact z
  have hl:(xF kvs k v).length<=bE:=by have:=yF kvs k v;omega
  refine wpAny_setItem_pairs (hsz:=hz) (HR ry) dd λh' dd' hs=>h _ ?_;have he:∃q,h'.get? a=some q:=let ⟨q,_,_,hq,_⟩:=dd';⟨q,hq⟩
  exact FQ I (by rw[e];exact True.intro) hs he (VL hl hd (rel.put k rv) dd')
 ·subst ey eH;cases (show u=Value.ref b from ry);obtain⟨z,hd,xs,rel,dd⟩:=aJ8 I.hok e;have hz:xs.length<=bE:=by rw[<- Paired.length rel];exact z
  have hl:(xF kvs k v).length<=bE:=by have:=yF kvs k v;omega
  refine wpAny_setItem_heap (hsz:=hz) (tupleKind_room_in1 hu) (BS I.hok eb) dd λh' dd' hs=>h _ ?_;obtain⟨q,es,ep,hq,h2,h3,h4,_,h5⟩:=dd';refine FQ I (by rw[e];exact True.intro) hs ⟨q,hq⟩ ⟨hl,hd,_,(rel.put k eb rv).keeps λc ys ec=>?_,q,es,ep,hq,h2,h3,h4,h5⟩;rw[bT (aJl ec e (λz=>nomatch z))];exact ec
end
section
variable{X:Cx}{pins:List (Addr×Obj)}{σ:St}{H:Hp}{s:Shared}{a:Addr}{kvs:List (lB×V)}{k:lB}{u:Value}{A:Around}{E:Value->Shared->Prop}
def aJ9{v more}{Q:Value->Shared->Prop}(I:cN X pins σ H s)(e:H a=some (.dK kvs))(ry:eZ (kV k) u)(l:rK kvs k=some v)(hm:more=[]\/∃x,more=[x])
  (h:∀w' s',cN X pins σ (eS H a (.dK (kM kvs k))) s'->eZ v w'->Q w' s'):wpAny (model X.prog X.w) A (call (.builtin "dict.pop") (.ref a::u::more)) Q E s:=by
 obtain⟨z,hd,vs,rel,dd⟩:=D6 I.hok e;obtain⟨w',hw,rw'⟩:=sP.some_of (v:=v) (o:=valueAt vs k) (by rw[<- l];exact rel.val k)
 have hp:(keyPart u).isSome=true:=by
  cases k with
  |inl i=>obtain⟨t,q⟩:=(show∃t,u=Value.int i t from ry);subst q;rfl
  |inr x=>obtain⟨t,q⟩:=(show∃t,u=Value.str x t from ry);subst q;rfl
 have ha:argsOk "dict.pop" ⟨.ref a::u::more,[]⟩:=by
  rcases hm with q | ⟨x,q⟩
  ·subst q;exact PySem.F.args_dict_pop_2 _ _
  ·subst q;exact PySem.F.args_dict_pop_3 _ _ _
 refine call_meetsIn GI dd.typeIs PySem.F.entry_dict_pop ha (meets_dict_pop_there (iB X.prog X.w) a (HR ry) more hm hp)
  ⟨vs,w',dd,by rw[<- rel.length];exact z,hw,λh' dd' hs=>h w' _ ?_ rw'⟩
 have he:∃q,h'.get? a=some q:=let ⟨q,_,_,hq,_⟩:=dd';⟨q,hq⟩
 exact FQ I (by rw[e];exact True.intro) hs he (VL (bK (VI kvs k) z) hd (rel.drop k) dd')
def aKa{Q:Value->Shared->Prop}(I:cN X pins σ H s)(e:Rd H a (.dK kvs))(h:∀t s',cN X pins σ H s'->Q (.int kvs.length t) s'):wpAny (model X.prog X.w) A (call (.builtin "len") [.ref a]) Q E s:=by
 obtain⟨z,hd,vs,rel,dd⟩:=IC I.hok e;refine call_len_dict hd dd (by rw[<- rel.length];rw[sizeLine_eq]at z;omega) ?_;rw[<- rel.length];exact h _ _ (I.tok _)
end
def aF8(i:Expr):Prop:=∀ov iv,subscripted i false ov iv=operate [ov,iv] (getItem ov iv)
def W7{prog w A}{E:Value->Shared->Prop}{s env value slice pos T id}{Q:Value->Shared->Prop}
  (hl:typeLookup (.type T) "__getitem__"=pure (some (.builtin id))) (hs:aF8 slice)
  (h:wpAny (model prog w) A (eval value env) (λo s₁=>wpAny (model prog w) A (eval slice env) (λi s₂=>s₂.TypeIs o T/\wpAny (model prog w) A (getItem o i) Q E s₂) E s₁) E s) :
  wpAny (model prog w) A (eval (.Subscript value slice pos) env) Q E s:=by
 refine Subscript_ (dY h (λo s₁ h₁=>dY h₁ (λi s₂ h₂=>?_) λ_ _ x=>x) λ_ _ x=>x);obtain⟨hT,h₂⟩:=h₂;unfold subscriptTail;refine aG ?_;rw[getitemInPython_of_ne hT.not_modules];refine aG (wpAny_specialOf hT hl ?_)
 have fin:wpAny (model prog w) A (subscripted slice false o i) (λr s₃=>wpAny (model prog w) A (letTemporaryGo value o r >>= λ_=>pure r) Q E s₃) E s₂:=by
  rw[hs o i];exact wpAny_operating (dY h₂ (λr s₃ h₃=>aG (wpAny_letTemporaryGo (aW h₃))) λ_ _ x=>x)
 first
  |exact aW (aG fin)
  |exact aG (aW (aG fin))
  |exact aG fin
def ID{X pins σ H}{s:Shared}{a:Addr}{y o}(I:cN X pins σ H s)(g:F4 H a y o):s.TypeIs (.ref a) "dict":=by
 rcases g with⟨kvs,k,e,_,_⟩ | ⟨kvs,k,b,e,_,_,_⟩
 ·obtain⟨_,_,vs,_,dd⟩:=IC I.hok e;exact dd.typeIs
 ·obtain⟨_,_,xs,_,dd⟩:=MY I.hok e;exact dd.typeIs
def aHc(td ty:TE):TE:=λσ H Q=>td σ H λx H1=>ty σ H1 λy H2=>∃a v,x=.ref a/\F4 H2 a y (some v)/\Q v H2
def WV(ty td:TE):TE:=λσ H Q=>ty σ H λy H1=>td σ H1 λx H2=>∃a o,x=.ref a/\F4 H2 a y o/\Q (.bl (!o.isSome)) H2
def aHs(td ty tv:TE):TS:=λD σ H=>tv σ H λv H1=>td σ H1 λx H2=>ty σ H2 λy H3=>∃a H4,x=.ref a/\V6 H3 a y v H4/\D.nx σ H4
section
variable{X:Cx}{o i value:Expr}{pos pos':Pos}{td ty tv:TE}
def YC(hu:X.A.units+1<cLine)(ho:PE X o td)(hi:PE X i ty)(hs:aF8 i):PE X (.Subscript o i pos) (aHc td ty):=by
 intro pins s σ H Q I h;refine W7 PySem.F.slot_dict_getitem.lookup hs (iU (ho pins s σ H _ I h) λu s1 ⟨x,H1,I1,rx,q1⟩=>iU (hi pins s1 σ H1 _ I1 q1) λiv s2 zq=>?_);obtain⟨y,H2,I2,ry,a,v,ex,g,q2⟩:=zq;subst ex;obtain rfl:u=Value.ref a:=rx;exact⟨ID I2 g,O1 hu I2 g ry λw' s3 I3 rw'=>⟨v,H2,I3,rw',q2⟩⟩
def N5(hu:X.A.units+1<cLine)(hi:PE X i ty)(ho:PE X o td):PC X .NotIn i o (WV ty td):=by
 intro pins s σ H Q I h;refine iU (hi pins s σ H _ I h) λiv s1 ⟨y,H1,I1,ry,q1⟩=>iU (ho pins s1 σ H1 _ I1 q1) λu s2 zq=>?_;obtain⟨x,H2,I2,rx,a,ov,ex,g,q2⟩:=zq;subst ex;obtain rfl:u=Value.ref a:=rx;exact ZG hu I2 g ry λs3 I3=>⟨.bl (!ov.isSome),H2,I3,rfl,q2⟩
def X2(hu:X.A.units+1<cLine)(ho:PE X o td)(hi:PE X i ty)(hv:PE X value tv)(hs:kH value (some (.Subscript o i pos')) pos.line X.env=pure false) :
  PS X (.Assign [.Subscript o i pos'] value pos) (aHs td ty tv):=by
 intro pins s σ H D I h;refine wpAny_Assign_Subscript (iU (hv pins s σ H _ I h) λr s1 ⟨v,H1,I1,rv,q1⟩=>iU (ho pins s1 σ H1 _ I1 q1) λu s2 ⟨x,H2,I2,rx,q2⟩=>iU (hi pins s2 σ H2 _ I2 q2) λiv s3 zq=>?_) hs;obtain⟨y,H3,I3,ry,a,H4,ex,g,q3⟩:=zq;subst ex;obtain rfl:u=Value.ref a:=rx;exact O0 hu I3 g ry rv λs4 I4=>⟨σ,H4,I4,q3⟩
end
def VM{P w H}(h:Heap)(hb:sysModules<h.objs.size):iE P w H (h.push { cls:=.type "dict",data:=.dict #[] }) h.objs.size (.dK []):=
 ⟨cT _,beq_eq_false_iff_ne.mpr (Ne.symm (cO hb)),[],.nil,Heap.DictOf.new h⟩
def Q7:TE:=λ_ H Q=>∀p,H p=none->Q (.ref p) (eS H p (.dK []))
section
variable{X:Cx}{pos:Pos}
def S6:PE X (.Dict [] [] pos) Q7:=λpins s σ H Q I h=>
 wpAny_Dict_empty ⟨.ref s.heap.objs.size,_,I.laid (a:=s.heap.objs.size) (o:=.dK []) (t':=s.toks) (λ_ _ q=>aC _ q) (aM _) (VM s.heap I.big),rfl,h _ (I.hok.fresh (aM _))⟩
end
end L2
namespace TL
open L2
noncomputable def kG(s:Stmt)(j:Nat):Stmt:=match s with
|.ClassDef _ _ _ b _ _ _ _ _ _ _=>b.getD j (.Pass ⟨0,0,0,0⟩)
|_=>.Pass ⟨0,0,0,0⟩
theorem yD{f}:∀{fs:List (Str×V)},f∉fs.map (·.1)->fs.lookup f=none
|[],_=>rfl
| (g,u)::fs,h=>by
 have hg:(f==g)=false:=beq_eq_false_iff_ne.mpr λz=>h (by rw[z];exact aL ..);show(match f==g with | true=>some u | false=>fs.lookup f)=none;rw[hg];exact yD λz=>h (aI _ z)
inductive vL(K:aF)(H:Hp):List (Int×D)->List (lB×V)->Prop
|nil:vL K H [] []
|cons {i:Int} {d:D} {v:V} {a:List (Int×D)} {b:List (lB×V)} (r:gD K H d v) (t:vL K H a b):vL K H ((i,d)::a) ((.inl i,v)::b)
noncomputable def C3(kvs:List (Int×D))(i:Int)(d:D):List (Int×D):=if kvs.any (λe=>decide (e.1=i))=true then kvs.map (λe=>if e.1=i then(e.1,d)else e)else kvs++[(i,d)]
noncomputable def CC(kvs:List (Int×D))(i:Int):List (Int×D):=kvs.filter λe=>decide (e.1≠i)
noncomputable def B1(kvs:List (Int×D))(i:Int):Option D:=(kvs.find? λe=>decide (e.1=i)).map (·.2)
section
variable{K:aF}{H H':Hp}
theorem vL.same(s:aS H H'):∀{a b},vL K H a b->vL K H' a b
|_,_,.nil=>.nil
|_,_,.cons r t=>.cons (r.same s) (t.same s)
theorem vL.length:∀{a:List (Int×D)}{b:List (lB×V)},vL K H a b->a.length=b.length
|_,_,.nil=>rfl
|_,_,.cons r t=>congrArg (·+1) t.length
theorem vL.vals:∀{a:List (Int×D)}{b:List (lB×V)},vL K H a b->Reps K H (a.map (·.2)) (b.map (·.2))
|_,_,.nil=>.nil
|_,_,.cons r t=>.cons r t.vals
theorem vL.val(i:Int):∀{a b},vL K H a b->(B1 a i=none/\rK b (.inl i)=none)\/∃d v,B1 a i=some d/\rK b (.inl i)=some v/\gD K H d v
|_,_,.nil=>.inl ⟨rfl,rfl⟩
| (j,d)::a,(_,v)::b,.cons r t=>by
 unfold B1 rK;rw[jJ,jJ];by_cases e:j=i
 ·subst e;refine .inr ⟨d,v,?_,?_,r⟩<;>simp
 ·have e2:¬((Sum.inl j:lB)=.inl i):=λz=>e (Sum.inl.inj z);rw[show decide ((j,d).1=i)=false from decide_eq_false e,show decide (((Sum.inl j:lB),v).1=.inl i)=false from decide_eq_false e2];exact t.val i
theorem vL.any(i:Int):∀{a:List (Int×D)}{b:List (lB×V)},vL K H a b->(a.any λe=>decide (e.1=i))=b.any λe=>decide (e.1=.inl i)
|_,_,.nil=>rfl
| (j,d)::a,(_,v)::b,.cons r t=>by
 rw[nU,nU,t.any i];congr 1;show decide (j=i)=decide ((Sum.inl j:lB)=.inl i);rw[fG,decide_eq_true_eq,decide_eq_true_eq];exact⟨λz=>by rw[z],λz=>Sum.inl.inj z⟩
theorem vL.map(i:Int){d v}(r:gD K H d v):∀{a:List (Int×D)}{b:List (lB×V)},vL K H a b->vL K H (a.map λe=>if e.1=i then(e.1,d)else e) (b.map λe=>if e.1=.inl i then(e.1,v)else e)
|_,_,.nil=>.nil
| (j,x)::a,(_,y)::b,.cons r0 t=>by
 rw[bX,bX];by_cases e:j=i
 ·subst e;rw[if_pos rfl,if_pos rfl];exact .cons r (t.map j r)
 ·rw[if_neg e,if_neg λz:(Sum.inl j:lB)=.inl i=>e (Sum.inl.inj z)];exact .cons r0 (t.map i r)
theorem vL.snoc{i:Int}{d v}(r:gD K H d v):∀{a b},vL K H a b->vL K H (a++[(i,d)]) (b++[(.inl i,v)])
|_,_,.nil=>.cons r .nil
|_,_,.cons r0 t=>.cons r0 (t.snoc r)
def vL.put{i:Int}{d v}(r:gD K H d v){a b}(h:vL K H a b):vL K H (C3 a i d) (xF b (.inl i) v):=by
 unfold C3 xF;rw[h.any i];split
 ·exact h.map i r
 ·exact h.snoc r
theorem vL.drop(i:Int):∀{a b},vL K H a b->vL K H (CC a i) (kM b (.inl i))
|_,_,.nil=>.nil
| (j,x)::a,(_,y)::b,.cons r0 t=>by
 unfold CC kM;rw[eF,eF];by_cases e:j=i
 ·subst e;rw[if_neg (by simp),if_neg (by simp)];exact t.drop j
 ·rw[if_pos (by simpa using e),if_pos (by simpa using e)];exact .cons r0 (t.drop i)
end
structure Bk where
 p:Addr
 q:Addr
 dx:Addr
 fm:D
 dp:Int
 ls:Int
structure JB where
 kvs:List (Int×D)
 fol:Int
 st:D
noncomputable def mQ(T:Bk):D:=.dict [(.str "@",.list [.int (T.p:Nat),.int (T.q:Nat),.int (T.dx:Nat),T.fm,.int T.dp,.int T.ls])]
def jN{S T}(h:mQ S=mQ T):S=T:=by
 unfold mQ at h;injection h with h
 injection h with h _
 injection h with _ h
 injection h with h
 injection h with h1 h
 injection h with h2 h
 injection h with h3 h
 injection h with h4 h
 injection h with h5 h
 injection h with h6 _
 injection h1 with h1
 injection h2 with h2
 injection h3 with h3
 injection h5 with h5
 injection h6 with h6
 obtain⟨a,b,c,d,e,f⟩:=S;obtain⟨a',b',c',d',e',f'⟩:=T;simp only[Bk.mk.injEq];exact⟨kB.inj h1,kB.inj h2,kB.inj h3,h4,h5,h6⟩
def A9{K H}(T:Bk):gD K H (mQ T) (.ref T.p):=.addr _
def JV{K H}{T:Bk}{v}(r:gD K H (mQ T) v):v=.ref T.p:=by
 unfold mQ at r
 generalize hg:(nK [(.str "@",.list [.int (T.p:Nat),.int (T.q:Nat),.int (T.dx:Nat),T.fm,.int T.dp,.int T.ls])])=d at r
 cases r with
 |@addr p z=>
  injection hg with hg
  injection hg with hg _
  injection hg with _ hg
  injection hg with hg
  injection hg with hg _
  injection hg with hg
  rw[kB.inj hg]
 |dct=>
  injection hg with hg
  injection hg with hg _
  injection hg with hg _
  injection hg with hg
  exact absurd hg (by decide +kernel)
 |_=>cases hg
noncomputable def FY(T:Bk)(v1 v6:V)(n:JB):List (Str×V):=[("form",v1),("deep",.int T.dp),("least",.int T.ls),("numbered",.ref T.q),("following",.int n.fol),("standing",v6)]
def IP(C:Addr)(T:Bk)(K:aF)(H:Hp)(ps:List Addr)(n:JB):Prop:=T.p≠T.q/\∃(v1 v6:V)(kv:List (lB×V)),H T.p=some (.ins C T.dx (FY T v1 v6 n))/\H T.q=some (.dK kv)/\gD K (mask H ps) T.fm v1/\gD K (mask H ps) n.st v6/\vL K (mask H ps) n.kvs kv
noncomputable def lL(C:Addr):wW where
 I:=Bk
 S:=JB
 ad:=λT=>[T.p,T.q]
 tau:=mQ
 At:=IP C
 to:=λ{T K H H' ps ps' n} h e s=>by
  obtain⟨hne,v1,v6,kv,h1,h2,h3,h4,h5⟩:=h;exact⟨hne,v1,v6,kv,by rw[e T.p (by simp)];exact h1,by rw[e T.q (by simp)];exact h2,h3.same s,h4.same s,h5.same s⟩
 liv:=λ{T K H ps n} h a ha=>by
  obtain⟨hne,v1,v6,kv,h1,h2,_⟩:=h;rcases aN.mp ha with rfl | ha
  ·exact⟨_,h1,rfl⟩
  ·rw[bF.mp ha];exact⟨_,h2,rfl⟩
 inj:=jN
noncomputable def U5(T:Bk)(n:JB):List (Str×D):=[("form",T.fm),("deep",.int T.dp),("least",.int T.ls),("following",.int n.fol),("standing",n.st)]
def Y8{K H}{T:Bk}{n:JB}{v1 v6 f y}(r1:gD K H T.fm v1)(r6:gD K H n.st v6)(h:(U5 T n).lookup f=some y):∃v,(FY T v1 v6 n).lookup f=some v/\gD K H y v:=by
 by_cases e1:f="form"
 ·subst e1;cases h;exact⟨v1,rfl,r1⟩
 by_cases e2:f="deep"
 ·subst e2;cases h;exact⟨_,rfl,.int _⟩
 by_cases e3:f="least"
 ·subst e3;cases h;exact⟨_,rfl,.int _⟩
 by_cases e4:f="following"
 ·subst e4;cases h;exact⟨_,rfl,.int _⟩
 by_cases e5:f="standing"
 ·subst e5;cases h;exact⟨_,rfl,r6⟩
 refine absurd h ?_;unfold U5;rw[dF,beq_eq_false_iff_ne.mpr e1,dF,beq_eq_false_iff_ne.mpr e2,dF,beq_eq_false_iff_ne.mpr e3,dF,beq_eq_false_iff_ne.mpr e4,dF,beq_eq_false_iff_ne.mpr e5]
 exactλz=>nomatch z
section
variable{X:Cx}{C:Addr}{e i o value:Expr}{te ti:ET}{pos pos' tpos apos:Pos}{f:Str}
def kO{K B H H1 p0 ps σT σ}{T T':Bk}{n v}(o:lY (lL C) K B p0 H ps σT σ T n)(s:aS H H1)(r:gD K (mask H1 ps) (mQ T') v)(h:mQ T'=mQ T) :
  v=.ref T.p/\IP C T K H1 ps n:=by
 cases jN h;exact⟨JV r,(o.grow s).tp⟩
def aLl(C:Addr)(f:Str)(te:ET):EZ (lL C):=λτ n σ Q=>te σ λd=>d=τ/\∃(T:Bk)(x:D),τ=mQ T/\(U5 T n).lookup f=some x/\Q n x
def qV(hc:zF X.K C)(hn:gB X.K C f)(he:gK X e te)(hb:attributeBase e f X.env (eval e X.env)=eval e X.env:=by rfl):wV (F:=lL C) X (.Attribute e f pos) (aLl C f te):=by
 obtain⟨v,p,r⟩:=he;refine⟨_,S5 p hb,λB p0 H ps σT σ T n Q QV o h k=>r B p0 H ps σT σ _ _ o.ok h λd x H1 s1 r1 q1=>?_⟩;obtain⟨rfl,T',y,ht,hl,q⟩:=q1;obtain⟨rfl,at1⟩:=kO (T':=T) o s1 r1 rfl;cases jN ht;obtain⟨hne,v1,v6,kv,h1,h2,h3,h4,h5⟩:=id at1;obtain⟨w,hw,rw'⟩:=Y8 h3 h4 hl;exact⟨_,C,_,_,w,rfl,h1,hc,hn,hw,k n y w H1 (.of s1) at1 rw' q⟩
def uX(hc:zF X.K C)(hn:gB X.K C "numbered"){v}(p:PE X e v)(hb:attributeBase e "numbered" X.env (eval e X.env)=eval e X.env:=by rfl):PE X (.Attribute e "numbered" pos) (aHb X.K v "numbered"):=S5 p hb
def aLi(C:Addr)(ti te:ET):TZ (lL C):=λτ n σ Q=>ti σ λy=>∃j:Int,y=.int j/\te σ λd=>d=τ/\Q n (B1 n.kvs j).isNone
def aDo(hu:X.A.units+1<cLine)(hc:zF X.K C)(hn:gB X.K C "numbered")(hi:gK X i ti)(he:gK X e te)(hb:attributeBase e "numbered" X.env (eval e X.env)=eval e X.env:=by rfl)(hm:behindInMarks .NotIn (.Attribute e "numbered" apos)=false:=by rfl) :
  PL (F:=lL C) X (.Compare i [.NotIn] [.Attribute e "numbered" apos] pos) (aLi C ti te):=by
 obtain⟨v,p,r⟩:=he;obtain⟨vi,pi,ri⟩:=hi;refine⟨_,aEj (N5 hu pi (uX (pos:=apos) hc hn p hb)) hm,λB p0 H ps σT σ T n Q QV o h k=>?_⟩;refine ri B p0 H ps σT σ _ _ o.ok h λy yv H1 s1 r1 q1=>?_;obtain⟨j,rfl,q1⟩:=q1;cases r1;refine r B p0 H1 ps σT σ _ _ (o.grow s1).ok q1 λd x H2 s2 r2 q2=>?_;obtain⟨rfl,q⟩:=q2;obtain⟨rfl,at2⟩:=kO (T':=T) (o.grow s1) s2 r2 rfl;obtain⟨_,_,_,_,hp1,_⟩:=id at2;refine⟨_,C,_,_,_,rfl,hp1,hc,hn,rfl,?_⟩;obtain⟨hne,v1,v6,kv,h1,h2,h3,h4,h5⟩:=id at2;refine⟨T.q,rK kv (.inl j),rfl,F4.k (k:=.inl j) h2,_,rfl,k n _ H2 ((fX.of s1).trans (.of s2)) at2 ?_⟩;rcases h5.val j with⟨g1,g2⟩ | ⟨d,w,g1,g2,_⟩
 ·rw[g1]at q;rw[g2];exact q
 ·rw[g1]at q;rw[g2];exact q
def aLk(C:Addr)(te ti:ET):EZ (lL C):=λτ n σ Q=>te σ λd=>d=τ/\ti σ λy=>∃(j:Int)(x:D),y=.int j/\B1 n.kvs j=some x/\Q n x
def aFt(hu:X.A.units+1<cLine)(hc:zF X.K C)(hn:gB X.K C "numbered")(he:gK X e te)(hi:gK X i ti)(hs:aF8 i:=by intro _ _;rfl)(hb:attributeBase e "numbered" X.env (eval e X.env)=eval e X.env:=by rfl) :
  wV (F:=lL C) X (.Subscript (.Attribute e "numbered" apos) i pos) (aLk C te ti):=by
 obtain⟨v,p,r⟩:=he;obtain⟨vi,pi,ri⟩:=hi;refine⟨_,YC hu (uX (pos:=apos) hc hn p hb) pi hs,λB p0 H ps σT σ T n Q QV o h k=>?_⟩;refine r B p0 H ps σT σ _ _ o.ok h λd x H1 s1 r1 q1=>?_;obtain⟨rfl,q1⟩:=q1;obtain⟨rfl,at1⟩:=kO (T':=T) o s1 r1 rfl;obtain⟨_,_,_,_,hp1,_⟩:=id at1;refine⟨_,C,_,_,_,rfl,hp1,hc,hn,rfl,?_⟩;refine ri B p0 H1 ps σT σ _ _ (o.grow s1).ok q1 λy yv H2 s2 r2 q2=>?_;obtain⟨j,x,rfl,g,q⟩:=q2;cases r2;have at2:=((o.grow s1).grow s2).tp;obtain⟨hne,v1,v6,kv,h1,h2,h3,h4,h5⟩:=id at2;rcases h5.val j with⟨g1,g2⟩ | ⟨d,w,g1,g2,rw'⟩
 ·rw[g]at g1;cases g1
 ·rw[g]at g1;cases g1;refine⟨T.q,w,rfl,?_,k n x w H2 ((fX.of s1).trans (.of s2)) at2 rw' q⟩;have:=F4.k (k:=.inl j) h2;rw[g2]at this;exact this
def VY{K H ps}{T:Bk}{n kvs kv}(a:IP C T K H ps n)(hq:T.q∈ps)(h:vL K (mask H ps) kvs kv):IP C T K (eS H T.q (.dK kv)) ps { n with kvs:=kvs }:=by
 obtain⟨hne,v1,v6,kv0,h1,h2,h3,h4,h5⟩:=a;refine⟨hne,v1,v6,kv,by rw[bT hne];exact h1,bS,?_,?_,?_⟩
 ·rw[fB hq];exact h3
 ·rw[fB hq];exact h4
 ·rw[fB hq];exact h
def xE{as H}{p:Addr}{u}(h:p∈as):fX as H (eS H p u):=λa o ne e=>by
 rw[bT (show a≠p fromλz=>ne (by rw[z];exact h))];exact e
def lY.there{F:wW}{K B H p0 ps σT σ T n n'}(o:lY F K B p0 H ps σT σ T n){p:Addr}{u}(hp:p∈F.ad T)(t:F.At T K (eS H p u) ps n'):lY F K B p0 (eS H p u) ps σT σ T n':=o.growX (xE hp) t
def aLe(C:Addr)(te ti tv:ET):SZ (lL C):=λτ DC n σ=>tv σ λx=>te σ λd=>d=τ/\ti σ λy=>∃j:Int,y=.int j/\n.kvs.length<=100000/\DC.nx { n with kvs:=C3 n.kvs j x } σ
def RB{tv}(hu:X.A.units+1<cLine)(hc:zF X.K C)(hn:gB X.K C "numbered")(he:gK X e te)(hi:gK X i ti)(hv:gK X value tv)(hs:kH value (some (.Subscript (.Attribute e "numbered" apos) i pos')) pos.line X.env=pure false:=by rfl)(hb:attributeBase e "numbered" X.env (eval e X.env)=eval e X.env:=by rfl) :
  zB (F:=lL C) X (.Assign [.Subscript (.Attribute e "numbered" apos) i pos'] value pos) (aLe C te ti tv):=by
 obtain⟨v,p,r⟩:=he;obtain⟨vi,pi,ri⟩:=hi;obtain⟨vv,pv,rv⟩:=hv;refine⟨_,X2 hu (uX (pos:=apos) hc hn p hb) pi pv hs,λB p0 H ps σT σ T n DC DV o h f=>?_⟩;refine rv B p0 H ps σT σ _ _ o.ok h λx xv H0 s0 r0 q0=>?_;refine r B p0 H0 ps σT σ _ _ (o.grow s0).ok q0 λd xd H1 s1 r1 q1=>?_;obtain⟨rfl,q1⟩:=q1;obtain⟨rfl,at1⟩:=kO (T':=T) (o.grow s0) s1 r1 rfl;obtain⟨_,_,_,_,hp1,_⟩:=id at1;refine⟨_,C,_,_,_,rfl,hp1,hc,hn,rfl,?_⟩;refine ri B p0 H1 ps σT σ _ _ ((o.grow s0).grow s1).ok q1 λy yv H2 s2 r2 q2=>?_;obtain⟨j,rfl,hz,q⟩:=q2;cases r2;have o2:=((o.grow s0).grow s1).grow s2;obtain⟨hne,v1,v6,kv,h1,h2,h3,h4,h5⟩:=id o2.tp;have hL:bE=2^24:=rfl;refine⟨T.q,_,rfl,V6.k (k:=.inl j) (v:=xv) h2 (by rw[<- h5.length];omega),?_⟩;have hq:T.q∈ps:=o.mem' T.q (by show T.q∈[T.p,T.q];simp);have at3:=VY o2.tp hq (h5.put (i:=j) (r0.same (bH (s1.trans s2))));exact f.nx _ ps σT σ _ (o2.there (by show T.q∈[T.p,T.q];simp) at3) ((bH (s0.trans (s1.trans s2))).trans (by rw[fB hq];exact L2.aS.refl _)) q
def VZ{K H ps}{T:Bk}{n':JB}{v1 v6 kv}(hne:T.p≠T.q)(h2:H T.q=some (.dK kv))(h3:gD K (mask H ps) T.fm v1)(h4:gD K (mask H ps) n'.st v6)(h5:vL K (mask H ps) n'.kvs kv)(hp:T.p∈ps):IP C T K (eS H T.p (.ins C T.dx (FY T v1 v6 n'))) ps n':=
 ⟨hne,v1,v6,kv,bS,by rw[bT (Ne.symm hne)];exact h2,by rw[fB hp];exact h3,by rw[fB hp];exact h4,by rw[fB hp];exact h5⟩
def aG3(C:Addr)(te tv:ET):SZ (lL C):=λτ DC n σ=>te σ λd=>d=τ/\tv σ λx=>∃j:Int,x=.int j/\DC.nx { n with fol:=n.fol+j } σ
def W3{tv}(hc:zF X.K C)(hn:gB X.K C "following")(he:gK X e te)(hv:gK X value tv):zB (F:=lL C) X (.AugAssign (.Attribute e "following" tpos) .Add value pos) (aG3 C te tv):=by
 obtain⟨v,p,r⟩:=he;obtain⟨vv,pv,rv⟩:=hv;refine⟨_,N2 p pv aFg,λB p0 H ps σT σ T n DC DV o h f=>?_⟩;refine r B p0 H ps σT σ _ _ o.ok h λd xd H1 s1 r1 q1=>?_;obtain⟨rfl,q1⟩:=q1;obtain⟨rfl,at1⟩:=kO (T':=T) o s1 r1 rfl;obtain⟨hne,v1,v6,kv,h1,h2,h3,h4,h5⟩:=id at1;refine⟨_,C,_,_,_,rfl,h1,hc,hn,rfl,?_⟩;refine rv B p0 H1 ps σT σ _ _ (o.grow s1).ok q1 λy yv H2 s2 r2 q2=>?_;obtain⟨j,rfl,q⟩:=q2;cases r2;have o2:=(o.grow s1).grow s2;have hp:T.p∈ps:=o.mem' T.p (by show T.p∈[T.p,T.q];simp);refine⟨_,_,rfl,rfl,T.dx,FY T v1 v6 n,s2 _ _ h1,(aD rfl),?_⟩;have at3:IP C T X.K (eS H2 T.p (.ins C T.dx (FY T v1 v6 { n with fol:=n.fol+j }))) ps { n with fol:=n.fol+j }:=VZ hne (s2 _ _ h2) (h3.same (bH s2)) (h4.same (bH s2)) (h5.same (bH s2)) hp;exact f.nx _ ps σT σ _ (o2.there (by show T.p∈[T.p,T.q];simp) at3) ((bH (s1.trans s2)).trans (by rw[fB hp];exact L2.aS.refl _)) q
def aGv(C:Addr)(te:ET)(tv:EZ (lL C)):SZ (lL C):=λτ DC n σ=>tv τ n σ λn1 x=>te σ λd=>d=τ/\DC.nx { n1 with st:=x } σ
def W0{tv}(hc:zF X.K C)(hn:gB X.K C "standing")(he:gK X e te)(hv:wV X value tv)(hs:kH value (some (.Attribute e "standing" pos')) pos.line X.env=pure false:=by rfl):zB (F:=lL C) X (.Assign [.Attribute e "standing" pos'] value pos) (aGv C te tv):=by
 obtain⟨v,p,r⟩:=he;obtain⟨vv,pv,rv⟩:=hv;refine⟨_,uV p pv hs,λB p0 H ps σT σ T n DC DV o h f=>?_⟩;refine rv B p0 H ps σT σ T n _ _ o h λn1 x xv H0 s0 t0 r0 q0=>?_;have o0:=o.growX s0 t0;refine r B p0 H0 ps σT σ _ _ o0.ok q0 λd xd H1 s1 r1 q1=>?_;obtain⟨rfl,q⟩:=q1;obtain⟨rfl,at1⟩:=kO (T':=T) o0 s1 r1 rfl;obtain⟨hne,v1,v6,kv,h1,h2,h3,h4,h5⟩:=id at1;have hp:T.p∈ps:=o.mem' T.p (by show T.p∈[T.p,T.q];simp);refine⟨_,C,_,_,rfl,h1,hc,hn,(aD rfl),?_⟩;have at3:IP C T X.K (eS H1 T.p (.ins C T.dx (FY T v1 xv { n1 with st:=x }))) ps { n1 with st:=x }:=VZ hne h2 h3 (r0.same (bH s1)) h5 hp;exact f.nx _ ps σT σ _ ((o0.grow s1).there (by show T.p∈[T.p,T.q];simp) at3) ((s0.mask o.mem').trans ((bH s1).trans (by rw[fB hp];exact L2.aS.refl _))) q
end
end TL
namespace L2
noncomputable instance decD:DecidableEq PyData:=λ_ _=>Classical.propDecidable _
mutual
def hk:PyData->Bool
|.none=>true
|.int _=>true
|.str x=>(aP x).canLay0
|.tuple xs=>hkAll xs
|.bool _=>false
|.list _=>false
|.dict _=>false
def hkAll:List PyData->Bool
|[]=>true
|x::xs=>hk x&&hkAll xs
end
open TL
section
variable{X:Cx}{pins:List (Addr×Obj)}{σ:St}{H H':Hp}{s:Shared}
def cN.laidM{h':Heap}{t':Nat}(I:cN X pins σ H s)(k:∀b u,s.heap.get? b=some u->h'.get? b=some u)(sH:aS H H')(new:∀a o,H' a=some o->H a=none->s.heap.objs.size<=a/\iE X.prog X.w H' h' a o):cN X pins σ H' { s with heap:=h',toks:=t' }:=by
 refine I.un ⟨λb ob q _ _ _=>k b ob q,λb ob q _ _ _=>⟨ob.slots,k b ob q⟩,λb ob q n _=>?_,λb ob q _=>⟨ob,k b ob q⟩,λb xs q=>sH _ _ q,λb o u q=>sH _ _ q,λb ps q=>⟨#[],by rw[sH _ _ q];simp⟩⟩ λa o e=>?_
 ·cases e:H' b with
  |none=>rfl
  |some o=>exact absurd (aV q) (WB.mpr (new b o e n).1)
 ·cases q:H a with
  |none=>exact(new a o e q).2
  |some u=>
   have e':=sH _ _ q;rw[e]at e';cases e';exact(I.hok a o q).stay (λb v _ z=>k b v z) (λb z=>sH _ _ z) (λb xs z=>sH _ _ z) λb ob v z=>sH _ _ z
end
theorem HG{β:Type}{b:Addr}{y:β}:∀{as:List Addr}{ys:List β}{j:Nat},as.Nodup->as[j]?=some b->ys[j]?=some y->(as.zip ys).lookup b=some y
|[],_,j,_,h,_=>by simp at h
|a::as,[],j,_,_,h=>by simp at h
|a::as,z::ys,0,_,h1,h2=>by
 simp at h1 h2;subst h1 h2;simp[jK]
|a::as,z::ys,j+1,nd,h1,h2=>by
 rw[kP]at nd;have h1':as[j]?=some b:=by simpa using h1
 have h2':ys[j]?=some y:=by simpa using h2
 have ne:(b==a)=false:=beq_eq_false_iff_ne.mpr λe=>nd.1 (e▸aZ h1');rw[QE,dF,ne];exact HG nd.2 h1' h2'
theorem BO{β:Type}{b:Addr}{y:β}:∀{as:List Addr}{ys:List β},(as.zip ys).lookup b=some y->∃j:Nat,as[j]?=some b/\ys[j]?=some y
|[],_,h=>by simp[jK]at h
|a::as,[],h=>by simp[jK]at h
|a::as,z::ys,h=>by
 rw[QE,dF]at h
 cases e:(b==a)with
 |true=>
  rw[e]at h;have e':b=a:=eq_of_beq e;exact⟨0,by simp[e'],by simpa using h⟩
 |false=>
  rw[e]at h;obtain⟨j,h1,h2⟩:=BO h;exact⟨j+1,by simpa using h1,by simpa using h2⟩
end L2
namespace TL
open L2
theorem yA{K H}:∀{ds:List D}{vs:List V},ds.length=vs.length->(∀(j:Nat)(d:D)(v:V),ds[j]?=some d->vs[j]?=some v->gD K H d v)->Reps K H ds vs
|[],[],_,_=>.nil
|[],_::_,h,_=>by simp at h
|_::_,[],h,_=>by simp at h
|d::ds,v::vs,h,k=>.cons (k 0 d v rfl rfl) (yA (by simpa using h) λj d' v' h1 h2=>k (j+1) d' v' (by simpa using h1) (by simpa using h2))
end TL
namespace L2
open TL
noncomputable def DF(v p:Addr):HO:=.ext λh=>h.IsValuesView v p
noncomputable def DG(v p:Addr):HO:=.ext λh=>h.IsItemsView v p
theorem MJ{κ:Type}:∀{kvs:List (κ×V)}{vs:List (κ×Value)},KV kvs vs->eW (kvs.map (·.2)) (vs.map (·.2))
|_,_,.nil=>.nil
|_,_,.cons r t=>.cons r.2 (MJ t)
theorem UL{κ:Type}:∀{kvs:List (κ×V)}{vs:List (κ×Value)}{j:Nat}{k:κ}{x},KV kvs vs->vs[j]?=some (k,x)->∃v,kvs[j]?=some (k,v)/\eZ v x
|_,_,_,_,_,.nil,h=>by simp at h
| (a,v)::_,(b,y)::_,0,k,x,.cons r t,h=>by
 simp at h;obtain⟨h1,h2⟩:=h;obtain⟨r1,r2⟩:=r;dsimp only at r1 r2;subst h1 h2 r1;exact⟨v,rfl,r2⟩
|_::_,_::_,j+1,k,x,.cons r t,h=>by
 obtain⟨v,h1,h2⟩:=UL (j:=j) t (by simpa using h);exact⟨v,by simpa using h1,h2⟩
def YS{P w k u}(h:(iB P w).is k u=true):eZ (kV k) u:=by
 rcases iR h with⟨i,t,rfl,rfl⟩ | ⟨x,t,rfl,rfl⟩<;>exact⟨t,rfl⟩
section
variable{X:Cx}
def KE:P9 X "dict.values" (λx xs H Q=>xs=[]/\∃(p:Addr)(kvs:List (lB×V)),x=.ref p/\H p=some (.dK kvs)/\∀v,H v=none->Q (.ref v) (eS H v (DF v p))):=by
 intro pins s σ H x xs v us Q I rx r h;obtain⟨rfl,p,kvs,rfl,hp,q⟩:=h;cases rx;cases r;obtain⟨z,hd,vs,rel,dd⟩:=D6 I.hok hp;refine call_meetsIn DA dd.typeIs PySem.F.entry_dict_values (PySem.F.args_dict_values_1 _) (meets_dict_values (iB X.prog X.w) p hd) ⟨⟨vs,dd⟩,?_⟩;exact⟨.ref s.heap.objs.size,_,I.laid (t':=s.toks) (o:=DF s.heap.objs.size p) (λ_ _ e=>aC _ e) (aM _) ⟨⟨_,aR _ rfl,rfl,rfl⟩,⟨_,aR _ rfl⟩,λh1 h2 ⟨o,e,r⟩ k=>⟨o,k _ e,r⟩⟩,rfl,q _ (I.hok.fresh (aM _))⟩
def OI:P9 X "dict.items" (λx xs H Q=>xs=[]/\∃(p:Addr)(kvs:List (lB×V)),x=.ref p/\H p=some (.dK kvs)/\∀v,H v=none->Q (.ref v) (eS H v (DG v p))):=by
 intro pins s σ H x xs v us Q I rx r h;obtain⟨rfl,p,kvs,rfl,hp,q⟩:=h;cases rx;cases r;obtain⟨z,hd,vs,rel,dd⟩:=D6 I.hok hp;refine call_meetsIn EK dd.typeIs PySem.F.entry_dict_items (PySem.F.args_dict_items_1 _) (meets_dict_items (iB X.prog X.w) p hd) ⟨⟨vs,dd⟩,?_⟩;exact⟨.ref s.heap.objs.size,_,I.laid (t':=s.toks) (o:=DG s.heap.objs.size p) (λ_ _ e=>aC _ e) (aM _) ⟨⟨_,aR _ rfl,rfl,rfl⟩,⟨_,aR _ rfl⟩,λh1 h2 ⟨o,e,r⟩ k=>⟨o,k _ e,r⟩⟩,rfl,q _ (I.hok.fresh (aM _))⟩
def YL:P9 X "dict.pop" (λx xs H Q=>∃(p:Addr)(kvs:List (lB×V))(k:lB)(v:V),x=.ref p/\xs=[kV k]/\H p=some (.dK kvs)/\rK kvs k=some v/\Q v (eS H p (.dK (kM kvs k)))):=by
 intro pins s σ H x xs v us Q I rx r h;obtain⟨p,kvs,k,y,rfl,rfl,hp,hl,q⟩:=h;cases rx;obtain⟨u,rfl,ru⟩:=pC r;exact aJ9 I hp ru hl (.inl rfl) λw' s' I' r'=>⟨y,_,I',r',q⟩
def D8:lG X (.builtin "len") (λxs H Q=>∃(p:Addr)(kvs:List (lB×V)),xs=[.ref p]/\H p=some (.dK kvs)/\Q (.int kvs.length) H):=by
 intro pins s σ H xs us Q I r h;obtain⟨p,kvs,rfl,hp,q⟩:=h;obtain⟨u,rfl,ru⟩:=pC r;cases ru;exact aKa I (.inl hp) λt s2 I2=>⟨.int kvs.length,H,I2,⟨t,rfl⟩,q⟩
def yX(hc:X.calm=true):lG X (.type "list") (λxs H Q=>∃(v p:Addr)(kvs:List (lB×V)),xs=[.ref v]/\H v=some (DF v p)/\H p=some (.dK kvs)/\∀l,H l=none->Q (.ref l) (eS H l (.lst (kvs.map (·.2))))):=by
 intro pins s σ H xs us Q I r h;obtain⟨v,p,kvs,rfl,hv,hp,q⟩:=h;obtain⟨u,rfl,rx⟩:=pC r;cases rx;obtain⟨hva,_⟩:=I.hok v _ hv;obtain⟨z,hd,vs,rel,dd⟩:=D6 I.hok hp;obtain⟨ep,da⟩:=dd.dictAt;have hlen:=rel.length;refine PySem.W.kdl_call (PySem.W.kdl_values (knd:=iB X.prog X.w) (r:=v) (d:=p) (kvs:=vs) (ep:=ep)) (I.ok.hd hc) ⟨hva,da⟩ (by omega) λh' tk acc c kp hS hacc=>?_;have he:acc.toList=vs.map (·.2):=PySem.W.kdl_vals_eq _ (by rw[fP];exact hacc.1) λj v e=>hacc.2 j v (by rw[<- iY];exact e);exact⟨.ref s.heap.objs.size,_,I.laid (t':=tk) kp (aM _) (show iE X.prog X.w _ h' _ (.lst (kvs.map (·.2)))from⟨by rw[aA];exact z,acc.toList,c,by rw[he];exact MJ rel,by simpa using hS⟩),rfl,q _ (I.hok.fresh (aM _))⟩
def xV(hc:X.calm=true):lG X (.type "list") (λxs H Q=>∃(v p:Addr)(kvs:List (lB×V)),xs=[.ref v]/\H v=some (DG v p)/\H p=some (.dK kvs) /\
  ∀(as:List Addr)(l:Addr)H',aS H H'->H l=none->as.length=kvs.length->(∀(j:Nat)(a:Addr)(e:lB×V),as[j]?=some a->kvs[j]?=some e->H a=none/\H' a=some (.tup [kV e.1,e.2]))->H' l=some (.lst (as.map V.ref))->Q (.ref l) H'):=by
 intro pins s σ H xs us Q I r h;obtain⟨v,p,kvs,rfl,hv,hp,q⟩:=h;obtain⟨u,rfl,rx⟩:=pC r;cases rx;obtain⟨hva,_⟩:=I.hok v _ hv;obtain⟨z,hd,vs,rel,dd⟩:=D6 I.hok hp;obtain⟨ep,da⟩:=dd.dictAt;have hsz:=rel.length;refine PySem.W.kdx_call (knd:=iB X.prog X.w) (r:=v) (d:=p) (kvs:=vs) (ep:=ep) (I.ok.hd hc) hva da (by omega) λh' tk acc c as kk hS hal hG hacc=>?_;have nd:as.Nodup:=hG.rise.imp λh=>cO h
 generalize hl:s.heap.objs.size=l at *
 let pr:List HO:=kvs.map λe=>HO.tup [kV e.1,e.2]
 let H':Hp:=λb=>if b=l then some (.lst (as.map V.ref))else match(as.zip pr).lookup b with | some o=>some o | none=>H b
 have frl:∀a,l<=a->H a=none:=λa ha=>I.hok.fresh (by rw[hl];exact ha)
 have at_as:∀(j:Nat)(a:Addr)(e:lB×V),as[j]?=some a->kvs[j]?=some e->H' a=some (.tup [kV e.1,e.2]):=λj a e h1 h2=>by
  have na:a≠l:=iV (hG.above a (aZ h1));show(if a=l then _ else _)=_;rw[if_neg na,HG nd h1 (y:=HO.tup [kV e.1,e.2]) (by show(kvs.map _)[j]?=_;rw[aK,h2];rfl)]
 have sH:aS H H':=λb o e=>by
  have nb:¬l<=b:=λz=>by rw[frl b z]at e;cases e
  show(if b=l then _ else _)=_;rw[if_neg (show¬b=l fromλz=>nb (kI z.symm))]
  cases hq:(as.zip pr).lookup b with
  |none=>exact e
  |some y=>
   obtain⟨j,h1,_⟩:=BO hq;exact absurd (iA (hG.above b (aZ h1))) nb
 have hlH:H' l=some (.lst (as.map V.ref)):=if_pos rfl;refine⟨.ref l,H',I.laidM (t':=tk) kk sH λa o e n=>?_,rfl,q as l H' sH (frl l (aM _)) (by omega) (λj a e h1 h2=>⟨frl a (iA (hG.above a (aZ h1))),at_as j a e h1 h2⟩) hlH⟩;have hL:bE=2^24:=rfl;by_cases ea:a=l
 ·subst ea;rw[hlH]at e;cases e;refine⟨by rw[hl];exact aM _,by rw[aA];omega,acc.toList,c,?_,by simpa using hS⟩;rw[hacc];clear hacc hG nd pr H' frl at_as sH hlH q hS hal
  induction as with
  |nil=>exact .nil
  |cons x as ih=>exact .cons rfl ih
 ·have e':(match(as.zip pr).lookup a with | some o=>some o | none=>H a)=some o:=by
   have:=e;show _=_;rw[<- this];exact(if_neg ea).symm
  cases hq:(as.zip pr).lookup a with
  |none=>rw[hq]at e';rw[n]at e';cases e'
  |some y=>
   rw[hq]at e';cases e';obtain⟨j,h1,h2⟩:=BO hq;obtain⟨key,k,x,d1,d2,d3⟩:=hG.pairs j a h1;obtain⟨y,e1,e2⟩:=UL rel d1;have h2':(kvs.map λe=>HO.tup [kV e.1,e.2])[j]?=some o:=h2;rw[aK,e1]at h2';cases h2';exact⟨by rw[hl];exact iA (hG.above a (aZ h1)),by show 2<=bE;omega,[key,x],.cons (YS d2) (.cons e2 .nil),⟨_,d3,rfl,_,rfl,rfl⟩⟩
end
end L2
namespace TL
open L2
section
variable{X:Cx}{C:Addr}{e i:Expr}{es:List Expr}{te ti:ET}{pos apos cpos npos:Pos}
def aLj(C:Addr)(te:ET):EZ (lL C):=λτ n σ Q=>te σ λd=>d=τ/\Q n (.int n.kvs.length)
def U8{g}(hc:zF X.K C)(hn:gB X.K C "numbered")(he:gK X e te)(hb:attributeBase e "numbered" X.env (eval e X.env)=eval e X.env:=by rfl)
  (pc:∀{v},PE X (.Attribute e "numbered" npos) v->PE X (.Call g [.Attribute e "numbered" npos] [] pos) (WW (λxs H Q=>∃(p:Addr)(kvs:List (lB×V)),xs=[.ref p]/\H p=some (.dK kvs)/\Q (.int kvs.length) H) (pR v xC))) :
  wV (F:=lL C) X (.Call g [.Attribute e "numbered" npos] [] pos) (aLj C te):=by
 obtain⟨v,p,r⟩:=he;refine⟨_,pc (uX (pos:=npos) hc hn p hb),λB p0 H ps σT σ T n Q QV o h k=>r B p0 H ps σT σ _ _ o.ok h λd x H1 s1 r1 q1=>?_⟩;obtain⟨rfl,q⟩:=q1;obtain⟨rfl,at1⟩:=kO (T':=T) o s1 r1 rfl;obtain⟨hne,v1,v6,kv,h1,h2,h3,h4,h5⟩:=id at1;refine⟨_,C,_,_,_,rfl,h1,hc,hn,rfl,T.q,kv,rfl,h2,?_⟩;rw[<- h5.length];exact k n _ _ H1 (.of s1) at1 (.int _) q
def aLf(C:Addr)(te ti:ET):EZ (lL C):=λτ n σ Q=>te σ λd=>d=τ/\ti σ λy=>∃(j:Int)(x:D),y=.int j/\B1 n.kvs j=some x/\Q { n with kvs:=CC n.kvs j } x
def aFs(hc:zF X.K C)(hn:gB X.K C "numbered")(he:gK X e te)(hi:gK X i ti)(hb:attributeBase e "numbered" X.env (eval e X.env)=eval e X.env:=by rfl)
  (pc:∀{v va},PE X (.Attribute e "numbered" npos) v->PE X i va->PE X (.Call (.Attribute (.Attribute e "numbered" npos) "pop" apos) [i] [] cpos) (Q9 X.K "dict" (λx xs H Q=>∃(p:Addr)(kvs:List (lB×V))(k:lB)(v:V),x=.ref p/\xs=[kV k]/\H p=some (.dK kvs)/\rK kvs k=some v/\Q v (eS H p (.dK (kM kvs k)))) v (pR va xC))) :
  wV (F:=lL C) X (.Call (.Attribute (.Attribute e "numbered" npos) "pop" apos) [i] [] cpos) (aLf C te ti):=by
 obtain⟨v,p,r⟩:=he;obtain⟨vi,pi,ri⟩:=hi;refine⟨_,pc (uX (pos:=npos) hc hn p hb) pi,λB p0 H ps σT σ T n Q QV o h k=>r B p0 H ps σT σ _ _ o.ok h λd x H1 s1 r1 q1=>?_⟩;obtain⟨rfl,q⟩:=q1;obtain⟨rfl,at1⟩:=kO (T':=T) o s1 r1 rfl;obtain⟨_,_,_,kv1,hp1,hq1,_⟩:=id at1;refine⟨_,C,_,_,_,rfl,hp1,hc,hn,rfl,.inr (.inr (.inl ⟨rfl,.inl ⟨kv1,hq1⟩⟩)),?_⟩;refine ri B p0 H1 ps σT σ _ _ (o.grow s1).ok q λy yv H2 s2 r2 q2=>?_;obtain⟨j,x,rfl,g,q⟩:=q2;cases r2;have o2:=(o.grow s1).grow s2;obtain⟨hne,v1,v6,kv,h1,h2,h3,h4,h5⟩:=id o2.tp;have hq:T.q∈ps:=o.mem' T.q (by show T.q∈[T.p,T.q];simp);rcases h5.val j with⟨g1,g2⟩ | ⟨d,w,g1,g2,rw'⟩
 ·rw[g]at g1;cases g1
 ·rw[g]at g1;cases g1;refine⟨T.q,kv,.inl j,w,rfl,rfl,h2,g2,?_⟩;have at3:=VY o2.tp hq (h5.drop j);exact k _ x w _ (((fX.of s1).trans (.of s2)).trans (xE (by show T.q∈[T.p,T.q];simp))) at3 (rw'.same (by rw[fB hq];exact L2.aS.refl _)) q
def aGs(C:Addr)(te:ET):EZ (lL C):=λτ n σ Q=>te σ λd=>d=τ/\Q n (.list (n.kvs.map (·.2)))
def Y9{g}(hc:zF X.K C)(hn:gB X.K C "numbered")(he:gK X e te)(hb:attributeBase e "numbered" X.env (eval e X.env)=eval e X.env:=by rfl)
  (pc:∀{v:TE},PE X (.Attribute e "numbered" npos) v->PE X (.Call g [.Call (.Attribute (.Attribute e "numbered" npos) "values" apos) [] [] cpos] [] pos) (WW (λxs H Q=>∃(v p:Addr)(kvs:List (lB×V)),xs=[.ref v]/\H v=some (DF v p)/\H p=some (.dK kvs)/\∀l,H l=none->Q (.ref l) (eS H l (.lst (kvs.map (·.2)))))
   (pR (aDz X.K "dict" (λx xs H Q=>xs=[]/\∃(p:Addr)(kvs:List (lB×V)),x=.ref p/\H p=some (.dK kvs)/\∀v,H v=none->Q (.ref v) (eS H v (DF v p))) v) xC))) :
  wV (F:=lL C) X (.Call g [.Call (.Attribute (.Attribute e "numbered" npos) "values" apos) [] [] cpos] [] pos) (aGs C te):=by
 obtain⟨v,p,r⟩:=he;refine⟨_,pc (uX (pos:=npos) hc hn p hb),λB p0 H ps σT σ T n Q QV o h k=>r B p0 H ps σT σ _ _ o.ok h λd x H1 s1 r1 q1=>?_⟩;obtain⟨rfl,q⟩:=q1;obtain⟨rfl,at1⟩:=kO (T':=T) o s1 r1 rfl;obtain⟨hne,v1,v6,kv,h1,h2,h3,h4,h5⟩:=id at1;refine⟨_,C,_,_,_,rfl,h1,hc,hn,rfl,.inr (.inr (.inl ⟨rfl,.inl ⟨kv,h2⟩⟩)),rfl,T.q,kv,rfl,h2,λvw hvw=>?_⟩;refine⟨vw,T.q,kv,rfl,bS,by rw[bT (eJ h2 hvw)];exact h2,λl hl=>?_⟩;have s2:aS H1 (eS (eS H1 vw (DF vw T.q)) l (.lst (kv.map (·.2)))):=(cZ hvw).trans (cZ hl);have hnl:l∉ps:=hV (o.grow s1).ok.live (aS.free' (cZ hvw) hl);exact k n _ _ _ (.of (s1.trans s2)) (wW.At.grow (F:=lL C) at1 s2) (.list (lM.of (jY hnl bS)) (h5.vals.same (bH s2))) q
def aDk(C:Addr)(te:ET):EZ (lL C):=λτ n σ Q=>te σ λd=>d=τ/\Q n (.list (n.kvs.map λe=>.tuple [.int e.1,e.2]))
theorem vL.at{K H}:∀{a b}{j:Nat}{e:Int×D},vL K H a b->a[j]?=some e->∃v,b[j]?=some (.inl e.1,v)/\gD K H e.2 v
|_,_,_,_,.nil,h=>by simp at h
|_,_,0,_,.cons r t,h=>by simp at h;subst h;exact⟨_,rfl,r⟩
|_,_,j+1,_,.cons r t,h=>by
 obtain⟨v,h1,h2⟩:=t.at (j:=j) (by simpa using h);exact⟨v,by simpa using h1,h2⟩
def VA{g}(hc:zF X.K C)(hn:gB X.K C "numbered")(he:gK X e te)(hb:attributeBase e "numbered" X.env (eval e X.env)=eval e X.env:=by rfl)
  (pc:∀{v:TE},PE X (.Attribute e "numbered" npos) v->PE X (.Call g [.Call (.Attribute (.Attribute e "numbered" npos) "items" apos) [] [] cpos] [] pos) (WW (λxs H Q=>∃(v p:Addr)(kvs:List (lB×V)),xs=[.ref v]/\H v=some (DG v p)/\H p=some (.dK kvs) /\
  ∀(as:List Addr)(l:Addr)H',aS H H'->H l=none->as.length=kvs.length->(∀(j:Nat)(a:Addr)(e:lB×V),as[j]?=some a->kvs[j]?=some e->H a=none/\H' a=some (.tup [kV e.1,e.2]))->H' l=some (.lst (as.map V.ref))->Q (.ref l) H')
   (pR (aDz X.K "dict" (λx xs H Q=>xs=[]/\∃(p:Addr)(kvs:List (lB×V)),x=.ref p/\H p=some (.dK kvs)/\∀v,H v=none->Q (.ref v) (eS H v (DG v p))) v) xC))) :
  wV (F:=lL C) X (.Call g [.Call (.Attribute (.Attribute e "numbered" npos) "items" apos) [] [] cpos] [] pos) (aDk C te):=by
 obtain⟨v,p,r⟩:=he;refine⟨_,pc (uX (pos:=npos) hc hn p hb),λB p0 H ps σT σ T n Q QV o h k=>r B p0 H ps σT σ _ _ o.ok h λd x H1 s1 r1 q1=>?_⟩;obtain⟨rfl,q⟩:=q1;obtain⟨rfl,at1⟩:=kO (T':=T) o s1 r1 rfl;obtain⟨hne,v1,v6,kv,h1,h2,h3,h4,h5⟩:=id at1;refine⟨_,C,_,_,_,rfl,h1,hc,hn,rfl,.inr (.inr (.inl ⟨rfl,.inl ⟨kv,h2⟩⟩)),rfl,T.q,kv,rfl,h2,λvw hvw=>?_⟩;refine⟨vw,T.q,kv,rfl,bS,by rw[bT (eJ h2 hvw)];exact h2,λas l H' sH hl hal hat hL=>?_⟩;have s2:aS H1 H':=(cZ hvw).trans sH;have live:=(o.grow s1).ok.live;have fr:∀a,eS H1 vw (DG vw T.q) a=none->a∉ps:=λa ha=>hV live (aS.free' (cZ hvw) ha);have hlen:=h5.length;refine k n _ _ _ (.of (s1.trans s2)) (wW.At.grow (F:=lL C) at1 s2) (.list (lM.of (jY (fr l hl) hL)) (yA (by rw[aA,aA];omega) λj d v e1 e2=>?_)) q;rw[aK]at e1 e2;obtain⟨en,k1,rfl⟩:=cV.mp e1;obtain⟨a,a1,rfl⟩:=cV.mp e2;obtain⟨w,g1,g2⟩:=h5.at k1;obtain⟨f1,f2⟩:=hat j a _ a1 g1;exact .tuple (pA.of (jY (fr a f1) f2)) (.cons (.int _) (.cons (g2.same (bH s2)) .nil))
def WS(C:Addr)(sp:EH (lL C))(te:ET)(t:AZ (lL C)):EZ (lL C):=λτ n σ Q=>te σ λd=>d=τ/\t τ n σ λn1 ds=>sp τ n1 (τ::ds) Q
noncomputable def V0:List Str:=["form","deep","least","numbered","following","standing"]
def AL{T v1 v6 n m}(h:m∉V0):(FY T v1 v6 n).lookup m=none:=yD h
def pH{m sp t}(hm:m∉V0)(he:gK X e te)(ha:P8 X (i::es) t)
  (pc:∀{v ta},PE X e v->PA X (i::es) ta->PE X (.Call (.Attribute e m apos) (i::es) [] pos) (GN C m (eB X.K sp) [] E0 v ta)):wV X (.Call (.Attribute e m apos) (i::es) [] pos) (WS C sp te t):=by
 obtain⟨v,pe,re⟩:=he;obtain⟨va,pa,ra⟩:=ha;refine⟨_,pc pe pa,λB p0 H ps σT σ T n Q QV o h k=>re B p0 H ps σT σ _ _ o.ok h λd x H1 s1 r1 q1=>?_⟩;obtain⟨rfl,q1⟩:=q1;obtain⟨rfl,at1⟩:=kO (T':=T) o s1 r1 rfl;obtain⟨_,_,_,_,h1,_⟩:=id at1;refine⟨_,_,_,rfl,h1,AL hm,ra B p0 H1 ps σT σ T n _ _ (o.grow s1) q1 λn2 as xs H2 s2 t2 r2 q2=>?_⟩;show eB X.K sp (.ref T.p::(xs++[])) H2 QV E0;rw[dQ];exact⟨ps,T,n2,mQ T::as,Q,((o.grow s1).growX s2 t2).ok.live,o.mem',t2,.cons (A9 T) r2,q2,λn' d v H' s' t' r' q'=>k n' d v H' (((fX.of s1).trans s2).trans s') t' r' q'⟩
def oN{m sp}(hm:m∉V0)(he:gK X e te)
  (pc:∀{v},PE X e v->PE X (.Call (.Attribute e m apos) [] [] pos) (GN C m (eB X.K sp) [] E0 v xC)):wV X (.Call (.Attribute e m apos) [] [] pos) (WS C sp te WR):=by
 obtain⟨v,pe,re⟩:=he;refine⟨_,pc pe,λB p0 H ps σT σ T n Q QV o h k=>re B p0 H ps σT σ _ _ o.ok h λd x H1 s1 r1 q1=>?_⟩;obtain⟨rfl,q1⟩:=q1;obtain⟨rfl,at1⟩:=kO (T':=T) o s1 r1 rfl;obtain⟨_,_,_,_,h1,_⟩:=id at1;refine⟨_,_,_,rfl,h1,AL hm,?_⟩;show eB X.K sp (.ref T.p::([]++[])) H1 QV E0;exact⟨ps,T,n,[mQ T],Q,(o.grow s1).ok.live,o.mem',at1,.cons (A9 T) .nil,q1,λn' d v H' s' t' r' q'=>k n' d v H' ((fX.of s1).trans s') t' r' q'⟩
def aG0{F:wW}(te:EZ F):SZ F:=λτ DC n σ=>te τ n σ λn1 _=>DC.nx n1 σ
def vW{F}{te:EZ F}(h:wV X e te)(p:∀{v:TE},PE X e v->PS X (.Expr e pos) (DK v)):zB X (.Expr e pos) (aG0 te):=by
 obtain⟨v,pe,r⟩:=h;refine⟨_,p pe,λB p0 H ps σT σ T n DC DV o h f=>r B p0 H ps σT σ T n _ _ o h λn1 d x H1 s1 t1 r1 q1=>?_⟩;exact f.nx H1 ps σT σ n1 (o.growX s1 t1) (s1.mask o.mem') q1
end
section
variable{K:aF}{B B' H:Hp}{p0 ps:List Addr}{σT:List Sl}{σ:L2.St}
def Ok.less(o:Ok K B p0 H ps σT σ)(hs:aS B' B):Ok K B' p0 H ps σT σ where
 base:=hs.trans o.base
 sub:=o.sub
 live:=o.live
 len:=o.len
 val:=o.val
 own:=λi ts h=>let ⟨p,xs,h1,h2,h3,h4⟩:=o.own i ts h;⟨p,xs,h1,h2,aS.free' hs h3,h4⟩
 dis:=o.dis
 dc:=o.dc.to (λ_ _ _ h=>⟨h,rfl⟩) (λ_ _ a _ _=>⟨a,rfl⟩) (λ_ _ _ _ a b=>⟨aS.free' hs a,b⟩) (L2.aS.refl _)
def Ok.pokeI(o:Ok K B p0 H ps σT σ){p C dx:Addr}{fs u}(hp:p∈ps)(hB:B p=none)(he:H p=some (.ins C dx fs))(hn:∀(j:Nat)(hs:List Int)(kvs:List (D×D)),σT[j]?≠some (.dic hs kvs))(hu:Y1 u=false:=by rfl):Ok K B p0 (eS H p u) ps σT σ where
 base:=λb w e=>by
  rw[bT λz=>by rw[z,hB]at e;cases e];exact o.base b w e
 sub:=o.sub
 live:=λq hq=>by
  by_cases e:q=p
  ·subst e;rw[bS];exact⟨_,rfl,hu⟩
  ·rw[bT e];exact o.live q hq
 len:=o.len
 val:=λi d h=>by rw[fB hp];exact o.val i d h
 own:=λi ts h=>by
  rw[fB hp];obtain⟨q,xs,h1,h2,h3,h4,h5,h6⟩:=o.own i ts h;exact⟨q,xs,h1,h2,h3,h4,by rw[bT λz=>by rw[z,he]at h5;cases h5];exact h5,h6⟩
 dis:=o.dis
 dc:=λi hs kvs h=>absurd h (hn i hs kvs)
def GQ{N ds}(j:Nat)(hs:List Int)(kvs:List (D×D)):(iZ N ds)[j]?≠some (.dic hs kvs):=λh=>by
 have hm:=aZ h;unfold iZ at hm;rcases dL.mp hm with hm | hm
 ·obtain⟨_,_,z⟩:=bA.mp hm;cases z
 ·have z:=(List.mem_replicate.mp hm).2;cases z
end
def aJo(K:aF)(vv:TE):TS:=NR (JT K (oI 0) (oI 1) "form") (NR (JT K (oI 0) (oI 2) "deep") (NR (JT K (oI 0) (oI 3) "least") (NR (JT K (oI 0) Q7 "numbered") (NR (JT K (oI 0) (tC (.int 0)) "following") (JT K (oI 0) vv "standing")))))
noncomputable def I0(x:Addr):D:=.dict [(.str "@",.list [.int (x:Nat)])]
def AA(C:Addr)(K:aF)(sp:oV):Sp:=λvs H Q _=>∃(x dx:Addr)(v1:V)(dp ls:Int)(ps:List Addr)(fm:D)(QD:D->Prop),vs=[.ref x,v1,.int dp,.int ls]/\x∈ps/\H x=some (.ins C dx [])/\(∀p∈ps,yO (H p))/\gD K (mask H ps) fm v1/\sp [fm,.int dp,.int ls] QD /\
 ∀(q:Addr)(st:D)(v6:V)H',aS (mask H [x]) H'->q≠x->H q=none->H' q=some (.dK [])->H' x=some (.ins C dx (FY ⟨x,q,dx,fm,dp,ls⟩ v1 v6 ⟨[],0,st⟩))->gD K (mask H' (q::ps)) st v6->QD st->Q .non H'
def fnB{P w K}{mg:Str->Option Value}{base}{C:Addr}{x qual:Str}{st}{f:Addr}{fd}{N pn:List Str}{k:Nat}{sp:oV}(Fn:LB K x qual st f fd)(S:bZ N pn (aY st))(hl:pn.length=4)
  (hc:zF K C) (n1:gB K C "form") (n2:gB K C "deep") (n3:gB K C "least") (n4:gB K C "numbered") (n5:gB K C "following") (n6:gB K C "standing")
  (hbody:∀(cdv:Value)(A:Around)outer(s:Shared)H E,gM k (A.deeper (envOfC qual (aY st) s.heap.objs.size f cdv))->∀(z fm:D)(dp ls:Int)(Q:D->Prop),sp [fm,.int dp,.int ls] Q ->
   ∃(e:Expr)(t:ET),gK (qB eG P w K mg base N qual (aY st) f cdv A outer s H E).nox e t/\(∀{v},PE (qB eG P w K mg base N qual (aY st) f cdv A outer s H E).nox e v->yN (qB eG P w K mg base N qual (aY st) f cdv A outer s H E).nox (kN st) (aJo K v))/\t (iZ N [z,fm,.int dp,.int ls]) Q):bU P w K mg base eG (k+1) f fd pn (AA C K sp):=by
 refine Fn.ok S (λvs H Q E h=>?_) λcdv A outer s H vs Q E hr h=>?_
 ·obtain⟨x,dx,v1,dp,ls,ps,fm,QD,rfl,_⟩:=h;exact hl.symm
 ·obtain⟨x,dx,v1,dp,ls,ps,fm,QD,rfl,hx,hi,live,r1,q,k⟩:=h;obtain⟨e,t,⟨vv,pe,re⟩,pp,h⟩:=hbody cdv A outer s H E hr (I0 x) fm dp ls QD q;refine⟨_,pp pe,?_⟩;have sB:aS (mask H [x]) H:=bN;have hB:mask H [x] x=none:=by unfold mask;rw[if_pos (bF.mpr rfl)]
  have o0:Ok K (mask H [x]) ps H ps (iZ N [I0 x,fm,.int dp,.int ls]) (L2.lP N [.ref x,v1,.int dp,.int ls]):=(oM (N:=N) live (.cons (.addr _) (.cons r1 (.cons (.int _) (.cons (.int _) .nil))))).less sB;have nd:=GQ (N:=N) (ds:=[I0 x,fm,.int dp,.int ls]);have g0:(L2.lP N [.ref x,v1,.int dp,.int ls])[0]?=some (some (.ref x)):=rfl;have g1:(L2.lP N [.ref x,v1,.int dp,.int ls])[1]?=some (some v1):=rfl;have g2:(L2.lP N [.ref x,v1,.int dp,.int ls])[2]?=some (some (.int dp)):=rfl;have g3:(L2.lP N [.ref x,v1,.int dp,.int ls])[3]?=some (some (.int ls)):=rfl;have o1:=o0.pokeI (u:=.ins C dx [("form",v1)]) hx hB hi nd;have o2:=o1.pokeI (u:=.ins C dx [("form",v1),("deep",.int dp)]) hx hB bS nd;have o3:=o2.pokeI (u:=.ins C dx [("form",v1),("deep",.int dp),("least",.int ls)]) hx hB bS nd;refine⟨v1,g1,.ref x,g0,x,C,dx,[],rfl,hi,hc,n1,(aD rfl),?_⟩;refine⟨.int dp,g2,.ref x,g0,x,C,dx,_,rfl,bS,hc,n2,(aD rfl),?_⟩;refine⟨.int ls,g3,.ref x,g0,x,C,dx,_,rfl,bS,hc,n3,(aD rfl),?_⟩;intro q hq;have hqx:q≠x:=λz=>by rw[z]at hq;rw[bS]at hq;cases hq
  have o4:=o3.adopt (u:=.dK []) hq;have hx4:x∈q::ps:=aI _ hx;have i4:eS (eS (eS (eS H x (.ins C dx [("form",v1)])) x (.ins C dx [("form",v1),("deep",.int dp)])) x (.ins C dx [("form",v1),("deep",.int dp),("least",.int ls)])) q (.dK []) x=some (.ins C dx [("form",v1),("deep",.int dp),("least",.int ls)]):=by rw[bT (Ne.symm hqx)];exact bS
  have o5:=o4.pokeI (u:=.ins C dx [("form",v1),("deep",.int dp),("least",.int ls),("numbered",.ref q)]) hx4 hB i4 nd;have o6:=o5.pokeI (u:=.ins C dx [("form",v1),("deep",.int dp),("least",.int ls),("numbered",.ref q),("following",.int 0)]) hx4 hB bS nd;refine⟨.ref x,g0,x,C,dx,_,rfl,i4,hc,n4,(aD rfl),?_⟩;refine⟨.ref x,g0,x,C,dx,_,rfl,bS,hc,n5,(aD rfl),?_⟩;refine re _ ps _ (q::ps) _ _ _ _ o6 h λst v6 H6 s6 r6 q6=>?_;have i6:=s6 _ _ (bS (o:=HO.ins C dx [("form",v1),("deep",.int dp),("least",.int ls),("numbered",.ref q),("following",.int 0)]));have o7:=(o6.grow s6).pokeI (u:=.ins C dx (FY ⟨x,q,dx,fm,dp,ls⟩ v1 v6 ⟨[],0,st⟩)) hx4 hB i6 nd;refine⟨.ref x,g0,x,C,dx,_,rfl,i6,hc,n6,(aD rfl),?_⟩;refine k q st v6 _ o7.base hqx ?_ ?_ bS (r6.same (by rw[fB hx4];exact L2.aS.refl _)) q6
  ·rw[bT hqx,bT hqx,bT hqx]at hq;exact hq
  ·rw[bT hqx];exact s6 _ _ (by rw[bT hqx,bT hqx];exact bS)
section
variable{K:aF}{B H H':Hp}{p0 ps as:List Addr}{σT:List Sl}{σ:L2.St}
def Ok.wide(o:Ok K B p0 H ps σT σ)(s:aS H H')(hn:∀a∈as,H a=none)(hl:∀a∈as,yO (H' a)):Ok K B (as++p0) H' (as++ps) σT σ:=by
 have hm:aS (mask H ps) (mask H' (as++ps)):=λb u e=>by
  unfold mask at e |-
  by_cases hb:b∈ps
  ·rw[if_pos hb]at e;cases e
  ·rw[if_neg hb]at e;rw[if_neg λz=>(dL.mp z).elim (λz=>by rw[hn b z]at e;cases e) hb];exact s b u e
 refine⟨o.base.trans s,λp hp=>(dL.mp hp).elim (λz=>nZ _ z) λz=>cH _ (o.sub p z),λp hp=>?_,o.len,λi d h=>?_,λi ts h=>?_,o.dis,?_⟩
 ·rcases dL.mp hp with z | z
  ·exact hl p z
  ·obtain⟨u,h1,h2⟩:=o.live p z;exact⟨u,s p u h1,h2⟩
 ·obtain⟨v,h1,h2⟩:=o.val i d h;exact⟨v,h1,h2.same hm⟩
 ·obtain⟨p,xs,h1,h2,h3,h4,h5,h6⟩:=o.own i ts h;exact⟨p,xs,h1,cH _ h2,h3,λz=>(dL.mp z).elim (λz=>by rw[hn p z]at h5;cases h5) h4,s _ _ h5,h6.same hm⟩
 ·exact o.dc.to (λj hs kvs h=>⟨h,rfl⟩) (λp φ a b _=>⟨cH _ a,(s p _ b).trans b.symm⟩) (λp φ _ b c d=>⟨c,λz=>(dL.mp z).elim (λz=>by rw[hn p z]at b;cases b) d⟩) hm
end
section
variable{X:Cx}{C:Addr}{e:Expr}{es:List Expr}{x y:Str}{px p pos spos:Pos}{t:AT}{kD:List Stmt}{sp:oV}
def aD0{i:Nat}{u:SZ (lL C)}(ha:vK X (e::es) t)(pc:∀{ta},PA X (e::es) ta->PS X (.Assign [.Name y px] (.Call (.Name x p) (e::es) [] pos) spos) (tW (aAc C (AA C X.K sp) [] E0 ta) (lF i)))(hr:vI X kD u) :
  uA X (.Assign [.Name y px] (.Call (.Name x p) (e::es) [] pos) spos::kD) (λDT σ=>t σ λds=>∃(fm:D)(dp ls:Int),ds=[fm,.int dp,.int ls]/\sp ds λst=>∀T:Bk,T.fm=fm->T.dp=dp->T.ls=ls->u (mQ T) { nx:=λ_ _=>False,rt:=λ_=>DT.rt } ⟨[],0,st⟩ (σ.set i (.val (mQ T)))):=by
 obtain⟨va,pa,ra⟩:=ha;obtain⟨vr,pr,rr⟩:=hr;refine⟨_,mG (pc pa) pr,λB p0 H ps σT σ DT DV o h f=>?_⟩;refine ra B p0 H ps σT σ _ _ o h λds vs H1 s1 r1 q1=>?_;obtain⟨fm,dp,ls,rfl,q1⟩:=q1;intro x dx hx hdx hne
 cases r1 with
 |cons rf r1=>
 cases r1 with
 |cons rd r1=>
 cases r1 with
 |cons rl r1=>
 cases r1;cases rd;cases rl;rename_i v1;have o1:=o.grow s1;have hx':eS H1 dx (.own x) x=none:=by rw[bT (Ne.symm hne)];exact hx
 have hm:mask (eS (eS H1 dx (.own x)) x (.ins C dx [])) (x::ps)=mask (eS H1 dx (.own x)) ps:=kT hx'
 have live2:∀p∈x::ps,yO (eS (eS H1 dx (.own x)) x (.ins C dx []) p):=λp hp=>by
  by_cases z:p=x
  ·subst z;exact⟨_,bS,rfl⟩
  ·rw[bT z];obtain⟨w,h1,h2⟩:=o1.live p ((aN.mp hp).resolve_left z);exact⟨w,cZ hdx _ _ h1,h2⟩
 refine⟨x,dx,v1,dp,ls,x::ps,fm,_,rfl,aL ..,bS,live2,by rw[hm];exact rf.same (bH (cZ hdx)),q1,λq st v6 H' sH hqx hq hq' hx2 r6 q6=>⟨rfl,?_⟩⟩
 have hq1:H1 q=none:=by
  rw[bT hqx]at hq;exact aS.free' (cZ hdx) hq
 have s2:aS H1 H':=λa w e=>sH a w (by
  have hax:a≠x:=λz=>by rw[z,hx]at e;cases e
  unfold mask;rw[if_neg λz=>hax (bF.mp z),bT hax];exact cZ hdx _ _ e)
 have oW:Ok X.K B ([x,q]++p0) H' ([x,q]++ps) σT σ:=o1.wide s2 (λa ha=>by
  rcases aN.mp ha with rfl | ha
  ·exact hx
  ·rw[bF.mp ha];exact hq1) λa ha=>by
  rcases aN.mp ha with rfl | ha
  ·exact⟨_,hx2,rfl⟩
  ·rw[bF.mp ha];exact⟨_,hq',rfl⟩
 have hmw:aS (mask H1 ps) (mask H' ([x,q]++ps)):=λb w e=>by
  unfold mask at e |-
  by_cases hb:b∈ps
  ·rw[if_pos hb]at e;cases e
  ·rw[if_neg hb]at e
   rw[if_neg λz=>by
    rcases dL.mp z with z | z
    ·rcases aN.mp z with rfl | z
     ·rw[hx]at e;cases e
     ·rw[bF.mp z,hq1]at e;cases e
    ·exact hb z]
   exact s2 b w e
 have hper:aS (mask H' (q::x::ps)) (mask H' ([x,q]++ps)):=gF λa ha=>by
  rcases dL.mp ha with z | z
  ·rcases aN.mp z with rfl | z
   ·exact aI _ (aL ..)
   ·rw[bF.mp z];exact aL ..
  ·exact aI _ (aI _ z)
 have hB:∀a∈[x,q],B a=none:=λa ha=>by
  rcases aN.mp ha with rfl | ha
  ·exact aS.free' o1.base hx
  ·rw[bF.mp ha];exact aS.free' o1.base hq1
 have oz:lY (lL C) X.K B ([x,q]++p0) H' ([x,q]++ps) (σT.set i (.val (mQ ⟨x,q,dx,fm,dp,ls⟩))) (σ.set i (some (.ref x))) ⟨x,q,dx,fm,dp,ls⟩ ⟨[],0,st⟩:=
  ⟨oW.set (A9 _),λa ha=>nZ _ ha,hB,⟨Ne.symm hqx,v1,v6,[],hx2,hq',rf.same hmw,r6.same hper,.nil⟩⟩
 exact rr B ([x,q]++p0) H' ([x,q]++ps) _ _ ⟨x,q,dx,fm,dp,ls⟩ _ _ DV oz (q6 _ rfl rfl rfl) ⟨λ_ _ _ _ _ _ _ q'=>q'.elim,λ_ _ _ _ _ _ _ q'=>q'.elim,λ_ _ _ _ _ _ _ q'=>q'.elim,λn' d v H2 s' t' r' q'=>f.rt d v H2 s' (r'.same (gF λa ha=>cH _ ha)) q',True.intro⟩
end
end TL
namespace L2
def CF(f:Array Value->Array Value)(o:Obj):(Obj.mapFields f o).dict=o.dict:=by
 unfold Obj.mapFields;split<;>rfl
structure uJ(h:Heap)(e T:Addr)(dx:Option Addr)(cls a0 fl:Value):Prop where
 ne:T≠e
 ex:∃o vs,h.get? e=some o/\o.cls=cls/\o.dict=dx/\o.data=.fields vs/\vs[0]?=some a0/\vs[1]?=some (.ref T)
 tr:∃o ts,h.get? T=some o/\o.data=.fields ts/\ts[3]?=some fl
structure fM(fr ch:List Addr)(h h':Heap):Prop where
 keep:∀b o,h.get? b=some o->b∉fr->b∉ch->h'.get? b=some o
 slot:∀b o,h.get? b=some o->b∈fr->b∉ch->∃sl,h'.get? b=some { o with slots:=sl }
def fM.of{fr ch}{h h':Heap}(k:∀b o,h.get? b=some o->b∉ch->h'.get? b=some o):fM fr ch h h':=⟨λb o e _ c=>k b o e c,λb o e _ c=>⟨o.slots,k b o e c⟩⟩
def fM.any{fr ch}{h h':Heap}(x:fM fr ch h h'){b:Addr}{o}(e:h.get? b=some o)(c:b∉ch):∃sl,h'.get? b=some { o with slots:=sl }:=by
 by_cases f:b∈fr
 ·exact x.slot b o e f c
 ·exact⟨o.slots,x.keep b o e f c⟩
def fM.trans{fr ch h1 h2 h3}(x:fM fr ch h1 h2)(y:fM fr ch h2 h3):fM fr ch h1 h3:=by
 refine⟨λb o e f c=>y.keep b o (x.keep b o e f c) f c,λb o e f c=>?_⟩;obtain⟨sl,e1⟩:=x.slot b o e f c;obtain⟨sl2,e2⟩:=y.slot b _ e1 f c;exact⟨sl2,e2⟩
def fM.more{fr ch ch' h h'}(x:fM fr ch h h')(m:∀b∈ch,b∈ch'):fM fr ch' h h':=⟨λb o e f c=>x.keep b o e f λz=>c (m b z),λb o e f c=>x.slot b o e f λz=>c (m b z)⟩
def fM.frames{fr ch}{base h h':Heap}(x:fM fr ch h h'){l}(hl:h.FunFrames base l)(c:∀b∈oE l,b∉ch):h'.FunFrames base l:=by
 induction l with
 |nil=>trivial
 |cons v r ih=>
  obtain⟨hk,⟨L,o,hf,hn,ho,hd⟩,hr⟩:=hl
  have hm:L∈oE (v::r):=by
   show L∈(v::r).filterMap (·.frame);rw[jV,hf];exact aL ..
  obtain⟨sl,e⟩:=x.any ho (c L hm);refine⟨hk,⟨L,_,hf,hn,e,hd⟩,ih hr λb hb=>c b ?_⟩;show b∈(v::r).filterMap (·.frame);rw[jV,hf];exact aI _ hb
section
variable{P:cC}{w:World}{A:Around}{E:Value->Shared->Prop}{s:Shared}{base:Heap}{v:Env}{outer:List Env}{L e:Addr}{Q:Unit->Shared->Prop}
def CA{o:Obj}{vs:Array Value}{hd0}{nx:Bool}(hA:A.frames=some (v::outer))(hl:s.heap.FunFrames base (v::outer))(hL:v.frame=some L)(he:s.heap.get? e=some o)(hd:o.data=.fields vs)(hz:1<vs.size)(hef:e∉oE (v::outer))
  (k:∀h' T,s.heap.objs.size<=T->T≠e->fM (oE (v::outer)) [e] s.heap h'->(∃o',h'.get? e=some o'/\o'.cls=o.cls/\o'.dict=o.dict/\o'.data=.fields (vs.setIfInBounds 1 (.ref T)))->(∃oT ts,h'.get? T=some oT/\oT.data=.fields ts/\ts[3]?=some (rawInt L))->Q () { s with heap:=h' }) :
  wpAny (model P w) A (do let a <- frameOf v;let pl <- entryPlaceOf L nx;let b <- EntryCells.newEntry hd0 a .none (rawInt L) .none pl;setField (.ref e) 1 b) Q E s:=by
 apply aG;refine wpAny_frameOf_fun hA hl hL λh1 so=>?_;apply aG;refine wpAny_entryPlaceOf λpl okp=>?_;unfold EntryCells.newEntry newFields;apply aG;refine iS ?_ (okp.sizeOk5 _ _ _ _ _);have e1:h1.get? e=some o:=(so.2.1 e hef).trans he
 generalize hob:({ cls:=.type "traceback",dict:=none,data:=.fields ([hd0,.ref L,.none,rawInt L,.none]++(if pl.isEmpty then EN 6 Value.none else pl)).toArray }:Obj)=ob
 have e2:(h1.push ob).get? e=some o:=aC _ e1;refine wpAny_setField e2 hd hz ?_;have ne:h1.objs.size≠e:=iV (aV e1);have d3:=Obj.data_mapFields hd (·.setIfInBounds 1 (Value.ref h1.objs.size));have e3:=nI (Obj.mapFields (·.setIfInBounds 1 (Value.ref h1.objs.size))) e2 (Obj.isFreed_of_fields d3)
 have hT:((h1.push ob).update e (Obj.mapFields (·.setIfInBounds 1 (Value.ref h1.objs.size)))).get? h1.objs.size=some ob:=by
  rw[fL _ _ (Ne.symm ne)];refine aR h1 ?_;rw[<- hob];rfl
 refine k _ h1.objs.size (by rw[so.1];exact aM _) ne ⟨λb u eb f c=>?_,λb u eb f c=>?_⟩ ⟨_,e3,Obj.cls_mapFields _ _,CF _ _,d3⟩ ⟨ob,_,hT,by rw[<- hob],?_⟩
 ·have hbe:b≠e:=λz=>c (by rw[z];exact aL ..);rw[fL _ _ (Ne.symm hbe)];exact aC _ ((so.2.1 b f).trans eb)
 ·have hbe:b≠e:=λz=>c (by rw[z];exact aL ..);obtain⟨sl,es⟩:=so.2.2 b u eb;refine⟨sl,?_⟩;rw[fL _ _ (Ne.symm hbe)];exact aC _ es
 ·rcases okp with rfl | ⟨_,_,_,_,_,_,_,rfl⟩<;>simp
def KA{o:Obj}{vs a0}(hA:A.frames=some (v::outer))(hl:s.heap.FunFrames base (v::outer))(hL:v.frame=some L)(he:s.heap.get? e=some o)(hd:o.data=.fields vs)(h1:vs[1]?=some .none)(h0:vs[0]?=some a0)(hef:e∉oE (v::outer))
  (k:∀h' T,s.heap.objs.size<=T->fM (oE (v::outer)) [e] s.heap h'->uJ h' e T o.dict o.cls a0 (rawInt L)->Q () { s with heap:=h' }):wpAny (model P w) A (noteFrame (.ref e) v) Q E s:=by
 unfold noteFrame;simp only[hL];apply aG;refine wpAny_field he hd h1 ?_;rw[if_neg (by decide)];have hz:1<vs.size:=(lD.mp h1).1;refine CA hA hl hL he hd hz hef λh' T n1 n2 kb hx hT=>k h' T n1 kb ⟨n2,?_,hT⟩;obtain⟨o',x1,x2,xd,x3⟩:=hx;exact⟨o',_,x1,x2,xd,x3,by rw[yU (by decide)];exact h0,by simp[hz]⟩
def xJ{T:Addr}{dx cls a0}(hA:A.frames=some (v::outer))(hl:s.heap.FunFrames base (v::outer))(hL:v.frame=some L)(x:uJ s.heap e T dx cls a0 .none)(hef:e∉oE (v::outer))(hTf:T∉oE (v::outer))
  (k:∀h' T',s.heap.objs.size<=T'->fM (oE (v::outer)) [e,T] s.heap h'->uJ h' e T' dx cls a0 (rawInt L)->Q () { s with heap:=h' }):wpAny (model P w) A (noteFrame (.ref e) v) Q E s:=by
 obtain⟨ne,⟨o,vs,he,hc,hdx,hd,h0,h1⟩,⟨oT,ts,hT,hdT,h3⟩⟩:=x;unfold noteFrame;simp only[hL];apply aG;refine wpAny_field he hd h1 ?_;rw[if_pos (show(Value.ref T != Value.none)=true from rfl)];apply aG;refine wpAny_field hT hdT h3 ?_;rw[if_neg (show¬((Value.none==rawInt L)=true) by simp[rawInt])];apply aG;refine wpAny_setField hT hdT (lD.mp h3).1 ?_;have oth:∀b,b≠T->(s.heap.update T (Obj.mapFields (·.setIfInBounds 3 Value.none))).get? b=s.heap.get? b:=λb hb=>fL _ _ (Ne.symm hb);have kb0:fM (oE (v::outer)) [T] s.heap (s.heap.update T (Obj.mapFields (·.setIfInBounds 3 Value.none))):=.of λb u eb c=>(oth b λz=>c (by rw[z];exact aL ..)).trans eb;have hz:1<vs.size:=(lD.mp h1).1;refine CA (s:={ s with heap:=s.heap.update T (Obj.mapFields (·.setIfInBounds 3 Value.none)) }) hA (kb0.frames hl λb hb z=>hTf (by rw[<- bF.mp z];exact hb)) hL ((oth e (Ne.symm ne)).trans he) hd hz hef λh' T' n1 n2 kb hx hT'=>?_;have n1':s.heap.objs.size<=T':=bK (kI (AN ..).symm) n1;refine k h' T' n1' ((kb0.more λb hb=>by simp at hb |-;exact .inr hb).trans (kb.more λb hb=>by simp at hb |-;exact .inl hb)) ⟨n2,?_,hT'⟩;obtain⟨o',x1,x2,xd,x3⟩:=hx;exact⟨o',_,x1,x2.trans hc,xd.trans hdx,x3,by rw[yU (by decide)];exact h0,by simp[hz]⟩
def mW{T:Addr}{dx cls a0 fl}(x:uJ s.heap e T dx cls a0 fl)(k:∀h',(∀b o,s.heap.get? b=some o->b≠T->h'.get? b=some o)->uJ h' e T dx cls a0 .none->Q () { s with heap:=h' }):wpAny (model P w) A (setFlight (.ref e) none) Q E s:=by
 obtain⟨ne,⟨o,vs,he,hc,hdx,hd,h0,h1⟩,⟨oT,ts,hT,hdT,h3⟩⟩:=x;have hz:3<ts.size:=(lD.mp h3).1;unfold setFlight;apply aG;refine wpAny_field he hd h1 ?_;rw[if_pos (show(Value.ref T != Value.none)=true from rfl)];refine wpAny_setField hT hdT hz (k _ (λb u eb hb=>(fL _ _ (Ne.symm hb)).trans eb) ⟨ne,⟨o,vs,(fL _ _ ne).trans he,hc,hdx,hd,h0,h1⟩,_,_,nI _ hT (Obj.isFreed_of_fields (Obj.data_mapFields hdT _)),Obj.data_mapFields hdT _,by simp[hz]⟩)
def HH{o:Obj}{vs a0}(hA:A.frames=some (v::outer))(hl:s.heap.FunFrames base (v::outer))(hL:v.frame=some L)(he:s.heap.get? e=some o)(hd:o.data=.fields vs)(h1:vs[1]?=some .none)(h0:vs[0]?=some a0)(hef:e∉oE (v::outer))
  (k:∀h' T,s.heap.objs.size<=T->fM (oE (v::outer)) [e] s.heap h'->uJ h' e T o.dict o.cls a0 .none->Q () { s with heap:=h' }):wpAny (model P w) A (leaving v (.ref e)) Q E s:=by
 unfold leaving;apply aG;refine KA hA hl hL he hd h1 h0 hef λh1 T n1 kb x=>?_;refine mW (s:={ s with heap:=h1 }) x λh2 k2 x2=>k h2 T n1 ⟨λb u eb f c=>?_,λb u eb f c=>?_⟩ x2
 ·exact k2 b u (kb.keep b u eb f c) λz=>absurd (bR (aV eb) n1) (by rw[z];exact eK _)
 ·obtain⟨sl,es⟩:=kb.slot b u eb f c;exact⟨sl,k2 b _ es λz=>absurd (bR (aV eb) n1) (by rw[z];exact eK _)⟩
def KM{T:Addr}{dx cls a0}(hA:A.frames=some (v::outer))(hl:s.heap.FunFrames base (v::outer))(hL:v.frame=some L)(x:uJ s.heap e T dx cls a0 .none)(hef:e∉oE (v::outer))(hTf:T∉oE (v::outer))
  (k:∀h' T',s.heap.objs.size<=T'->fM (oE (v::outer)) [e,T] s.heap h'->uJ h' e T' dx cls a0 .none->Q () { s with heap:=h' }):wpAny (model P w) A (leaving v (.ref e)) Q E s:=by
 unfold leaving;apply aG;refine xJ hA hl hL x hef hTf λh1 T' n1 kb x=>?_;refine mW (s:={ s with heap:=h1 }) x λh2 k2 x2=>k h2 T' n1 ⟨λb u eb f c=>?_,λb u eb f c=>?_⟩ x2
 ·exact k2 b u (kb.keep b u eb f c) λz=>absurd (bR (aV eb) n1) (by rw[z];exact eK _)
 ·obtain⟨sl,es⟩:=kb.slot b u eb f c;exact⟨sl,k2 b _ es λz=>absurd (bR (aV eb) n1) (by rw[z];exact eK _)⟩
end
section
variable{P:cC}{w:World}{H H':Hp}{h h0 h':Heap}{a:Addr}{o:HO}{fr fr' ch:List Addr}
theorem iE.get(x:iE P w H h a o):∃u,h.get? a=some u:=by
 cases o with
 |lst xs=>obtain⟨_,_,_,_,e⟩:=x;exact⟨_,e⟩
 |tup xs=>obtain⟨_,_,_,_,e,_⟩:=x;exact⟨_,e⟩
 |dK kvs=>obtain⟨_,_,_,_,o,_,_,e,_⟩:=x;exact⟨_,e⟩
 |dT kvs=>obtain⟨_,_,_,_,o,_,_,e,_⟩:=x;exact⟨_,e⟩
 |set S n=>obtain⟨o,_,_,_,e,_⟩:=x;exact⟨_,e⟩
 |ins C dx fs=>obtain⟨_,_,_,e,_⟩:=x;exact⟨_,e⟩
 |own y=>obtain⟨_,e⟩:=x;exact⟨_,e⟩
 |xd fs=>obtain⟨_,⟨_,_,_,e,_⟩,_⟩:=x;exact⟨_,e⟩
 |rng lo hi=>obtain⟨_,_,_,e⟩:=x;exact⟨_,e⟩
 |frz ob u=>obtain⟨e,_⟩:=x;exact⟨_,e⟩
 |tbl ps=>obtain⟨_,e,_⟩:=x;exact⟨_,e⟩
 |met f y=>exact⟨_,(show h.get? a=some _ from x)⟩
 |ext φ=>obtain⟨_,⟨_,e⟩,_⟩:=x;exact⟨_,e⟩
def oF.out(x:oF P w H h)(e:h.get? a=none):H a=none:=by
 cases q:H a with
 |none=>rfl
 |some u=>obtain⟨_,z⟩:=(x a u q).get;rw[e]at z;cases z
def oF.butX(x:oF P w H h)(kb:fM fr ch h h')(hf:∀b∈fr,H b=none)(hc:∀b∈ch,H b=none):oF P w H h':=λa o e=>by
 refine(x a o e).stay (λb u hb q=>?_) (λ_ q=>q) λ_ _ q=>q
 have hn:H b≠none:=by
  rcases hb with rfl | hb
  ·rw[e];exactλz=>nomatch z
  ·rw[hb];exactλz=>nomatch z
 exact kb.keep b u q (λz=>hn (hf b z)) λz=>hn (hc b z)
def Un.but(u:Un fr [] H H' h0 h)(kb:fM fr' ch h h')(nw:∀b o,h0.get? b=some o->b∉ch/\(b∈fr'->b∈fr)):Un fr [] H H' h0 h' where
 keep:=λb o e n f x=>kb.keep b o (u.keep b o e n f x) (λz=>f ((nw b o e).2 z)) (nw b o e).1
 slot:=λb o e n f x=>by
  obtain⟨sl,e1⟩:=u.slot b o e n f x;obtain⟨sl2,e2⟩:=kb.any e1 (nw b o e).1;exact⟨sl2,e2⟩
 free:=u.free
 there:=λb o e x=>by
  obtain⟨o',e1⟩:=u.there b o e x;obtain⟨sl2,e2⟩:=kb.any e1 (nw b o e).1;exact⟨_,e2⟩
 tups:=u.tups
 frzs:=u.frzs
 tbls:=u.tbls
end
def V9(P:cC)(w:World):V8:=λouter H s E e s'=>∃ea T dx cls a0 H',e=.ref ea/\s'.os=s.os/\AllBare s'.gens/\Un (oE outer) [] H H' s.heap s'.heap/\oF P w H' s'.heap /\
 uJ s'.heap ea T dx cls a0 .none/\H' ea=none/\H' T=none/\s.heap.get? ea=none/\s.heap.get? T=none/\(∀a,dx=some a->s.heap.get? a=none)/\E cls dx H'
section
variable{P:cC}{w:World}{K:aF}{mg:Str->Option Value}{base:Heap}{N:List Str}{qual:Str}{scope:Scope}{f:Addr}{cd:Value}{A:Around}{outer:List Env}{s:Shared}{H:Hp}{E:XK}
noncomputable abbrev NB(P:cC)(w:World)(K:aF)(mg:Str->Option Value)(base:Heap)(N:List Str)(qual:Str)(scope:Scope)(f:Addr)(cd:Value)(A:Around)(outer:List Env)(s:Shared)(H:Hp)(E:XK):Cx:=qB (V9 P w) P w K mg base N qual scope f cd A outer s H E
def Z9{pins σ}{H1:Hp}{s1 s2:Shared}{ea:Addr}{ch dx cls a0}(I:cN (NB P w K mg base N qual scope f cd A outer s H E) pins σ H1 s1)(hen:s.heap.get? ea=none)(hE:E cls dx H1)(hh:H1 ea=none)
  (hos:s2.os=s1.os) (hg:s2.gens=s1.gens) (hk:fM (oE (envOfC qual scope s.heap.objs.size f cd::outer)) ch s1.heap s2.heap) (hch:∀b∈ch,H1 b=none/\s.heap.get? b=none) {T:Addr} (x:uJ s2.heap ea T dx cls a0 .none) (hT:H1 T=none) (hTn:s.heap.get? T=none) (hdn:∀a,dx=some a->s.heap.get? a=none) :
  V9 P w outer H s E (.ref ea) s2:=by
 refine⟨ea,T,dx,cls,a0,H1,rfl,hos.trans I.os,by rw[hg];exact I.bare,Un.but I.base hk λb o e=>⟨λz=>?_,λz=>?_⟩,I.hok.butX hk (λb hb=>I.stkFree b hb) λb hb=>(hch b hb).1,x,hh,hT,hen,hTn,hdn,hE⟩
 ·rw[(hch b z).2]at e;cases e
 ·have z':b∈s.heap.objs.size::oE outer:=I.stkSub b z;rcases aN.mp z' with q | q
  ·rw[q]at e;exact absurd (aV e) (eK _)
  ·exact q
def aH7:sQ (V9 P w) (NB P w K mg base N qual scope f cd A outer s H E) E:=by
 intro pins σ H1 s1 e s2 I hx;obtain⟨ea,T,dx,cls,a0,H2,rfl,os,bare,un,hok,x,n1,n2,n3,n4,n5,hE⟩:=hx;have I2:cN (NB P w K mg base N qual scope f cd A outer s H E) pins σ H2 s2:=I.call' (ch:=[]) os un hok bare λb z=>absurd z (by simp)
 have hout:∀b,s1.heap.get? b=none->b∉oE (envOfC qual scope s.heap.objs.size f cd::outer):=λb hb z=>by
  obtain⟨_,o,ho,_⟩:=I.stack.mem z;rw[hb]at ho;cases ho
 have old:∀b,s1.heap.get? b=none->s.heap.get? b=none:=λb hb=>by
  cases q:s.heap.get? b with
  |none=>rfl
  |some o=>obtain⟨o',z⟩:=I.base.there b o q (λz=>absurd z (by simp[qB]));rw[hb]at z;cases z
 show wpAny (model P w) (A.deeper (envOfC qual scope s.heap.objs.size f cd)) (leaving (envOfC qual scope s.heap.objs.size f cd) (.ref ea)) _ _ s2;refine KM (base:=base) (outer:=outer) I.ok.frames I2.stack rfl x (hout ea n3) (hout T n4) λh' T' sz kb x'=>?_;have hT':s2.heap.get? T'=none:=lH sz;refine Z9 (s2:={ s2 with heap:=h' }) I2 (old ea n3) hE n1 rfl rfl kb (λb hb=>?_) x' (hok.fresh sz) ?_ λa z=>old a (n5 a z)
 ·simp only[aN,bV,or_false]at hb;rcases hb with rfl | rfl
  ·exact⟨n1,old _ n3⟩
  ·exact⟨n2,old _ n4⟩
 ·cases q:s.heap.get? T' with
  |none=>rfl
  |some o=>obtain⟨o',z⟩:=I2.base.there T' o q (λz=>absurd z (by simp[qB]));rw[hT']at z;cases z
end
def aF5(K:aF)(C:Addr):Prop:=∃nm q N bs hdct sn sub ab col dd k0 k1 k2 k3 k5 J c0 dJ cdJ slJ,
 K.lookup C=some (excClassObj nm q C N bs (.ref J::[.type "ValueError",.type "Exception",.type "BaseException",.type "object"]) hdct sn sub ab col dd k0 k1 k2 k3 k5 "ValueError.__new__") /\
 sR K N=true/\eX K N "__init__"=some none/\K.lookup J=some ⟨c0,dJ,.cls cdJ,slJ⟩/\sR K cdJ.ns=true/\eX K cdJ.ns "__init__"=some none
def MB{K:aF}{h:Heap}{N:Addr}{m:Str->Option Value}{n}(X:K.In h)(G:h.Ns N m)(e:eX K N n=some none):m n=none:=by
 obtain⟨o,es,ep,ho,hd,_,hf⟩:=G;unfold eX at e;split at e
 ·rename_i q;have z:=X _ _ q;rw[ho]at z;cases z;cases hd;split at e
  ·cases e
  ·rename_i he;rw[<- hf];unfold nsFind findBy;rw[<- P1,he]
   rfl
 ·cases e
def MC{h h':Heap}{N:Addr}{m:Str->Option Value}(G:h.Ns N m)(k:∀b o,h.get? b=some o->h'.get? b=some o):h'.Ns N m:=let ⟨o,es,ep,ho,r⟩:=G;⟨o,es,ep,k _ _ ho,r⟩
def Q5(C:Addr)(E:XK)(t:TA):TS:=λ_ σ H=>t σ H λvs H1=>vs.length<=bE/\E (.ref C) none H1
section
variable{P:cC}{w:World}{K:aF}{mg:Str->Option Value}{base:Heap}{N:List Str}{qual:Str}{scope:Scope}{f:Addr}{cd:Value}{A:Around}{outer:List Env}{s:Shared}{H:Hp}{E:XK}
def G5{C:Addr}{k:Nat}{x:Str}{np cpos pos e es t}(R:aF5 K C)(hr:gM k (A.deeper (envOfC qual scope s.heap.objs.size f cd)))(hg:Gl (NB P w K mg base N qual scope f cd A outer s H E) x)(hm:mg x=some (.ref C))
  (ha:PA (NB P w K mg base N qual scope f cd A outer s H E) (e::es) t) (hd:(x==("__debug__":Str))=false:=by decide)
  (he:bL (e::es) (envOfC qual scope s.heap.objs.size f cd)=(false,eval e (envOfC qual scope s.heap.objs.size f cd))::bL es (envOfC qual scope s.heap.objs.size f cd):=by rfl)
  (hpl:(backTo cpos (bL (e::es) (envOfC qual scope s.heap.objs.size f cd))).any (·.1)=false:=by rfl) :
  PS (NB P w K mg base N qual scope f cd A outer s H E) (.Raise (some (.Call (.Name x np) (e::es) [] cpos)) none pos) (Q5 C E t):=by
 intro pins s1 σ H1 D I h;obtain⟨nm,q,NC,bs,hdct,sn,sub,ab,col,dd,k0,k1,k2,k3,k5,J,c0,dJ,cdJ,slJ,lC,nC,iC,lJ,nJ,iJ⟩:=R;have gC:=WF.of_isNs (LF I.mod.kin nC);have gJ:=WF.of_isNs (LF I.mod.kin nJ);have vC:=MB I.mod.kin gC iC;have vJ:=MB I.mod.kin gJ iJ;refine wpAny_Raise_call_subT F.excBase_ValueError (C:=C) (nm:=nm) (q:=q) (N:=NC) (bs:=bs) (bm:=.ref J::[.type "ValueError",.type "Exception",.type "BaseException",.type "object"]) (hdct:=hdct) (sn:=sn) (sub:=sub) (ab:=ab) (col:=col) (dd:=dd) (k0:=k0) (k1:=k1) (k2:=k2) (k3:=k3) (k5:=k5) (by rfl) hr.hd hpl vC (qU I hg hm ⟨rfl,?_⟩ hd);rw[show(NB P w K mg base N qual scope f cd A outer s H E).env=envOfC qual scope s.heap.objs.size f cd from rfl,he];refine Calls.evalArgs_plain ?_;have hp:=ha cpos pins s1 σ H1 _ I h;rw[show(NB P w K mg base N qual scope f cd A outer s H E).env=envOfC qual scope s.heap.objs.size f cd from rfl,he]at hp;refine dY hp (λus s2 hz=>?_) λ_ _ z=>z;obtain⟨vs,H2,I2,r,hl,hE⟩:=hz;refine⟨rfl,by rw[<- r.length];exact hl,I2.kIn _ _ lC,MC gC I2.bk,.own (I2.kIn _ _ lJ) (MC gJ I2.bk) vJ .base,λh' ea hm=>?_⟩;have hok':=I2.hok.kept hm.keeps;have I3:cN (NB P w K mg base N qual scope f cd A outer s H E) pins σ H2 { s2 with heap:=h' }:=I2.un (t':=s2.toks) (Un.kept hm.keeps) hok';obtain⟨t',he',_,_⟩:=hm.there;have hn:H2 ea=none:=I2.hok.out hm.new
 have hout:ea∉oE (envOfC qual scope s.heap.objs.size f cd::outer):=λz=>by
  obtain⟨_,o,ho,_⟩:=I2.stack.mem z;rw[hm.new]at ho;cases ho
 have old:∀b,s2.heap.get? b=none->s.heap.get? b=none:=λb hb=>by
  cases q:s.heap.get? b with
  |none=>rfl
  |some o=>obtain⟨o',z⟩:=I2.base.there b o q (λz=>absurd z (by simp[qB]));rw[hb]at z;cases z
 show wpAny (model P w) (A.deeper (envOfC qual scope s.heap.objs.size f cd)) (leaving (envOfC qual scope s.heap.objs.size f cd) (.ref ea)) _ _ { s2 with heap:=h' };refine HH (base:=base) (outer:=outer) (s:={ s2 with heap:=h' }) I.ok.frames I3.stack rfl he' rfl rfl rfl hout λh'' T sz kb x'=>?_;refine Z9 (s2:={ s2 with heap:=h'' }) I3 (old ea hm.new) hE hn rfl rfl kb (λb hb=>?_) x' (hok'.fresh sz) ?_ (λa z=>nomatch z)
 ·simp only[aN,bV,or_false]at hb;subst hb;exact⟨hn,old _ hm.new⟩
 ·cases q:s.heap.get? T with
  |none=>rfl
  |some o=>obtain⟨o',z⟩:=I3.base.there T o q (λz=>absurd z (by simp[qB]));rw[show({ s2 with heap:=h' }:Shared).heap.get? T=none from lH sz]at z;cases z
end
def RS(X:Cx)(st:Stmt)(rt:St->Hp->(Hp->XK)->Prop):Prop:=∀pins s σ H(W:Hp->XK),cN X pins σ H s->rt σ H W ->
 wpAny (model X.prog X.w) X.A (exec st X.env) (λ_ _=>False) (λe s'=>∃H1 s1,cN X pins σ H1 s1/\V9 X.prog X.w X.stack H1 s1 (W H1) e s') s
def RE(X:Cx)(e:Expr)(rt:St->Hp->(Hp->XK)->Prop):Prop:=∀pins s σ H(W:Hp->XK),cN X pins σ H s->rt σ H W ->
 wpAny (model X.prog X.w) X.A (eval e X.env) (λ_ _=>False) (λe s'=>∃H1 s1,cN X pins σ H1 s1/\V9 X.prog X.w X.stack H1 s1 (W H1) e s') s
def IU(X:Cx):Prop:=∀e s,¬X.xe e s
section
variable{X:Cx}{pos:Pos}{e:Expr}
def R8{rt:St->Hp->(Hp->XK)->Prop}{y pos'}(h:RE X e rt)(hs:kH e (some (.Name y pos')) pos.line X.env=pure false:=by rfl):RS X (.Assign [.Name y pos'] e pos) rt:=by
 intro pins s σ H W I hq;exact wpAny_Assign_Name (iU (h pins s σ H W I hq) λv s1 z=>z.elim) hs
end
noncomputable abbrev Cx.marked(X:Cx)(ea:Addr):Cx:={ X with A:=X.A.mark (some (.ref ea)),calm:=false }
section
variable{X:Cx}{pins:List (Addr×Obj)}{σ:St}{H:Hp}{s:Shared}{ea:Addr}
def cN.mark(I:cN X pins σ H s)(ea:Addr):cN (X.marked ea) pins σ H s:=
 ⟨⟨I.ok.mod,I.ok.kind,I.ok.glob,I.ok.blt,I.ok.above,I.ok.inj,I.ok.has,I.ok.cab,(λz=>nomatch z),I.ok.frames,I.ok.stk,I.ok.exf,I.ok.bs,I.ok.bsz,I.ok.noex,I.ok.exfs,I.ok.funs,I.ok.frf,I.ok.tab⟩,I.os,I.bare,I.base,I.loc,I.cell,I.free,I.freeC,I.pin,I.hok,I.len⟩
def cN.unmark{σ' H' s'}(I:cN X pins σ H s)(J:cN (X.marked ea) pins σ' H' s'):cN X pins σ' H' s':=⟨I.ok,J.os,J.bare,J.base,J.loc,J.cell,J.free,J.freeC,J.pin,J.hok,J.len⟩
def MQ{M A}{E:Value->Shared->Prop}{i:Nat}{n pos}{Q:Unit->Shared->Prop}(I:cN X pins σ H s)(hN:X.N.Nodup)(hi:X.N[i]?=some n)(hx:X.env.scope.names.lookup n=some .local)
  (h:∀s',cN X pins (σ.set i none) H s'->Q () s'):wpAny M A (do bindName X.env n .none;unbindBehindTheSuite X.env n pos) Q E s:=by
 obtain⟨m,hn,hl⟩:=id I.loc;have hcls:(X.env.scope.kind==.class||(X.env.scope.kind==.module&&X.env.locals != X.env.globals))=false:=by rw[I.ok.kind];rfl
 have hiσ:i<σ.length:=by rw[I.len];exact(aH.mp hi).1
 have cne:=I.cne;refine wpAny_nameGoes_keeps hx hn hcls λh' v hn' hs=>?_;have low:∀b o,X.s₀.heap.get? b=some o->b≠X.env.locals:=λb o e=>cO (bR (aV e) I.ok.above);refine h _ ⟨I.ok,I.os,I.bare,⟨λb o e n hb hx=>?_,λb o e n hb hx=>?_,I.base.free,λb o e hx=>?_,I.base.tups,I.base.frzs,I.base.tbls⟩,⟨_,hn',λj y v' e1 e2 e3=>?_⟩,λy c e=>?_,I.free,I.freeC,λp hp=>?_,λb ob e=>?_,by simpa using I.len⟩
 ·exact(hs.2 b (low b o e)).trans (I.base.keep b o e n hb hx)
 ·obtain⟨sl,e1⟩:=I.base.slot b o e n hb hx;exact⟨sl,(hs.2 b (low b o e)).trans e1⟩
 ·obtain⟨o',e1⟩:=I.base.there b o e hx;exact⟨o',(hs.2 b (low b o e)).trans e1⟩
 ·have hj:j≠i:=λz=>by
   rw[z,bB hiσ]at e2;cases e2
  rw[aU (Ne.symm hj)]at e2;obtain⟨u',r',q⟩:=hl j y v' e1 e2 e3;have hy:y≠n:=λz=>hj (BK hN (z▸e1) hi);refine⟨u',r',?_⟩;rcases q with⟨k,e⟩ | ⟨k,c,e,o,z,zd⟩
  ·exact .inl ⟨k,by show(if y=n then v else m y)=_;rw[if_neg hy];exact e⟩
  ·exact .inr ⟨k,c,e,o,(hs.2 c (cne y c e)).trans z,zd⟩
 ·obtain⟨w',o,z,zd⟩:=I.cell y c e;exact⟨w',o,(hs.2 c (cne y c e)).trans z,zd⟩
 ·obtain⟨p1,p2,p3,p4,p5⟩:=I.pin p hp;exact⟨(hs.2 p.1 p3).trans p1,p2,p3,p4,p5⟩
 ·refine(I.hok b ob e).stay (λc w' hc q=>(hs.2 c ?_).trans q) (λ_ q=>q) λ_ _ q=>q;rintro rfl;rcases hc with rfl | hc
  ·rw[I.free]at e;cases e
  ·rw[I.free]at hc;cases hc
def oF.track{P w H h}{a:Addr}{o}(x:oF P w H h)(hn:H a=none)(new:iE P w (eS H a o) h a o):oF P w (eS H a o) h:=λb u e=>by
 by_cases hb:b=a
 ·subst hb;rw[bS]at e;cases e;exact new
 ·rw[bT hb]at e;exact(x b u e).stay (λc v _ q=>q) (λc q=>by rw[bT (eJ q hn)];exact q) (λc xs q=>by rw[bT (eJ q hn)];exact q) λc ob v q=>by rw[bT (eJ q hn)];exact q
def Un.track{fr H H'}{h h':Heap}{a:Addr}{o}(u:Un fr [] H H' h h')(hn:H' a=none)(hf:h.get? a=none):Un fr [] H (eS H' a o) h h' where
 keep:=u.keep
 slot:=u.slot
 free:=λb ob e n x=>by
  rw[bT λz=>by rw[z,hf]at e;cases e];exact u.free b ob e n x
 there:=u.there
 tups:=λb xs e=>by have z:=u.tups b xs e;rw[bT (eJ z hn)];exact z
 frzs:=λb ob v e=>by have z:=u.frzs b ob v e;rw[bT (eJ z hn)];exact z
 tbls:=λb q e=>by
  obtain⟨more,z⟩:=u.tbls b q e;exact⟨more,by rw[bT (eJ z hn)];exact z⟩
def aAb(K:aF)(J:Addr)(i:Nat)(rt:St->Hp->(Hp->XK)->Prop)(ts:Addr->TS):TS:=λD σ H=>rt σ H λH1 cls dx H2=>eD K cls (.ref J)=some true /\
 ∃C,cls=.ref C/\∀ea,H1 ea=none->H2 ea=none->(∀a,dx=some a->H1 a=none)->ts ea { nx:=λσ' H'=>D.nx (σ'.set i none) H',rt:=λ_ _=>False } (σ.set i (some (.ref ea))) (eS H2 ea (.ext (TL.nB ea C dx)))
def X0{J:Addr}{i:Nat}{n jn:Str}{jp hp pos st b0 suite hs'}{rt:St->Hp->(Hp->XK)->Prop}{ts:Addr->TS}(hq:IU X)(hst:X.stack=X.env::X.outer)(hfr:X.env.frame=some X.env.locals)(hN:X.N.Nodup)(hi:X.N[i]?=some n)(hx:X.env.scope.names.lookup n=some .local)(hg:Gl X jn)(hm:X.mg jn=some (.ref J))
  (hs:RS X st rt) (hb:∀ea,yN (X.marked ea) (b0::suite) (ts ea)) (hd:(jn==("__debug__":Str))=false:=by decide) :
  PS X (.Try [st] (.ExceptHandler (some (.Name jn jp)) (some n) (b0::suite) hp::hs') [] [] pos) (aAb X.K J i rt ts):=by
 intro pins s σ H D I h;refine wpAny_Try_except (wpAny_execs_cons (dY (hs pins s σ H _ I h) (λ_ _ z=>z.elim) λe s' hz=>?_));obtain⟨H1,s1,I1,ea,T,dx,cls,a0,H2,rfl,os,bare,un,hok,x,n1,n2,n3,n4,n5,hW,C,rfl,hsuite⟩:=hz;have I2:cN X pins σ H2 s':=I1.call' (ch:=[]) os un hok bare λb z=>absurd z (by simp);have hfrm:X.A.frames=some (X.env::X.outer):=by rw[<- hst];exact I.ok.frames
 have hstk:s'.heap.FunFrames X.base (X.env::X.outer):=by rw[<- hst];exact I2.stack
 have hout:∀b,s1.heap.get? b=none->b∉oE (X.env::X.outer):=λb hb z=>by
  rw[<- hst]at z;obtain⟨_,o,ho,_⟩:=I1.stack.mem z;rw[hb]at ho;cases ho
 have hfree:∀b∈oE (X.env::X.outer),H2 b=none:=λb hb=>by rw[<- hst]at hb;exact I2.stkFree b hb
 refine xJ (base:=X.base) hfrm hstk hfr x (hout ea n3) (hout T n4) λh3 T' sz kb x3=>?_;have hT':H2 T'=none:=hok.fresh sz
 have hT1:s1.heap.get? T'=none:=by
  cases q:s1.heap.get? T' with
  |none=>rfl
  |some o=>obtain⟨o',z⟩:=un.there T' o q (by simp);rw[lH sz]at z;cases z
 refine mW (s:={ s' with heap:=h3 }) x3 λh4 k4 x4=>?_;have kb4:fM (oE (X.env::X.outer)) [ea,T,T'] s'.heap h4:=(kb.more λb hb=>aN.mpr ((aN.mp hb).imp id λz=>aN.mpr (.inl (bF.mp z)))).trans (.of λb u eb c=>k4 b u eb λz=>c (by rw[z];simp))
 have nw:∀b o,s1.heap.get? b=some o->b∉[ea,T,T']/\(b∈oE (X.env::X.outer)->b∈oE X.stack):=λb o e=>by
  refine⟨λz=>?_,λz=>by rw[hst];exact z⟩;simp only[aN,bV,or_false]at z;rcases z with rfl | rfl | rfl
  ·rw[n3]at e;cases e
  ·rw[n4]at e;cases e
  ·rw[hT1]at e;cases e
 have chn:∀b∈[ea,T,T'],H2 b=none:=λb z=>by
  simp only[aN,bV,or_false]at z;rcases z with rfl | rfl | rfl
  ·exact n1
  ·exact n2
  ·exact hT'
 have un4:=un.but kb4 nw;have hok4:=hok.butX kb4 hfree chn;have I4:cN X pins σ H2 { s' with heap:=h4 }:=I1.call' (ch:=[]) os un4 hok4 bare λb z=>absurd z (by simp);have J4:=I4.mark ea;obtain⟨oe,ve,ge,ce,de,dte,_,_⟩:=x4.ex;have LT:pL (model X.prog X.w) h4 (typeOf (.ref ea)) (.ref C):=ce▸(pL.ld ge).andThen .now;refine wpAny_handleBy_cons (codeAny_handlers_test (qU (X:=X.marked ea) J4 hg hm (((zI J4.kIn LT hW).at ?_)) hd)) (λz=>nomatch z);rw[if_pos rfl];refine codeAny_handlers_suite_as (mW (s:={ s' with heap:=h4 }) x4 λh5 k5 x5=>?_);have kb5:fM (oE (X.env::X.outer)) [ea,T,T'] s'.heap h5:=kb4.trans (.of λb u eb c=>k5 b u eb λz=>c (by rw[z];simp));have un5:=un.but kb5 nw;have hok5:=hok.butX kb5 hfree chn;obtain⟨o5,v5,g5,c5,d5,dt5,_,_⟩:=x5.ex;have hq5:=hsuite ea (I1.hok.out n3) n1 λa z=>I1.hok.out (n5 a z);have hok6:oF X.prog X.w (eS H2 ea (.ext (TL.nB ea C dx))) h5:=hok5.track n1 ⟨⟨o5,v5,g5,c5,d5,dt5⟩,⟨o5,g5⟩,λha hb ⟨o,v,y1,y2⟩ k=>⟨o,v,k o y1,y2⟩⟩;have I5:cN X pins σ (eS H2 ea (.ext (TL.nB ea C dx))) { s' with heap:=h5 }:=I1.call' (ch:=[]) os (un5.track n1 n3) hok6 bare λb z=>absurd z (by simp);refine vX I5 hN hi (.inl hx) (v:=.ref ea) rfl (λs6 I6=>?_) (.inr hx);refine dY (hb ea pins s6 _ _ _ (I6.mark ea) hq5) (λfl s7 h7=>?_) λe s7 z=>absurd z (hq e s7)
 cases fl with
 |next=>
  obtain⟨σ',H',J7,q⟩:=h7;exact MQ (I6.unmark J7) hN hi hx λs8 I8=>⟨_,H',I8,q⟩
 |brk=>obtain⟨_,_,_,z⟩:=h7;exact z.elim
 |cont=>obtain⟨_,_,_,z⟩:=h7;exact z.elim
 |ret u=>obtain⟨_,_,_,_,_,z⟩:=h7;exact z.elim
def X1{body h₀ hs pos ts}(hq:IU X)(hb:yN X body ts):PS X (.Try body (h₀::hs) [] [] pos) ts:=by
 intro pins s σ H D I h;refine wpAny_Try_except (dY (hb pins s σ H D I h) (λf s1 q=>?_) λe s1 z=>absurd z (hq e s1))
 cases f with
 |next=>exact wpAny_execs_nil q
 |ret v=>exact q
 |brk=>exact q
 |cont=>exact q
end
end L2
namespace TL
open L2
section
variable{e:Expr}
def Ok.away{K B H p0 ps}{σT:List Sl}{σ:L2.St}(o:Ok K B p0 H ps σT σ)(i:Nat):Ok K B p0 H ps (σT.set i .un) (σ.set i none) where
 base:=o.base
 sub:=o.sub
 live:=o.live
 len:=by simpa using o.len
 val:=λj d h=>by
  by_cases e:i=j
  ·subst e;have hi:i<σT.length:=by have:=(aH.mp h).1;simpa using this
   rw[bB hi]at h;cases h
  ·rw[aU e]at h |-;exact o.val j d h
 own:=λj ts h=>by
  by_cases e:i=j
  ·subst e;have hi:i<σT.length:=by have:=(aH.mp h).1;simpa using this
   rw[bB hi]at h;cases h
  ·rw[aU e]at h |-;exact o.own j ts h
 dis:=λj k ts us p h1 h2 h3 h4=>by
  have back:∀{l:Nat}{vs:List D},(σT.set i .un)[l]?=some (.own vs)->i≠l/\σT[l]?=some (.own vs):=λ{l vs} h=>by
   by_cases e:i=l
   ·subst e;have hi:i<σT.length:=by have:=(aH.mp h).1;simpa using this
    rw[bB hi]at h;cases h
   ·rw[aU e]at h;exact⟨e,h⟩
  obtain⟨n1,b1⟩:=back h1;obtain⟨n2,b2⟩:=back h2;rw[aU n1]at h3;rw[aU n2]at h4;exact o.dis j k ts us p b1 b2 h3 h4
 dc:=o.dc.setS λ_ _ z=>nomatch z
end
end TL
namespace L2
def uI:bootBuiltins "ValueError"=some (.type "ValueError"):=by decide +kernel
section
variable{K:aF}{C D J:Addr}{cd:ClassData}
def HN:bW K (.ref C) (.ref C)=some true:=by unfold bW;rw[if_pos (by simp)]
def nO(hc:fW K D=some cd)(ht:fU K (.ref D)=some (.type "type"))(hm:bD K C (.ref D)=some false)(hs:bD K D (.ref D)=some true):bW K (.ref C) (.ref D)=some false:=by
 have ne:¬(Value.ref C==Value.ref D)=true:=λz=>by
  have e:C=D:=Value.ref.inj (beq_iff_eq.mp z);subst e;rw[hm]at hs;cases hs
 unfold bW;rw[if_neg ne];unfold sU;dsimp only;rw[hc,ht];show(if(true&&(some (Value.type "type")==some (Value.type "type")))=true then _ else _)=_;rw[if_pos (by simp)];exact hm
def nN{T}{b:Bool}(hk:kE T=true)(hm:bD K C (.type T)=some b):bW K (.ref C) (.type T)=some b:=by
 unfold bW;rw[if_neg (λz=>by cases beq_iff_eq.mp z)];unfold sU;dsimp only;rw[if_pos hk];exact hm
def AF(hc:fW K J=some cd)(ht:fU K (.ref J)=some (.type "type"))(hb:bD K J (.type "BaseException")=some true)(hm:bD K C (.ref J)=some true):eD K (.ref C) (.ref J)=some true:=by
 unfold eD;have e:WJ K (.ref J) (.type "BaseException")=some true:=hb;rw[e,if_pos (by simp)];unfold sU;dsimp only;rw[hc,ht];show(if(true&&(some (Value.type "type")==some (Value.type "type")))=true then _ else _)=_;rw[if_pos (by simp)];exact hm
def zV{N:Addr}{c d}{es:Array DictEntry}{n:Nat}{sl}(l:K.lookup N=some ⟨c,d,.dict es n,sl⟩)(h:(es.toList.all λe=>match e.key with | .str _ _=>true | _=>false)=true):sR K N=true:=by
 unfold sR;rw[l];rw[WG]at h;exact h
def UO:kE "int"=true:=by decide +kernel
def UN:kE "str"=true:=by decide +kernel
def MK:kE "list"=true:=by decide +kernel
def HL:kE "tuple"=true:=by decide +kernel
def ML:kE "bool"=true:=by decide +kernel
def uD:kE "ValueError"=true:=by decide +kernel
end
def BB{X:Cx}:IU X.nox:=λ_ _ h=>h
end L2
namespace TL
open L2
section
variable{X:Cx}{e:Expr}{te:ET}{pos:Pos}
def aHz(K:aF)(c:Value)(cv:V):List V->Hp->VK->Prop:=λxs H Q=>∃(p C:Addr)(dx:Option Addr)(b:Bool),xs=[.ref p,cv]/\H p=some (.ext (nB p C dx))/\(∀d,dx=some d->∃fs,H d=some (.xd fs))/\CO K C/\bW K (.ref C) c=some b/\Q (.bl b) H
def IJ{c cv}(hc:∀u,eZ cv u->u=c):lG X (.builtin "isinstance") (aHz X.K c cv):=by
 intro pins s σ H xs us Q I r h;obtain⟨p,C,dx,b,rfl,hp,hd,hx,hk,q⟩:=h;obtain⟨u,w,rfl,ru,rw'⟩:=LK r;obtain rfl:=hc _ rw';cases ru;exact BV I hp hd hx hk λtk=>⟨.bl b,H,I.tok tk,rfl,q⟩
def aFv(K:aF)(c:Value)(te:ET):ET:=λσ Q=>te σ λd=>∃(C:Addr)(y:D)(b:Bool),d=.dict [(.int (C:Nat),y)]/\bW K (.ref C) c=some b/\Q (.bool b)
def VD{c cv g1 g2}(he:gK X e te)(pc:∀{v},PE X e v->PE X (.Call g1 [e,g2] [] pos) (WW (aHz X.K c cv) (pR v (pR (tC cv) xC)))):gK X (.Call g1 [e,g2] [] pos) (aFv X.K c te):=by
 obtain⟨v,pe,re⟩:=he;refine⟨_,pc pe,λB p0 H ps σT σ Q QV o h k=>re B p0 H ps σT σ _ _ o h λd x H1 s1 r1 q1=>?_⟩;obtain⟨C,y,b,rfl,hk,q⟩:=q1
 generalize hg:(nK [(.int (C:Nat),y)])=d at r1
 cases r1 with
 |@exc p C' xk hp=>
  injection hg with hg;injection hg with hg;injection hg with hg hy;injection hg with hg
  obtain rfl:C=C':=kB.inj hg;exact⟨p,C,none,b,rfl,bN _ _ hp,(λ_ z=>nomatch z),xk.1,hk,k _ _ H1 s1 (.bool _) q⟩
 |@excA p C' dx n xk hp hx=>
  injection hg with hg;injection hg with hg;injection hg with hg hy;injection hg with hg
  obtain rfl:C=C':=kB.inj hg;exact⟨p,C,some dx,b,rfl,bN _ _ hp,λ_ z=>by cases z;exact⟨_,bN _ _ hx⟩,xk.1,hk,k _ _ H1 s1 (.bool _) q⟩
 |@excD p C' dx n cs2 xk hp hx _=>
  injection hg with hg;injection hg with hg;injection hg with hg hy;injection hg with hg
  obtain rfl:C=C':=kB.inj hg;exact⟨p,C,some dx,b,rfl,bN _ _ hp,λ_ z=>by cases z;exact⟨_,bN _ _ hx⟩,xk.1,hk,k _ _ H1 s1 (.bool _) q⟩
 |_=>cases hg
end
end TL
namespace L2
open TL
section
variable{X:Cx}
def aB8(K:aF):List V->Hp->VK->Prop:=λxs H Q=>∃(p C:Addr)(dx:Option Addr)(tp:Addr)(cs:List Addr)(b:Bool),xs=[.ref p,.ref tp]/\H p=some (.ext (nB p C dx))/\(∀d,dx=some d->∃fs,H d=some (.xd fs))/\CO K C/\H tp=some (.tup (cs.map V.ref))/\mN K (.ref C) (cs.map Value.ref)=some b/\Q (.bl b) H
theorem DH:∀{cs:List Addr}{us},eW (cs.map V.ref) us->us=cs.map Value.ref
|[],_,.nil=>rfl
|c::cs,_,.cons r t=>by
 have e:_=Value.ref c:=r;rw[bX,<- e,DH t]
def D9:lG X (.builtin "isinstance") (aB8 X.K):=by
 intro pins s σ H xs us Q I r h;obtain⟨p,C,dx,tp,cs,b,rfl,hp,hd,hx,ht,hk,q⟩:=h;obtain⟨u,w,rfl,ru,rw'⟩:=LK r;cases ru;cases rw';obtain⟨_,its,hv,o,ho,hc,n,hdt,_⟩:=I.hok tp _ ht;obtain rfl:=DH hv;obtain⟨cls,dd,dt,sl⟩:=o;subst hc hdt;refine PySem.W.kia_tup (HM hx) I.kIn ?_ ho hk (λz=>nomatch z) λtk=>⟨.bl b,H,I.tok tk,rfl,q⟩;obtain⟨⟨o,vs,h1,h2,h3,h4⟩,_⟩:=I.hok p _ hp;have hn:sS o=true:=by unfold sS;rw[h4]
 cases dx with
 |none=>exact⟨o,none,h1,h2,hn,by rw[h3];trivial⟩
 |some d=>
  obtain⟨fs,hf⟩:=hd d rfl;obtain⟨mA,⟨od,es,ep,he,_⟩,_⟩:=I.hok d _ hf;exact⟨o,some od,h1,h2,hn,by rw[h3];exact he⟩
end
end L2
namespace TL
open L2
section
variable{X:Cx}{e:Expr}{es:List Expr}{te:ET}{pos:Pos}
def Q4:List Addr->TA
|[]=>xC
|c::cs=>pR (tC (.ref c)) (Q4 cs)
theorem LZ:∀(cs:List Addr)σ H(Q:List V->Hp->Prop),Q (cs.map V.ref) H->Q4 cs σ H Q
|[],_,_,_,q=>q
|c::cs,σ,H,Q,q=>LZ cs σ H (λxs H'=>Q (V.ref c::xs) H') q
def VG(K:aF)(cs:List Addr)(te:ET):ET:=λσ Q=>te σ λd=>∃(C:Addr)(y:D)(b:Bool),d=.dict [(.int (C:Nat),y)]/\cs.length<=1000/\mN K (.ref C) (cs.map Value.ref)=some b/\Q (.bool b)
def MV{cs g1}{x1:Nat}{p2}(he:gK X e te)(pc:∀{v},PE X e v->PE X (.Call g1 [e,.Tuple es x1 p2] [] pos) (WW (aB8 X.K) (pR v (pR (aG6 (Q4 cs)) xC)))):gK X (.Call g1 [e,.Tuple es x1 p2] [] pos) (VG X.K cs te):=by
 obtain⟨v,pe,re⟩:=he;refine⟨_,pc pe,λB p0 H ps σT σ Q QV o h k=>re B p0 H ps σT σ _ _ o h λd x H1 s1 r1 q1=>?_⟩;obtain⟨C,y,b,rfl,hl,hk,q⟩:=q1;refine LZ cs σ H1 _ ⟨qT (by rw[aA];exact hl),λtp htp=>?_⟩
 generalize hg:(nK [(.int (C:Nat),y)])=d at r1
 have sN:aS H1 (eS H1 tp (.tup (cs.map V.ref))):=cZ htp
 cases r1 with
 |@exc p C' xk hp=>
  injection hg with hg;injection hg with hg;injection hg with hg hy;injection hg with hg
  obtain rfl:C=C':=kB.inj hg;exact⟨p,C,none,tp,cs,b,rfl,sN _ _ (bN _ _ hp),(λ_ z=>nomatch z),xk.1,bS,hk,k _ _ _ (s1.trans sN) (.bool _) q⟩
 |@excA p C' dx n xk hp hx=>
  injection hg with hg;injection hg with hg;injection hg with hg hy;injection hg with hg
  obtain rfl:C=C':=kB.inj hg;exact⟨p,C,some dx,tp,cs,b,rfl,sN _ _ (bN _ _ hp),λ_ z=>by cases z;exact⟨_,sN _ _ (bN _ _ hx)⟩,xk.1,bS,hk,k _ _ _ (s1.trans sN) (.bool _) q⟩
 |@excD p C' dx n cs2 xk hp hx _=>
  injection hg with hg;injection hg with hg;injection hg with hg hy;injection hg with hg
  obtain rfl:C=C':=kB.inj hg;exact⟨p,C,some dx,tp,cs,b,rfl,sN _ _ (bN _ _ hp),λ_ z=>by cases z;exact⟨_,sN _ _ (bN _ _ hx)⟩,xk.1,bS,hk,k _ _ _ (s1.trans sN) (.bool _) q⟩
 |_=>cases hg
end
end TL
namespace L2
section
variable{X:Cx}{pins:List (Addr×Obj)}{σ:St}{H:Hp}{s:Shared}{ea:Addr}
def Q3(K:aF)(J0 J:Addr)(i:Nat)(rt:St->Hp->(Hp->XK)->Prop)(ts:Addr->TS):TS:=λD σ H=>rt σ H λH1 cls dx H2=>eD K cls (.ref J0)=some false/\eD K cls (.ref J)=some true /\
 ∃C,cls=.ref C/\∀ea,H1 ea=none->H2 ea=none->(∀a,dx=some a->H1 a=none)->ts ea { nx:=λσ' H'=>D.nx (σ'.set i none) H',rt:=λ_ _=>False } (σ.set i (some (.ref ea))) (eS H2 ea (.ext (TL.nB ea C dx)))
def SO{J0 J:Addr}{n0 jn0:Str}{jp0 hp0 body0}{i:Nat}{n jn:Str}{jp hp pos st b0 suite hs'}{rt:St->Hp->(Hp->XK)->Prop}{ts:Addr->TS}(hq:IU X)(hst:X.stack=X.env::X.outer)(hfr:X.env.frame=some X.env.locals)(hN:X.N.Nodup)(hi:X.N[i]?=some n)(hx:X.env.scope.names.lookup n=some .local)(hg0:Gl X jn0)(hm0:X.mg jn0=some (.ref J0))(hg:Gl X jn)(hm:X.mg jn=some (.ref J))
  (hs:RS X st rt) (hb:∀ea,yN (X.marked ea) (b0::suite) (ts ea)) (hd0:(jn0==("__debug__":Str))=false:=by decide) (hd:(jn==("__debug__":Str))=false:=by decide) :
  PS X (.Try [st] (.ExceptHandler (some (.Name jn0 jp0)) (some n0) body0 hp0::.ExceptHandler (some (.Name jn jp)) (some n) (b0::suite) hp::hs') [] [] pos) (Q3 X.K J0 J i rt ts):=by
 intro pins s σ H D I h;refine wpAny_Try_except (wpAny_execs_cons (dY (hs pins s σ H _ I h) (λ_ _ z=>z.elim) λe s' hz=>?_));obtain⟨H1,s1,I1,ea,T,dx,cls,a0,H2,rfl,os,bare,un,hok,x,n1,n2,n3,n4,n5,hW0,hW,C,rfl,hsuite⟩:=hz;have I2:cN X pins σ H2 s':=I1.call' (ch:=[]) os un hok bare λb z=>absurd z (by simp);have hfrm:X.A.frames=some (X.env::X.outer):=by rw[<- hst];exact I.ok.frames
 have hstk:s'.heap.FunFrames X.base (X.env::X.outer):=by rw[<- hst];exact I2.stack
 have hout:∀b,s1.heap.get? b=none->b∉oE (X.env::X.outer):=λb hb z=>by
  rw[<- hst]at z;obtain⟨_,o,ho,_⟩:=I1.stack.mem z;rw[hb]at ho;cases ho
 have hfree:∀b∈oE (X.env::X.outer),H2 b=none:=λb hb=>by rw[<- hst]at hb;exact I2.stkFree b hb
 refine xJ (base:=X.base) hfrm hstk hfr x (hout ea n3) (hout T n4) λh3 T' sz kb x3=>?_;have hT':H2 T'=none:=hok.fresh sz
 have hT1:s1.heap.get? T'=none:=by
  cases q:s1.heap.get? T' with
  |none=>rfl
  |some o=>obtain⟨o',z⟩:=un.there T' o q (by simp);rw[lH sz]at z;cases z
 refine mW (s:={ s' with heap:=h3 }) x3 λh4 k4 x4=>?_;have kb4:fM (oE (X.env::X.outer)) [ea,T,T'] s'.heap h4:=(kb.more λb hb=>aN.mpr ((aN.mp hb).imp id λz=>aN.mpr (.inl (bF.mp z)))).trans (.of λb u eb c=>k4 b u eb λz=>c (by rw[z];simp))
 have nw:∀b o,s1.heap.get? b=some o->b∉[ea,T,T']/\(b∈oE (X.env::X.outer)->b∈oE X.stack):=λb o e=>by
  refine⟨λz=>?_,λz=>by rw[hst];exact z⟩;simp only[aN,bV,or_false]at z;rcases z with rfl | rfl | rfl
  ·rw[n3]at e;cases e
  ·rw[n4]at e;cases e
  ·rw[hT1]at e;cases e
 have chn:∀b∈[ea,T,T'],H2 b=none:=λb z=>by
  simp only[aN,bV,or_false]at z;rcases z with rfl | rfl | rfl
  ·exact n1
  ·exact n2
  ·exact hT'
 have un4:=un.but kb4 nw;have hok4:=hok.butX kb4 hfree chn;have I4:cN X pins σ H2 { s' with heap:=h4 }:=I1.call' (ch:=[]) os un4 hok4 bare λb z=>absurd z (by simp);have J4:=I4.mark ea;obtain⟨oe,ve,ge,ce,de,dte,_,_⟩:=x4.ex;have LT:pL (model X.prog X.w) h4 (typeOf (.ref ea)) (.ref C):=ce▸(pL.ld ge).andThen .now;refine wpAny_handleBy_cons (codeAny_handlers_test (qU (X:=X.marked ea) J4 hg0 hm0 (((zI J4.kIn LT hW0).at ?_)) hd0)) (λz=>nomatch z);rw[if_neg (by decide)];refine wpAny_handleBy_cons (codeAny_handlers_test (qU (X:=X.marked ea) J4 hg hm (((zI J4.kIn LT hW).at ?_)) hd)) (λz=>nomatch z);rw[if_pos rfl];refine codeAny_handlers_suite_as (mW (s:={ s' with heap:=h4 }) x4 λh5 k5 x5=>?_);have kb5:fM (oE (X.env::X.outer)) [ea,T,T'] s'.heap h5:=kb4.trans (.of λb u eb c=>k5 b u eb λz=>c (by rw[z];simp));have un5:=un.but kb5 nw;have hok5:=hok.butX kb5 hfree chn;obtain⟨o5,v5,g5,c5,d5,dt5,_,_⟩:=x5.ex;have hq5:=hsuite ea (I1.hok.out n3) n1 λa z=>I1.hok.out (n5 a z);have hok6:oF X.prog X.w (eS H2 ea (.ext (TL.nB ea C dx))) h5:=hok5.track n1 ⟨⟨o5,v5,g5,c5,d5,dt5⟩,⟨o5,g5⟩,λha hb ⟨o,v,y1,y2⟩ k=>⟨o,v,k o y1,y2⟩⟩;have I5:cN X pins σ (eS H2 ea (.ext (TL.nB ea C dx))) { s' with heap:=h5 }:=I1.call' (ch:=[]) os (un5.track n1 n3) hok6 bare λb z=>absurd z (by simp);refine vX I5 hN hi (.inl hx) (v:=.ref ea) rfl (λs6 I6=>?_) (.inr hx);refine dY (hb ea pins s6 _ _ _ (I6.mark ea) hq5) (λfl s7 h7=>?_) λe s7 z=>absurd z (hq e s7)
 cases fl with
 |next=>
  obtain⟨σ',H',J7,q⟩:=h7;exact MQ (I6.unmark J7) hN hi hx λs8 I8=>⟨_,H',I8,q⟩
 |brk=>obtain⟨_,_,_,z⟩:=h7;exact z.elim
 |cont=>obtain⟨_,_,_,z⟩:=h7;exact z.elim
 |ret u=>obtain⟨_,_,_,_,_,z⟩:=h7;exact z.elim
end
section
variable{X:Cx}{k:Nat}{f C:Addr}{fd:gT}{ps:List Str}{sp:Sp}{m:Str}{apos pos:Pos}{o e b:Expr}{es:List Expr}{t:TA}{ta:TE}
def L3{pl}(hq:IU X)(he:PE X o ta)(c:zF X.K C)(hm:zC X.K C m f)(F:bU X.prog X.w X.K X.mg X.base (V9 X.prog X.w) k f fd ps sp)(hr:gM k X.A)(hb:oR X.K fd ps [])(ha:PA X (e::es) t)
  (hst:bL (e::es) X.env=(false,eval e X.env)::bL es X.env:=by rfl) (hpl:(backTo pos (bL es X.env)).any (·.1)=false:=by rfl)
  (ht:eval (.Call (.Attribute o m apos) (e::es) [] pos) X.env=(do
   let ov <- eval o X.env
   standAt apos.atName
   let (f,first) <- holding [ov] (getMethod ov m pl)
   callWith pos f first (backTo pos (bL (e::es) X.env)) (backToKw pos (keywordEach [] X.env))):=by rfl) :
  RE X (.Call (.Attribute o m apos) (e::es) [] pos) (λσ H W=>ta σ H λx H0=>∃a dx fs,x=.ref a/\H0 a=some (.ins C dx fs)/\fs.lookup m=none/\t σ H0 λvs H1=>sp (x::vs) H1 (λ_ _=>False) (W H1)):=by
 intro pins s σ H W I h;refine rM (pl:=pl) (dY (he pins s σ H _ I h) (λu s1 hz=>?_) λe s z=>absurd z (hq e s)) ht;obtain⟨x,H0,I1,rx,a,dx,fs,ex,ea,l,q⟩:=hz;subst ex;obtain rfl:u=Value.ref a:=rx;refine vA I1 ea c hm l ?_;refine oU (first:=[.ref a]) (h₀:=X.base) I.ok.mod.kin hm.kp (dY (ha pos pins s1 σ H0 _ I1 q) (λus s2 hz=>?_) λe s z=>absurd z (hq e s)) hst hpl;obtain⟨vs,H1,I2,r,q2⟩:=hz;refine⟨I2.kIn,?_⟩;have r':eW (.ref a::vs) (.ref a::us):=.cons rfl r;have hl:(Value.ref a::us).length=ps.length:=by rw[<- r'.length];exact F.len _ _ _ _ q2
 have hb':=hb s2 (.ref a::us) I2.kIn (by rw[dQ];exact hl);rw[dQ]at hb';refine wpAny_call (codeAny_mono (F.run X.A X.stack s2 H1 ⟨.ref a::us,[]⟩ (.ref a::us) (.ref a::vs) _ (W H1) hr I2.env0 hb' r' q2) λr s' hq=>?_)
 cases r with
 |error e=>exact⟨H1,s2,I2,hq⟩
 |ok fl=>
  cases fl with
  |ret u=>obtain⟨_,_,_,_,_,_,_,z⟩:=hq;exact z.elim
  |next=>exact False.elim hq
  |brk=>exact False.elim hq
  |cont=>exact False.elim hq
def aB5{rt:St->Hp->(Hp->XK)->Prop}(h:RE X e rt):RE X (.Subscript e b pos) rt:=by
 intro pins s σ H W I hq;exact Subscript_ (iU (h pins s σ H W I hq) λv s1 z=>z.elim)
end
end L2
namespace TL
open L2
def XR1(K:aF)(d:D)(cls:Value)(dx:Option Addr):Prop:=∃C:Addr,d=.dict [(.int (C:Nat),.none)]/\cls=.ref C/\dx=none/\ZT K C
section
variable{F:wW}
def nA(K:aF)(sp:EH F):Sp:=λvs H _ E=>∃(ps:List Addr)(T:F.I)(n:F.S)(ds:List D)(ED:F.S->D->Prop),(∀p∈ps,yO (H p))/\(∀a∈F.ad T,a∈ps)/\F.At T K H ps n/\Reps K (mask H ps) ds vs/\sp (F.tau T) n ds ED /\
 ∀n' d cls dx H',fX (F.ad T) H H'->F.At T K H' ps n'->XR1 K d cls dx->ED n' d->E cls dx H'
def aJx{P w}{mg:Str->Option Value}{base K x qual st}{f:Addr}{fd}{N pn:List Str}{k:Nat}{sp:EH F}(Fn:LB K x qual st f fd)(S:bZ N pn (aY st))(len:∀τ n ds Q,sp τ n ds Q->ds.length=pn.length)
  (hbody:∀(cdv:Value)(A:Around)outer(s:Shared)H E,gM k (A.deeper (envOfC qual (aY st) s.heap.objs.size f cdv))->∀ps(T:F.I)(n:F.S)(ds:List D)(ED:F.S->D->Prop),sp (F.tau T) n ds ED->(∀n' d cls dx H',fX (F.ad T) H H'->F.At T K H' ps n'->XR1 K d cls dx->ED n' d->E cls dx H') ->
   ∃t,vI (NB P w K mg base N qual (aY st) f cdv A outer s H E) (kN st) t/\t (F.tau T) { nx:=λ_ _=>False,rt:=λ_ _=>False,xB:=λB p0=>B=iT H (F.ad T)/\p0=ps } n (iZ N ds)):bU P w K mg base (V9 P w) (k+1) f fd pn (nA K sp):=by
 obtain⟨oc,od,kV,doc,pm,an,cdv,ct,osl,rfl,lk,hcd⟩:=Fn.ex;refine U4 lk hcd S (λvs H Q E h=>?_) λA outer s H vs Q E hr h=>?_
 ·obtain⟨ps,T,n,ds,QD,_,_,_,r,q,_⟩:=h;rw[<- r.length];exact len _ _ ds QD q
 ·obtain⟨ps,T,n,ds,ED,live,hp,tp,r,q,hE⟩:=h;obtain⟨t,⟨ts,p,rd⟩,h⟩:=hbody cdv A outer s H E hr ps T n ds ED q hE;have o:=oM (N:=N) live r
  have hno:∀(i:Nat)(us:List D),(iZ N ds)[i]?≠some (.own us):=λi us e=>by
   obtain⟨q,_,_,_,hB,_,hH,_⟩:=o.own i us e;rw[hB]at hH;cases hH
  have sW:aS (iT H (F.ad T)) H:=λa u e=>by
   unfold iT at e;split at e
   ·cases e
   ·exact e
  have o2:Ok K (iT H (F.ad T)) ps H ps (iZ N ds) (L2.lP N vs):=⟨sW,o.sub,o.live,o.len,o.val,λi us e=>absurd e (hno i us),o.dis,λi hs kvs e=>by
   obtain⟨⟨q,es,_,_,hB,_,hH,_⟩,_⟩:=o.dc i hs kvs e;rw[hB]at hH;cases hH⟩
  have o3:lY F K (iT H (F.ad T)) ps H ps (iZ N ds) (L2.lP N vs) T n:=⟨o2,hp,λa ha=>if_pos ha,tp⟩;exact⟨ts,p,rd _ ps H ps _ _ T n _ _ o3 h ⟨λ_ _ _ _ _ _ _ q'=>q'.elim,λ_ _ _ _ _ _ _ q'=>q'.elim,λ_ _ _ _ _ _ _ q'=>q'.elim,λ_ _ _ _ _ _ _ q'=>q'.elim,rfl,rfl⟩⟩
def A4{H0 H as}(s:aS (iT H0 as) H):fX as H0 H:=λa u ne e=>s a u (by unfold iT;rw[if_neg ne];exact e)
def aDj(ED:F.S->D->Prop)(H0:Hp)(ps0:List Addr)(T0:F.I)(C:Addr)(t:AT):SZ F:=λτ DC n σ=>t σ λds=>ds.length<=1000/\τ=F.tau T0/\ED n (.dict [(.int (C:Nat),.none)])/\∀B p0,DC.xB B p0->B=iT H0 (F.ad T0)/\p0=ps0
section
variable{P:cC}{w:World}{K:aF}{mg:Str->Option Value}{base:Heap}{N:List Str}{qual:Str}{scope:Scope}{f:Addr}{cd:Value}{A:Around}{outer:List Env}{s:Shared}{H:Hp}{E:XK}{ED:F.S->D->Prop}{T0:F.I}{ps0:List Addr}
def GO{C:Addr}{x np cpos pos e es t}(hE:∀n' d cls dx H',fX (F.ad T0) H H'->F.At T0 K H' ps0 n'->XR1 K d cls dx->ED n' d->E cls dx H')(xk:ZT K C)(ha:vK (NB P w K mg base N qual scope f cd A outer s H E) (e::es) t)
  (pr:∀{ta},PA (NB P w K mg base N qual scope f cd A outer s H E) (e::es) ta->PS (NB P w K mg base N qual scope f cd A outer s H E) (.Raise (some (.Call (.Name x np) (e::es) [] cpos)) none pos) (Q5 C E ta)) :
  zB (NB P w K mg base N qual scope f cd A outer s H E) (.Raise (some (.Call (.Name x np) (e::es) [] cpos)) none pos) (aDj ED H ps0 T0 C t):=by
 obtain⟨va,pa,ra⟩:=ha;refine⟨_,pr pa,λB p0 H' ps σT σ T n DC DV o h f=>ra B p0 H' ps σT σ _ _ o.ok h λds vs H1 s1 r1 q=>?_⟩;obtain⟨hl,ht,hd,hB⟩:=q;cases F.inj ht;obtain⟨rfl,rfl⟩:=hB B p0 f.xb;have o1:=o.grow s1;exact⟨qT (by rw[<- r1.length];exact hl),hE n _ _ _ H1 (A4 o1.ok.base) (F.to o1.tp (λ_ _=>rfl) (gF o.ok.sub)) ⟨C,rfl,rfl,rfl,xk⟩ hd⟩
end
section
variable{X:Cx}{e:Expr}{pos:Pos}{st:Stmt}
def aKk(X:Cx)(W:Hp->List Addr->Prop)(e:Expr)(t:D->F.S->List Sl->Prop):Prop:=∃te:TE,PE X e te/\∀B p0 H ps σT σ T n (QV:VK),lY F X.K B p0 H ps σT σ T n->t (F.tau T) n σT->W B p0->te σ H QV
def RC{W:Hp->List Addr->Prop}{t:D->F.S->List Sl->Prop}(h:aKk X W e t)(p:∀{v},PE X e v->PS X (.Expr e pos) (DK v)):zB X (.Expr e pos) (λτ DC n σ=>t τ n σ/\∀B p0,DC.xB B p0->W B p0):=by
 obtain⟨v,pe,r⟩:=h;exact⟨_,p pe,λB p0 H ps σT σ T n DC DV o h f=>r B p0 H ps σT σ T n _ o h.1 (h.2 B p0 f.xb)⟩
def zB.or{t u:SZ F}(h1:zB X st t)(h2:zB X st u):zB X st (λτ DC n σ=>t τ DC n σ\/u τ DC n σ):=by
 obtain⟨v1,p1,r1⟩:=h1;obtain⟨v2,p2,r2⟩:=h2;refine⟨λD σ H=>v1 D σ H\/v2 D σ H,λpins s σ H D I h=>?_,λB p0 H ps σT σ T n DC DV o h f=>?_⟩
 ·rcases h with h | h
  ·exact p1 pins s σ H D I h
  ·exact p2 pins s σ H D I h
 ·rcases h with h | h
  ·exact .inl (r1 B p0 H ps σT σ T n DC DV o h f)
  ·exact .inr (r2 B p0 H ps σT σ T n DC DV o h f)
def WZ{body}{h0:ExceptHandler}{hs:List ExceptHandler}{t:SZ F}(h:vI X body t)(p:∀{ts:TS},yN X body ts->PS X (.Try body (h0::hs) [] [] pos) ts):zB X (.Try body (h0::hs) [] [] pos) t:=by
 obtain⟨ts,p1,r⟩:=h;exact⟨ts,p p1,r⟩
def RSz(X:Cx)(st:Stmt)(t:EZ F):Prop:=∃rt:L2.St->Hp->(Hp->XK)->Prop,RS X st rt/\∀B p0 H ps σT σ T n (ED:F.S->D->Prop)(W:Hp->XK),lY F X.K B p0 H ps σT σ T n->t (F.tau T) n σT ED ->
 (∀n' d cls dx H1 H2,fX (F.ad T) H H1->fX (F.ad T) H1 H2->(∀a∈F.ad T,yO (H1 a))->F.At T X.K H2 ps n'->XR1 X.K d cls dx->ED n' d->W H1 cls dx H2)->rt σ H W
def aEf{K H ps}{ea C:Addr}(xk:ZT K C)(hn:ea∉ps):gD K (mask (eS H ea (.ext (nB ea C none))) ps) (.dict [(.int (C:Nat),.none)]) (.ref ea):=.exc xk (jY hn bS)
def lY.exc{B H H1 H2 p0 ps}{σT:List Sl}{σ:L2.St}{T n n'}{ea C:Addr}{i:Nat}(o:lY F X.K B p0 H ps σT σ T n)(s1:fX (F.ad T) H H1)(s2:fX (F.ad T) H1 H2)(t:F.At T X.K H2 ps n')(xk:ZT X.K C)(he:H2 ea=none) :
  lY F X.K B p0 (eS H2 ea (.ext (nB ea C none))) ps (σT.set i (.val (.dict [(.int (C:Nat),.none)]))) (σ.set i (some (.ref ea))) T n'/\aS (mask H ps) (mask (eS H2 ea (.ext (nB ea C none))) ps):=by
 have o2:=o.growX (s1.trans s2) t;have sN:=cZ (o:=HO.ext (nB ea C none)) he;exact⟨(o2.grow sN).set (aEf xk (hV o2.ok.live he)),((s1.trans s2).mask o.mem').trans (bH sN)⟩
theorem lY.away{B H K p0 ps}{σT:List Sl}{σ:L2.St}{T n}(o:lY F K B p0 H ps σT σ T n)(i:Nat):lY F K B p0 H ps (σT.set i .un) (σ.set i none) T n:=⟨o.ok.away i,o.mem,o.nb,o.tp⟩
def aGt(K:aF)(J:Addr)(i:Nat)(t:EZ F)(ts:SZ F):SZ F:=λτ DC n σ=>t τ n σ λn1 d=>(∃C:Addr,d=.dict [(.int (C:Nat),.none)]/\eD K (.ref C) (.ref J)=some true) /\
 ts τ { nx:=λn' σ'=>DC.nx n' (σ'.set i .un),rt:=λ_ _=>False,xB:=DC.xB } n1 (σ.set i (.val d))
def QP{C C0:Addr}(h:nK [(.int (C:Nat),.none)]=nK [(.int (C0:Nat),.none)]):C=C0:=by
 injection h with h
 injection h with h _
 injection h with h _
 injection h with h
 exact kB.inj h
def WY{J:Addr}{i:Nat}{h0:ExceptHandler}{hs':List ExceptHandler}{t:EZ F}{b0 suite}{ts:SZ F}(hs:RSz X st t)(hb:∀ea,vI (X.marked ea) (b0::suite) ts)
  (pt:∀{rt:L2.St->Hp->(Hp->XK)->Prop}{us:Addr->TS},RS X st rt->(∀ea,yN (X.marked ea) (b0::suite) (us ea))->PS X (.Try [st] (h0::hs') [] [] pos) (aAb X.K J i rt us)):zB X (.Try [st] (h0::hs') [] [] pos) (aGt X.K J i t ts):=by
 obtain⟨rt,rs,rr⟩:=hs;refine⟨_,pt rs (λea=>(hb ea).choose_spec.1),λB p0 H ps σT σ T n DC DV o h f=>rr B p0 H ps σT σ T n _ _ o h λn1 d cls dx H1 H2 s1 s2 l1 t2 xr q=>?_⟩;obtain⟨⟨C,hd,hm⟩,q⟩:=q;obtain⟨C0,h1,rfl,rfl,xk⟩:=xr;subst h1;obtain rfl:=QP hd;refine⟨hm,_,rfl,λea e1 e2 _=>?_⟩;obtain⟨oz,sm⟩:=o.exc (i:=i) s1 s2 t2 xk e2;refine(hb ea).choose_spec.2 B p0 _ ps _ _ T n1 { nx:=λn' σ'=>DC.nx n' (σ'.set i .un),rt:=λ_ _=>False,xB:=DC.xB } _ oz q ⟨λH' ps' σT' σ' n' o' s' q'=>?_,λ_ _ _ _ _ _ _ q'=>q'.elim,λ_ _ _ _ _ _ _ q'=>q'.elim,λ_ _ _ _ _ _ _ q'=>q'.elim,f.xb⟩;exact f.nx H' ps' _ _ n' (o'.away i) (sm.trans s') q'
def aDh(K:aF)(J0 J:Addr)(i:Nat)(t:EZ F)(ts:SZ F):SZ F:=λτ DC n σ=>t τ n σ λn1 d=>(∃C:Addr,d=.dict [(.int (C:Nat),.none)]/\eD K (.ref C) (.ref J0)=some false/\eD K (.ref C) (.ref J)=some true) /\
 ts τ { nx:=λn' σ'=>DC.nx n' (σ'.set i .un),rt:=λ_ _=>False,xB:=DC.xB } n1 (σ.set i (.val d))
def RA{J0 J:Addr}{h00:ExceptHandler}{i:Nat}{jn nn:Str}{jp hp}{hs':List ExceptHandler}{t:EZ F}{b0 suite}{ts:SZ F}(hs:RSz X st t)(hb:∀ea,vI (X.marked ea) (b0::suite) ts)
  (pt:∀{rt:L2.St->Hp->(Hp->XK)->Prop}{us:Addr->TS},RS X st rt->(∀ea,yN (X.marked ea) (b0::suite) (us ea))->PS X (.Try [st] (h00::.ExceptHandler (some (.Name jn jp)) (some nn) (b0::suite) hp::hs') [] [] pos) (Q3 X.K J0 J i rt us)):zB X (.Try [st] (h00::.ExceptHandler (some (.Name jn jp)) (some nn) (b0::suite) hp::hs') [] [] pos) (aDh X.K J0 J i t ts):=by
 obtain⟨rt,rs,rr⟩:=hs;refine⟨_,pt rs (λea=>(hb ea).choose_spec.1),λB p0 H ps σT σ T n DC DV o h f=>rr B p0 H ps σT σ T n _ _ o h λn1 d cls dx H1 H2 s1 s2 l1 t2 xr q=>?_⟩;obtain⟨⟨C,hd,hm0,hm⟩,q⟩:=q;obtain⟨C0,h1,rfl,rfl,xk⟩:=xr;subst h1;obtain rfl:=QP hd;refine⟨hm0,hm,_,rfl,λea e1 e2 _=>?_⟩;obtain⟨oz,sm⟩:=o.exc (i:=i) s1 s2 t2 xk e2;refine(hb ea).choose_spec.2 B p0 _ ps _ _ T n1 { nx:=λn' σ'=>DC.nx n' (σ'.set i .un),rt:=λ_ _=>False,xB:=DC.xB } _ oz q ⟨λH' ps' σT' σ' n' o' s' q'=>?_,λ_ _ _ _ _ _ _ q'=>q'.elim,λ_ _ _ _ _ _ _ q'=>q'.elim,λ_ _ _ _ _ _ _ q'=>q'.elim,f.xb⟩;exact f.nx H' ps' _ _ n' (o'.away i) (sm.trans s') q'
end
end
section
variable{X:Cx}{C:Addr}{e i:Expr}{es:List Expr}{te:ET}{pos apos:Pos}{st:Stmt}
def VC{m sp}{t:AZ (lL C)}{ED:JB->D->Prop}{E:XK}{H0}{T0:Bk}{ps0}(hE:∀n' d cls dx H',fX [T0.p,T0.q] H0 H'->IP C T0 X.K H' ps0 n'->XR1 X.K d cls dx->ED n' d->E cls dx H')(hm:m∉V0)(he:gK X e te)(ha:P8 X (i::es) t)
  (pc:∀{v ta},PE X e v->PA X (i::es) ta->PE X (.Call (.Attribute e m apos) (i::es) [] pos) (GN C m (nA X.K sp) [] E v ta)) :
  aKk (F:=lL C) X (λB p0=>B=iT H0 [T0.p,T0.q]/\p0=ps0) (.Call (.Attribute e m apos) (i::es) [] pos) (λτ n σ=>te σ λd=>d=τ/\τ=mQ T0/\t τ n σ λn1 ds=>sp τ n1 (τ::ds) ED):=by
 obtain⟨v,pe,re⟩:=he;obtain⟨va,pa,ra⟩:=ha;refine⟨_,pc pe pa,λB p0 H ps σT σ T n QV o h hB=>re B p0 H ps σT σ _ _ o.ok h λd x H1 s1 r1 q1=>?_⟩;obtain⟨rfl,ht,q1⟩:=q1;obtain⟨rfl,at1⟩:=kO (T':=T) o s1 r1 rfl;obtain rfl:T=T0:=jN ht;obtain⟨_,_,_,_,h1,_⟩:=id at1;refine⟨_,_,_,rfl,h1,AL hm,ra B p0 H1 ps σT σ T n _ _ (o.grow s1) q1 λn2 as xs H2 s2 t2 r2 q2=>?_⟩;obtain⟨rfl,rfl⟩:=hB;show nA X.K sp (.ref T.p::(xs++[])) H2 QV E;rw[dQ];have o2:=(o.grow s1).growX s2 t2;exact⟨ps,T,n2,mQ T::as,ED,o2.ok.live,o.mem',t2,.cons (A9 T) r2,q2,λn' d cls dx H' s' t' x' e'=>hE n' d cls dx H' ((A4 o2.ok.base).trans s') ((lL C).to t' (λ_ _=>rfl) (gF o.ok.sub)) x' e'⟩
def G1{m sp t}(hm:m∉V0)(he:gK X e te)(ha:P8 X (i::es) t)
  (pc:∀{v}{ta:TA},PE X e v->PA X (i::es) ta->RS X st (λσ H W=>v σ H λx H0=>∃a dx fs,x=.ref a/\H0 a=some (.ins C dx fs)/\fs.lookup m=none/\ta σ H0 λvs H1=>nA X.K sp (x::vs) H1 (λ_ _=>False) (W H1))) :
  RSz (F:=lL C) X st (WS C sp te t):=by
 obtain⟨v,pe,re⟩:=he;obtain⟨va,pa,ra⟩:=ha;refine⟨_,pc pe pa,λB p0 H ps σT σ T n ED W o h k=>re B p0 H ps σT σ _ _ o.ok h λd x H1 s1 r1 q1=>?_⟩;obtain⟨rfl,q1⟩:=q1;obtain⟨rfl,at1⟩:=kO (T':=T) o s1 r1 rfl;obtain⟨_,_,_,_,h1,_⟩:=id at1;refine⟨_,_,_,rfl,h1,AL hm,ra B p0 H1 ps σT σ T n _ _ (o.grow s1) q1 λn2 as xs H2 s2 t2 r2 q2=>?_⟩;have o2:=(o.grow s1).growX s2 t2;exact⟨ps,T,n2,mQ T::as,ED,o2.ok.live,o.mem',t2,.cons (A9 T) r2,q2,λn' d cls dx H' s' t' x' e'=>k n' d cls dx H2 H' ((fX.of s1).trans s2) s' ((lL C).liv t2) t' x' e'⟩
end
def XQ{x y:Addr}(h:I0 x=I0 y):x=y:=by
 unfold I0 at h;injection h with h
 injection h with h _
 injection h with _ h
 injection h with h
 injection h with h _
 injection h with h
 exact kB.inj h
def A8{K H}{x:Addr}{v}(r:gD K H (I0 x) v):v=.ref x:=by
 unfold I0 at r
 generalize hg:(nK [(.str "@",.list [.int (x:Nat)])])=d at r
 cases r with
 |@addr p z=>
  injection hg with hg
  injection hg with hg _
  injection hg with _ hg
  injection hg with hg
  injection hg with hg _
  injection hg with hg
  rw[kB.inj hg]
 |dct=>
  injection hg with hg
  injection hg with hg _
  injection hg with hg _
  injection hg with hg
  exact absurd hg (by decide +kernel)
 |_=>cases hg
noncomputable def pY(F:wW):wW where
 I:=F.I×Addr
 S:=F.S×List D
 ad:=λT=>T.2::F.ad T.1
 tau:=λT=>.tuple [F.tau T.1,I0 T.2]
 At:=λT K H ps n=>T.2∉F.ad T.1/\F.At T.1 K H ps n.1/\∃xs,H T.2=some (.lst xs)/\Reps K (mask H ps) n.2 xs
 to:=λ{T K H H' ps ps' n} h e s=>by
  obtain⟨h1,h2,xs,h3,h4⟩:=h;exact⟨h1,F.to h2 (λa ha=>e a (aI _ ha)) s,xs,by rw[e T.2 (aL ..)];exact h3,h4.same s⟩
 liv:=λ{T K H ps n} h a ha=>by
  obtain⟨h1,h2,xs,h3,h4⟩:=h;rcases aN.mp ha with rfl | ha
  ·exact⟨_,h3,rfl⟩
  ·exact F.liv h2 a ha
 inj:=λ{T T'} h=>by
  injection h with h
  injection h with h1 h
  injection h with h2 _
  exact Prod.ext (F.inj h1) (XQ h2)
section
variable{F:wW}{K:aF}{B H:Hp}{p0 ps:List Addr}{σT:List Sl}{σ:L2.St}{T:F.I×Addr}{n:F.S×List D}
def lY.fst(o:lY (pY F) K B p0 H ps σT σ T n):lY F K (yH B [T.2] H) p0 H ps σT σ T.1 n.1:=by
 obtain⟨ok,mem,nb,tp⟩:=o;have nr:T.2∉F.ad T.1:=tp.1;have hp0:T.2∈p0:=mem T.2 (aL ..);refine⟨⟨λa u e=>?_,ok.sub,ok.live,ok.len,ok.val,λi ts h=>?_,ok.dis,?_⟩,λa ha=>mem a (aI _ ha),λa ha=>?_,tp.2.1⟩
 ·by_cases z:a∈[T.2]
  ·rw[AB z]at e;exact e
  ·rw[kU z]at e;exact ok.base a u e
 ·obtain⟨q,xs,h1,h2,h3,h4,h5,h6⟩:=ok.own i ts h;exact⟨q,xs,h1,h2,by rw[kU λz=>h4 (by rw[bF.mp z];exact hp0)];exact h3,h4,h5,h6⟩
 ·exact ok.dc.to (λj hs kvs h=>⟨h,rfl⟩) (λq φ a b _=>⟨a,rfl⟩) (λq φ _ _ a b=>⟨by rw[kU λz=>b (by rw[bF.mp z];exact hp0)];exact a,b⟩) (L2.aS.refl _)
 ·rw[kU λz=>nr (by rw[<- bF.mp z];exact ha)];exact nb a (aI _ ha)
end
section
variable{F:wW}{X:Cx}{e:Expr}
def zUp(t:EZ F):EZ (pY F):=λτ n σ Q=>∃τ0 dr,τ=.tuple [τ0,dr]/\t τ0 n.1 σ λn1 d=>Q (n1,n.2) d
def V2{K H H' ps}{T:F.I×Addr}{n:F.S×List D}{n'}(a:(pY F).At T K H ps n)(hm:∀a∈F.ad T.1,a∈ps)(s:fX (F.ad T.1) H H')(t:F.At T.1 K H' ps n'):(pY F).At T K H' ps (n',n.2):=by
 obtain⟨nr,_,xs,hx,hr⟩:=a;exact⟨nr,t,xs,s _ _ nr hx,hr.same (s.mask hm)⟩
def fX.more{as bs H H'}(s:fX as H H')(h:∀a∈as,a∈bs):fX bs H H':=λa o ne e=>s a o (λz=>ne (h a z)) e
def HW{t}(h:wV X e t):wV (F:=pY F) X e (zUp t):=by
 obtain⟨v,p,r⟩:=h;refine⟨v,p,λB p0 H ps σT σ T n Q QV o h k=>?_⟩;obtain⟨τ0,dr,ht,h⟩:=h;injection ht with ht
 injection ht with h1 _
 subst h1;exact r _ p0 H ps σT σ T.1 n.1 _ _ o.fst h λn1 d x H1 s1 t1 r1 q1=>k (n1,n.2) d x H1 (s1.more λa ha=>aI _ ha) (V2 o.tp (λa ha=>o.mem' a (aI _ ha)) s1 t1) r1 q1
def aLa(t:TZ F):TZ (pY F):=λτ n σ Q=>∃τ0 dr,τ=.tuple [τ0,dr]/\t τ0 n.1 σ λn1 b=>Q (n1,n.2) b
def QW{t}(h:PL X e t):PL (F:=pY F) X e (aLa t):=by
 obtain⟨v,p,r⟩:=h;refine⟨v,p,λB p0 H ps σT σ T n Q QV o h k=>?_⟩;obtain⟨τ0,dr,ht,h⟩:=h;injection ht with ht
 injection ht with h1 _
 subst h1;exact r _ p0 H ps σT σ T.1 n.1 _ _ o.fst h λn1 d H1 s1 t1 q1=>k (n1,n.2) d H1 (s1.more λa ha=>aI _ ha) (V2 o.tp (λa ha=>o.mem' a (aI _ ha)) s1 t1) q1
noncomputable def unR(p0:List Addr)(r:Addr):List Addr:=p0.filter λa=>decide (a≠r)
def lA{p0}{r a:Addr}:a∈unR p0 r↔a∈p0/\a≠r:=by
 unfold unR;rw[cU,decide_eq_true_eq]
end
mutual
def nl:D->Bool
|.tuple ts=>nlA ts
|.list _=>false
|.dict _=>false
|_=>true
def nlA:List D->Bool
|[]=>true
|t::ts=>nl t&&nlA ts
end
def aC3(H H':Hp):Prop:=∀a u,H a=some u->(∀l,u≠.lst l)->H' a=some u
theorem gD.nl{K:aF}{H H':Hp}(e:aC3 H H'){d:D}{v:V}(r:gD K H d v):TL.nl d=true->gD K H' d v:=by
 refine gD.rec (motive_1:=λd v _=>TL.nl d=true->gD K H' d v) (motive_2:=λds vs _=>nlA ds=true->Reps K H' ds vs) (λ_=>.none) (λb _=>.bool b) (λi _=>.int i) (λx _=>.str x) ?_ (λq _ a h=>.tuple ?_ (a h)) ?_ ?_ ?_ ?_ ?_ ?_ ?_ ?_ (λ_=>.nil) (λ_ _ a b h=>.cons (a (dI _ _▸h:_/\_).1) (b (dI _ _▸h:_/\_).2)) r
 case refine_2=>
  rcases q with(q | ⟨o,q⟩) | q
  ·exact .inl (.inl (e _ _ q λl z=>by cases z))
  ·exact .inl (.inr ⟨o,e _ _ q λl z=>by cases z⟩)
  ·exact .inr q
 all_goals intros;rename_i h;cases h
def NL{H ps}{r:Addr}{xs}(hr:H r=some (.lst xs)):aC3 (mask H (unR ps r)) (mask H ps):=λa u e hn=>by
 unfold mask at e |-
 by_cases z:a∈unR ps r
 ·rw[if_pos z]at e;cases e
 ·rw[if_neg z]at e;by_cases ha:a∈ps
  ·have:a=r:=Classical.byContradiction λy=>z (lA.mpr ⟨ha,y⟩);rw[this,hr]at e;cases e;exact absurd rfl (hn xs)
  ·rw[if_neg ha];exact e
def tD{H ps}{r:Addr}:aS (mask H ps) (mask H (unR ps r)):=gF λa ha=>(lA.mp ha).1
section
variable{F:wW}{K:aF}{B H:Hp}{p0 ps:List Addr}{σT:List Sl}{σ:L2.St}{T:F.I×Addr}{n:F.S×List D}{j:Nat}
def lY.slotL(o:lY (pY F) K B p0 H ps σT σ T n)(hj:σT[j]?=some (.val (I0 T.2))):σ[j]?=some (some (.ref T.2)):=by
 obtain⟨v,h1,h2⟩:=o.ok.val j _ hj;rw[A8 h2]at h1;exact h1
def lY.memL(o:lY (pY F) K B p0 H ps σT σ T n):T.2∈ps:=o.mem' T.2 (aL ..)
def lY.shr(o:lY (pY F) K B p0 H ps σT σ T n)(hj:σT[j]?=some (.val (I0 T.2))):Ok K (yH B (T.2::F.ad T.1) H) (unR p0 T.2) H (unR ps T.2) (σT.set j (.val (.list n.2))) σ:=by
 have hσ:=o.slotL hj;obtain⟨ok,mem,nb,nr,at1,xs,hx,hr⟩:=o;have hjl:j<σT.length:=(aH.mp hj).1;refine⟨λa u e=>?_,λa ha=>lA.mpr ⟨ok.sub a (lA.mp ha).1,(lA.mp ha).2⟩,λa ha=>ok.live a (lA.mp ha).1,by rw[Z3];exact ok.len,λi d h=>?_,λi ts h=>?_,λi k ts us p h1 h2 h3 h4=>?_,?_⟩
 ·by_cases z:a∈T.2::F.ad T.1
  ·rw[AB z]at e;exact e
  ·rw[kU z]at e;exact ok.base a u e
 ·by_cases z:j=i
  ·subst z;rw[bB hjl]at h;cases h;exact⟨_,hσ,.list (lM.of (jY (λz=>(lA.mp z).2 rfl) hx)) (hr.same tD)⟩
  ·rw[aU z]at h;obtain⟨v,h1,h2⟩:=ok.val i d h;exact⟨v,h1,h2.same tD⟩
 ·by_cases z:j=i
  ·subst z;rw[bB hjl]at h;cases h
  ·rw[aU z]at h;obtain⟨q,ys,h1,h2,h3,h4,h5,h6⟩:=ok.own i ts h;have hq:q≠T.2:=λz=>h4 (by rw[z];exact mem T.2 (aL ..));exact⟨q,ys,h1,lA.mpr ⟨h2,hq⟩,by rw[kU (show q∉T.2::F.ad T.1 fromλz=>h4 (mem q z))];exact h3,λz=>h4 (lA.mp z).1,h5,h6.same tD⟩
 ·have back:∀{l:Nat}{vs:List D},(σT.set j (.val (.list n.2)))[l]?=some (.own vs)->σT[l]?=some (.own vs):=λ{l vs} h=>by
   by_cases z:j=l
   ·subst z;rw[bB hjl]at h;cases h
   ·rw[aU z]at h;exact h
  exact ok.dis i k ts us p (back h1) (back h2) h3 h4
 ·exact ok.dc.to (λi hs kvs h=>by
   obtain⟨z,hz⟩:=FP (s:=.val (.list n.2)) (λ_ _ z=>nomatch z) h;exact⟨hz,rfl⟩) (λq φ a b _=>⟨lA.mpr ⟨a,λz=>by rw[z,hx]at b;cases b⟩,rfl⟩) (λq φ _ _ a b=>⟨by rw[kU (show q∉T.2::F.ad T.1 fromλz=>b (mem q z))];exact a,λz=>b (lA.mp z).1⟩) tD
def KK(a:(pY F).At T K H ps n)(hr:T.2∈ps){us ys}(h:Reps K (mask H ps) us ys):(pY F).At T K (eS H T.2 (.lst ys)) ps (n.1,us):=by
 obtain⟨nr,at1,xs,hx,_⟩:=a;have hm:aS (mask H ps) (mask (eS H T.2 (.lst ys)) ps):=by rw[fB hr];exact L2.aS.refl _
 exact⟨nr,F.to at1 (λb hb=>bT λz=>nr (by rw[<- z];exact hb)) hm,ys,bS,h.same hm⟩
end
section
variable{F:wW}{X:Cx}{e m ix:Expr}{es:List Expr}{te ti:ET}{pos p2 ap cp:Pos}{i:Nat}
def K9(τ:D)(σ:List Sl)(i:Nat):Prop:=∃τ0 dr,τ=.tuple [τ0,dr]/\σ[i]?=some (.val dr)
def K9.sg{T:F.I×Addr}{σ}(h:K9 ((pY F).tau T) σ i):σ[i]?=some (.val (I0 T.2)):=by
 obtain⟨τ0,dr,ht,h⟩:=h;injection ht with ht
 injection ht with _ ht
 injection ht with ht _
 subst ht;exact h
def aLc(i:Nat)(t:ET):EZ (pY F):=λτ n σ Q=>K9 τ σ i/\t (σ.set i (.val (.list n.2))) λd=>nl d=true/\Q n d
def FN(i:Nat){t}(h:gK X e t):wV (F:=pY F) X e (aLc i t):=by
 obtain⟨v,p,r⟩:=h;refine⟨v,p,λB p0 H ps σT σ T n Q QV o h k=>?_⟩;obtain⟨hl,h⟩:=h;refine r _ _ H _ _ σ _ QV (o.shr hl.sg) h λd x H1 s1 r1 q1=>?_;obtain⟨_,_,xs,hx,_⟩:=o.tp;exact k n d x H1 (.of s1) (o.tp.grow s1) (r1.nl (NL (s1 _ _ hx)) q1.1) q1.2
def aGu(i:Nat)(t:vN):TZ (pY F):=λτ n σ Q=>K9 τ σ i/\t (σ.set i (.val (.list n.2))) (Q n)
def QX(i:Nat){t}(h:IV X e t):PL (F:=pY F) X e (aGu i t):=by
 obtain⟨v,p,r⟩:=h;refine⟨v,p,λB p0 H ps σT σ T n Q QV o h k=>?_⟩;obtain⟨hl,h⟩:=h;exact r _ _ H _ _ σ _ QV (o.shr hl.sg) h λb H1 s1 q1=>k n b H1 (.of s1) (o.tp.grow s1) q1
def Z8(i:Nat)(te:ET):SZ (pY F):=λτ DC n σ=>K9 τ σ i/\te σ λd=>n.2.length<=100000/\DC.nx (n.1,n.2++[d]) σ
def LL(hn:PE X m (oI i))(he:gK X e te)(hs:bL [e] X.env=(false,eval e X.env)::bL [] X.env:=by rfl)
  (pb:∀{ta},PA X [e] ta->PS X (.Expr (.Call (.Attribute m "append" ap) [e] [] cp) pos) (DK (Q9 X.K "list" E6 (oI i) ta))):zB (F:=pY F) X (.Expr (.Call (.Attribute m "append" ap) [e] [] cp) pos) (Z8 i te):=by
 obtain⟨v,p,r⟩:=he;refine⟨_,pb (cL p gL hs),λB p0 H ps σT σ T n DC DV o h f=>?_⟩;obtain⟨hl,h⟩:=h;obtain⟨_,_,xs,hx,hr⟩:=id o.tp;refine⟨.ref T.2,o.slotL hl.sg,.inl ⟨rfl,xs,lM.of hx⟩,r B p0 H ps σT σ _ _ o.ok h λd x H1 s1 r1 q1=>?_⟩;refine⟨T.2,xs,x,rfl,rfl,s1 _ _ hx,?_,?_⟩
 ·rw[<- hr.length];have:bE=2^24:=rfl;have:=q1.1;omega
 ·have o1:=o.grow s1;have t2:=KK o1.tp o.memL ((hr.same (bH s1)).append (.cons r1 .nil));exact f.nx _ ps σT σ _ (o1.there (aL ..) t2) ((bH s1).trans (by rw[fB o.memL];exact L2.aS.refl _)) q1.2
def aGw(i:Nat)(ti te:ET):SZ (pY F):=λτ DC n σ=>K9 τ σ i/\te σ λd=>ti σ λx=>∃k:Nat,x=.int k/\k<n.2.length/\DC.nx (n.1,n.2.set k d) σ
def W1(hi:gK X ix ti)(he:gK X e te)
  (pa:∀{v vi},PE X e v->PE X ix vi->PS X (.Assign [.Subscript m ix p2] e pos) (tW v (aFm (oI i) vi SE))):zB (F:=pY F) X (.Assign [.Subscript m ix p2] e pos) (aGw i ti te):=by
 obtain⟨v,pe,re⟩:=he;obtain⟨vi,pi,ri⟩:=hi;refine⟨_,pa pe pi,λB p0 H ps σT σ T n DC DV o h f=>?_⟩;obtain⟨hl,h⟩:=h;refine re B p0 H ps σT σ _ _ o.ok h λd x H1 s1 r1 q1=>?_;have o1:=o.grow s1;refine⟨.ref T.2,o1.slotL hl.sg,ri B p0 H1 ps σT σ _ _ o1.ok q1 λd2 y H2 s2 r2 q2=>?_⟩;obtain⟨k,rfl,hlt,q2⟩:=q2;cases r2;have o2:=o1.grow s2;obtain⟨_,_,xs,hx,hr⟩:=id o2.tp
 have hj:UQ xs.length (k:Int)=some k:=by
  rw[<- hr.length];exact YW hlt
 refine⟨T.2,xs,k,k,rfl,rfl,hx,hj,?_⟩;have t3:=KK o2.tp o.memL (hr.put k (r1.same (bH s2)));exact f.nx _ ps σT σ _ (o2.there (aL ..) t3) (((bH s1).trans (bH s2)).trans (by rw[fB o.memL];exact L2.aS.refl _)) q2
theorem A7{K H}:∀{ds:List D}{vs:List V}(k:Nat),Reps K H ds vs->Reps K H (ds.eraseIdx k) (vs.eraseIdx k)
|_,_,_,.nil=>.nil
|_,_,0,.cons r t=>t
|_,_,k+1,.cons r t=>.cons r (A7 k t)
def aGx(i:Nat)(ti:ET):EZ (pY F):=λτ n σ Q=>K9 τ σ i/\ti σ λy=>∃(k:Nat)(d:D),y=.int k/\k<100000/\n.2[k]?=some d/\Q (n.1,n.2.eraseIdx k) d
def ZA(hi:gK X ix ti)(pc:∀{vi},PE X ix vi->PE X (.Call (.Attribute m "pop" ap) [ix] [] cp) (Q9 X.K "list" SF (oI i) (pR vi xC))):wV (F:=pY F) X (.Call (.Attribute m "pop" ap) [ix] [] cp) (aGx i ti):=by
 obtain⟨vi,pi,ri⟩:=hi;refine⟨_,pc pi,λB p0 H ps σT σ T n Q QV o h k=>?_⟩;obtain⟨hl,h⟩:=h;obtain⟨_,_,xs,hx,hr⟩:=id o.tp;refine⟨.ref T.2,o.slotL hl.sg,.inl ⟨rfl,xs,lM.of hx⟩,ri B p0 H ps σT σ _ _ o.ok h λd y H1 s1 r1 q1=>?_⟩;obtain⟨j,d,rfl,hj,hd,q⟩:=q1;cases r1;have o1:=o.grow s1;have hr1:=hr.same (bH (ps:=ps) s1);obtain⟨v,hv,rv⟩:=hr1.get hd;have hlt:j<xs.length:=(aH.mp hv).1
 have hs:seqIndex? (j:Int) xs.length=some j:=by
  unfold seqIndex?;simp only[show¬((j:Int)<0) by omega,if_false];rw[if_pos (by simp;omega)];simp
 refine⟨T.2,xs,j,j,v,rfl,rfl,s1 _ _ hx,by omega,by omega,hs,hv,?_⟩;have t2:=KK o1.tp o.memL (A7 j hr1);exact k _ d v _ ((fX.of s1).trans (xE (aL ..))) t2 (rv.same (by rw[fB o.memL];exact L2.aS.refl _)) q
theorem G2{K H d'}:∀{ds:List D}{vs}{k:Nat},Reps K H ds vs->(∀v,vs[k]?=some v->gD K H d' v)->Reps K H (ds.set k d') vs
|_,_,_,.nil,_=>.nil
|_,_,0,.cons r t,h=>.cons (h _ rfl) t
|_,_,k+1,.cons r t,h=>.cons r (G2 t λv hv=>h v (by simpa using hv))
def QO(j:Nat)(sp:oV)(t:AZ (pY F)):EZ (pY F):=λτ n σ Q=>t τ n σ λn1 ds=>(∃τ0 dr,τ=.tuple [τ0,dr]/\ds[j]?=some dr)/\sp (ds.set j (.list n1.2)) λd=>∃b,d=.bool b/\Q n1 (.bool b)
def B5(j:Nat){sp x p t}(ha:P8 X (e::es) t)(pc:∀{ta},PA X (e::es) ta->PE X (.Call (.Name x p) (e::es) [] pos) (xZ (bJ X.K sp) [] E0 ta)):wV (F:=pY F) X (.Call (.Name x p) (e::es) [] pos) (QO j sp t):=by
 obtain⟨v,pa,ra⟩:=ha;refine⟨_,pc pa,λB p0 H ps σT σ T n Q QV o h k=>ra B p0 H ps σT σ T n _ _ o h λn1 ds xs H1 s1 t1 r1 q1=>?_⟩;obtain⟨⟨τ0,dr,ht,hj⟩,q1⟩:=q1;injection ht with ht
 injection ht with _ ht
 injection ht with ht _
 subst ht;show bJ X.K sp (xs++[]) H1 QV E0;rw[dQ];have o1:=o.growX s1 t1;obtain⟨_,_,ys,hx,hr⟩:=id t1;refine⟨unR ps T.2,ds.set j (.list n1.2),_,λa ha=>o1.ok.live a (lA.mp ha).1,G2 (r1.same tD) λv hv=>?_,q1,λd v H' s' r' q'=>?_⟩
 ·obtain⟨w,hw,rw'⟩:=r1.get hj;rw[hv]at hw;cases hw;rw[A8 rw'];exact .list (lM.of (jY (λz=>(lA.mp z).2 rfl) hx)) (hr.same tD)
 ·obtain⟨b,rfl,q'⟩:=q';cases r';exact k n1 _ _ H' (s1.trans (.of s')) (wW.At.grow (F:=pY F) t1 s') (.bool b) q'
def W2{y px lp spos kD}{u:SZ (pY F)}(pc:PS X (.Assign [.Name y px] (.List [] lp) spos) (tW (aHa xC) (lF i)))(hr:vI X kD u) :
  vI (F:=F) X (.Assign [.Name y px] (.List [] lp) spos::kD) (λτ DC n σ=>∀dr,u (.tuple [τ,dr]) { nx:=λ_ _=>False,rt:=λn1=>DC.rt n1.1 } (n,[]) (σ.set i (.val dr))):=by
 obtain⟨vr,pr,rr⟩:=hr;refine⟨_,mG pc pr,λB p0 H ps σT σ T n DC DV o h f=>⟨cT _,λr hr0=>?_⟩⟩;have s1:aS H (eS H r (.lst [])):=cZ hr0;have nr:=o.ne hr0;have oW:Ok X.K B ([r]++p0) (eS H r (.lst [])) ([r]++ps) σT σ:=o.ok.wide s1 (λa ha=>by rw[bF.mp ha];exact hr0) λa ha=>by rw[bF.mp ha];exact⟨_,bS,rfl⟩
 have hB:B r=none:=aS.free' o.ok.base hr0;have hm:aS (mask H ps) (mask (eS H r (.lst [])) (r::ps)):=by rw[kT hr0];exact L2.aS.refl _
 have oz:lY (pY F) X.K B ([r]++p0) (eS H r (.lst [])) ([r]++ps) (σT.set i (.val (I0 r))) (σ.set i (some (.ref r))) (T,r) (n,[]):=
  ⟨oW.set (.addr _),λa ha=>by
   rcases aN.mp ha with rfl | ha
   ·exact aL ..
   ·exact aI _ (o.mem a ha),λa ha=>by
   rcases aN.mp ha with rfl | ha
   ·exact hB
   ·exact o.nb a ha,nr,F.to o.tp (λa ha=>bT λz=>nr (by rw[<- z];exact ha)) hm,[],bS,.nil⟩
 exact rr B ([r]++p0) _ ([r]++ps) _ _ (T,r) _ _ DV oz (h (I0 r)) ⟨λ_ _ _ _ _ _ _ q'=>q'.elim,λ_ _ _ _ _ _ _ q'=>q'.elim,λ_ _ _ _ _ _ _ q'=>q'.elim,λn' d v H2 s' t' r' q'=>f.rt n'.1 d v H2 s' (F.to t'.2.1 (λ_ _=>rfl) (gF λa ha=>cH _ ha)) (r'.same (gF λa ha=>cH _ ha)) q',True.intro⟩
end
structure ZU where
 p:Addr
 q:Addr
 ns:List Int
 b:Bool
structure aC4 where
 nx:Nat->List Sl->Prop
 rt:Nat->D->Prop
 bk:Nat->List Sl->Prop:=λ_ _=>False
 ct:Nat->List Sl->Prop:=λ_ _=>False
abbrev STC:=D->aC4->Nat->List Sl->Prop
section
variable{F:wW}{t:vH}{u:SZ F}{τ:D}{DC:yP F}{n:F.S}{σ:List Sl}{i:Nat}{te:EZ F}
def vP(h:jA t (λ_=>u τ DC n) { nx:=λ_=>True,rt:=λ_=>False,bk:=DC.bk n,ct:=DC.ct n } σ):qM (zP t) u τ DC n σ:=h
def LJ(v:D)(h:∀q:F.S->D->Prop,q n v->te τ n σ q)(k:u τ DC n (σ.set i (.val v))):qM (aDi i te) u τ DC n σ:=h (λn1 d=>u τ DC n1 (σ.set i (.val d))) k
def WO(R:F.S->D->Prop)(h:∀q:F.S->D->Prop,(∀m v,R m v->q m v)->te τ n σ q)(k:∀m v,R m v->u τ DC m (σ.set i (.val v))):qM (aDi i te) u τ DC n σ:=h _ k
def rP{c:TZ F}{t e:SZ F}(b:Bool)(h:∀q:F.S->Bool->Prop,q n b->c τ n σ q)(k1:b=true->t τ { DC with nx:=u τ DC } n σ)(k0:b=false->e τ { DC with nx:=u τ DC } n σ):qM (zIf c t e) u τ DC n σ:=by
 refine h _ ?_
 cases b with
 |true=>rw[if_pos rfl];exact k1 rfl
 |false=>rw[if_neg (by decide)];exact k0 rfl
def AO{c:TZ F}{t e:SZ F}(R:F.S->Bool->Prop)(h:∀q:F.S->Bool->Prop,(∀m b,R m b->q m b)->c τ n σ q)(k1:∀m,R m true->t τ { DC with nx:=u τ DC } m σ)(k0:∀m,R m false->e τ { DC with nx:=u τ DC } m σ):qM (zIf c t e) u τ DC n σ:=by
 refine h _ λm b hb=>?_
 cases b with
 |true=>rw[if_pos rfl];exact k1 m hb
 |false=>rw[if_neg (by decide)];exact k0 m hb
def JH{c:TZ F}{t e:SZ F}(b:Bool)(h:∀q:F.S->Bool->Prop,q n b->c τ n σ q)(k1:b=true->t τ DC n σ)(k0:b=false->e τ DC n σ):zIf c t e τ DC n σ:=by
 refine h _ ?_
 cases b with
 |true=>rw[if_pos rfl];exact k1 rfl
 |false=>rw[if_neg (by decide)];exact k0 rfl
def aDg{ti}{ts:List D}{g:GT}{tb}(hti:qZ ti σ ts)(P:Nat->F.S->List Sl->Prop)(h0:P 0 n σ)
  (hs:∀(k:Nat)(m:F.S)(x:D)σ',ts[k]?=some x->P k m σ'->g x σ' λσ2=>tb τ { DC with nx:=P (k+1),ct:=P (k+1),bk:=u τ DC } m σ2) (hd:∀m σ',P ts.length m σ'->u τ DC m σ'):qM (aGz ti g tb) u τ DC n σ:=
 hti _ ⟨P,h0,hs,hd⟩
end
end TL
namespace L2
def gM.u1{k:Nat}{A:PySem.Around}(r:gM k A):A.units+1<PySem.cLine:=by have:=r.units;omega
end L2
namespace TL
open L2
section
variable{F:wW}{X:Cx}{e:Expr}{es:List Expr}{pos:Pos}
def uN{te:EZ F}(h:wV X e te)(pt:∀{t:TE},PE X e t->PT X e (tB t)):PL X e (WQ te):=by
 obtain⟨v,p,r⟩:=h;refine⟨_,pt p,λB p0 H ps σT σ T n Q QV o h k=>r B p0 H ps σT σ T n _ _ o h λn1 d x H1 s1 t1 r1 q1=>?_⟩
 cases r1 with
 |bool c=>exact⟨c,rfl,k n1 c H1 s1 t1 q1⟩
 |_=>exact q1.elim
def aDm(sp:EH F)(t:AZ (pY F)):EZ (pY F):=λτ n σ Q=>t τ n σ λn1 ds=>∃τ0 dr,τ=.tuple [τ0,dr]/\sp τ0 n1.1 ds λn2 d=>Q (n2,n1.2) d
def VB{sp x p t}(ha:P8 X (e::es) t)(pc:∀{ta},PA X (e::es) ta->PE X (.Call (.Name x p) (e::es) [] pos) (xZ (eB X.K sp) [] E0 ta)):wV (F:=pY F) X (.Call (.Name x p) (e::es) [] pos) (aDm sp t):=by
 obtain⟨v,pa,ra⟩:=ha;refine⟨_,pc pa,λB p0 H ps σT σ T n Q QV o h k=>ra B p0 H ps σT σ T n _ _ o h λn1 ds xs H1 s1 t1 r1 q1=>?_⟩;obtain⟨τ0,dr,ht,q1⟩:=q1;injection ht with ht
 injection ht with h1 _
 subst h1;show eB X.K sp (xs++[]) H1 QV E0;rw[dQ];have o1:=o.growX s1 t1;have hm:∀a∈F.ad T.1,a∈ps:=λa ha=>o.mem' a (aI _ ha);exact⟨ps,T.1,n1.1,ds,_,o1.ok.live,hm,t1.2.1,r1,q1,λn' d v H' s' t' r' q'=>k (n',n1.2) d v H' (s1.trans (s'.more λa ha=>aI _ ha)) (V2 t1 hm s' t') r' q'⟩
end
section
variable{X:Cx}{e:Expr}{te:ET}{x:Str}{pos pos':Pos}
def ss(i:Nat)(hN:X.N.Nodup)(h:gK X e te)(hi:X.N[i]?=some x:=by rfl)(hx:QA X.env.scope x:=by first | exact Or.inl rfl | exact Or.inr rfl)(hs:kH e (some (.Name x pos')) pos.line X.env=pure false:=by rfl)
  (hf:X.fn x=true\/X.env.scope.names.lookup x=some .local:=by first | exact .inl rfl | exact .inr rfl):AM X (.Assign [.Name x pos'] e pos) (GZ i te):=RH (i:=i) h λh=>mS hN hi hx h hs hf
def pn(i:Nat)(hN:X.N.Nodup)(hi:X.N[i]?=some x:=by rfl)(hx:QA X.env.scope x:=by first | exact Or.inl rfl | exact Or.inr rfl)(hf:X.fn x=true\/X.env.scope.names.lookup x=some .local:=by first | exact .inl rfl | exact .inr rfl):PG X (.Name x pos) (lF i):=L9 hN hi hx hf
def nQ{N P:List Str}{sc:Scope}(h1:sc.kind=.function:=by rfl)(h2:sc.isCoroutine=false:=by rfl)(h3:sc.isGenerator=false:=by rfl)(h4:N.Nodup:=by decide +kernel)(h5:N.take P.length=P:=by rfl)(h6:∀x∈P,sc.names.lookup x=some .local\/sc.names.lookup x=some .cell:=by decide +kernel)(h7:∀y∈sc.names,y.2≠.free:=by decide +kernel):bZ N P sc:=⟨h1,h2,h3,h4,h5,h6,h7⟩
end
end TL
namespace L2
noncomputable abbrev fO(x q:Str)(st:Stmt)(kV dc pm:Value)(an:Option Addr)(cd ct:Value):gT:=mO x q (wP st) (kN st) (aY st) .none kV dc pm an cd ct
def aMg{α:Type}{P:List α->Prop}(h:∀a,P [a]):∀us:List α,us.length=1->P us
|[a],_=>h a
def aMf{α:Type}{P:List α->Prop}(h:∀a b,P [a,b]):∀us:List α,us.length=2->P us
|[a,b],_=>h a b
def aMe{α:Type}{P:List α->Prop}(h:∀a b c,P [a,b,c]):∀us:List α,us.length=3->P us
|[a,b,c],_=>h a b c
def aMd{α:Type}{P:List α->Prop}(h:∀a b c d,P [a,b,c,d]):∀us:List α,us.length=4->P us
|[a,b,c,d],_=>h a b c d
def aMc{α:Type}{P:List α->Prop}(h:∀a b c d e,P [a,b,c,d,e]):∀us:List α,us.length=5->P us
|[a,b,c,d,e],_=>h a b c d e
abbrev oQ(x q:Str)(st:Stmt)(ps:List Str):Prop:=∀(kV dc pm:Value)(an:Option Addr)(cd ct:Value)(us:List Value),us.length=ps.length->bindArgs (fO x q st kV dc pm an cd ct) ⟨us,[]⟩=pure (ps.zip us)
structure Dg(K:aF)(x q:Str)(st:Stmt)(a:Addr)(f:gT)(ps:List Str):Prop where
 k:fV K (.ref a)=true
 F:LB K x q st a f
 d:oR K f ps []
structure Df(K:aF)(mg:Str->Option Value)(x:Str)(st:Stmt)(a:Addr)(f:gT)(ps:List Str):Prop extends Dg K x x st a f ps where
 m:mg x=some (.ref a)
section
variable{K:aF}{h:Heap}{mg:Str->Option Value}{x q:Str}{st:Stmt}{ps:List Str}{f:Addr}{oc:Value}{od an:Option Addr}{sl:Array (Option Value)}{kV dc pm cd ct:Value}
def dg(b:oQ x q st ps)(l:K.lookup f=some ⟨oc,od,.func (fO x q st kV dc pm an cd ct),sl⟩)(c:oS K cd q=true)(k:fV K (.ref f)=true):Dg K x q st f (fO x q st kV dc pm an cd ct) ps:=⟨k,U2 l c k,(U2 l c k).binds b⟩
def df(X:K.In h)(G:h.Ns dS mg)(b:oQ x x st ps)(a:eX K dS x=some (some (.ref f)))(l:K.lookup f=some ⟨oc,od,.func (fO x x st kV dc pm an cd ct),sl⟩)(c:oS K cd x=true)(k:fV K (.ref f)=true):Df K mg x st f (fO x x st kV dc pm an cd ct) ps:=⟨dg b l c k,jI X G a⟩
def P7{p0}(h:∀kV dc pm an cd ct a0,bindArgs (fO x q st kV dc pm an cd ct) ⟨[a0],[]⟩=pure ([p0].zip [a0]):=by intros;rfl):oQ x q st [p0]:=λa b c d e f=>aMg (h a b c d e f)
def yL{p0 p1}(h:∀kV dc pm an cd ct a0 a1,bindArgs (fO x q st kV dc pm an cd ct) ⟨[a0,a1],[]⟩=pure ([p0,p1].zip [a0,a1]):=by intros;rfl):oQ x q st [p0,p1]:=λa b c d e f=>aMf (h a b c d e f)
def bn3{p0 p1 p2}(h:∀kV dc pm an cd ct a0 a1 a2,bindArgs (fO x q st kV dc pm an cd ct) ⟨[a0,a1,a2],[]⟩=pure ([p0,p1,p2].zip [a0,a1,a2]):=by intros;rfl):oQ x q st [p0,p1,p2]:=λa b c d e f=>aMe (h a b c d e f)
def bn4{p0 p1 p2 p3}(h:∀kV dc pm an cd ct a0 a1 a2 a3,bindArgs (fO x q st kV dc pm an cd ct) ⟨[a0,a1,a2,a3],[]⟩=pure ([p0,p1,p2,p3].zip [a0,a1,a2,a3]):=by intros;rfl):oQ x q st [p0,p1,p2,p3]:=λa b c d e f=>aMd (h a b c d e f)
def bn5{p0 p1 p2 p3 p4}(h:∀kV dc pm an cd ct a0 a1 a2 a3 a4,bindArgs (fO x q st kV dc pm an cd ct) ⟨[a0,a1,a2,a3,a4],[]⟩=pure ([p0,p1,p2,p3,p4].zip [a0,a1,a2,a3,a4]):=by intros;rfl):oQ x q st [p0,p1,p2,p3,p4]:=λa b c d e f=>aMc (h a b c d e f)
def na{C:Addr}{f}(h:dA K (.ref C) f=some none):gB K C f:=h
end
end L2
namespace TL
open L2
section
variable{X:Cx}{e:Expr}{es:List Expr}{te:ET}{x:Str}{pos pos' p:Pos}
def cd{k n:Nat}{f:Addr}{fd pn sp t st}(F:bU X.prog X.w X.K X.mg X.base eG k f fd pn (bJ X.K sp))(D:Df X.K X.mg x st f fd pn)(hr:gM n X.A)(ha:vK X (e::es) t)(hk:k<=n:=by decide)
  (hg:Gl X x:=by rfl) (hdb:(x==("__debug__":Str))=false:=by decide) (he:bL (e::es) X.env=(false,eval e X.env)::bL es X.env:=by rfl) (hpl:(backTo pos (bL es X.env)).any (·.1)=false:=by rfl):gK X (.Call (.Name x p) (e::es) [] pos) (nX sp t):=ZD F D.m D.k D.d (hr.mono hk) ha λh=>jE F (hr.mono hk) hg D.m D.k D.d .nil iK h hdb he hpl
def cF{k n:Nat}{f:Addr}{fd pn sp t st}(F:bU X.prog X.w X.K X.mg X.base eG k f fd pn (iP X.K sp))(D:Df X.K X.mg x st f fd pn)(hr:gM n X.A)(ha:vK X (e::es) t)(hk:k<=n:=by decide)
  (hg:Gl X x:=by rfl) (hdb:(x==("__debug__":Str))=false:=by decide) (he:bL (e::es) X.env=(false,eval e X.env)::bL es X.env:=by rfl) (hpl:(backTo pos (bL es X.env)).any (·.1)=false:=by rfl):K7 X (.Call (.Name x p) (e::es) [] pos) (aCr sp t):=Y6 F D.m D.k D.d (hr.mono hk) ha λh=>jE F (hr.mono hk) hg D.m D.k D.d .nil iK h hdb he hpl
def cQ{k n:Nat}{f:Addr}{fd pn sp t st}(F:bU X.prog X.w X.K X.mg X.base eG k f fd pn (oC X.K sp))(D:Df X.K X.mg x st f fd pn)(hr:gM n X.A)(ha:vK X (e::es) t)(hk:k<=n:=by decide)
  (hg:Gl X x:=by rfl) (hdb:(x==("__debug__":Str))=false:=by decide) (he:bL (e::es) X.env=(false,eval e X.env)::bL es X.env:=by rfl) (hpl:(backTo pos (bL es X.env)).any (·.1)=false:=by rfl):PPt X (.Call (.Name x p) (e::es) [] pos) (aCe sp t):=SV F D.m D.k D.d (hr.mono hk) ha λh=>jE F (hr.mono hk) hg D.m D.k D.d .nil iK h hdb he hpl
def sf{tg iter body g tb ti}(he:K6 X tg iter ti)(hg:M9 X tg g)(hb:uA X body tb)(hp:PassesOwn (model X.prog X.w) X.A X.env X.xe:=by exact PassesOwn.never)(hc:X.calm=true:=by rfl)(hs:∀x,foldedSetIterable iter X.env x=pure x:=by intro _;rfl):AM X (.For tg iter body [] pos) (R4 ti g tb):=aD3 he hg hb λh1 h2 h3=>SR hp hc h1 h2 h3 hs
def el{elt iter tg ifs scope fr N' ti g tt te}(hi:K6 X tg iter ti)(hY:∀b:BP,M9 (blk X scope N' b) tg g/\F2 (blk X scope N' b) ifs tt/\gK (blk X scope N' b) elt te)(h:pG scope X.env.scope X.N N' fr=true:=by kernel_rfl)(hc:X.calm=true:=by rfl)(hs:∀x,foldedSetIterable iter X.env x=pure x:=by intro _;rfl):gK X (.ListComp elt [⟨tg,iter,ifs,0⟩] scope pos) (P5 fr ti g tt te):=aJ4 hi hY λa b=>S3 h hc a b hs
def fl{elt iter tg ifs scope fr N' ti g tt te}(hi:K6 X tg iter ti)(hY:∀b:BP,M9 (blk X scope N' b) tg g/\F2 (blk X scope N' b) ifs tt/\gK (blk X scope N' b) elt te)(h:pG scope X.env.scope X.N N' fr=true:=by kernel_rfl)(hc:X.calm=true:=by rfl)(hs:∀x,foldedSetIterable iter X.env x=pure x:=by intro _;rfl):K7 X (.ListComp elt [⟨tg,iter,ifs,0⟩] scope pos) (fLc fr ti g tt te):=aJv hi hY λa b=>S3 h hc a b hs
def cY{r:List V->Hp->VK->Prop}{f:List D->(D->Prop)->Prop}{t T}(hf:uL X r f)(ha:vK X (e::es) t)(hc:lG X (.type T) r)(hm:X.mg x=none)(hv:bootBuiltins x=some (.type T))(hg:Gl X x:=by rfl)(hn:x≠"__name__":=by decide)(hdb:(x==("__debug__":Str))=false:=by decide)(he:bL (e::es) X.env=(false,eval e X.env)::bL es X.env:=by rfl)(hpl:(backTo pos (bL es X.env)).any (·.1)=false:=by rfl):gK X (.Call (.Name x p) (e::es) [] pos) (nX f t):=aCu hf ha λh=>xG hc hg hm hv h hn hdb he hpl
def cB{r:List V->Hp->VK->Prop}{f:List D->(D->Prop)->Prop}{t T}(hf:uL X r f)(ha:vK X (e::es) t)(hc:lG X (.builtin T) r)(hm:X.mg x=none)(hv:bootBuiltins x=some (.builtin T))(hg:Gl X x:=by rfl)(hn:x≠"__name__":=by decide)(hdb:(x==("__debug__":Str))=false:=by decide)(he:bL (e::es) X.env=(false,eval e X.env)::bL es X.env:=by rfl)(hpl:(backTo pos (bL es X.env)).any (·.1)=false:=by rfl):gK X (.Call (.Name x p) (e::es) [] pos) (nX f t):=aCu hf ha λh=>iI hc hg hm hv h hn hdb he hpl
def so{p2 t}(i:Nat)(hN:X.N.Nodup)(h:vK X es t)(hi:X.N[i]?=some x:=by rfl)(hx:QA X.env.scope x:=by first | exact Or.inl rfl | exact Or.inr rfl)(hs:kH (.List es p2) (some (.Name x pos')) pos.line X.env=pure false:=by rfl)(hf:X.fn x=true\/X.env.scope.names.lookup x=some .local:=by first | exact .inl rfl | exact .inr rfl):AM X (.Assign [.Name x pos'] (.List es p2) pos) (aEe i t):=aD2 (i:=i) h λh=>mS hN hi hx h hs hf
def sF{t}(i:Nat)(hN:X.N.Nodup)(h:K7 X e t)(hi:X.N[i]?=some x:=by rfl)(hx:QA X.env.scope x:=by first | exact Or.inl rfl | exact Or.inr rfl)(hs:kH e (some (.Name x pos')) pos.line X.env=pure false:=by rfl)(hf:X.fn x=true\/X.env.scope.names.lookup x=some .local:=by first | exact .inl rfl | exact .inr rfl):AM X (.Assign [.Name x pos'] e pos) (GY i t):=XG (i:=i) h λh=>mS hN hi hx h hs hf
noncomputable def ndB(l:List Str):Bool:=decide l.Nodup
def pk(i:Nat)(hN:ndB X.N=true:=by kernel_rfl)(hi:X.N[i]?=some x:=by rfl)(hx:QA X.env.scope x:=by first | exact Or.inl rfl | exact Or.inr rfl)(hf:X.fn x=true\/X.env.scope.names.lookup x=some .local:=by first | exact .inl rfl | exact .inr rfl):PG X (.Name x pos) (lF i):=L9 (of_decide_eq_true hN) hi hx hf
def tv(h:gK X e te)(he:∀whole,isTrue e X.env whole=(do let v <- whole;standAt e.pos;holding [v] (truthy v)):=by intro _;rfl):IV X e (M6 te):=aDq h λh=>rZ h he
end
end TL
namespace L2
section
variable{K:aF}{C J:Addr}{cd:ClassData}
def MU(hc:fW K J=some cd)(ht:fU K (.ref J)=some (.type "type"))(hb:bD K J (.type "BaseException")=some true)(hm:bD K C (.ref J)=some false):eD K (.ref C) (.ref J)=some false:=by
 unfold eD;have e:WJ K (.ref J) (.type "BaseException")=some true:=hb;rw[e,if_pos (by simp)];unfold sU;dsimp only;rw[hc,ht];show(if(true&&(some (Value.type "type")==some (Value.type "type")))=true then _ else _)=_;rw[if_pos (by simp)];exact hm
end
end L2
end
end
noncomputable section
namespace K71
open PySem L2 TL
noncomputable def top(i:Nat):Stmt:=PySem.Challenge.pw_leafjudge_k71_sixty_rows.main.body.getD i (.Pass ⟨0,0,0,0⟩)
structure Cz(K:aF)(mg:Str->Option Value)(c_JudgeError c_TooMany c_NoPlace c_NoRow c_NoSuch c_NoLine c_NoText c_NoRule:Addr):Prop where
 x_JudgeError:mg "JudgeError"=some (.ref c_JudgeError)
 x_TooMany:mg "TooMany"=some (.ref c_TooMany)
 x_NoPlace:mg "NoPlace"=some (.ref c_NoPlace)
 x_NoRow:mg "NoRow"=some (.ref c_NoRow)
 x_NoSuch:mg "NoSuch"=some (.ref c_NoSuch)
 x_NoLine:mg "NoLine"=some (.ref c_NoLine)
 x_NoText:mg "NoText"=some (.ref c_NoText)
 x_NoRule:mg "NoRule"=some (.ref c_NoRule)
 X_TooMany:ZT K c_TooMany
 R_TooMany:aF5 K c_TooMany
 j_TooMany:eD K (.ref c_TooMany) (.ref c_JudgeError)=some true
 e_TooMany:eD K (.ref c_TooMany) (.ref c_TooMany)=some true
 v_TooMany:bW K (.ref c_TooMany) (.type "ValueError")=some true
 q_TooMany_TooMany:bW K (.ref c_TooMany) (.ref c_TooMany)=some true
 q_TooMany_NoPlace:bW K (.ref c_TooMany) (.ref c_NoPlace)=some false
 q_TooMany_NoRow:bW K (.ref c_TooMany) (.ref c_NoRow)=some false
 q_TooMany_NoSuch:bW K (.ref c_TooMany) (.ref c_NoSuch)=some false
 q_TooMany_NoLine:bW K (.ref c_TooMany) (.ref c_NoLine)=some false
 q_TooMany_NoText:bW K (.ref c_TooMany) (.ref c_NoText)=some false
 q_TooMany_NoRule:bW K (.ref c_TooMany) (.ref c_NoRule)=some false
 u_TooMany_NoRow:eD K (.ref c_TooMany) (.ref c_NoRow)=some false
 X_NoRow:ZT K c_NoRow
 R_NoRow:aF5 K c_NoRow
 j_NoRow:eD K (.ref c_NoRow) (.ref c_JudgeError)=some true
 e_NoRow:eD K (.ref c_NoRow) (.ref c_NoRow)=some true
 v_NoRow:bW K (.ref c_NoRow) (.type "ValueError")=some true
 q_NoRow_TooMany:bW K (.ref c_NoRow) (.ref c_TooMany)=some false
 q_NoRow_NoPlace:bW K (.ref c_NoRow) (.ref c_NoPlace)=some false
 q_NoRow_NoRow:bW K (.ref c_NoRow) (.ref c_NoRow)=some true
 q_NoRow_NoSuch:bW K (.ref c_NoRow) (.ref c_NoSuch)=some false
 q_NoRow_NoLine:bW K (.ref c_NoRow) (.ref c_NoLine)=some false
 q_NoRow_NoText:bW K (.ref c_NoRow) (.ref c_NoText)=some false
 q_NoRow_NoRule:bW K (.ref c_NoRow) (.ref c_NoRule)=some false
 u_NoRow_TooMany:eD K (.ref c_NoRow) (.ref c_TooMany)=some false
structure Txt(K:aF)(mg:Str->Option Value)(c_JudgeError c_TooMany c_NoPlace c_NoRow c_NoSuch c_NoLine c_NoText c_NoRule:Addr)(a_0 a_1 a_2 a_3 a_4 a_5 a_6 a_7 a_8 a_9 a_10 a_11 a_12 a_13 a_14 a_15 a_16 a_17 a_18 a_19 a_20 a_21 a_22 a_23 a_24 a_25 a_26 a_27 a_28 a_29 a_30 a_31 a_32 a_33 a_34 a_35 a_36 a_37 a_38 a_39 a_40 a_41 a_42 a_43 a_44 a_45 a_46 a_47 a_48 a_49 a_law:Addr)(f_0 f_1 f_2 f_3 f_4 f_5 f_6 f_7 f_8 f_9 f_10 f_11 f_12 f_13 f_14 f_15 f_16 f_17 f_18 f_19 f_20 f_21 f_22 f_23 f_24 f_25 f_26 f_27 f_28 f_29 f_30 f_31 f_32 f_33 f_34 f_35 f_36 f_37 f_38 f_39 f_40 f_41 f_42 f_43 f_44 f_45 f_46 f_47 f_48 f_49 f_law:gT)(c_Book:Addr)(t_SIDES:Addr)(t_MOST_ROWS:Tok):Prop extends Cz K mg c_JudgeError c_TooMany c_NoPlace c_NoRow c_NoSuch c_NoLine c_NoText c_NoRule where
 x_Book:mg "Book"=some (.ref c_Book)
 C_Book:zF K c_Book
 K_Book:Mk K c_Book a_0
 n_Book_form:gB K c_Book "form"
 n_Book_deep:gB K c_Book "deep"
 n_Book_least:gB K c_Book "least"
 n_Book_numbered:gB K c_Book "numbered"
 n_Book_following:gB K c_Book "following"
 n_Book_standing:gB K c_Book "standing"
 M_1:zC K c_Book "put" a_1
 M_2:zC K c_Book "out" a_2
 M_3:zC K c_Book "turn" a_3
 M_4:zC K c_Book "rows" a_4
 M_5:zC K c_Book "tree" a_5
 M_6:zC K c_Book "refuse_no_row" a_6
 M_7:zC K c_Book "refuse_no_number" a_7
 M_8:zC K c_Book "grow_anew" a_8
 D_0:Dg K "__init__" "Book.__init__" (kG (top 45) 0) a_0 f_0 ["self","form","deep","least"]
 D_1:Dg K "put" "Book.put" (kG (top 45) 1) a_1 f_1 ["self","row"]
 D_2:Dg K "out" "Book.out" (kG (top 45) 2) a_2 f_2 ["self","number"]
 D_3:Dg K "turn" "Book.turn" (kG (top 45) 3) a_3 f_3 ["self","number","row"]
 D_4:Dg K "rows" "Book.rows" (kG (top 45) 4) a_4 f_4 ["self"]
 D_5:Dg K "tree" "Book.tree" (kG (top 45) 5) a_5 f_5 ["self"]
 D_6:Dg K "refuse_no_row" "Book.refuse_no_row" (kG (top 45) 6) a_6 f_6 ["self","thing"]
 D_7:Dg K "refuse_no_number" "Book.refuse_no_number" (kG (top 45) 7) a_7 f_7 ["self","number"]
 D_8:Dg K "grow_anew" "Book.grow_anew" (kG (top 45) 8) a_8 f_8 ["self"]
 D_9:Df K mg "is_tuple_of" (top 10) a_9 f_9 ["thing","fewest","most"]
 D_10:Df K mg "is_case" (top 12) a_10 f_10 ["form","thing"]
 D_11:Df K mg "is_row" (top 13) a_11 f_11 ["form","thing"]
 D_12:Df K mg "entries_of" (top 14) a_12 f_12 ["field"]
 D_13:Df K mg "counted" (top 16) a_13 f_13 ["form","rows"]
 D_14:Df K mg "first_answer" (top 17) a_14 f_14 ["form","rows"]
 D_15:Df K mg "doubt_of" (top 18) a_15 f_15 ["form","rows"]
 D_16:Df K mg "fraction" (top 19) a_16 f_16 ["top","bottom"]
 D_17:Df K mg "common_divisor" (top 20) a_17 f_17 ["one","other"]
 D_18:Df K mg "added" (top 21) a_18 f_18 ["one","other"]
 D_19:Df K mg "is_less" (top 22) a_19 f_19 ["one","other"]
 D_20:Df K mg "common_bottom" (top 23) a_20 f_20 ["fractions"]
 D_21:Df K mg "questions_of" (top 26) a_21 f_21 ["form"]
 D_22:Df K mg "questions_on" (top 27) a_22 f_22 ["field"]
 D_23:Df K mg "choices_of" (top 28) a_23 f_23 ["form"]
 D_24:Df K mg "side_of" (top 29) a_24 f_24 ["form","question","stray","case"]
 D_25:Df K mg "field_asked" (top 30) a_25 f_25 ["form","question"]
 D_26:Df K mg "entries_to_yes" (top 31) a_26 f_26 ["question","stray","field"]
 D_27:Df K mg "values_held" (top 32) a_27 f_27 ["question","field"]
 D_28:Df K mg "parted" (top 33) a_28 f_28 ["form","question","stray","rows"]
 D_29:Df K mg "numbers_on" (top 34) a_29 f_29 ["side","sides"]
 D_30:Df K mg "is_proper" (top 35) a_30 f_30 ["sides","fewest"]
 D_31:Df K mg "ranked" (top 37) a_31 f_31 ["form","rows","least"]
 D_32:Df K mg "rows_at" (top 38) a_32 f_32 ["rows","numbers"]
 D_33:Df K mg "best" (top 39) a_33 f_33 ["form","rows","least"]
 D_34:Df K mg "grown" (top 40) a_34 f_34 ["form","rows","deep","least"]
 D_35:Df K mg "is_leaf" (top 42) a_35 f_35 ["tree"]
 D_36:Df K mg "changed" (top 46) a_36 f_36 ["one","other"]
 D_37:Df K mg "_law_tape" (top 48) a_37 f_37 ["_law_script"]
 D_38:Df K mg "_law_draw" (top 49) a_38 f_38 ["_law_tape_here","_law_many"]
 D_39:Df K mg "_law_names" (top 50) a_39 f_39 ["_law_tape_here","_law_many"]
 D_40:Df K mg "_law_form" (top 51) a_40 f_40 ["_law_tape_here","_law_fields","_law_values"]
 D_41:Df K mg "_law_side" (top 52) a_41 f_41 ["_law_form_here","_law_knot","_law_case"]
 D_42:Df K mg "_law_same" (top 53) a_42 f_42 ["_law_found","_law_due"]
 D_43:Df K mg "_law_questions" (top 54) a_43 f_43 ["_law_form_here"]
 D_44:Df K mg "_law_counts" (top 55) a_44 f_44 ["_law_form_here","_law_rows"]
 D_45:Df K mg "_law_doubt" (top 56) a_45 f_45 ["_law_form_here","_law_rows"]
 D_46:Df K mg "_law_grown" (top 57) a_46 f_46 ["_law_form_here","_law_rows","_law_deep","_law_few"]
 D_47:Df K mg "_law_drawn_row" (top 58) a_47 f_47 ["_law_tape_here","_law_form_here"]
 D_48:Df K mg "_law_put" (top 59) a_48 f_48 ["_law_book","_law_row"]
 D_49:Df K mg "_law_filled" (top 60) a_49 f_49 ["_law_tape_here","_law_book","_law_form_here","_law_rows","_law_many"]
 D_law:Df K mg "law" (top 61) a_law f_law ["_law_script"]
 c_SIDES:mg "SIDES"=some (.ref t_SIDES)
 t_SIDES:aF9 K t_SIDES ["yes","no"]
 c_MOST_ROWS:mg "MOST_ROWS"=some (.int 60 t_MOST_ROWS)
 L_31:IW K f_31.code
 b_ValueError:mg "ValueError"=none
 b_all:mg "all"=none
 b_bool:mg "bool"=none
 b_enumerate:mg "enumerate"=none
 b_int:mg "int"=none
 b_isinstance:mg "isinstance"=none
 b_len:mg "len"=none
 b_list:mg "list"=none
 b_max:mg "max"=none
 b_range:mg "range"=none
 b_sorted:mg "sorted"=none
 b_sum:mg "sum"=none
 b_tuple:mg "tuple"=none
 b_zip:mg "zip"=none
noncomputable def iD:Str:="abcdefghijklmnopqrstuvwxyz"
noncomputable def sgn(c:Nat):Bool:=Txt.contains iD ⟨#[c]⟩
noncomputable def tI(z:Str):Bool:=decide (1<=z.length)&&decide (z.length<=8)&&z.cps.toList.all sgn
noncomputable def nm:D->Bool
|.str z=>tI z
|_=>false
noncomputable def uE(d:D)(lo hi:Int):Bool:=match d with | .tuple ts=>decide (lo<=ts.length)&&decide ((ts.length:Int)<=hi) | _=>false
noncomputable def txt:D->Str
|.str z=>z
|_=>""
noncomputable def nms(d:D)(lo hi:Int):Bool:=match d with | .tuple ts=>decide (lo<=ts.length)&&decide ((ts.length:Int)<=hi)&&ts.all nm&&decide ((ts.map txt).Nodup) | _=>false
noncomputable def fld:D->Bool
|.tuple [n,vs]=>nm n&&nms vs 2 5
|_=>false
noncomputable def fst:D->D
|.tuple (n::_)=>n
|_=>.none
def aD6:oV:=λds Q=>∃(d:D)(lo hi:Int),ds=[d,.int lo,.int hi]/\d.hasDict=false/\Q (.bool (uE d lo hi))
def EI(n:Nat)(ys:List Str):Prop:=ys.length=n/\(∀y∈ys,tI y=true)/\ys.Nodup
noncomputable def jZ(f:Str×List Str):D:=.tuple [.str f.1,.tuple (f.2.map aP)]
noncomputable def fD(fs:List (Str×List Str))(an:List Str):D:=.tuple [.tuple (fs.map jZ),.tuple (an.map aP)]
structure gO(fs:List (Str×List Str))(an:List Str):Prop where
 n1:1<=fs.length
 n5:fs.length<=5
 nd:EI fs.length (fs.map (·.1))
 vs:∀f∈fs,2<=f.2.length/\f.2.length<=5/\EI f.2.length f.2
 a2:2<=an.length
 a4:an.length<=4
 an:EI an.length an
 n2:fs.length<=2
def aAh:WI:=λds Q=>∃ns:List Int,ds=[.list (ns.map bI)]/\ns.length<=63/\∀c:Int,(c=0\/c=1)->Q [.list (ns.map bI),.int 0,.int 0,.int c]
def GV:oV:=λds Q=>∃(ns:List Int)(m:Int),ds=[iH ns,.int m]/\ns.length<=63/\0<m/\m<=10000/\∀r:Int,0<=r->r<m->Q (.int r)
def aAg:oV:=λds Q=>∃(ns:List Int)(m:Nat),ds=[iH ns,.int m]/\ns.length<=63/\1<=m/\m<=5/\∀ys,EI m ys->Q (.list (ys.map aP))
def aAf:oV:=λds Q=>∃(ns:List Int)(f v:Nat),ds=[iH ns,.int f,.int v]/\ns.length<=63/\1<=f/\f<=2/\2<=v/\v<=5/\∀fs an,gO fs an->fs.length<=f->(∀x∈fs,x.2.length<=v)->Q (fD fs an)
noncomputable def aCn:D->Bool
|.tuple [_,_]=>true
|_=>false
def aDp(d:D):(∃a b,d=.tuple [a,b])\/(uE d 2 2=false/\aCn d=false):=by
 cases d with
 |tuple ts=>
  match ts with
  |[]=>exact .inr ⟨rfl,rfl⟩
  |[_]=>exact .inr ⟨rfl,rfl⟩
  |[a,b]=>exact .inl ⟨a,b,rfl⟩
  |_::_::_::r=>
   refine .inr ⟨?_,rfl⟩;simp only[uE,dH];have:¬(((r.length+1+1+1:Nat):Int)<=2):=by omega
   simp[this];omega
 |_=>exact .inr ⟨rfl,rfl⟩
def FZ{α:Type}{xs:List α}{i:Int}(h0:0<=i)(h1:i<xs.length):∃a,a∈xs/\L2.atI xs i=some a/\xs[i.toNat]?=some a:=by
 have hi:i.toNat<xs.length:=by omega
 refine⟨xs[i.toNat],fK hi,?_,aE hi⟩;have:=L2.gQ (xs:=xs) (j:=i.toNat) (v:=xs[i.toNat]) (aE hi)
 rwa [show((i.toNat:Nat):Int)=i by omega]at this
def mV(n:Nat):(fC n).length=n:=by unfold fC;simp
def BY{n k:Nat}{x}(h:(fC n)[k]?=some x):k<n/\x=.int k:=by
 unfold fC at h;rw[aK]at h;by_cases hk:k<n
 ·rw[jU hk]at h;cases h;exact⟨hk,rfl⟩
 ·rw[dX (by simpa using hk)]at h;cases h
def oO{α:Type}(xs:List α)(j:Nat):kW xs none (some (j:Int))=xs.take j:=by
 unfold kW;rw[HT.sIx_none,HT.sIx_nat,EO,LG];by_cases h:j<=xs.length
 ·rw[tV h]
 ·rw[CT (by omega),eO,fJ (by omega)]
def KY{α:Type}(xs:List α)(i:Nat):kW xs (some (i:Int)) none=xs.drop i:=by
 unfold kW;rw[HT.sIx_none,HT.sIx_nat];by_cases h:i<=xs.length
 ·rw[tV h,fJ (by rw[eP];omega)]
 ·rw[CT (by omega),JF (aM _),JF (by omega)];simp
def VO{α:Type}(xs:List α)(i j:Nat):kW xs (some (i:Int)) (some (j:Int))=(xs.drop i).take (j-i):=by
 unfold kW;rw[HT.sIx_nat,HT.sIx_nat];apply iM;intro k;rw[mC,mC,mD,mD];by_cases hi:i<=xs.length
 ·rw[tV hi];by_cases hj:j<=xs.length
  ·rw[tV hj]
  ·rw[CT (by omega)];by_cases h1:k<xs.length-i
   ·rw[if_pos h1,if_pos (by omega)]
   ·rw[if_neg h1];by_cases h2:k<j-i
    ·rw[if_pos h2,dX (by omega)]
    ·rw[if_neg h2]
 ·rw[if_neg (by omega)];by_cases h2:k<j-i
  ·rw[if_pos h2,dX (by omega)]
  ·rw[if_neg h2]
def lR{α β:Type}(f:α->β)(xs:List α)(lo hi:Option Int):kW (xs.map f) lo hi=(kW xs lo hi).map f:=by
 unfold kW;rw[aA,aGd,aGe]
def TW{z:Str}(h1:1<=z.cps.toList.length)(h2:z.cps.toList.length<=8)(h3:∀c∈z.cps.toList,c∈iD.cps.toList):tI z=true:=by
 have e:z.length=z.cps.toList.length:=by simp[Str.length]
 unfold tI;rw[e,decide_eq_true h1,decide_eq_true h2];simp only[nV,gY];intro c hc;unfold sgn;rw[UV];exact decide_eq_true (h3 c hc)
def ME{z:Str}(h:tI z=true):1<=z.length/\z.length<=8/\∀c∈z.cps.toList,c∈iD.cps.toList:=by
 unfold tI at h;simp only[dI,decide_eq_true_eq,gY]at h;refine⟨h.1.1,h.1.2,λc hc=>?_⟩;have:=h.2 c hc;unfold sgn at this;rw[UV]at this;exact of_decide_eq_true this
theorem nodup_range{α:Type}{n:Nat}(F:Nat->α)(inj:∀i j,i<n->j<n->F i=F j->i=j):((fQ n).map F).Nodup:=by
 rw[List.Nodup,List.pairwise_map];have:(fQ n).Nodup:=List.nodup_range;refine aGf.imp_of_mem (λ{a b} ha hb hab e=>?_) this;exact hab (inj a b (by simpa using ha) (by simpa using hb) e)
def KL:iD.cps.toList.Nodup:=by decide +kernel
def yE:iD.cps.toList.length=26:=by decide +kernel
def YJ{xs:List Nat}(nd:xs.Nodup){i j:Nat}{c:Nat}(h1:xs[i]?=some c)(h2:xs[j]?=some c):i=j:=by
 obtain⟨a1,a2⟩:=aH.mp h1;obtain⟨b1,b2⟩:=aH.mp h2;exact(WN nd).mp (a2.trans b2.symm)
theorem GW:∀{ys},(∀y∈ys,∃c,c∈iD.cps.toList/\y=.str ⟨#[c]⟩)->∃cs:List Nat,ys=cs.map (λc=>aP ⟨#[c]⟩)/\∀c∈cs,c∈iD.cps.toList
|[],_=>⟨[],rfl,λc h=>by simp at h⟩
|y::ys,h=>by
 obtain⟨c,hc,rfl⟩:=h y (aL ..);obtain⟨cs,rfl,h2⟩:=GW (ys:=ys) λy hy=>h y (aI _ hy);refine⟨c::cs,rfl,λd hd=>?_⟩;rcases aN.mp hd with rfl | hd
 ·exact hc
 ·exact h2 d hd
def BU(cs:List Nat):(Txt.join ⟨#[]⟩ (cs.map λc=>⟨#[c]⟩)).cps.toList=cs:=by
 rw[KP,bG]
 induction cs with
 |nil=>rfl
 |cons c cs ih=>rw[bX,WC,ih];rfl
def V3{ys:List Str}{k:Nat}(h:k<ys.length):L2.atI (ys.map aP) (k:Int)=some (.str ys[k]):=L2.gQ (by rw[aK,aE h];rfl)
def EY{te:ET}{u DT σ}{i:Nat}(ns:List Int)(hσ:σ[i]?=some (.val (iH ns)))(a:Int)(h:∀q:D->Prop,q (.int a)->te σ q)(ha:0<=a)(k:u DT σ):jA (wB i 1 te) u DT σ:=h _ ⟨⟨ns,hσ⟩,⟨a,rfl,ha⟩,k⟩
def wA{te:ET}{u DT σ}{i:Nat}(ns:List Int)(hσ:σ[i]?=some (.val (iH ns)))(a:Int)(h:∀q:D->Prop,q (.int a)->te σ q)(k:u DT σ):jA (wB i 2 te) u DT σ:=h _ ⟨⟨ns,hσ⟩,⟨a,rfl⟩,k⟩
def FC{te:ET}{DT:uK}{σ}{i:Nat}(ns:List Int)(hσ:σ[i]?=some (.val (iH ns)))(a:Int)(h:∀q:D->Prop,q (.int a)->te σ q)(k:DT.nx σ):wB i 2 te DT σ:=h _ ⟨⟨ns,hσ⟩,⟨a,rfl⟩,k⟩
def A3{c:vN}{te:ET}{u:vH}{DT}{σ:List Sl}{i:Nat}(C:Prop)(R:D->Prop)(h:∀q:Bool->Prop,(∀b,(b=true->C)->q b)->c σ q)(h1:C->∀q:D->Prop,(∀d,R d->q d)->te σ q)(d0:D)(h0:σ[i]?=some (.val d0))(r0:R d0)(k:∀d,R d->u DT (σ.set i (.val d))):jA (sIf c (GZ i te) kC) u DT σ:=by
 refine h _ λb hb=>?_
 cases b with
 |true=>
  rw[if_pos rfl];exact h1 (hb rfl) _ k
 |false=>
  rw[if_neg (by decide)]
  have e:σ.set i (.val d0)=σ:=by
   apply iM;intro j;by_cases hj:i=j
   ·subst hj;rw[bB (aH.mp h0).1,h0]
   ·rw[aU hj]
  have:=k d0 r0;rw[e]at this;exact this
def BL{n:Nat}(F:Nat->Str)(h:∀i,i<n->tI (F i)=true)(inj:∀i j,i<n->j<n->F i=F j->i=j):EI n ((fQ n).map F):=
 ⟨by simp,λy hy=>by
  obtain⟨i,hi,rfl⟩:=bA.mp hy;exact h i (by simpa using hi),nodup_range F inj⟩
def DR{n:Nat}{ys:List Str}(h:EI n ys)(t:Nat){m:Nat}(hm:m<=n):EI m ((ys.drop t++ys.take t).take m):=by
 have hp:(ys.drop t++ys.take t).Perm ys:=by
  have:(ys.take t++ys.drop t).Perm ys:=by rw[List.take_append_drop]
  exact List.perm_append_comm.trans this
 refine⟨?_,λy hy=>h.2.1 y (hp.mem_iff.mp (eI hy)),(hp.nodup_iff.mpr h.2.2).sublist (yQ _ _)⟩;rw[bO,hp.length_eq,h.1];omega
def OF{n:Nat}{ys:List Str}(h:EI n ys)(t:Nat):EI n (ys.drop t++ys.take t):=by
 have e:=DR h t (aM n)
 rwa [fJ]at e
 rw[bQ,eP,bO,h.1];omega
def OG{n:Nat}{ys:List Str}(h:EI n ys){m:Nat}(hm:m<=n):EI m (ys.take m):=⟨by rw[bO,h.1];omega,λy hy=>h.2.1 y (eI hy),h.2.2.sublist (yQ _ _)⟩
noncomputable def zX:List Str:=["say","ask","is","upto","yes","no","all","in","and","put","out","tree"]
def aJk:EI 12 zX:=⟨rfl,by decide +kernel,by decide +kernel⟩
def IQ{ns:List Int}(h:0<ns.length)(i:Int):∃x:Int,L2.atI (ns.map bI) (i%((ns.map bI).length:Nat))=some (.int x):=by
 rw[aA];obtain⟨a,hm,ha,_⟩:=FZ (xs:=ns.map bI) (i:=i%(ns.length:Nat)) (jL _ (by omega)) (by rw[aA];exact hX _ (by omega));obtain⟨b,hb,rfl⟩:=bA.mp hm;exact⟨b,ha⟩
@[irreducible] def O8(i:Nat):Nat:=iD.cps.toList.getD i 0
def AK{i:Nat}(h:i<26):iD.cps.toList[i]?=some (O8 i):=by
 have hl:i<iD.cps.toList.length:=by rw[yE];exact h
 unfold O8;rw[cX,aE hl];rfl
def ZM{i:Nat}(h:i<26):O8 i∈iD.cps.toList:=aZ (AK h)
noncomputable def wZ(z:Str)(t k c:Nat):Str:=Txt.slice z none (some (t:Int))++⟨#[c]⟩++Txt.slice z (some ((t:Int)+1)) (some (k:Int))
def qN(z:Str)(t k c:Nat):(wZ z t k c).cps.toList=z.cps.toList.take t++(c::(z.cps.toList.drop (t+1)).take (k-(t+1))):=by
 unfold wZ;rw[tR,tR,rX,rX];have e2:(t:Int)+1=((t+1:Nat):Int):=by omega
 rw[e2,VO,oO];simp
def TR{z:Str}(hz8:z.cps.toList.length=8)(hzl:∀c∈z.cps.toList,c∈iD.cps.toList){k m:Nat}(hk:1<=k)(hkm:k+m<=9):EI m ((fQ m).map λj:Nat=>Txt.slice z none (some ((k:Int)+(j:Int)))):=by
 have e:∀j:Nat,(Txt.slice z none (some ((k:Int)+(j:Int)))).cps.toList=z.cps.toList.take (k+j):=λj=>by
  rw[rX];exact oO _ (k+j)
 refine BL _ (λi hi=>?_) λi j hi hj h=>?_
 ·refine TW ?_ ?_ λc hc=>?_
  ·rw[e,bO];omega
  ·rw[e,bO];omega
  ·rw[e]at hc;exact hzl c (eI hc)
 ·have e1:=e i;rw[h,e j]at e1;have:=congrArg kF e1;rw[bO,bO]at this;omega
def OE{z:Str}(hz8:z.cps.toList.length=8)(hzl:∀c∈z.cps.toList,c∈iD.cps.toList){k t s m:Nat}(hk:k<=8)(ht:t<k)(hm:m<=26):EI m ((fQ m).map λj:Nat=>wZ z t k (O8 ((s+j)%26))):=by
 refine BL _ (λi hi=>?_) λi j hi hj h=>?_
 ·have e:=qN z t k (O8 ((s+i)%26));refine TW ?_ ?_ λc hc=>?_
  ·rw[e,bQ,dH];omega
  ·rw[e,bQ,dH,bO,bO,eP];omega
  ·rw[e]at hc;rcases dL.mp hc with hc | hc
   ·exact hzl c (eI hc)
   ·rcases aN.mp hc with rfl | hc
    ·exact ZM (xX _ (by decide))
    ·exact hzl c (NH (eI hc))
 ·have e1:=qN z t k (O8 ((s+i)%26));have h':wZ z t k (O8 ((s+i)%26))=wZ z t k (O8 ((s+j)%26)):=h;rw[h',qN]at e1;have e2:=List.append_cancel_left e1;have e3:O8 ((s+j)%26)=O8 ((s+i)%26):=(List.cons.inj e2).1;have l1:=AK (i:=(s+i)%26) (xX _ (by decide));have l2:=AK (i:=(s+j)%26) (xX _ (by decide));rw[e3]at l2;have:=YJ KL l1 l2;omega
def JM(z:Str)(hz8:z.cps.toList.length=8)(t k c:Nat):(Txt.slice z none (some (t:Int))).length+1<=100000/\(Txt.slice z none (some (t:Int))++(⟨#[c]⟩:Str)).length+(Txt.slice z (some ((t:Int)+1)) (some (k:Int))).length<=100000:=by
 have a1:=Txt.slice_le z none (some (t:Int));have a2:=Txt.slice_le z (some ((t:Int)+1)) (some (k:Int));have a3:z.length=z.cps.toList.length:=by simp[Str.length]
 have a4:(Txt.slice z none (some (t:Int))++(⟨#[c]⟩:Str)).length=(Txt.slice z none (some (t:Int))).length+1:=by
  show((Txt.slice z none (some (t:Int))).cps++#[_]).size=_;rw[QH];rfl
 rw[a4];omega
noncomputable def J8(f:Str×List Str)(d:D):Bool:=match d with | .none=>true | .str z=>decide (z∈f.2) | _=>false
noncomputable def uF(an:List Str)(d:D):Bool:=match d with | .str z=>decide (z∈an) | _=>false
structure Cd(d:D):Prop where
 lay:d.canLay0=true
 dep:d.depth<=60
structure Th(n m:Nat)(d:D):Prop where
 bulk:d.bulk<=n
 fit:d.leavesShort 110=true
 shw:d.showable=true
 nodict:d.hasDict=false
 depth:d.depth<=m
 lay:d.canLay0=true
theorem uR{n m:Nat}:∀{ts:List D},(∀t∈ts,Th n m t)->tU ts<=ts.length*(n+1)/\IZ 110 ts=true/\NF ts=true/\kQ ts=false/\eL ts<=m/\eE ts=true
|[],_=>⟨cT _,rfl,rfl,rfl,cT _,rfl⟩
|t::ts,h=>by
 have a:=h t (aL ..);obtain⟨b1,b2,b3,b4,b5,b6⟩:=uR (ts:=ts) λx hx=>h x (aI _ hx);refine⟨?_,?_,?_,?_,?_,?_⟩
 ·show t.bulk+1+tU ts<=(ts.length+1)*(n+1);have:=a.bulk;rw[qL,aK9];omega
 ·show(t.leavesShort 110&&IZ 110 ts)=true;rw[a.fit,b2];rfl
 ·show(t.showable&&NF ts)=true;rw[a.shw,b3];rfl
 ·show(t.hasDict||kQ ts)=false;rw[a.nodict,b4];rfl
 ·show max t.depth (eL ts)<=m;exact Nat.max_le.mpr ⟨a.depth,b5⟩
 ·show(t.canLay0&&eE ts)=true;rw[a.lay,b6];rfl
def uQ(n m k:Nat){N M:Nat}{ts:List D}(h:∀t∈ts,Th n m t)(hl:ts.length<=k)(hN:k*(n+1)<=N)(hM:m+1<=M):Th N M (.tuple ts):=by
 obtain⟨b1,b2,b3,b4,b5,b6⟩:=uR h;have:ts.length*(n+1)<=k*(n+1):=vM _ hl;exact⟨by show tU ts<=N;omega,b2,b3,b4,by show eL ts+1<=M;omega,b6⟩
def aDt(n m k:Nat){N M:Nat}{ts:List D}(h:∀t∈ts,Th n m t)(hl:ts.length<=k)(hN:k*(n+1)<=N)(hM:m+1<=M):Th N M (.list ts):=by
 obtain⟨b1,b2,b3,b4,b5,b6⟩:=uR h;have:ts.length*(n+1)<=k*(n+1):=vM _ hl;exact⟨by show tU ts<=N;omega,b2,b3,b4,by show eL ts+1<=M;omega,b6⟩
def ES{n m:Nat}:Th n m .none:=⟨cT _,rfl,rfl,rfl,cT _,rfl⟩
def GP{z:Str}(hc:∀c∈z.cps.toList,c<1000):aC5 z=true:=by
 unfold aC5;rw[<- WG,gY];intro c h1;have:=hc c h1;exact decide_eq_true (by omega)
def Q1{n m:Nat}{z:Str}(h:z.length<=n)(hc:∀c∈z.cps.toList,c<1000):Th n m (.str z):=by
 refine⟨h,?_,rfl,rfl,cT _,GP hc⟩;show(z.cps.toList.all λc=>decide (c<16^8))=true;rw[gY];intro c h1;have:=hc c h1;exact decide_eq_true (by omega)
def OO{c:Nat}(h:c∈iD.cps.toList):c<128:=by
 have:∀c∈iD.cps.toList,c<128:=by decide +kernel
 exact this c h
def HD{y:Str}(h:tI y=true):y.length<=8/\∀c∈y.cps.toList,c<128:=⟨(ME h).2.1,λc hc=>OO ((ME h).2.2 c hc)⟩
def jM{y}(h:tI y=true){n m:Nat}(hn:8<=n):Th n m (.str y):=Q1 (bK (HD h).1 hn) λc hc=>by have:=(HD h).2 c hc;omega
def zQ{ys:List Str}(h:∀y∈ys,tI y=true){n m:Nat}(hn:8<=n):∀t∈ys.map aP,Th n m t:=λt ht=>by
 obtain⟨y,hy,rfl⟩:=bA.mp ht;exact jM (h y hy) hn
def tS{n m:Nat}:∀t∈([]:List D),Th n m t:=λt h=>by simp at h
def jR{n m:Nat}{a ts}(h:Th n m a)(hs:∀t∈ts,Th n m t):∀t∈a::ts,Th n m t:=λt ht=>by
 rcases aN.mp ht with rfl | ht
 ·exact h
 ·exact hs t ht
def ZR{n m:Nat}{as bs:List D}(h:∀t∈as,Th n m t)(hs:∀t∈bs,Th n m t):∀t∈as++bs,Th n m t:=λt ht=>(dL.mp ht).elim (h t) (hs t)
def Th.cd{n m:Nat}{d}(h:Th n m d)(hm:m<=60):Cd d:=⟨h.lay,bK h.depth hm⟩
theorem MI:∀{ts}{t:D},eE ts=true->t∈ts->t.canLay0=true
|a::r,t,h,hm=>by
 have h':(a.canLay0&&eE r)=true:=h;rw[dI]at h';rcases aN.mp hm with rfl | hm
 ·exact h'.1
 ·exact MI h'.2 hm
theorem D7:∀{ts}{t:D},t∈ts->t.depth<=eL ts
|a::r,t,hm=>by
 show t.depth<=max a.depth (eL r);rcases aN.mp hm with rfl | hm
 ·exact aC8 _ _
 ·exact bK (D7 hm) (Z0 _ _)
def Cd.item{ts t}(h:Cd (.tuple ts))(ht:t∈ts):Cd t:=⟨MI h.lay ht,by
 have h1:eL ts+1<=60:=h.dep;have:=D7 ht;omega⟩
section
variable{fs:List (Str×List Str)}{an:List Str}
def gO.name(F:gO fs an){f:Str×List Str}(h:f∈fs):tI f.1=true:=F.nd.2.1 _ (bA.mpr ⟨f,h,rfl⟩)
def gO.vals(F:gO fs an){f:Str×List Str}(h:f∈fs):∀y∈f.2,tI y=true:=(F.vs f h).2.2.2.1
end
def B4{x ts}{Q:D->Prop}(h1:C4 x (.tuple ts))(h2:Q (.bool (OU x (.tuple ts)))):aJ0 x (.tuple ts) Q:=by
 cases x<;>exact⟨h1,h2⟩
def CN(d:D)(ys:List Str):((ys.map aP).any λz=>bP z d)=uF ys d:=by
 induction ys with
 |nil=>cases d<;>rfl
 |cons y ys ih=>
  rw[bX,nU,ih]
  cases d with
  |str z=>
   show((y==z)||decide (z∈ys))=decide (z∈y::ys);rw[fG];simp only[sZ,beq_iff_eq,decide_eq_true_eq,aN];exact⟨λh=>h.imp Eq.symm id,λh=>h.imp Eq.symm id⟩
  |_=>rfl
def KR(f:Str×List Str)(d:D):OU d (.tuple (f.2.map aP++[.none]))=J8 f d:=by
 show((f.2.map aP++[zJ]).any λz=>bP z d)=J8 f d;rw[Z7,CN];cases d<;>simp[uF,J8,bP]
def MA{ys:List Str}(h:∀y∈ys,tI y=true){d}(hd:Cd d):C4 d (.tuple (ys.map aP)):=by
 obtain⟨_,_,_,_,b5,b6⟩:=uR (zQ h (aM 8) (m:=0));exact⟨b6,hd.lay,by have:=hd.dep;omega⟩
def BI{ys:List Str}(h:∀y∈ys,tI y=true){d:D}(hd:Cd d):C4 d (.tuple (ys.map aP++[.none])):=by
 obtain⟨_,_,_,_,b5,b6⟩:=uR (ZR (zQ h (aM 8) (m:=0)) (jR ES tS));exact⟨b6,hd.lay,by have:=hd.dep;omega⟩
theorem FJ:∀{ys:List Str}{z}{m:Nat},m<ys.idxOf z->ys[m]?≠some z
|[],z,m,h=>by simp at h
|y::ys,z,m,h=>by
 rw[List.idxOf_cons]at h;by_cases e:y=z
 ·subst e;simp at h
 ·have e':(y==z)=false:=by simpa using e
  rw[e']at h;simp only[cond_false]at h
  cases m with
  |zero=>simpa using e
  |succ m=>
   rw[rH];exact FJ (by omega)
noncomputable def jH(fs:List (Str×List Str))(d:D):Bool:=match d with | .tuple ts=>decide (ts.length=fs.length)&&(fs.zip ts).all (λp=>J8 p.1 p.2) | _=>false
section
variable{fs:List (Str×List Str)}{an:List Str}
def nD{cs:List D}(h:jH fs (.tuple cs)=true):cs.length=fs.length/\∀(k:Nat) f c,fs[k]?=some f->cs[k]?=some c->J8 f c=true:=by
 unfold jH at h;simp only[dI,decide_eq_true_eq,gY]at h;refine⟨h.1,λk f c h1 h2=>?_⟩;exact h.2 (f,c) (aZ ((fN (z:=(f,c))).mpr ⟨h1,h2⟩))
def CJ(F:gO fs an){cs}(h:jH fs (.tuple cs)=true){n m:Nat}(hn:8<=n):∀c∈cs,Th n m c:=λc hc=>by
 obtain⟨hl,hv⟩:=nD h;obtain⟨k,hk⟩:=cD hc;have hk':k<fs.length:=by rw[<- hl];exact(aH.mp hk).1
 have:=hv k fs[k] c (aE hk') hk
 cases c with
 |none=>exact ES
 |str z=>exact jM (F.vals (fK hk') z (of_decide_eq_true this)) hn
 |_=>cases this
end
noncomputable def cS(r:List D×Str):D:=.tuple [.tuple r.1,.str r.2]
def nF(fs:List (Str×List Str))(an:List Str)(r:List D×Str):Prop:=jH fs (.tuple r.1)=true/\r.2∈an
def gH(fs:List (Str×List Str))(an:List Str)(rs:List (List D×Str)):Prop:=∀r∈rs,nF fs an r
def ER{fs an}(F:gO fs an){r}(h:nF fs an r):Th 92 2 (cS r):=by
 have n5:=F.n5;exact uQ 45 1 2 (jR (uQ 8 0 5 (CJ F h.1 (aM 8)) (by rw[(nD h.1).1];exact n5) (by decide) (by decide)) (jR (jM (F.an.2.1 _ h.2) (by decide)) tS)) (aD rfl) (by decide) (by decide)
def aLr{fs an}(F:gO fs an){rs:List (List D×Str)}(h:gH fs an rs)(hl:rs.length<=60):Th 6000 3 (.list (rs.map cS)):=
 aDt 92 2 60 (λt ht=>by
  obtain⟨r,hr,rfl⟩:=bA.mp ht;exact ER F (h r hr)) (by rw[aA];exact hl) (by decide) (by decide)
noncomputable def qOk(f:Str×List Str)(k v:D):Bool:=match k,v with
|.str kk,.str z=>decide (z∈f.2)&&(decide (kk="is")||(decide (kk="upto")&&decide (f.2.idxOf z+1<f.2.length)))
|_,_=>false
noncomputable def isN(n:D)(f:Str×List Str):Bool:=match n with | .str z=>decide (f.1=z) | _=>false
noncomputable def P4(fs:List (Str×List Str))(d:D):Bool:=match d with
|.tuple [k,n,v]=>fs.any λf=>isN n f&&qOk f k v
|_=>false
noncomputable def mkQ(k:Str)(f:Str×List Str)(z:Str):D:=.tuple [.str k,.str f.1,.str z]
noncomputable def BC(f:Str×List Str):List Str:=if f.2.length=2 then f.2.take 1 else f.2
noncomputable def tX(f:Str×List Str):List Str:=(f.2.drop 1).take (f.2.length-3)
noncomputable def GE(f:Str×List Str):List D:=(BC f).map (mkQ "is" f)++(tX f).map (mkQ "upto" f)
noncomputable def fR(fs:List (Str×List Str)):List D:=(fs.map GE).flatten
def aAs:WI:=λds Q=>∃(fs:List (Str×List Str))(an:List Str),ds=[fD fs an]/\gO fs an/\Q (fR fs)
def UW{ys:List Str}{z}{j:Nat}(h:ys[j]?=some z):ys.idxOf z<=j:=by
 by_cases q:ys.idxOf z<=j
 ·exact q
 ·exact absurd h (FJ (by omega))
def T7{f:Str×List Str}{z}(h:z∈tX f):z∈f.2/\f.2.idxOf z+1<f.2.length:=by
 unfold tX at h;have h1:z∈f.2:=NH (eI h);refine⟨h1,?_⟩;obtain⟨i,hi⟩:=cD h;have hl:=(aH.mp hi).1;rw[bO,eP]at hl;rw[mC,if_pos (by omega),mD]at hi;have:=UW hi;omega
def US{fs f k z}(hf:f∈fs)(h:qOk f (.str k) (.str z)=true):P4 fs (mkQ k f z)=true:=by
 show(fs.any λg=>isN (.str f.1) g&&qOk g (.str k) (.str z))=true;rw[rJ];refine⟨f,hf,?_⟩;show(decide (f.1=f.1)&&qOk f (.str k) (.str z))=true;rw[h,decide_eq_true rfl];rfl
def CH{fs d}(h:d∈fR fs):∃f∈fs,(∃z∈f.2,d=mkQ "is" f z)\/(∃z,z∈f.2/\f.2.idxOf z+1<f.2.length/\d=mkQ "upto" f z):=by
 unfold fR at h;obtain⟨l,hl,hd⟩:=List.mem_flatten.mp h;obtain⟨f,hf,rfl⟩:=bA.mp hl;refine⟨f,hf,?_⟩;unfold GE at hd;rcases dL.mp hd with q | q
 ·obtain⟨z,hz,rfl⟩:=bA.mp q;refine .inl ⟨z,?_,rfl⟩;unfold BC at hz;split at hz
  ·exact eI hz
  ·exact hz
 ·obtain⟨z,hz,rfl⟩:=bA.mp q;exact .inr ⟨z,(T7 hz).1,(T7 hz).2,rfl⟩
def K0{fs d}(h:d∈fR fs):P4 fs d=true:=by
 obtain⟨f,hf,⟨z,hz,rfl⟩ | ⟨z,hz,hi,rfl⟩⟩:=CH h
 ·refine US hf ?_;show(decide (z∈f.2)&&(decide (("is":Str)="is")||_))=true;rw[decide_eq_true hz];rfl
 ·refine US hf ?_;show(decide (z∈f.2)&&(decide (("upto":Str)="is")||(decide (("upto":Str)="upto")&&decide (f.2.idxOf z+1<f.2.length))))=true;rw[decide_eq_true hz,decide_eq_true hi,decide_eq_true (rfl:("upto":Str)="upto")];simp
def aCi:tI "is"=true:=by decide +kernel
def MD:tI "upto"=true:=by decide +kernel
def aDs{fs an}(F:gO fs an){k}(hk:tI k=true){f:Str×List Str}(hf:f∈fs){z}(hz:z∈f.2):Th 27 1 (mkQ k f z):=
 uQ 8 0 3 (jR (jM hk (aM _)) (jR (jM (F.name hf) (aM _)) (jR (jM (F.vals hf z hz) (aM _)) tS))) (aD rfl) (by decide) (by decide)
theorem lT{fs an}(F:gO fs an):∀gs:List (Str×List Str),(∀g∈gs,g∈fs)->(fR gs).length<=10*gs.length
|[],_=>aM _
|g::gs,h=>by
 have ih:=lT F gs λx hx=>h x (aI _ hx);obtain⟨_,v5,_⟩:=F.vs g (h g (aL ..));show((GE g::gs.map GE).flatten).length<=_;rw[WC,bQ]
 have h1:(GE g).length<=10:=by
  unfold GE BC tX;rw[bQ,aA,aA,bO,eP];split
  ·rw[bO];omega
  ·omega
 have:(fR gs).length=((gs.map GE).flatten).length:=rfl;rw[dH];omega
def pV{ys:List Str}(hy:∀y∈ys,tI y=true){z}(hz:z∈ys):OA (ys.map aP) (.str z) (ys.idxOf z):=by
 have hzi:ys.idxOf z<ys.length:=jO.mpr hz;obtain⟨_,_,_,_,d5,d6⟩:=uR (zQ hy (aM 8) (m:=0));refine⟨d6,(jM (hy z hz) (aM 8) (m:=0)).lay,by omega,⟨.str z,?_,?_⟩,λm t hm ht=>?_⟩
 ·rw[aK,aE hzi,mB hzi];rfl
 ·show(z==z)=true;simp
 ·rw[aK]at ht
  cases e2:ys[m]? with
  |none=>rw[e2]at ht;cases ht
  |some y=>
   rw[e2]at ht;cases ht;show(y==z)=false
   have:y≠z:=λq=>by
    subst q;exact FJ hm e2
   simpa using this
inductive Tr | say (a:Str) | ask (k n v s:Str) (y m:Tr)
noncomputable def lE:Tr->D
|.say a=>.tuple [.str "say",.str a]
|.ask k n v s y m=>.tuple [.str "ask",.tuple [.str k,.str n,.str v],.str s,lE y,lE m]
noncomputable def Tr.dep:Tr->Nat
|.say _=>0
|.ask _ _ _ _ y m=>max y.dep m.dep+1
noncomputable def Tr.kn:Tr->Nat
|.say _=>0
|.ask _ _ _ _ y m=>y.kn+m.kn+1
noncomputable def Tr.nodes:Tr->Nat
|.say _=>1
|.ask _ _ _ _ y m=>y.nodes+m.nodes+1
def wU(fs:List (Str×List Str))(an:List Str):Tr->Prop
|.say a=>a∈an
|.ask k n v s y m=>P4 fs (.tuple [.str k,.str n,.str v])=true/\(s="yes"\/s="no")/\wU fs an y/\wU fs an m
def wI{fs}{k n v:Str}(h:P4 fs (.tuple [.str k,.str n,.str v])=true):∃f∈fs,f.1=n/\v∈f.2/\(k="is"\/(k="upto"/\f.2.idxOf v+1<f.2.length)):=by
 obtain⟨f,hf,hq⟩:=rJ.mp (h:(fs.any λf=>isN (.str n) f&&qOk f (.str k) (.str v))=true);rw[dI]at hq;have h2:(decide (v∈f.2)&&(decide (k="is")||(decide (k="upto")&&decide (f.2.idxOf v+1<f.2.length))))=true:=hq.2;simp only[dI,sZ,decide_eq_true_eq]at h2;exact⟨f,hf,of_decide_eq_true hq.1,h2.1,h2.2⟩
def TU:tI "yes"=true:=by decide +kernel
def aCh:tI "no"=true:=by decide +kernel
def TV:tI "say"=true:=by decide +kernel
def KC:tI "ask"=true:=by decide +kernel
def aG5{fs an}(F:gO fs an){k n v}(h:P4 fs (.tuple [.str k,.str n,.str v])=true):Th 27 1 (.tuple [.str k,.str n,.str v]):=by
 obtain⟨f,hf,rfl,hv,hk⟩:=wI h;refine aDs F ?_ hf hv;rcases hk with rfl | ⟨rfl,_⟩
 ·exact aCi
 ·exact MD
theorem aDu{fs an}(F:gO fs an):∀t:Tr,wU fs an t->Th (68*t.kn+18) (t.dep+1) (lE t)
|.say a,h=>uQ 8 0 2 (jR (jM TV (aM _)) (jR (jM (F.an.2.1 a h) (aM _)) tS)) (aD rfl) (by show 2*(8+1)<=68*0+18;decide) (aM _)
|.ask k n v s y m,h=>by
 obtain⟨hq,hs,hy,hm⟩:=h;have iy:=aDu F y hy;have im:=aDu F m hm;have q:=aG5 F hq
 have sn:tI s=true:=by
  rcases hs with rfl | rfl
  ·exact TU
  ·exact aCh
 have sl:=jM sn (n:=8) (m:=0) (aM _);have al:=jM KC (n:=8) (m:=0) (aM _);have e1:PyData.bulk (lE (.ask k n v s y m))=(aP "ask").bulk+1+((gX [.str k,.str n,.str v]).bulk+1+((aP s).bulk+1+((lE y).bulk+1+((lE m).bulk+1+0)))):=rfl;have e2:PyData.depth (lE (.ask k n v s y m))=max (aP "ask").depth (max (gX [.str k,.str n,.str v]).depth (max (aP s).depth (max (lE y).depth (max (lE m).depth 0))))+1:=rfl;refine⟨?_,?_,?_,?_,?_,?_⟩
 ·rw[e1];have a1:=iy.bulk;have a2:=im.bulk;have a3:=q.bulk;have a4:=sl.bulk;have a5:=al.bulk;show _<=68*(y.kn+m.kn+1)+18;omega
 ·show((aP "ask").leavesShort 110&&((gX [.str k,.str n,.str v]).leavesShort 110&&((aP s).leavesShort 110&&((lE y).leavesShort 110&&((lE m).leavesShort 110&&true)))))=true;rw[al.fit,q.fit,sl.fit,iy.fit,im.fit];rfl
 ·show((aP "ask").showable&&((gX [.str k,.str n,.str v]).showable&&((aP s).showable&&((lE y).showable&&((lE m).showable&&true)))))=true;rw[al.shw,q.shw,sl.shw,iy.shw,im.shw];rfl
 ·show((aP "ask").hasDict||((gX [.str k,.str n,.str v]).hasDict||((aP s).hasDict||((lE y).hasDict||((lE m).hasDict||false)))))=false;rw[al.nodict,q.nodict,sl.nodict,iy.nodict,im.nodict];rfl
 ·rw[e2];have a1:=iy.depth;have a2:=im.depth;have a3:=q.depth;have a4:=sl.depth;have a5:=al.depth;show _<=max y.dep m.dep+1+1;omega
 ·show((aP "ask").canLay0&&((gX [.str k,.str n,.str v]).canLay0&&((aP s).canLay0&&((lE y).canLay0&&((lE m).canLay0&&true)))))=true;rw[al.lay,q.lay,sl.lay,iy.lay,im.lay];rfl
theorem Tr.nodes_kn:∀t:Tr,t.nodes=2*t.kn+1
|.say _=>rfl
|.ask _ _ _ _ y m=>by
 show y.nodes+m.nodes+1=2*(y.kn+m.kn+1)+1;have:=nodes_kn y;have:=nodes_kn m;omega
theorem Tr.kn_dep:∀t:Tr,t.kn<2^t.dep
|.say _=>by show 0<2^0;decide
|.ask _ _ _ _ y m=>by
 have:=kn_dep y;have:=kn_dep m;show y.kn+m.kn+1<2^(max y.dep m.dep+1);have h1:2^y.dep<=2^(max y.dep m.dep):=oG (by decide) (aC8 ..);have h2:2^m.dep<=2^(max y.dep m.dep):=oG (by decide) (Z0 ..);rw[Nat.pow_succ];omega
def Tr.nodes_pos(t:Tr):1<=t.nodes:=by rw[t.nodes_kn];omega
def NZ{c:vN}{tb u DT σ}(P:Nat->List Sl->Prop)(n0:Nat)(h0:P n0 σ)
  (hs:∀n σ',P n σ'->∃b:Bool,(∀q:Bool->Prop,q b->c σ' q)/\(if b=true then tb { DT with nx:=λσ2=>∃m,m<n/\P m σ2,ct:=λσ2=>∃m,m<n/\P m σ2,bk:=u DT } σ' else u DT σ')):jA (R3 c tb) u DT σ:=
 ⟨P,⟨n0,h0⟩,λn σ' hp=>let ⟨_,h1,h2⟩:=hs n σ' hp;h1 _ h2⟩
def ZI(ys:List Str)(h:2<=ys.length):kW ys (some 1) (some (-2))=(ys.drop 1).take (ys.length-3):=by
 unfold kW
 have e1:HT.sIx ys.length 0 (some 1)=1:=by
  show(if(1:Int)<0 then((1:Int)+(ys.length:Int)).toNat else min (1:Int).toNat ys.length)=_;rw[if_neg (by decide)];show min 1 ys.length=1;omega
 have e2:HT.sIx ys.length ys.length (some (-2))=ys.length-2:=by
  show(if(-2:Int)<0 then((-2:Int)+(ys.length:Int)).toNat else min (-2:Int).toNat ys.length)=_;rw[if_pos (by decide)];omega
 rw[e1,e2];congr 1
def ZH(ys:List Str)(h:2<=ys.length):kW ys none (some 1)=ys.take 1:=oO ys 1
def aAr:WI:=λds Q=>∃f:Str×List Str,ds=[jZ f]/\2<=f.2.length/\f.2.length<=5/\Q (GE f)
abbrev Rw:=List D×Str
noncomputable def vD(rs:List Rw)(a:Str):Nat:=rs.countP λr=>decide (r.2=a)
noncomputable def hZ(an:List Str)(rs:List Rw):List Int:=an.map λa=>(vD rs a:Int)
noncomputable def yV(ss rs:List Rw):Nat:=(ss.map λr=>rs.countP λo=>decide (o.2≠r.2)).sum
noncomputable def UC(a b:Nat):D:=.tuple [.int ((a / a.gcd b:Nat):Int),.int ((b / a.gcd b:Nat):Int)]
def EJ(an:List Str)(rs:List Rw)(a:Str):Prop:=∃k,an[k]?=some a/\(∀(j:Nat) b,an[j]?=some b->vD rs b<=vD rs a)/\∀(j:Nat) b,j<k->an[j]?=some b->vD rs b<vD rs a
def LW:oV:=λds Q=>∃a b:Nat,ds=[.int a,.int b]/\0<b/\a<2^190/\b<2^190/\Q (UC a b)
def RW:WI:=λds Q=>∃(fs:List (Str×List Str))(an:List Str)(rs:List Rw),ds=[fD fs an,.list (rs.map cS)]/\gO fs an/\gH fs an rs/\rs.length<=60/\Q ((hZ an rs).map bI)
def RV:oV:=λds Q=>∃(fs:List (Str×List Str))(an:List Str)(rs:List Rw),ds=[fD fs an,.list (rs.map cS)]/\gO fs an/\gH fs an rs/\rs.length<=60/\∀a,EJ an rs a->Q (.str a)
def RU:oV:=λds Q=>∃(fs:List (Str×List Str))(an:List Str)(rs:List Rw),ds=[fD fs an,.list (rs.map cS)]/\gO fs an/\gH fs an rs/\rs.length<=60/\Q (UC (yV rs rs) (max 1 rs.length))
theorem JX:∀(ss rs:List Rw),yV ss rs<=ss.length*rs.length
|[],rs=>by show 0<=_;omega
|s::ss,rs=>by
 have:=JX ss rs;have h1:rs.countP (λo=>decide (o.2≠s.2))<=rs.length:=LI;show rs.countP (λo=>decide (o.2≠s.2))+yV ss rs<=(ss.length+1)*rs.length;rw[qL,aK9];omega
def VP(rs:List Rw)(a:Str):vD rs a<=rs.length:=LI
theorem B3{α:Type}[DecidableEq α]:∀(l:List α)(x:α),x∈l->∃k:Nat,l[k]?=some x/\∀j:Nat,j<k->l[j]?≠some x
|y::l,x,h=>by
 by_cases e:y=x
 ·exact⟨0,by rw[e];rfl,λj hj=>by omega⟩
 ·obtain⟨k,h1,h2⟩:=B3 l x ((aN.mp h).resolve_left λz=>e z.symm);refine⟨k+1,h1,λj hj=>?_⟩
  cases j with
  |zero=>exactλz=>e (Option.some.inj z)
  |succ j=>exact h2 j (by omega)
noncomputable def aLn(a:Str)(x:D):Bool:=match x with | .tuple [_,.str b]=>!decide (b=a) | _=>false
noncomputable def EW(f:Str×List Str)(k v st:Str)(c:D):Str:=match c with
|.none=>st
|.str z=>if k="is" then(if z=v then "yes" else "no")else if f.2.idxOf z<=f.2.idxOf v then "yes" else "no"
|_=>""
noncomputable def jD(fs:List (Str×List Str))(k n v st:Str)(cs:List D):Str:=match fs[(fs.map (·.1)).idxOf n]?,cs[(fs.map (·.1)).idxOf n]? with
|some f,some c=>EW f k v st c
|_,_=>""
def aAp:oV:=λds Q=>∃(fs:List (Str×List Str))(an:List Str)(k n v st:Str)(cs:List D),ds=[fD fs an,.tuple [.str k,.str n,.str v],.str st,.tuple cs]/\gO fs an/\P4 fs (.tuple [.str k,.str n,.str v])=true/\(st="yes"\/st="no")/\jH fs (.tuple cs)=true/\Q (.str (jD fs k n v st cs))
noncomputable def sG(fs:List (Str×List Str))(k n v st:Str)(rs:List (List D×Str))(w:Str)(x:D):Bool:=match x with
|.int i=>match L2.atI rs i with | some r=>decide (jD fs k n v st r.1=w) | none=>false
|_=>false
noncomputable def iF(fs:List (Str×List Str))(k n v st:Str)(rs:List (List D×Str))(w:Str):List D:=(fC rs.length).filter (sG fs k n v st rs w)
def LV:SpP:=λds Q=>∃(fs:List (Str×List Str))(an:List Str)(k n v st:Str)(rs:List (List D×Str)),ds=[fD fs an,.tuple [.str k,.str n,.str v],.str st,.list (rs.map cS)]/\gO fs an/\P4 fs (.tuple [.str k,.str n,.str v])=true/\(st="yes"\/st="no")/\gH fs an rs/\rs.length<=60/\Q (iF fs k n v st rs "yes") (iF fs k n v st rs "no")
def zY{fs:List (Str×List Str)}{an}(F:gO fs an){j:Nat}{f:Str×List Str}(h:fs[j]?=some f):(fs.map (·.1)).idxOf f.1=j:=by
 have hm:f.1∈fs.map (·.1):=bA.mpr ⟨f,aZ h,rfl⟩;have hi:(fs.map (·.1)).idxOf f.1<(fs.map (·.1)).length:=jO.mpr hm;have h1:(fs.map (·.1))[(fs.map (·.1)).idxOf f.1]?=some f.1:=by rw[aE hi,mB hi]
 have h2:(fs.map (·.1))[j]?=some f.1:=by rw[aK,h];rfl
 exact(List.getElem?_inj hi F.nd.2.2).mp (h1.trans h2.symm)
def A1{fs an}(F:gO fs an){k n v st cs}{j:Nat}{f:Str×List Str}{c}(h1:fs[j]?=some f)(h2:cs[j]?=some c)(hn:f.1=n):jD fs k n v st cs=EW f k v st c:=by
 subst hn;unfold jD;rw[zY F h1,h1,h2]
noncomputable def sdD(fs:List (Str×List Str))(k n v st:Str)(x:D):D:=match x with | .tuple [.tuple cs,_]=>.str (jD fs k n v st cs) | _=>.none
def HA{te:ET}{DT:uK}{σ:List Sl}{i:Nat}{ts us:List D}(ho:σ[i]?=some (.own ts))(hz:ts.length+us.length<=100000)(h:∀q:D->Prop,q (.list us)->te σ q)(k:DT.nx (σ.set i (.own (ts++us)))):aB4 i te DT σ:=⟨ts,ho,h _ ⟨us,rfl,hz,k⟩⟩
def N9{fs k n v st rs w}{j:Nat}{r:List D×Str}(h:rs[j]?=some r):sG fs k n v st rs w (.int (j:Int))=decide (jD fs k n v st r.1=w):=by
 show(match L2.atI rs (j:Int)with | some r=>decide (jD fs k n v st r.1=w) | none=>false)=_;rw[L2.gQ h]
noncomputable def BZ(k v:Str)(f:Str×List Str):List Str:=if k="is" then[v]else f.2.take (f.2.idxOf v+1)
def aAm:oV:=λds Q=>∃(k n v:Str)(f:Str×List Str),ds=[.tuple [.str k,.str n,.str v],jZ f]/\(∀y∈f.2,tI y=true)/\v∈f.2/\f.2.length<=5/\Q (.tuple ((BZ k v f).map aP))
def OW{f:Str×List Str}{k v st z:Str}(hz:z∈f.2):(if uF (BZ k v f) (.str z)=true then("yes":Str)else "no")=EW f k v st (.str z):=by
 show(if decide (z∈BZ k v f)=true then("yes":Str)else "no")=if k="is" then(if z=v then("yes":Str)else "no")else if f.2.idxOf z<=f.2.idxOf v then("yes":Str)else "no";unfold BZ;by_cases hk:k="is"
 ·rw[if_pos hk,if_pos hk];by_cases e:z=v
  ·rw[if_pos e,if_pos (decide_eq_true (bF.mpr e))]
  ·rw[if_neg e,if_neg (λq=>e (bF.mp (of_decide_eq_true q)))]
 ·rw[if_neg hk,if_neg hk];have hi:f.2.idxOf z<f.2.length:=jO.mpr hz;by_cases e:f.2.idxOf z<=f.2.idxOf v
  ·rw[if_pos e,if_pos];refine decide_eq_true (aZ (i:=f.2.idxOf z) ?_);rw[mC,if_pos (by omega),aE hi,mB hi]
  ·rw[if_neg e,if_neg];intro q;obtain⟨i,hi'⟩:=cD (of_decide_eq_true q);have hl:=(aH.mp hi').1;rw[bO]at hl;rw[mC,if_pos (by omega)]at hi';have:=UW hi';omega
def HS{f:Str×List Str}{k v y}(hv:v∈f.2)(h:y∈BZ k v f):y∈f.2:=by
 unfold BZ at h;split at h
 ·rw[bF.mp h];exact hv
 ·exact eI h
noncomputable def uC(k v st:Str)(f:Str×List Str):List D:=(BZ k v f).map aP++(if st="yes" then[zJ]else[])
def aAn:oV:=λds Q=>∃(k n v st:Str)(f:Str×List Str),ds=[.tuple [.str k,.str n,.str v],.str st,jZ f]/\(∀y∈f.2,tI y=true)/\v∈f.2/\f.2.length<=5/\Q (.tuple (uC k v st f))
def aAo:oV:=λds Q=>∃(fs:List (Str×List Str))(an:List Str)(k n v:Str)(f:Str×List Str)(j:Nat),ds=[fD fs an,.tuple [.str k,.str n,.str v]]/\gO fs an/\fs[j]?=some f/\f.1=n/\Q (.int (j:Int))
def UY{k v}{f:Str×List Str}(h:f.2.length<=5):(BZ k v f).length<=5:=by
 unfold BZ;split
 ·show 1<=5;decide
 ·rw[bO];omega
def UU{k v st:Str}{f}(hst:st="yes"\/st="no"){c}(hc:J8 f c=true):(if OU c (.tuple (uC k v st f))=true then("yes":Str)else "no")=EW f k v st c:=by
 have e:OU c (.tuple (uC k v st f))=(uF (BZ k v f) c||((if st="yes" then[zJ]else[]).any λz=>bP z c)):=by
  show((uC k v st f).any λz=>bP z c)=_;unfold uC;rw[Z7,CN]
 cases c with
 |none=>
  rw[e];rcases hst with rfl | rfl<;>rfl
 |str z=>
  have hz:z∈f.2:=of_decide_eq_true hc
  have e2:((if st="yes" then[zJ]else[]).any λx=>bP x (.str z))=false:=by
   rcases hst with rfl | rfl<;>rfl
  rw[e,e2,aGi];exact OW hz
 |_=>cases hc
def TH{k v st}{f:Str×List Str}(hf:∀y∈f.2,tI y=true)(hv:v∈f.2){d}(hd:Cd d):C4 d (.tuple (uC k v st f)):=by
 unfold uC;split
 ·exact BI (λy hy=>hf y (HS hv hy)) hd
 ·rw[dQ];exact MA (λy hy=>hf y (HS hv hy)) hd
noncomputable def onW(w:Str)(x:D):Bool:=match x with | .tuple [_,.str s]=>decide (s=w) | _=>false
noncomputable def Y2(ss:List Str)(w:Str)(x:D):Bool:=match x with | .int i=>(match L2.atI ss i with | some s=>decide (s=w) | none=>false) | _=>false
noncomputable def atS(ss:List Str)(x:D):D:=match x with | .int i=>(match L2.atI ss i with | some s=>.str s | none=>.none) | _=>.none
noncomputable def aFq(x:D):D:=match x with | .tuple [a,_]=>a | _=>x
def D5(ss:List Str):yI (ss.map aP)=(fC ss.length).map λx=>.tuple [x,atS ss x]:=by
 apply iM;intro i
 cases h:ss[i]? with
 |none=>
  have hl:=GB.mp h;rw[dX (by rw[qA,aA];exact hl),dX (by rw[aA,mV];exact hl)]
 |some s=>
  have hl:=(aH.mp h).1;rw[xS (a:=.str s) (by rw[aK,h];rfl),aK];unfold fC;rw[aK,jU hl];show _=some (gX [.int (i:Int),match L2.atI ss (i:Int)with | some s=>.str s | none=>.none]);rw[L2.gQ h]
def IA(ss:List Str)(w:Str):((yI (ss.map aP)).filter (onW w)).map aFq=(fC ss.length).filter (Y2 ss w):=by
 rw[D5,sY,bG];have e1:(aFq∘λx=>gX [x,atS ss x])=id:=by funext x;rfl
 have e2:(onW w∘λx=>gX [x,atS ss x])=Y2 ss w:=by
  funext x
  cases x with
  |int i=>
   show onW w (.tuple [.int i,(match L2.atI ss i with | some s=>aP s | none=>.none)])=(match L2.atI ss i with | some s=>decide (s=w) | none=>false);cases L2.atI ss i<;>rfl
  |_=>rfl
 rw[e1,e2,CU]
def aAl:WI:=λds Q=>∃(w:Str)(ss:List Str),ds=[.str w,.list (ss.map aP)]/\ss.length<=60/\Q ((fC ss.length).filter (Y2 ss w))
def LX{fs k n v st}{rs:List (List D×Str)}(w:Str):(fC (rs.map λr=>jD fs k n v st r.1).length).filter (Y2 (rs.map λr=>jD fs k n v st r.1) w)=iF fs k n v st rs w:=by
 unfold iF;rw[aA];apply qI;intro x hx;obtain⟨j,hj⟩:=cD hx;obtain⟨hjl,rfl⟩:=BY hj;have hr:rs[j]?=some rs[j]:=aE hjl;rw[N9 hr];show(match L2.atI (rs.map λr=>jD fs k n v st r.1) (j:Int)with | some s=>decide (s=w) | none=>false)=_;rw[L2.gQ (v:=jD fs k n v st rs[j].1) (by rw[aK,hr];rfl)]
noncomputable def ZJ(rs:List Rw)(x:D):D:=match x with | .str a=>.int ((vD rs a:Nat):Int) | _=>.none
def JQ(rs:List Rw)(a:Str):((rs.map λr=>aP r.2).countP λt=>bP t (.str a))=vD rs a:=by
 rw[Z6];unfold vD;congr 1
def UI:∀{ys:List Str},(∀y∈ys,tI y=true)->eE (ys.map aP)=true/\eL (ys.map aP)<=0:=λh=>by
 obtain⟨_,_,_,_,b5,b6⟩:=uR (zQ h (aM 8) (m:=0));exact⟨b6,b5⟩
theorem HJ:∀ns:List Int,eE (ns.map bI)=true/\eL (ns.map bI)=0
|[]=>⟨rfl,rfl⟩
|n::ns=>by
 have:=HJ ns;refine⟨?_,?_⟩
 ·show(true&&eE (ns.map bI))=true;rw[this.1];rfl
 ·show max 0 (eL (ns.map bI))=0;rw[this.2];rfl
def DQ{ns:List Int}{m:Int}{j:Nat}(h:ns[j]?=some m)(hno:∀i:Nat,i<j->ns[i]?≠some m):OA (ns.map bI) (.int m) j:=by
 obtain⟨h1,h2⟩:=HJ ns;refine⟨h1,rfl,by rw[h2];omega,⟨.int m,by rw[aK,h];rfl,?_⟩,λi t hi ht=>?_⟩
 ·show(m==m)=true;simp
 ·rw[aK]at ht
  cases e:ns[i]? with
  |none=>rw[e]at ht;cases ht
  |some n=>
   rw[e]at ht;cases ht;show(n==m)=false;have:n≠m:=λz=>hno i hi (by rw[e,z]);simpa using this
def RT:oV:=λds Q=>∃a b:Nat,ds=[.int a,.int b]/\Q (.int ((a.gcd b:Nat):Int))
def W4{an:List Str}(hn:an.Nodup)(g:Str->Int){b}(h:b∈an):(an.map λa=>if b=a then g a else 0).sum=g b:=by
 induction an with
 |nil=>simp at h
 |cons a an ih=>
  rw[bX,fY];obtain⟨hna,hn'⟩:=kP.mp hn;by_cases e:b=a
  ·subst e
   have z:(an.map λa=>if b=a then g a else 0).sum=0:=by
    have:∀l:List Str,b∉l->(l.map λa=>if b=a then g a else 0).sum=0:=λl=>by
     induction l with
     |nil=>intro _;rfl
     |cons c l ihl=>
      intro hb;rw[bX,fY,ihl λq=>hb (aI _ q),if_neg λ(q:b=c)=>hb (by rw[q];exact aL ..)];rfl
    exact this an hna
   rw[z,if_pos rfl];omega
  ·rw[if_neg e,ih hn' ((aN.mp h).resolve_left e)];omega
def W5(an:List Str)(f g:Str->Int):(an.map λa=>f a+g a).sum=(an.map f).sum+(an.map g).sum:=by
 induction an with
 |nil=>rfl
 |cons a an ih=>rw[bX,bX,bX,fY,fY,fY,ih];omega
theorem AW{an:List Str}(hn:an.Nodup)(g:Str->Int):∀ss:List Rw,(∀r∈ss,r.2∈an)->(an.map λa=>(vD ss a:Int)*g a).sum=(ss.map λr=>g r.2).sum
|[],_=>by
 have:∀l:List Str,(l.map λa=>((vD [] a:Nat):Int)*g a).sum=0:=λl=>by
  induction l with
  |nil=>rfl
  |cons c l ihl=>
   rw[bX,fY,ihl];show((0:Nat):Int)*g c+0=0;simp
 exact this an
|r::ss,h=>by
 have ih:=AW hn g ss λx hx=>h x (aI _ hx)
 have e:(λa=>((vD (r::ss) a:Nat):Int)*g a)=λa=>(if r.2=a then g a else 0)+(vD ss a:Int)*g a:=by
  funext a;unfold vD;rw[List.countP_cons];by_cases q:r.2=a
  ·rw[if_pos q,if_pos (decide_eq_true q),kR,PZ];show _+1*g a=_;rw[Int.one_mul,Int.add_comm]
  ·rw[if_neg q,if_neg (by simpa using q),Nat.add_zero,Int.zero_add]
 rw[e,W5,W4 hn g (h r (aL ..)),ih,bX,fY]
def N6(rs:List Rw)(a:Str):((rs.countP λo=>decide (o.2≠a):Nat):Int)=(rs.length:Int)-(vD rs a:Int):=by
 unfold vD
 have:rs.length=(rs.countP λo=>decide (o.2=a))+(rs.countP λo=>decide (o.2≠a)):=by
  rw[yS (λo:Rw=>decide (o.2=a))];congr 2;funext o;by_cases q:o.2=a<;>simp[q]
 omega
theorem T5:∀l:List Nat,((l.sum:Nat):Int)=(l.map λ(n:Nat)=>(n:Int)).sum
|[]=>rfl
|n::l=>by rw[fY,bX,fY,kR,T5 l]
def L8{an:List Str}(hn:an.Nodup){rs:List Rw}(h:∀r∈rs,r.2∈an):((hZ an rs).map λc=>c*((rs.length:Int)-c)).sum=((yV rs rs:Nat):Int):=by
 have h1:=AW hn (λa=>(rs.length:Int)-(vD rs a:Int)) rs h;unfold hZ yV;rw[bG,T5,bG];refine h1.trans ?_;congr 1;apply jT;intro r _;exact(N6 rs r.2).symm
noncomputable def aCd(n:Int)(x:D):D:=match x with | .int c=>.int (c*(n-c)) | _=>.none
noncomputable def aD9(x:D):D:=match x with | .tuple [_,b]=>b | _=>x
noncomputable def UR:Tr->Bool
|.say _=>true
|.ask _ _ _ _ _ _=>false
def RO:oV:=λds Q=>∃t:Tr,ds=[lE t]/\Q (.bool (UR t))
noncomputable def JR(fs:List (Str×List Str)):Tr->List D->List Str
|.say _,_=>[]
|.ask k n v s y m,cs=>jD fs k n v s cs::(if jD fs k n v s cs="yes" then JR fs y cs else JR fs m cs)
section
variable{fs:List (Str×List Str)}{an:List Str}
def XO(F:gO fs an){k n v st:Str}{cs}(hq:P4 fs (.tuple [.str k,.str n,.str v])=true)(hst:st="yes"\/st="no")(hc:jH fs (.tuple cs)=true):jD fs k n v st cs="yes"\/jD fs k n v st cs="no":=by
 obtain⟨f,hf,hfn,hv,hk⟩:=wI hq;obtain⟨j,hj⟩:=cD hf;obtain⟨hcl,hcv⟩:=nD hc;have hjl:=(aH.mp hj).1;have hcj:cs[j]?=some cs[j]:=aE (by omega)
 generalize cs[j]=c at hcj
 rw[A1 F hj hcj hfn];have hok:=hcv j f c hj hcj
 cases c with
 |none=>exact hst
 |str z=>
  show(if k="is" then(if z=v then("yes":Str)else "no")else if f.2.idxOf z<=f.2.idxOf v then("yes":Str)else "no")="yes"\/_;by_cases h1:k="is"
  ·by_cases h2:z=v
   ·exact .inl (by rw[if_pos h1,if_pos h2])
   ·exact .inr (by show(if k="is" then(if z=v then("yes":Str)else "no")else if f.2.idxOf z<=f.2.idxOf v then("yes":Str)else "no")="no";rw[if_pos h1,if_neg h2])
  ·by_cases h2:f.2.idxOf z<=f.2.idxOf v
   ·exact .inl (by rw[if_neg h1,if_pos h2])
   ·exact .inr (by show(if k="is" then(if z=v then("yes":Str)else "no")else if f.2.idxOf z<=f.2.idxOf v then("yes":Str)else "no")="no";rw[if_neg h1,if_neg h2])
 |_=>cases hok
end
noncomputable def there(fs:List (Str×List Str))(t:Tr)(rs:List (List D×Str))(pl:List Str)(x:D):Bool:=match x with
|.int i=>(match L2.atI rs i with | some r=>decide ((JR fs t r.1).take pl.length=pl) | none=>false)
|_=>false
def aAw:oV:=λds Q=>∃f:Str×List Str,ds=[jZ f]/\f.2.length<=5/\Q (.tuple (f.2.map aP++[.none]))
def AY:oV:=λds Q=>∃ns:List Int,ds=[.list (ns.map bI)]/\ns.length<=63/\Q (.bool true)
noncomputable def onY(fs:List (Str×List Str))(k n v st:Str)(r:List D×Str):Bool:=decide (jD fs k n v st r.1="yes")
def gH.filt{fs an}{rs:List (List D×Str)}(h:gH fs an rs)(p:List D×Str->Bool):gH fs an (rs.filter p):=λr hr=>h r (cU.mp hr).1
noncomputable def A5(rs:List (List D×Str))(x:D):D:=match x with | .int i=>(match L2.atI rs i with | some r=>cS r | none=>.none) | _=>.none
def M8{rs:List (List D×Str)}{r}{i:Nat}(h:i<rs.length):L2.atI (rs++[r]) (i:Int)=L2.atI rs (i:Int):=by
 rw[L2.gQ (aE h),L2.gQ (xs:=rs++[r]) (v:=rs[i]) (by rw[dM h];exact aE h)]
theorem YV(fs:List (Str×List Str))(k n v st w:Str):∀(m:Nat)(rs:List (List D×Str)),rs.length=m->(iF fs k n v st rs w).map (A5 rs)=(rs.filter λr=>decide (jD fs k n v st r.1=w)).map cS
|0,rs,h=>by rw[rG.mp h];rfl
|m+1,rs,h=>by
 obtain⟨xs,r,rfl⟩:∃xs r,rs=xs++[r]:=⟨rs.dropLast,rs.getLast (λe=>by rw[e]at h;cases h),(List.dropLast_concat_getLast _).symm⟩;have hl:xs.length=m:=by rw[bQ]at h;simpa using h
 have ih:=YV fs k n v st w m xs hl;unfold iF at ih |-
 have e1:fC (xs++[r]).length=fC xs.length++[.int (xs.length:Int)]:=by
  unfold fC;rw[bQ,nH,Z2,cK];rfl
 have hat:L2.atI (xs++[r]) (xs.length:Int)=some r:=L2.gQ (by rw[dU (aM _),Nat.sub_self];rfl)
 have e2:(fC xs.length).filter (sG fs k n v st (xs++[r]) w)=(fC xs.length).filter (sG fs k n v st xs w):=qI λx hx=>by
  obtain⟨j,hj,rfl⟩:=bA.mp hx;show(match L2.atI (xs++[r]) (j:Int)with | some r=>decide (jD fs k n v st r.1=w) | none=>false)=match L2.atI xs (j:Int)with | some r=>decide (jD fs k n v st r.1=w) | none=>false
  rw[M8 (by simpa using hj)]
 have e3:((fC xs.length).filter (sG fs k n v st xs w)).map (A5 (xs++[r]))=((fC xs.length).filter (sG fs k n v st xs w)).map (A5 xs):=jT λx hx=>by
  obtain⟨j,hj,rfl⟩:=bA.mp (cU.mp hx).1;show(match L2.atI (xs++[r]) (j:Int)with | some r=>cS r | none=>.none)=match L2.atI xs (j:Int)with | some r=>cS r | none=>.none
  rw[M8 (by simpa using hj)]
 have ho:sG fs k n v st (xs++[r]) w (.int (xs.length:Int))=decide (jD fs k n v st r.1=w):=by
  show(match L2.atI (xs++[r]) (xs.length:Int)with | some r=>decide (jD fs k n v st r.1=w) | none=>false)=_;rw[hat]
 have hr:A5 (xs++[r]) (.int (xs.length:Int))=cS r:=by
  show(match L2.atI (xs++[r]) (xs.length:Int)with | some r=>cS r | none=>.none)=_;rw[hat]
 rw[e1,iX,cK,e2,e3,ih,iX,cK];congr 1;by_cases hs:jD fs k n v st r.1=w
 ·rw[eF,if_pos (by rw[ho];exact decide_eq_true hs),eF,if_pos (decide_eq_true hs)];show[A5 (xs++[r]) (.int (xs.length:Int))]=[cS r];rw[hr]
 ·rw[eF,if_neg (by rw[ho,decide_eq_false hs];decide),eF,if_neg (by rw[decide_eq_false hs];decide)]
  rfl
def LU:oV:=λds Q=>∃(fs:List (Str×List Str))(k n v st w:Str)(rs:List (List D×Str)),ds=[.list (rs.map cS),.list (iF fs k n v st rs w)]/\rs.length<=60/\Q (.list ((rs.filter λr=>decide (jD fs k n v st r.1=w)).map cS))
def zW{fs an}(F:gO fs an){k n v st:Str}(hq:P4 fs (.tuple [.str k,.str n,.str v])=true)(hst:st="yes"\/st="no"){rs:List (List D×Str)}(hrs:gH fs an rs):(rs.filter λr=>decide (jD fs k n v st r.1="no"))=rs.filter λr=>!onY fs k n v st r:=qI λr hr=>by
 unfold onY;rcases XO F hq hst (hrs r hr).1 with e | e
 ·rw[e];decide +kernel
 ·rw[e];decide +kernel
def LR:oV:=λds Q=>∃(fs:List (Str×List Str))(an:List Str)(rs:List (List D×Str)),ds=[fD fs an,.list (rs.map cS)]/\gO fs an/\gH fs an rs/\rs.length<=60/\Q (.list ((hZ an rs).map bI))
abbrev Fs:=List (Str×List Str)
abbrev Qn:=Str×Str×Str
abbrev Ch:=Qn×Str
noncomputable def qD(q:Qn):D:=.tuple [.str q.1,.str q.2.1,.str q.2.2]
noncomputable def tq(d:D):Qn:=match d with | .tuple [.str k,.str n,.str v]=>(k,n,v) | _=>("","","")
noncomputable def qs(fs:Fs):List Qn:=(fR fs).map tq
def zS(fs:Fs):(qs fs).map qD=fR fs:=by
 unfold qs;rw[bG]
 have:∀d∈fR fs,(qD∘tq) d=id d:=λd hd=>by
  obtain⟨f,hf,⟨z,hz,rfl⟩ | ⟨z,hz,hi,rfl⟩⟩:=CH hd<;>rfl
 rw[jT this,CU]
def E7{fs}{q:Qn}(h:q∈qs fs):P4 fs (.tuple [.str q.1,.str q.2.1,.str q.2.2])=true:=by
 have:qD q∈(qs fs).map qD:=bA.mpr ⟨q,h,rfl⟩;rw[zS]at this;exact K0 this
noncomputable def oZ(q:Qn):List Ch:=[(q,"yes"),(q,"no")]
noncomputable def FV(fs:Fs):List Ch:=(qs fs).flatMap oZ
def KZ{fs}{c:Ch}(h:c∈FV fs):c.1∈qs fs/\(c.2="yes"\/c.2="no"):=by
 obtain⟨q,hq,hc⟩:=List.mem_flatMap.mp h;simp only[oZ,aN,bV,or_false]at hc;rcases hc with rfl | rfl
 ·exact⟨hq,.inl rfl⟩
 ·exact⟨hq,.inr rfl⟩
def FU(fs:Fs):(FV fs).length=2*(fR fs).length:=by
 unfold FV qs
 generalize (fR fs)=l
 induction l with
 |nil=>rfl
 |cons x l ih=>
  rw[bX,WD,bQ,ih];show 2+_=2*(l.length+1);omega
noncomputable def onC(fs:Fs)(c:Ch)(r:Rw):Bool:=onY fs c.1.1 c.1.2.1 c.1.2.2 c.2 r
noncomputable abbrev yR(fs:Fs)(c:Ch)(R:List Rw):List Rw:=R.filter (onC fs c)
noncomputable abbrev nR(fs:Fs)(c:Ch)(R:List Rw):List Rw:=R.filter λr=>!onC fs c r
noncomputable def chQ(c:Ch):D:=.tuple [qD c.1,.str c.2]
def aAq:oV:=λds Q=>∃(fs:Fs)(an:List Str),ds=[fD fs an]/\gO fs an/\Q (.list ((FV fs).map chQ))
def RM:oV:=λds Q=>∃(fs:Fs)(an:List Str),ds=[fD fs an]/\gO fs an/\Q (.list ((qs fs).map qD))
noncomputable def low(a b:Nat):Nat×Nat:=(a / a.gcd b,b / a.gcd b)
noncomputable def C5(x:Nat×Nat):D:=.tuple [.int (x.1:Nat),.int (x.2:Nat)]
noncomputable def tQ(R:List Rw):Nat×Nat:=low (yV R R) (max 1 R.length)
noncomputable def W6(x y:Nat×Nat):Nat×Nat:=low (x.1*y.2+y.1*x.2) (x.2*y.2)
noncomputable def dC(fs:Fs)(R:List Rw)(c:Ch):Nat×Nat:=W6 (tQ (yR fs c R)) (tQ (nR fs c R))
noncomputable def okC(fs:Fs)(R:List Rw)(m:Int)(c:Ch):Bool:=decide (m<=((yR fs c R).length:Int))&&decide (m<=((nR fs c R).length:Int))
noncomputable def gS(fs:Fs)(R:List Rw)(m:Int):List Ch:=(FV fs).filter (okC fs R m)
noncomputable def KW(fs:Fs)(R:List Rw)(c:Ch):D:=.tuple [qD c.1,.str c.2,C5 (dC fs R c)]
noncomputable def vG(l:List (Nat×Nat)):Nat:=l.foldl (λc x=>c.lcm x.2) 1
noncomputable def OP(B:Nat)(x:Nat×Nat):Int:=(x.1:Int)*((B:Int) / (x.2:Int))
noncomputable def P6(fs:Fs)(R:List Rw)(m:Int):List (Nat×Nat):=(gS fs R m).map (dC fs R)
noncomputable def BT(fs:Fs)(R:List Rw)(m:Int):List Int:=(P6 fs R m).map (OP (vG (P6 fs R m)))
noncomputable def CB(fs:Fs)(R:List Rw)(m:Int):List D:=(gS fs R m).map (KW fs R)
def Rkd(fs:Fs)(R:List Rw)(m:Int)(J:List Nat):Prop:=SS.GH (gS fs R m).length (λi=>(BT fs R m).getD i 0) J
noncomputable def aEr(fs:Fs)(R:List Rw)(m:Int)(J:List Nat):List D:=J.map λi=>(CB fs R m).getD i .none
def zZ{a b:Nat}(h:0<b):0<(low a b).2:=Nat.div_pos (aGo h (zM a b)) (rE a h)
def UA(a b:Nat):(low a b).1<=a/\(low a b).2<=b:=⟨aC9 _ _,aC9 _ _⟩
structure ZV(x:Nat×Nat)(a b:Nat):Prop where
 top:x.1<=a
 pos:0<x.2
 bot:x.2<=b
def wQ{R:List Rw}(h:R.length<=60):ZV (tQ R) 3600 60:=by
 have h1:=UA (yV R R) (max 1 R.length);have h2:=JX R R;have h3:R.length*R.length<=60*60:=lN h h;exact⟨by show(low _ _).1<=_;omega,zZ (by omega),by show(low _ _).2<=_;omega⟩
def LM{x y:Nat×Nat}(hx:ZV x 3600 60)(hy:ZV y 3600 60):x.1*y.2+y.1*x.2<=432000/\x.2*y.2<=3600/\0<x.2*y.2:=by
 have h1:x.1*y.2<=3600*60:=lN hx.top hy.bot;have h2:y.1*x.2<=3600*60:=lN hy.top hx.bot;have h3:x.2*y.2<=60*60:=lN hx.bot hy.bot;exact⟨by omega,by omega,qJ hx.pos hy.pos⟩
def RD{x y}(hx:ZV x 3600 60)(hy:ZV y 3600 60):ZV (W6 x y) 432000 3600:=by
 obtain⟨h1,h2,h3⟩:=LM hx hy;have h4:=UA (x.1*y.2+y.1*x.2) (x.2*y.2);exact⟨bK h4.1 h1,zZ h3,bK h4.2 h2⟩
def xT{fs}{R:List Rw}(h:R.length<=60)(c:Ch):ZV (dC fs R c) 432000 3600:=
 RD (wQ (bK (cE _ _) h)) (wQ (bK (cE _ _) h))
theorem IL:∀(l:List (Nat×Nat))(c:Nat),c ∣ l.foldl (λc x=>c.lcm x.2) c/\∀x∈l,x.2 ∣ l.foldl (λc x=>c.lcm x.2) c
|[],c=>⟨Nat.dvd_refl _,λx hx=>by cases hx⟩
|y::l,c=>by
 obtain⟨h1,h2⟩:=IL l (c.lcm y.2);refine⟨aGp (Nat.dvd_lcm_left _ _) h1,λx hx=>?_⟩;rcases aN.mp hx with rfl | hx
 ·exact aGp (Nat.dvd_lcm_right _ _) h1
 ·exact h2 x hx
theorem IK:∀(l:List (Nat×Nat))(c:Nat),0<c->(∀x∈l,0<x.2)->0<l.foldl (λc x=>c.lcm x.2) c
|[],c,h,_=>h
|y::l,c,h,g=>IK l _ (Nat.lcm_pos h (g y (aL ..))) λx hx=>g x (aI _ hx)
def HQ{B:Nat}{x:Nat×Nat}:OP B x=((x.1*(B / x.2):Nat):Int):=by
 unfold OP;rw[fH,rO]
def YT{B:Nat}{x y:Nat×Nat}(hB:0<B)(hx:x.2 ∣ B)(hy:y.2 ∣ B)(px:0<x.2)(py:0<y.2):OP B x<OP B y↔x.1*y.2<y.1*x.2:=by
 rw[HQ,HQ,aKu];obtain⟨a,ha⟩:=hx;obtain⟨b,hb⟩:=hy;have ea:B / x.2=a:=by rw[ha];exact JD a px
 have eb:B / y.2=b:=by rw[hb];exact JD b py
 rw[ea,eb];have h1:x.1*a*(x.2*y.2)=B*(x.1*y.2):=by rw[ha];simp only[eR,fA,dE]
 have h2:y.1*b*(x.2*y.2)=B*(y.1*x.2):=by rw[hb];simp only[eR,fA,dE]
 have h3:0<x.2*y.2:=qJ px py;constructor
 ·intro h;have:=gE h h3;rw[h1,h2]at this;exact Nat.lt_of_mul_lt_mul_left this
 ·intro h;have:=Nat.mul_lt_mul_of_pos_left h hB;rw[<- h1,<- h2]at this;exact jB this
def VS{fs an}(F:gO fs an)(R:List Rw)(m:Int):(gS fs R m).length<=100:=by
 have h1:=lT F fs λg hg=>hg;have h2:=cE (okC fs R m) (FV fs);rw[FU]at h2;have n5:=F.n5;show((FV fs).filter _).length<=_;omega
def UP(fs:Fs)(R:List Rw)(m:Int):(BT fs R m).length=(gS fs R m).length:=by unfold BT P6;rw[aA,aA]
def sO(fs:Fs)(R:List Rw)(m:Int):(CB fs R m).length=(gS fs R m).length:=by unfold CB;rw[aA]
def FF{fs R}{m:Int}{i:Nat}(h:i<(gS fs R m).length):(BT fs R m).getD i 0=OP (vG (P6 fs R m)) (dC fs R (gS fs R m)[i]):=by
 unfold BT;rw[cX,aK];unfold P6;rw[aK,aE h];rfl
def MX{fs R}{m:Int}{i:Nat}(h:i<(gS fs R m).length):(CB fs R m).getD i .none=KW fs R (gS fs R m)[i]:=by
 unfold CB;rw[cX,aK,aE h];rfl
def aE8{fs}{R:List Rw}{m:Int}(hR:R.length<=60){i j:Nat}(hi:i<(gS fs R m).length)(hj:j<(gS fs R m).length) :
  (BT fs R m).getD i 0<(BT fs R m).getD j 0↔(dC fs R (gS fs R m)[i]).1*(dC fs R (gS fs R m)[j]).2<(dC fs R (gS fs R m)[j]).1*(dC fs R (gS fs R m)[i]).2:=by
 rw[FF hi,FF hj]
 have hp:∀x∈P6 fs R m,0<x.2:=λx hx=>by
  obtain⟨c,_,rfl⟩:=bA.mp hx;exact(xT hR c).pos
 have hd:=(IL (P6 fs R m) 1).2;exact YT (IK _ _ (by decide) hp) (hd _ (PU (fK hi))) (hd _ (PU (fK hj))) (xT hR _).pos (xT hR _).pos
theorem DS:∀(n:Nat)(J:List Nat),J.Nodup->(∀i∈J,i<n)->J.length<=n
|0,J,_,h=>by
 cases J with
 |nil=>exact aM _
 |cons j J=>exact absurd (h j (aL ..)) (aC6 _)
|n+1,J,nd,h=>by
 have h1:=DS n (J.filter (· != n)) (nd.filter _) λi hi=>by
  obtain⟨a,b⟩:=cU.mp hi;have:=h i a;have b':i≠n:=by simpa using b
  omega
 have h2:J.length=(J.filter (· != n)).length+J.count n:=by
  rw[List.count,<- CZ,yS (p:=λx=>x != n)];congr 1;apply List.countP_congr;intro x _;simp
 have h3:=List.nodup_iff_count.mp nd n;omega
def NS{n:Nat}{k:Nat->Int}{J:List Nat}(h:SS.GH n k J):J.Nodup:=h.ord.imp λ{a b} q z=>by
 subst z;omega
def XD{n:Nat}{k:Nat->Int}{J}(h:SS.GH n k J){i:Nat}(hi:i<n):i∈J:=by
 by_cases e:i∈J
 ·exact e
 ·have:=DS n (i::J) (kP.mpr ⟨e,NS h⟩) λx hx=>by
   rcases aN.mp hx with rfl | hx
   ·exact hi
   ·exact h.lt x hx
  rw[dH,h.len]at this;omega
def aAk:oV:=λds Q=>∃(as bs:List D)(m:Int),ds=[.tuple [.list as,.list bs],.int m]/\Q (.bool (decide (m<=(as.length:Int))&&decide (m<=(bs.length:Int))))
def aAv:oV:=λds Q=>∃x y:Nat×Nat,ds=[C5 x,C5 y]/\ZV x 3600 60/\ZV y 3600 60/\Q (C5 (W6 x y))
def aAt:oV:=λds Q=>∃l:List (Nat×Nat),ds=[.list (l.map C5)]/\(∀x∈l,0<x.2/\x.2<=1000000)/\Q (.int (vG l:Nat))
def aAj:WI:=λds Q=>∃(fs:Fs)(an:List Str)(rs:List Rw)(m:Int),ds=[fD fs an,.list (rs.map cS),.int m]/\gO fs an/\gH fs an rs/\rs.length<=60/\∀J,Rkd fs rs m J->Q (aEr fs rs m J)
def NY:∀(l:List Sl)(a b c x y z:Sl),((((((l.set 0 a).set 1 b).set 2 c).set 0 x).set 1 y).set 2 z)=((l.set 0 x).set 1 y).set 2 z
|[],_,_,_,_,_,_=>rfl
|[_],_,_,_,_,_,_=>rfl
|[_,_],_,_,_,_,_,_=>rfl
|_::_::_::_,_,_,_,_,_,_=>rfl
def YN{fr ti}{te:ET}{σ}{Q:D->Prop}{ts:List D}(hti:qZ ti σ ts)(f:D->D)(hz:ts.length<=100000)(hp:∀x∈ts,∃a b c,x=.tuple [a,b,c])(ht:∀(a b c:D)(q:D->Prop),.tuple [a,b,c]∈ts->q (f (.tuple [a,b,c]))->te ((((jQ fr σ).set 0 (.val a)).set 1 (.val b)).set 2 (.val c)) q)(hq:Q (.list (ts.map f))):P5 fr ti (gP3 0 1 2) CK te σ Q:=by
 refine hti _ ⟨hz,λk σ' ds=>(∀x y z,((σ'.set 0 (.val x)).set 1 (.val y)).set 2 (.val z)=(((jQ fr σ).set 0 (.val x)).set 1 (.val y)).set 2 (.val z))/\ds=(ts.take k).map f,⟨λ_ _ _=>rfl,rfl⟩,λk x σ' ds hx h=>?_,λσ' ds h=>?_⟩
 ·obtain⟨h1,rfl⟩:=h;have hm:x∈ts:=aZ hx;obtain⟨a,b,c,rfl⟩:=hp x hm;refine⟨a,b,c,rfl,?_⟩;show te (((σ'.set 0 (.val a)).set 1 (.val b)).set 2 (.val c)) _;rw[h1 a b c];refine ht a b c _ hm ⟨λx y z=>NY _ _ _ _ _ _ _,?_⟩;rw[cW,hx,cK];rfl
 ·obtain⟨_,rfl⟩:=h;rw[eO];exact hq
noncomputable def jW(x y:Nat×Nat):Bool:=decide (x.1*y.2<y.1*x.2)
noncomputable def kK(fs:Fs)(R:List Rw)(b x:Ch):Ch:=if jW (dC fs R x) (dC fs R b)=true then x else b
noncomputable def ZP(fs:Fs)(R:List Rw):List Ch->Option Ch
|[]=>none
|c::l=>some (l.foldl (kK fs R) c)
noncomputable def lQ(fs:Fs)(R:List Rw)(m:Int):Option Ch:=(ZP fs R (gS fs R m)).filter λc=>jW (dC fs R c) (tQ R)
noncomputable def aH8(fs:Fs)(R:List Rw):Option Ch->D
|some c=>KW fs R c
|none=>.none
def IsF(k:Nat->Int)(n p:Nat):Prop:=p<n/\(∀q,q<n->k p<=k q)/\∀q,q<p->k p<k q
def UT{k:Nat->Int}{n p q:Nat}(h1:IsF k n p)(h2:IsF k n q):p=q:=by
 rcases mX p q with z | z | z
 ·have a:=h2.2.2 p z;have b:=h1.2.1 q h2.1;omega
 ·exact z
 ·have a:=h1.2.2 q z;have b:=h2.2.1 p h1.1;omega
def RF{n:Nat}{k:Nat->Int}{i:Nat}{J}(h:SS.GH n k (i::J)):IsF k n i:=by
 obtain⟨a1,a2⟩:=List.pairwise_cons.mp h.ord
 have lo:∀q,q<n->q≠i->k i<k q\/(k i=k q/\i<q):=λq hq hne=>by
  rcases aN.mp (XD h hq)with z | z
  ·exact absurd z hne
  ·exact a1 q z
 refine⟨h.lt i (aL ..),λq hq=>?_,λq hq=>?_⟩
 ·by_cases e:q=i
  ·rw[e];exact mP _
  ·have:=lo q hq e;omega
 ·have hi:=h.lt i (aL ..);have:=lo q (by omega) (by omega);omega
theorem VT{fs}{R:List Rw}(hR:R.length<=60)(m:Int):∀(n:Nat)(hn:n<(gS fs R m).length),∃p,∃hp:p<(gS fs R m).length,IsF (λi=>(BT fs R m).getD i 0) (n+1) p/\(((gS fs R m).drop 1).take n).foldl (kK fs R) ((gS fs R m)[0]'(by omega))=(gS fs R m)[p]
|0,hn=>⟨0,by omega,⟨by omega,λq hq=>by rw[show q=0 by omega];exact mP _,λq hq=>by omega⟩,by rw[aDa];rfl⟩
|n+1,hn=>by
 obtain⟨p,hp,⟨h1,h2,h3⟩,he⟩:=VT hR m n (Nat.lt_of_succ_lt hn)
 have et:((gS fs R m).drop 1).take (n+1)=((gS fs R m).drop 1).take n++[(gS fs R m)[n+1]]:=by
  rw[cW,mD,Nat.add_comm 1 n,aE hn];rfl
 have kl:=aE8 (fs:=fs) (m:=m) hR hn hp
 have key:(((gS fs R m).drop 1).take (n+1)).foldl (kK fs R) ((gS fs R m)[0]'(by omega))=kK fs R (gS fs R m)[p] (gS fs R m)[n+1]:=by
  rw[et,yT,he];rfl
 unfold kK jW at key;by_cases c:(dC fs R (gS fs R m)[n+1]).1*(dC fs R (gS fs R m)[p]).2<(dC fs R (gS fs R m)[p]).1*(dC fs R (gS fs R m)[n+1]).2
 ·rw[if_pos (decide_eq_true c)]at key;have kc:=kl.mpr c;refine⟨n+1,hn,⟨by omega,λq hq=>?_,λq hq=>?_⟩,key⟩
  ·by_cases e:q=n+1
   ·rw[e];exact mP _
   ·have:=h2 q (by omega);dsimp only at this |-
    omega
  ·have:=h2 q (by omega);dsimp only at this |-
   omega
 ·rw[if_neg (by rw[decide_eq_false c];decide)]at key;have kc:¬(BT fs R m).getD (n+1) 0<(BT fs R m).getD p 0:=λz=>c (kl.mp z);refine⟨p,hp,⟨by omega,λq hq=>?_,h3⟩,key⟩;by_cases e:q=n+1
  ·rw[e];dsimp only;omega
  ·exact h2 q (by omega)
def VU{fs}{R:List Rw}(hR:R.length<=60){m:Int}{i:Nat}{J}(h:Rkd fs R m (i::J)):ZP fs R (gS fs R m)=some ((gS fs R m)[i]'(h.lt i (aL ..))):=by
 have hi:=h.lt i (aL ..);have hl:0<(gS fs R m).length:=by omega
 obtain⟨p,hp,hF,he⟩:=VT hR m ((gS fs R m).length-1) (Nat.sub_lt hl Nat.one_pos);rw[Nat.sub_add_cancel hl]at hF;have e:=UT hF (RF h);subst e;have et:((gS fs R m).drop 1).take ((gS fs R m).length-1)=(gS fs R m).drop 1:=fJ (by rw[eP];exact aM _);rw[et]at he
 obtain⟨a,l,hc⟩:∃a l,gS fs R m=a::l:=by
  cases hc:gS fs R m with
  |nil=>rw[hc]at hl;cases hl
  |cons a l=>exact⟨a,l,rfl⟩
 have h0:(gS fs R m)[0]=a:=by simp[hc]
 have h1:(gS fs R m).drop 1=l:=by rw[hc];rfl
 rw[h0,h1]at he;have hb:ZP fs R (gS fs R m)=some (l.foldl (kK fs R) a):=by rw[hc];rfl
 rw[hb,he]
def ZO{fs R}{m:Int}(h:Rkd fs R m []):ZP fs R (gS fs R m)=none:=by
 have:(gS fs R m).length=0:=by have:=h.len;simpa using this.symm
 rw[rG.mp this];rfl
def EG{fs R}{m:Int}{c}(h:lQ fs R m=some c):c∈gS fs R m:=by
 unfold lQ at h;have h1:=Option.filter_eq_some_iff.mp h;have h2:=h1.1
 cases hc:gS fs R m with
 |nil=>rw[hc]at h2;cases h2
 |cons a l=>
  rw[hc]at h2;have e:l.foldl (kK fs R) a=c:=Option.some.inj h2
  have:∀(l:List Ch)(a:Ch),l.foldl (kK fs R) a∈a::l:=by
   intro l
   induction l with
   |nil=>intro a;exact aL ..
   |cons x l ih=>
    intro a;rw[iN];rcases aN.mp (ih (kK fs R a x))with z | z
    ·rw[z];unfold kK;split
     ·exact aI _ (aL ..)
     ·exact aL ..
    ·exact aI _ (aI _ z)
  rw[<- e];exact this l a
def aAu:oV:=λds Q=>∃x y:Nat×Nat,ds=[C5 x,C5 y]/\x.1<=1000000/\y.1<=1000000/\Q (.bool (jW x y))
def RQ:oV:=λds Q=>∃(fs:Fs)(an:List Str)(rs:List Rw)(m:Int),ds=[fD fs an,.list (rs.map cS),.int m]/\gO fs an/\gH fs an rs/\rs.length<=60/\Q (aH8 fs rs (lQ fs rs m))
def Gr(fs:Fs)(an:List Str)(m:Int):Nat->List Rw->Tr->Prop
|0,R,t=>∃a,EJ an R a/\t=.say a
|d+1,R,t=>match lQ fs R m with
 |none=>∃a,EJ an R a/\t=.say a
 |some c=>∃y n,Gr fs an m d (yR fs c R) y/\Gr fs an m d (nR fs c R) n/\t=.ask c.1.1 c.1.2.1 c.1.2.2 c.2 y n
def IE{R S:List Rw}(h:R.Perm S)(z:Str):vD R z=vD S z:=h.countP_eq _
def SU{R S:List Rw}(h:R.Perm S):yV R R=yV S S:=by
 unfold yV;have e:(λr:Rw=>R.countP λo=>decide (o.2≠r.2))=λr:Rw=>S.countP λo=>decide (o.2≠r.2):=funext λr=>h.countP_eq _;rw[e];exact(h.map _).sum_nat
def CG{R S:List Rw}(h:R.Perm S):tQ R=tQ S:=by unfold tQ;rw[SU h,h.length_eq]
def PF{fs}{R S:List Rw}(h:R.Perm S)(m:Int):lQ fs R m=lQ fs S m:=by
 have e1:dC fs R=dC fs S:=funext λc=>by unfold dC;rw[CG (h.filter _),CG (h.filter (λr=>!onC fs c r))]
 have e2:okC fs R m=okC fs S m:=funext λc=>by unfold okC;rw[(h.filter (onC fs c)).length_eq,(h.filter (λr=>!onC fs c r)).length_eq]
 have e3:kK fs R=kK fs S:=funext λb=>funext λx=>by unfold kK;rw[e1]
 have e4:∀l,ZP fs R l=ZP fs S l:=λl=>by cases l<;>simp only[ZP,e3]
 unfold lQ gS;rw[e2,e4,e1,CG h]
def B2{an}{R S:List Rw}(h:R.Perm S){a b}(h1:EJ an R a)(h2:EJ an S b):a=b:=by
 obtain⟨k,e1,m1,l1⟩:=h1;obtain⟨j,e2,m2,l2⟩:=h2;have ca:=IE h a;have cb:=IE h b;rcases mX k j with q | rfl | q
 ·have x:=l2 k a q e1;have y:=m1 j b e2;omega
 ·rw[e1]at e2;cases e2;rfl
 ·have x:=l1 j b q e2;have y:=m2 k a e1;omega
theorem FL{fs an}{m:Int}:∀(d:Nat){R S:List Rw}{t u},R.Perm S->Gr fs an m d R t->Gr fs an m d S u->t=u
|0,R,S,t,u,h,⟨a,h1,e1⟩,⟨b,h2,e2⟩=>by rw[e1,e2,B2 h h1 h2]
|d+1,R,S,t,u,h,h1,h2=>by
 unfold Gr at h1 h2;rw[PF h]at h1
 cases e:lQ fs S m with
 |none=>
  rw[e]at h1 h2;obtain⟨a,h1,e1⟩:=h1;obtain⟨b,h2,e2⟩:=h2;rw[e1,e2,B2 h h1 h2]
 |some c=>
  rw[e]at h1 h2;obtain⟨y1,n1,a1,b1,rfl⟩:=h1;obtain⟨y2,n2,a2,b2,rfl⟩:=h2;rw[FL d (h.filter _) a1 a2,FL d (h.filter _) b1 b2]
theorem wK{fs an}{m:Int}:∀(d:Nat){R}{t:Tr},Gr fs an m d R t->wU fs an t/\t.dep<=d
|0,R,t,h=>by
 obtain⟨a,⟨k,e,_⟩,rfl⟩:=h;exact⟨aZ e,aM _⟩
|d+1,R,t,h=>by
 unfold Gr at h
 cases e:lQ fs R m with
 |none=>
  rw[e]at h;obtain⟨a,⟨k,e,_⟩,rfl⟩:=h;exact⟨aZ e,cT _⟩
 |some c=>
  rw[e]at h;obtain⟨y,n,h1,h2,rfl⟩:=h;obtain⟨a1,a2⟩:=wK d h1;obtain⟨b1,b2⟩:=wK d h2;obtain⟨hq,hs⟩:=KZ (cU.mp (EG e)).1;exact⟨⟨E7 hq,hs,a1,b1⟩,by show max y.dep n.dep+1<=d+1;omega⟩
def rW(dd:Nat):oV:=λds Q=>∃(fs:Fs)(an:List Str)(rs:List Rw)(d:Nat)(m:Int),ds=[fD fs an,.list (rs.map cS),.int d,.int m]/\gO fs an/\gH fs an rs/\rs.length<=60/\d<dd/\∀t,Gr fs an m d rs t->Q (lE t)
def RP:oV:=rW 7
def T4{ds}{Q:D->Prop}(h:rW 0 ds Q):False:=by
 obtain⟨fs,an,rs,d,m,e,F,h1,h2,h3,h⟩:=h;omega
noncomputable def sK(fs:List (Str×List Str))(an:List Str)(d:D):Bool:=match d with | .tuple [c,a]=>jH fs c&&uF an a | _=>false
def aAx:oV:=λds Q=>∃(fs:List (Str×List Str))(an:List Str)(d:D),ds=[fD fs an,d]/\gO fs an/\Cd d/\Q (.bool (jH fs d))
def RX:oV:=λds Q=>∃(fs:List (Str×List Str))(an:List Str)(d:D),ds=[fD fs an,d]/\gO fs an/\Cd d/\Q (.bool (sK fs an d))
noncomputable def okD:D->Bool
|.tuple [.tuple [_,.tuple vs],v]=>OU v (.tuple (vs++[.none]))
|_=>false
def YH(fs:List (Str×List Str))(ts:List D):((oY (fs.map jZ) ts).map okD).all id=(fs.zip ts).all λp=>J8 p.1 p.2:=by
 unfold oY;rw[bG,aGq,List.zip_map_left,aGq];apply congrArg (λg=>List.all (fs.zip ts) g);funext p;exact KR p.1 p.2
noncomputable def uW(pl:List Str):D:=.tuple (pl.map aP)
noncomputable def plY(x:List Str):List Str:="yes"::x
noncomputable def plN(x:List Str):List Str:="no"::x
noncomputable def GG:Tr->Tr->List (List Str)
|.say a,.say b=>if a=b then[]else[[]]
|.say _,.ask _ _ _ _ _ _=>[[]]
|.ask _ _ _ _ _ _,.say _=>[[]]
|.ask k n v s y m,.ask k' n' v' s' y' m'=>if k=k'/\n=n'/\v=v'/\s=s' then(GG y y').map plY++(GG m m').map plN else[[]]
noncomputable def MP:Tr->Tr->Bool
|.ask k n v s _ _,.ask k' n' v' s' _ _=>decide (k=k'/\n=n'/\v=v'/\s=s')
|_,_=>false
def aFx{t u}(h:MP t u=false):(t=u->GG t u=[])/\(t≠u->GG t u=[[]]):=by
 cases t with
 |say a=>
  cases u with
  |say b=>
   refine⟨λe=>?_,λe=>?_⟩
   ·cases e;exact if_pos rfl
   ·exact if_neg λz=>e (by rw[z])
  |ask k n v s y m=>exact⟨(λe=>nomatch e),λ_=>rfl⟩
 |ask k n v s y m=>
  cases u with
  |say b=>exact⟨(λe=>nomatch e),λ_=>rfl⟩
  |ask k' n' v' s' y' m'=>
   have hh:=of_decide_eq_false h;refine⟨λe=>?_,λ_=>if_neg hh⟩;cases e;exact absurd ⟨rfl,rfl,rfl,rfl⟩ hh
def ZK{k n v s y m y' m'}:GG (.ask k n v s y m) (.ask k n v s y' m')=(GG y y').map plY++(GG m m').map plN:=if_pos ⟨rfl,rfl,rfl,rfl⟩
theorem AH:∀t u:Tr,(GG t u).length<=t.nodes
|.say a,.say b=>by
 show(if a=b then[]else[[]]:List (List Str)).length<=1;split<;>simp
|.say _,.ask _ _ _ _ _ _=>aM 1
|.ask k n v s y m,.say _=>(Tr.ask k n v s y m).nodes_pos
|.ask k n v s y m,.ask k' n' v' s' y' m'=>by
 show(if k=k'/\n=n'/\v=v'/\s=s' then(GG y y').map plY++(GG m m').map plN else[[]]).length<=y.nodes+m.nodes+1;have h1:=AH y y';have h2:=AH m m';split
 ·rw[bQ,aA,aA];omega
 ·simp
theorem AI:∀(t u:Tr),∀p∈GG t u,p.length<=t.dep
|.say a,.say b=>λp hp=>by
 have hp':p∈(if a=b then[]else[[]]:List (List Str)):=hp;split at hp'
 ·simp at hp'
 ·rw[bF.mp hp'];exact aM 0
|.say _,.ask _ _ _ _ _ _=>λp hp=>by rw[bF.mp hp];exact aM 0
|.ask k n v s y m,.say _=>λp hp=>by rw[bF.mp hp];exact cT _
|.ask k n v s y m,.ask k' n' v' s' y' m'=>λp hp=>by
 have hp':p∈(if k=k'/\n=n'/\v=v'/\s=s' then(GG y y').map plY++(GG m m').map plN else[[]]):=hp;show p.length<=max y.dep m.dep+1;split at hp'
 ·rcases dL.mp hp' with hp' | hp'
  ·obtain⟨q,hq,rfl⟩:=bA.mp hp';have:=AI y y' q hq;show q.length+1<=_;omega
  ·obtain⟨q,hq,rfl⟩:=bA.mp hp';have:=AI m m' q hq;show q.length+1<=_;omega
 ·rw[bF.mp hp'];exact cT _
def OD(t:Tr):t.nodes<=2*2^t.dep:=by
 rw[t.nodes_kn];have:=t.kn_dep;omega
def HC{t:Tr}(h:t.dep<=12):t.nodes<=8192:=by
 have h1:=OD t;have h2:2^t.dep<=2^12:=oG (by decide) h;omega
def aCv(k n v k' n' v':Str):bP (.tuple [.str k,.str n,.str v]) (.tuple [.str k',.str n',.str v'])=decide (k=k'/\n=n'/\v=v'):=by
 show((k==k')&&((n==n')&&((v==v')&&true)))=_;rw[fG];simp
theorem FO:∀t u:Tr,bP (lE t) (lE u)=true↔t=u
|.say a,.say b=>by
 show((("say":Str)=="say")&&((a==b)&&true))=true↔_;simp
|.say a,.ask k n v s y m=>by
 refine⟨λh=>?_,λh=>nomatch h⟩;have h':((("say":Str)=="ask")&&((bP (.str a) (.tuple [.str k,.str n,.str v]))&&false))=true:=h;rw[show(("say":Str)=="ask")=false by decide +kernel]at h';cases h'
|.ask k n v s y m,.say a=>by
 refine⟨λh=>?_,λh=>nomatch h⟩;have h':((("ask":Str)=="say")&&((bP (.tuple [.str k,.str n,.str v]) (.str a))&&false))=true:=h;rw[show(("ask":Str)=="say")=false by decide +kernel]at h';cases h'
|.ask k n v s y m,.ask k' n' v' s' y' m'=>by
 show((("ask":Str)=="ask")&&(bP (.tuple [.str k,.str n,.str v]) (.tuple [.str k',.str n',.str v'])&&((s==s')&&(bP (lE y) (lE y')&&(bP (lE m) (lE m')&&true)))))=true↔_;rw[aCv];simp only[dI,decide_eq_true_eq,beq_iff_eq,FO y y',FO m m',and_true,Tr.ask.injEq];exact⟨λ⟨_,⟨a,b,c⟩,d,e,f⟩=>⟨a,b,c,d,e,f⟩,λ⟨a,b,c,d,e,f⟩=>⟨trivial,⟨a,b,c⟩,d,e,f⟩⟩
def VF{k n v s k' n' v' s':Str}:bP (.tuple [.str "ask",.tuple [.str k,.str n,.str v],.str s]) (.tuple [.str "ask",.tuple [.str k',.str n',.str v'],.str s'])=decide (k=k'/\n=n'/\v=v'/\s=s'):=by
 show((("ask":Str)=="ask")&&(bP (.tuple [.str k,.str n,.str v]) (.tuple [.str k',.str n',.str v'])&&((s==s')&&true)))=_;rw[aCv,fG];simp[and_assoc]
section
variable{fs:List (Str×List Str)}{an:List Str}
def aCy(F:gO fs an){t:Tr}(h:wU fs an t)(hd:t.dep<=40):Cd (lE t):=(aDu F t h).cd (by omega)
def FD{x y}(h1:Cd x)(h2:Cd y):aE0 x y:=⟨h1.lay,h2.lay,by have:=h1.dep;omega⟩
def VR{z}(h:tI z=true):Cd (.str z):=(jM h (n:=8) (m:=0) (aM _)).cd (by decide)
def aCg{s:Str}(h:s="yes"\/s="no"):tI s=true:=by
 rcases h with rfl | rfl
 ·exact TU
 ·exact aCh
def M5(F:gO fs an){k n v s:Str}{y m}(h:wU fs an (.ask k n v s y m)):Cd (.tuple [.str "ask",.tuple [.str k,.str n,.str v],.str s]):=
 (uQ 27 1 3 (jR (jM KC (by decide)) (jR (aG5 F h.1) (jR (jM (aCg h.2.1) (by decide)) tS))) (aM _) (aM _) (aM _)).cd (by decide)
end
def rV(dd:Nat):oV:=λds Q=>∃(fs:List (Str×List Str))(an:List Str)(t u:Tr),ds=[lE t,lE u]/\gO fs an/\wU fs an t/\wU fs an u/\t.dep<dd/\t.dep<=12/\u.dep<=12/\Q (.list ((GG t u).map uW))
def aAi:oV:=rV 13
def T3{ds}{Q:D->Prop}(h:rV 0 ds Q):False:=by
 obtain⟨_,_,_,_,_,_,_,_,h,_⟩:=h;omega
def XS{c:vN}{ta u:vH}{DT σ}(R:Bool->Prop)(P:List Sl->Prop)(h:∀q:Bool->Prop,(∀b,R b->q b)->c σ q)(ha:R true->∀DT':uK,(∀σ',P σ'->DT'.nx σ')->ta DT' σ)(hb:R false->P σ)(hu:∀σ',P σ'->u DT σ'):jA (sIf c ta kC) u DT σ:=h _ λb hr=>by
 cases b with
 |true=>exact ha hr { DT with nx:=u DT } hu
 |false=>exact hu _ (hb hr)
def RY{te:ET}{u DT}{σ:List Sl}{i j l:Nat}{a b c}(h:∀q:D->Prop,q (.tuple [a,b,c])->te σ q)(k:u DT (((σ.set i (.val a)).set j (.val b)).set l (.val c))):jA (aB2 te (gP3 i j l)) u DT σ:=h _ ⟨a,b,c,rfl,k⟩
noncomputable def jx(fs:List (Str×List Str))(n:Str):Nat:=(fs.map (·.1)).idxOf n
section
variable{fs:List (Str×List Str)}{an:List Str}
def aFb(F:gO fs an){k n v:Str}(h:P4 fs (.tuple [.str k,.str n,.str v])=true):∃f,fs[jx fs n]?=some f/\f∈fs/\f.1=n/\v∈f.2/\(k="is"\/k="upto"):=by
 obtain⟨f,hf,hfn,hv,hk⟩:=wI h;obtain⟨j,hj⟩:=cD hf;have:jx fs n=j:=by rw[<- hfn];exact zY F hj
 exact⟨f,by rw[this];exact hj,hf,hfn,hv,hk.imp id λz=>z.1⟩
end
noncomputable def rF(ks:List (Nat×Rw)):List (Int×D):=ks.map λe=>((e.1:Int),cS e.2)
noncomputable def iW(ks:List (Nat×Rw)):List D:=ks.map λe=>.tuple [.int (e.1:Nat),cS e.2]
def aD8(C:Addr):EH (lL C):=λτ n ds Q=>∃(T:Bk)(ks:List (Nat×Rw)),τ=mQ T/\ds=[mQ T]/\n.kvs=rF ks/\Q n (.list (iW ks))
def aHe(C:Addr):EH (lL C):=λτ n ds Q=>∃T:Bk,τ=mQ T/\ds=[mQ T]/\Q n n.st
def aD7(C:Addr):EH (lL C):=λτ n ds Q=>∃(T:Bk)(j:Int)(d:D),τ=mQ T/\ds=[mQ T,.int j]/\B1 n.kvs j=some d/\Q n .none
def XL(C:Addr):EH (lL C):=λτ n ds Q=>∃(fs:List (Str×List Str))(an:List Str)(T:Bk)(d:D),τ=mQ T/\ds=[mQ T,d]/\gO fs an/\T.fm=fD fs an/\Cd d/\sK fs an d=true/\Q n .none
def XJ(C:Addr):EH (lL C):=λτ n ds Q=>∃(fs:Fs)(an:List Str)(d:Nat)(m:Int)(T:Bk)(ks:List (Nat×Rw))(t0:Tr),τ=mQ T/\ds=[mQ T]/\gO fs an/\T.fm=fD fs an/\T.dp=(d:Nat)/\T.ls=m/\n.kvs=rF ks/\gH fs an (ks.map (·.2))/\ks.length<=60/\d<=6/\n.st=lE t0/\wU fs an t0/\t0.dep<=6 /\
 ∀t,Gr fs an m d (ks.map (·.2)) t->∀pl:List D,Q { n with st:=lE t } (.list pl)
noncomputable def kM(k:Nat)(ks:List (Nat×Rw)):List (Nat×Rw):=ks.filter λe=>decide (e.1≠k)
noncomputable def mE(k:Nat)(r:Rw)(ks:List (Nat×Rw)):List (Nat×Rw):=ks.map λe=>if e.1=k then(e.1,r)else e
noncomputable def HV(k:Nat)(ks:List (Nat×Rw)):Option Rw:=(ks.find? λe=>decide (e.1=k)).map (·.2)
def wH{fs an r}(h:nF fs an r):sK fs an (cS r)=true:=by
 show(jH fs (.tuple r.1)&&uF an (.str r.2))=true;rw[h.1,show uF an (.str r.2)=true from decide_eq_true h.2];rfl
theorem KO{k:Nat}:∀(ks:List (Nat×Rw)),((rF ks).any λe=>decide (e.1=(k:Int)))=ks.any λe=>decide (e.1=k)
|[]=>rfl
|e::ks=>by
 show(decide ((e.1:Int)=(k:Int))||(rF ks).any _)=(decide (e.1=k)||ks.any _);rw[KO ks];congr 1;rw[fG,decide_eq_true_eq,decide_eq_true_eq];omega
def SK{ks}{k:Nat}{r}(h:∀e∈ks,e.1≠k):C3 (rF ks) (k:Nat) (cS r)=rF (ks++[(k,r)]):=by
 unfold C3
 rw[KO,if_neg (by
  rw[rJ];rintro⟨e,he,z⟩;exact h e he (of_decide_eq_true z))]
 unfold rF;rw[cK];rfl
def MR{ks}{k:Nat}{r}:HV k ks=some r->B1 (rF ks) (k:Nat)=some (cS r):=by
 unfold HV B1 rF;rw[List.find?_map];intro h;obtain⟨e,he,rfl⟩:=cV.mp h
 have e2:((λe:Int×D=>decide (e.1=(k:Int)))∘λe:Nat×Rw=>((e.1:Int),cS e.2))=λe:Nat×Rw=>decide (e.1=k):=by
  funext e;show decide ((e.1:Int)=(k:Int))=decide (e.1=k);rw[fG,decide_eq_true_eq,decide_eq_true_eq];omega
 rw[e2,he];rfl
def U1{ks}{k:Nat}{r}(h:HV k ks=some r):(k,r)∈ks:=by
 obtain⟨e,he,rfl⟩:=cV.mp h;have h1:=GA he;have h2:e.1=k:=of_decide_eq_true (Z5 (p:=λe:Nat×Rw=>decide (e.1=k)) he);rw[<- h2];exact h1
def SJ{ks}{k:Nat}{r r2}(h:HV k ks=some r):C3 (rF ks) (k:Nat) (cS r2)=rF (mE k r2 ks):=by
 unfold C3;rw[KO,if_pos (rJ.mpr ⟨_,U1 h,decide_eq_true rfl⟩)];unfold rF mE;rw[bG,bG];apply jT;intro e _;show(if(e.1:Int)=(k:Int)then((e.1:Int),cS r2)else((e.1:Int),cS e.2))=(λe:Nat×Rw=>((e.1:Int),cS e.2)) (if e.1=k then(e.1,r2)else e);by_cases z:e.1=k
 ·rw[if_pos z,if_pos (by omega)]
 ·rw[if_neg z,if_neg (by omega)]
def VJ(k:Nat)(ks:List (Nat×Rw)):CC (rF ks) (k:Nat)=rF (kM k ks):=by
 unfold CC rF kM;rw[sY];congr 1;apply qI;intro e _;show decide ((e.1:Int)≠(k:Int))=decide (e.1≠k);rw[fG,decide_eq_true_eq,decide_eq_true_eq];omega
def tF{fs an}{ks:List (Nat×Rw)}{k:Nat}{r}(h:gH fs an (ks.map (·.2)))(hr:nF fs an r):gH fs an ((ks++[(k,r)]).map (·.2)):=λx hx=>by
 rw[cK]at hx;rcases dL.mp hx with hx | hx
 ·exact h x hx
 ·rw[show x=r from bF.mp hx];exact hr
def DN{fs an}{ks:List (Nat×Rw)}{k:Nat}(h:gH fs an (ks.map (·.2))):gH fs an ((kM k ks).map (·.2)):=λx hx=>by
 obtain⟨e,he,rfl⟩:=bA.mp hx;exact h _ (bA.mpr ⟨e,(cU.mp he).1,rfl⟩)
def R9{fs an}{ks:List (Nat×Rw)}{k:Nat}{r}(h:gH fs an (ks.map (·.2)))(hr:nF fs an r):gH fs an ((mE k r ks).map (·.2)):=λx hx=>by
 obtain⟨e,he,rfl⟩:=bA.mp hx;obtain⟨e0,h0,rfl⟩:=bA.mp he;by_cases z:e0.1=k
 ·rw[if_pos z];exact hr
 ·rw[if_neg z];exact h _ (bA.mpr ⟨e0,h0,rfl⟩)
def aHh(C:Addr):EH (lL C):=λτ n ds Q=>∃(fs:Fs)(an:List Str)(d:Nat)(m:Int)(T:Bk)(ks:List (Nat×Rw))(k:Nat)(r:Rw)(t0:Tr),τ=mQ T/\ds=[mQ T,cS r]/\gO fs an/\T.fm=fD fs an/\T.dp=(d:Nat)/\T.ls=m/\n.kvs=rF ks/\gH fs an (ks.map (·.2))/\ks.length<60/\d<=6/\n.st=lE t0/\wU fs an t0/\t0.dep<=6/\n.fol=(k:Nat)/\k<=1000/\(∀e∈ks,e.1≠k)/\nF fs an r/\Cd (cS r) /\
 ∀t,Gr fs an m d ((ks++[(k,r)]).map (·.2)) t->∀pl:List D,Q ⟨rF (ks++[(k,r)]),((k+1:Nat):Int),lE t⟩ (.tuple [.int (k:Nat),.list pl])
def aHg(C:Addr):EH (lL C):=λτ n ds Q=>∃(fs:Fs)(an:List Str)(d:Nat)(m:Int)(T:Bk)(ks:List (Nat×Rw))(k:Nat)(r:Rw)(t0:Tr),τ=mQ T/\ds=[mQ T,.int (k:Nat)]/\gO fs an/\T.fm=fD fs an/\T.dp=(d:Nat)/\T.ls=m/\n.kvs=rF ks/\gH fs an (ks.map (·.2))/\ks.length<=60/\d<=6/\n.st=lE t0/\wU fs an t0/\t0.dep<=6/\HV k ks=some r /\
 ∀t,Gr fs an m d ((kM k ks).map (·.2)) t->∀pl:List D,Q ⟨rF (kM k ks),n.fol,lE t⟩ (.tuple [cS r,.list pl])
def aHf(C:Addr):EH (lL C):=λτ n ds Q=>∃(fs:Fs)(an:List Str)(d:Nat)(m:Int)(T:Bk)(ks:List (Nat×Rw))(k:Nat)(r r2:Rw)(t0:Tr),τ=mQ T/\ds=[mQ T,.int (k:Nat),cS r2]/\gO fs an/\T.fm=fD fs an/\T.dp=(d:Nat)/\T.ls=m/\n.kvs=rF ks/\gH fs an (ks.map (·.2))/\ks.length<=60/\d<=6/\n.st=lE t0/\wU fs an t0/\t0.dep<=6/\HV k ks=some r/\nF fs an r2/\Cd (cS r2) /\
 ∀t,Gr fs an m d ((mE k r2 ks).map (·.2)) t->∀pl:List D,Q ⟨rF (mE k r2 ks),n.fol,lE t⟩ (.tuple [cS r,.list pl])
noncomputable def xM(C:Addr):D:=.dict [(.int (C:Nat),.none)]
def pD(C cM cR:Addr):EH (lL C):=λτ n ds ED=>∃(fs:Fs)(an:List Str)(T:Bk)(d:D),τ=mQ T/\ds=[mQ T,d]/\gO fs an/\T.fm=fD fs an/\Cd d/\sK fs an d=false/\ED n (xM cR)
def LQ(C cM cR:Addr):EH (lL C):=λτ n ds ED=>∃(fs:Fs)(an:List Str)(T:Bk)(d:D),τ=mQ T/\ds=[mQ T,d]/\gO fs an/\T.fm=fD fs an/\Cd d/\((sK fs an d=false/\ED n (xM cR))\/(sK fs an d=true/\60<=n.kvs.length/\ED n (xM cM)))
def aHi:oV:=λds Q=>∃(fs:Fs)(an:List Str)(d:Nat)(m:Int),ds=[fD fs an,.int (d:Nat),.int m]/\gO fs an/\d<=6/\∀t,Gr fs an m d [] t->Q (lE t)
def RJ(C:Addr):EH (lL C):=λτ n ds Q=>∃(fs:Fs)(an:List Str)(d:Nat)(m:Int)(T:Bk)(ks:List (Nat×Rw))(k:Nat)(dr:D)(t0:Tr),τ=mQ T/\ds=[mQ T,dr]/\gO fs an/\T.fm=fD fs an/\T.dp=(d:Nat)/\T.ls=m/\n.kvs=rF ks/\gH fs an (ks.map (·.2))/\d<=6/\n.st=lE t0/\wU fs an t0/\t0.dep<=6/\n.fol=(k:Nat)/\k<=1000/\(∀e∈ks,e.1≠k)/\ks.length<=60/\Cd dr /\
 ((sK fs an dr=false/\Q n (.str "row"))\/(sK fs an dr=true/\ks.length=60/\Q n (.str "many")) \/
  (∃r:Rw,dr=cS r/\nF fs an r/\ks.length<60/\∀t,Gr fs an m d ((ks++[(k,r)]).map (·.2)) t->Q ⟨rF (ks++[(k,r)]),((k+1:Nat):Int),lE t⟩ (.int (k:Nat))))
def nY:Nat->D->Prop
|0,_=>False
|n+1,d=>(∃i:Int,d=.int i)\/(∃z,tI z=true/\d=.str z)\/d=.none\/∃ts:List D,(d=.tuple ts\/d=.list ts)/\ts.length<=50000/\∀x∈ts,nY n x
def rT(dd:Nat):oV:=λds Q=>∃d:D,ds=[d,d]/\nY dd d/\Q (.bool true)
def LS:oV:=rT 7
def T2{ds}{Q:D->Prop}(h:rT 0 ds Q):False:=by
 obtain⟨_,_,h,_⟩:=h;exact h
def RN:oV:=λds Q=>∃(fs:List (Str×List Str))(an:List Str)(k n v s:Str)(cs:List D),ds=[fD fs an,.tuple [.str "ask",.tuple [.str k,.str n,.str v],.str s],.tuple cs]/\gO fs an/\P4 fs (.tuple [.str k,.str n,.str v])=true/\(s="yes"\/s="no")/\jH fs (.tuple cs)=true/\Q (.str (jD fs k n v s cs))
def RK:oV:=λds Q=>∃(ns:List Int)(fs:List (Str×List Str))(an:List Str),ds=[iH ns,fD fs an]/\ns.length<=63/\gO fs an/\∀r:Rw,nF fs an r->Q (cS r)
def aKc{fs:List (Str×List Str)}{cs:List D}(h1:cs.length=fs.length)(h2:∀(k:Nat) f c,fs[k]?=some f->cs[k]?=some c->J8 f c=true):jH fs (.tuple cs)=true:=by
 show(decide (cs.length=fs.length)&&(fs.zip cs).all λp=>J8 p.1 p.2)=true;rw[decide_eq_true h1,nV,gY];intro p hp;obtain⟨k,hk⟩:=cD hp;obtain⟨h3,h4⟩:=fN.mp hk;exact h2 k p.1 p.2 h3 h4
def RL:oV:=λds Q=>∃(fs:Fs)(an:List Str)(rs:List Rw),ds=[fD fs an,.list (rs.map cS)]/\gO fs an/\gH fs an rs/\rs.length<=60/\Q (.int ((yV rs rs:Nat):Int))
def aD5{fs an}(F:gO fs an){rs:List Rw}(h:gH fs an rs):(rs.length:Int)*(rs.length:Int)-((hZ an rs).map λc=>c*c).sum=((yV rs rs:Nat):Int):=by
 have hm:∀r∈rs,r.2∈an:=λr hr=>(h r hr).2;have h1:=L8 F.an.2.2 hm;have h2:=AW F.an.2.2 (λ_=>(rs.length:Int)) rs hm
 have h3:∀l:List Rw,(l.map λ_=>(rs.length:Int)).sum=(l.length:Int)*(rs.length:Int):=λl=>by
  induction l with
  |nil=>simp
  |cons x l ih=>rw[bX,fY,ih,dH,kR,PZ];show _=_+1*_;omega
 have h4:∀l:List Int,(l.map λc=>c*((rs.length:Int)-c)).sum=(l.map λc=>c*(rs.length:Int)).sum-(l.map λc=>c*c).sum:=λl=>by
  induction l with
  |nil=>rfl
  |cons x l ih=>simp only[bX,fY];rw[ih,Int.mul_sub];omega
 rw[h3]at h2;rw[h4]at h1
 have h5:((hZ an rs).map λc=>c*(rs.length:Int)).sum=(rs.length:Int)*(rs.length:Int):=by
  unfold hZ;rw[bG];exact h2
 rw[h5]at h1;exact h1
noncomputable def sqD(x:D):D:=match x with | .int c=>.int (c*c) | _=>.none
def rS(dd:Nat):oV:=λds Q=>∃(fs:Fs)(an:List Str)(rs:List Rw)(d:Nat)(m:Int),ds=[fD fs an,.list (rs.map cS),.int d,.int m]/\gO fs an/\gH fs an rs/\rs.length<=60/\d<dd/\1<=m/\∀t,Gr fs an m d rs t->Q (lE t)
def aAe:oV:=rS 7
def T1{ds}{Q:D->Prop}(h:rS 0 ds Q):False:=by
 obtain⟨fs,an,rs,d,m,e,F,h1,h2,h3,h⟩:=h;omega
noncomputable def JA(fs:Fs)(R:List Rw)(c:Ch):Nat:=yV (yR fs c R) (yR fs c R)*(nR fs c R).length+yV (nR fs c R) (nR fs c R)*(yR fs c R).length
noncomputable def GD(fs:Fs)(R:List Rw)(c:Ch):Nat:=(yR fs c R).length*(nR fs c R).length
noncomputable def opT(fs:Fs)(R:List Rw):Option Ch->Nat
|none=>yV R R
|some c=>JA fs R c
noncomputable def opB(fs:Fs)(R:List Rw):Option Ch->Nat
|none=>R.length
|some c=>GD fs R c
noncomputable def CW(fs:Fs)(R:List Rw)(m:Int)(s:Option Ch)(c:Ch):Option Ch:=if okC fs R m c=true then(if JA fs R c*opB fs R s<opT fs R s*GD fs R c then some c else s)else s
def UB(a b:Nat):(low a b).1*b=a*(low a b).2:=by
 show a / a.gcd b*b=a*(b / a.gcd b);obtain⟨x,hx⟩:=Nat.gcd_dvd_left a b;obtain⟨y,hy⟩:=zM a b;by_cases h:a.gcd b=0
 ·rw[h,aKs,aKs,aKq,Nat.mul_zero]
 ·have hp:0<a.gcd b:=Nat.pos_of_ne_zero h;have e1:a / a.gcd b=x:=by rw[F8 hp hx]
  have e2:b / a.gcd b=y:=by rw[F8 hp hy]
  rw[e1,e2]
  generalize a.gcd b=g at hx hy
  subst hx hy;simp only[fA,dE,eR]
def SA{x y:Nat×Nat}{a b c d:Nat}(hx:x.1*b=a*x.2)(hy:y.1*d=c*y.2)(px:0<x.2)(py:0<y.2)(pb:0<b)(pd:0<d):jW x y=decide (a*d<c*b):=by
 unfold jW;rw[decide_eq_decide]
 have e1:x.1*y.2*(b*d)=a*d*(x.2*y.2):=by
  calc x.1*y.2*(b*d)=(x.1*b)*(y.2*d):=by simp only[fA,dE,eR]
   _=(a*x.2)*(y.2*d):=by rw[hx]
   _=_:=by simp only[fA,dE,eR]
 have e2:y.1*x.2*(b*d)=c*b*(x.2*y.2):=by
  calc y.1*x.2*(b*d)=(y.1*d)*(x.2*b):=by simp only[fA,dE,eR]
   _=(c*y.2)*(x.2*b):=by rw[hy]
   _=_:=by simp only[fA,dE,eR]
 have p1:0<b*d:=qJ pb pd;have p2:0<x.2*y.2:=qJ px py;refine⟨λh=>?_,λh=>?_⟩
 ·have:=gE h p1;rw[e1,e2]at this;exact jB this
 ·have:=gE h p2;rw[<- e1,<- e2]at this;exact jB this
def wR{R:List Rw}(h:0<R.length):(tQ R).1*R.length=yV R R*(tQ R).2/\0<(tQ R).2:=by
 have e:max 1 R.length=R.length:=by omega
 unfold tQ;rw[e];exact⟨UB _ _,zZ h⟩
def vB{fs R c}(hy:0<(yR fs c R).length)(hn:0<(nR fs c R).length):(dC fs R c).1*GD fs R c=JA fs R c*(dC fs R c).2/\0<(dC fs R c).2/\0<GD fs R c:=by
 obtain⟨y1,y2⟩:=wR hy;obtain⟨n1,n2⟩:=wR hn;unfold dC W6 GD JA
 generalize tQ (yR fs c R)=x at y1 y2
 generalize tQ (nR fs c R)=z at n1 n2
 generalize (yR fs c R).length=y at y1 hy
 generalize (nR fs c R).length=n at n1 hn
 generalize yV (yR fs c R) (yR fs c R)=p at y1
 generalize yV (nR fs c R) (nR fs c R)=q at n1
 have hp:0<x.2*z.2:=qJ y2 n2;have hl:=UB (x.1*z.2+z.1*x.2) (x.2*z.2);refine⟨?_,zZ hp,qJ hy hn⟩
 generalize low (x.1*z.2+z.1*x.2) (x.2*z.2)=S at hl
 apply Nat.eq_of_mul_eq_mul_right hp
 calc S.1*(y*n)*(x.2*z.2)=(S.1*(x.2*z.2))*(y*n):=by simp only[fA,dE,eR]
  _=((x.1*z.2+z.1*x.2)*S.2)*(y*n):=by rw[hl]
  _=(x.1*y)*(z.2*n*S.2)+(z.1*n)*(x.2*y*S.2):=by rw[qL,qL];simp only[fA,dE,eR]
  _=(p*x.2)*(z.2*n*S.2)+(q*z.2)*(x.2*y*S.2):=by rw[y1,n1]
  _=(p*n+q*y)*S.2*(x.2*z.2):=by rw[qL,qL];simp only[fA,dE,eR]
def qR{fs R}{m:Int}(hm:1<=m){c}(h:okC fs R m c=true):0<(yR fs c R).length/\0<(nR fs c R).length:=by
 have h':=dI _ _▸h;have h1:=of_decide_eq_true h'.1;have h2:=of_decide_eq_true h'.2;omega
def UE{x y z:Nat×Nat}(px:0<x.2)(pz:0<z.2)(py:0<y.2)(h:jW x z=true)(h2:jW y z=false):jW x y=true:=by
 have h1:=of_decide_eq_true h;have h3:=of_decide_eq_false h2;refine decide_eq_true ?_;have a1:=gE h1 py;have a2:=vM x.2 (ZZ h3);apply jB (a:=z.2)
 calc x.1*y.2*z.2=x.1*z.2*y.2:=by simp only[fA,dE,eR]
  _<z.1*x.2*y.2:=a1
  _=z.1*y.2*x.2:=by simp only[fA,dE,eR]
  _<=y.1*z.2*x.2:=a2
  _=y.1*x.2*z.2:=by simp only[fA,dE,eR]
def UD{x y z:Nat×Nat}(px:0<x.2)(pz:0<z.2)(py:0<y.2)(h:jW x y=true)(h2:jW y z=true):jW x z=true:=by
 have h1:=of_decide_eq_true h;have h3:=of_decide_eq_true h2;refine decide_eq_true ?_;have a1:=gE h1 pz;have a2:=gE h3 px;apply jB (a:=y.2)
 calc x.1*z.2*y.2=x.1*y.2*z.2:=by simp only[fA,dE,eR]
  _<y.1*x.2*z.2:=a1
  _=y.1*z.2*x.2:=by simp only[fA,dE,eR]
  _<z.1*y.2*x.2:=a2
  _=z.1*x.2*y.2:=by simp only[fA,dE,eR]
def G0{fs}{R:List Rw}{m:Int}(hm:1<=m)(hR:0<R.length){c}(h:okC fs R m c=true):CW fs R m none c=if jW (dC fs R c) (tQ R)=true then some c else none:=by
 obtain⟨p1,p2⟩:=qR hm h;obtain⟨a1,a2,a3⟩:=vB p1 p2;obtain⟨b1,b2⟩:=wR hR;unfold CW;rw[if_pos h,SA a1 b1 a2 b2 a3 hR];show(if JA fs R c*R.length<yV R R*GD fs R c then some c else none)=_;by_cases z:JA fs R c*R.length<yV R R*GD fs R c
 ·rw[if_pos z,if_pos (decide_eq_true z)]
 ·rw[if_neg z,if_neg λh=>z (of_decide_eq_true h)]
def R5{fs R}{m:Int}(hm:1<=m){b c}(hb:okC fs R m b=true)(h:okC fs R m c=true):CW fs R m (some b) c=some (kK fs R b c):=by
 obtain⟨p1,p2⟩:=qR hm h;obtain⟨q1,q2⟩:=qR hm hb;obtain⟨a1,a2,a3⟩:=vB p1 p2;obtain⟨b1,b2,b3⟩:=vB q1 q2;unfold CW kK;rw[if_pos h,SA a1 b1 a2 b2 a3 b3];show(if JA fs R c*GD fs R b<JA fs R b*GD fs R c then some c else some b)=_;by_cases z:JA fs R c*GD fs R b<JA fs R b*GD fs R c
 ·rw[if_pos z,if_pos (decide_eq_true z)]
 ·rw[if_neg z,if_neg λh=>z (of_decide_eq_true h)]
theorem xO{fs R}{m:Int}(hm:1<=m):∀(l:List Ch)(b:Ch),okC fs R m b=true->(∀c∈l,okC fs R m c=true)->l.foldl (CW fs R m) (some b)=some (l.foldl (kK fs R) b)
|[],b,_,_=>rfl
|c::l,b,hb,h=>by
 rw[iN,iN,R5 hm hb (h c (aL ..))];refine xO hm l _ ?_ λx hx=>h x (aI _ hx);unfold kK;split
 ·exact h c (aL ..)
 ·exact hb
theorem tN{fs}{R:List Rw}{m:Int}(hm:1<=m)(hR:0<R.length):∀(l:List Ch)(b:Ch),okC fs R m b=true->(∀c∈l,okC fs R m c=true)->jW (dC fs R b) (tQ R)=true->jW (dC fs R (l.foldl (kK fs R) b)) (tQ R)=true
|[],b,_,_,h=>h
|c::l,b,hb,h,h2=>by
 rw[iN];have hc:=h c (aL ..);have hl:∀x∈l,okC fs R m x=true:=λx hx=>h x (aI _ hx);by_cases z:jW (dC fs R c) (dC fs R b)=true
 ·have e:kK fs R b c=c:=if_pos z;rw[e];obtain⟨p1,p2⟩:=qR hm hc;obtain⟨q1,q2⟩:=qR hm hb;exact tN hm hR l c hc hl (UD (vB p1 p2).2.1 (wR hR).2 (vB q1 q2).2.1 z h2)
 ·have e:kK fs R b c=b:=if_neg z;rw[e];exact tN hm hR l b hb hl h2
theorem xP{fs}{R:List Rw}{m:Int}(hm:1<=m)(hR:0<R.length):∀(l:List Ch)(b:Ch),okC fs R m b=true->(∀c∈l,okC fs R m c=true)->jW (dC fs R b) (tQ R)=false->l.foldl (CW fs R m) none=(some (l.foldl (kK fs R) b)).filter λc=>jW (dC fs R c) (tQ R)
|[],b,_,_,h=>by rw[aDc,aDc,vO,h];rfl
|c::l,b,hb,h,h2=>by
 rw[iN,iN];have hc:=h c (aL ..);have hl:∀x∈l,okC fs R m x=true:=λx hx=>h x (aI _ hx);rw[G0 hm hR hc];obtain⟨p1,p2⟩:=qR hm hc;obtain⟨q1,q2⟩:=qR hm hb;by_cases z:jW (dC fs R c) (tQ R)=true
 ·have e:kK fs R b c=c:=if_pos (UE (vB p1 p2).2.1 (wR hR).2 (vB q1 q2).2.1 z h2);rw[if_pos z,e,xO hm l c hc hl,vO,tN hm hR l c hc hl z];rfl
 ·rw[if_neg z];have z':jW (dC fs R c) (tQ R)=false:=by cases q:jW (dC fs R c) (tQ R)with | true=>exact absurd q z | false=>rfl
  unfold kK;split
  ·exact xP hm hR l c hc hl z'
  ·exact xP hm hR l b hb hl h2
theorem D2(fs:Fs)(R:List Rw)(m:Int):∀(l:List Ch)(s:Option Ch),l.foldl (CW fs R m) s=(l.filter (okC fs R m)).foldl (CW fs R m) s
|[],s=>rfl
|c::l,s=>by
 rw[iN,D2 fs R m l,eF];by_cases z:okC fs R m c=true
 ·rw[if_pos z,iN]
 ·rw[if_neg z];have:CW fs R m s c=s:=if_neg z;rw[this]
def Y7{fs}{R:List Rw}{m:Int}(hm:1<=m)(hR:0<R.length):(FV fs).foldl (CW fs R m) none=lQ fs R m:=by
 rw[D2];unfold lQ gS;have hall:∀c∈(FV fs).filter (okC fs R m),okC fs R m c=true:=λc hc=>(cU.mp hc).2
 generalize (FV fs).filter (okC fs R m)=l at hall
 cases l with
 |nil=>rfl
 |cons c l=>
  rw[iN];have hc:=hall c (aL ..);have hl:∀x∈l,okC fs R m x=true:=λx hx=>hall x (aI _ hx);rw[G0 hm hR hc];show _=(some (l.foldl (kK fs R) c)).filter _;by_cases z:jW (dC fs R c) (tQ R)=true
  ·rw[if_pos z,xO hm l c hc hl,vO,tN hm hR l c hc hl z];rfl
  ·rw[if_neg z];have z':jW (dC fs R c) (tQ R)=false:=by cases q:jW (dC fs R c) (tQ R)with | true=>exact absurd q z | false=>rfl
   exact xP hm hR l c hc hl z'
def V1(fs:Fs)(m:Int):lQ fs [] m=none:=by
 unfold lQ;rw[Option.filter_eq_none_iff];intro c _;have e:tQ []=(0,1):=by decide
 rw[e];show¬decide (_<0*_)=true;rw[aKq]
 exactλz=>absurd (of_decide_eq_true z) (aC6 _)
noncomputable def XT(fs:Fs)(R:List Rw):Option Ch->D
|none=>.none
|some c=>.tuple [.tuple [.str "ask",qD c.1,.str c.2],.list ((yR fs c R).map cS),.list ((nR fs c R).map cS)]
noncomputable def onD(fs:Fs)(q:Qn)(st w:Str)(x:D):Bool:=match x with | .tuple [.tuple cs,_]=>decide (jD fs q.1 q.2.1 q.2.2 st cs=w) | _=>false
def MT(fs:Fs)(q:Qn)(st w:Str)(rs:List Rw):((rs.map cS).filter (onD fs q st w)).map id=(rs.filter λr=>decide (jD fs q.1 q.2.1 q.2.2 st r.1=w)).map cS:=by
 rw[CU,sY];rfl
def R6{fs}{R:List Rw}(hl:R.length<=60)(c:Ch):GD fs R c<=3600:=
 lN (bK (cE _ _) hl) (bK (cE _ _) hl)
def aEv{fs}{R:List Rw}(hl:R.length<=60):∀S:Option Ch,opB fs R S<=3600
|none=>by show R.length<=3600;omega
|some c=>R6 hl c
def oP(ks:List (Nat×Rw)):Prop:=∀(i:Nat) e,ks[i]?=some e->e.1=i
def oP.new{ks:List (Nat×Rw)}(h:oP ks):∀e∈ks,e.1≠ks.length:=λe he z=>by
 obtain⟨i,hi⟩:=cD he;have:=(aH.mp hi).1;have:=h i e hi;omega
def oP.snoc{ks:List (Nat×Rw)}(h:oP ks)(r:Rw):oP (ks++[(ks.length,r)]):=λi e hi=>by
 by_cases z:i<ks.length
 ·rw[dM z]at hi;exact h i e hi
 ·rw[dU (by omega)]at hi;have:=(aH.mp hi).1;have z2:i-ks.length=0:=by simpa using this
  rw[z2]at hi;cases hi;show ks.length=i;omega
structure PN(fs:Fs)(an:List Str)(m:Int)(d:Nat)(ks:List (Nat×Rw))(t:Tr)(k:Nat)(n:JB):Prop where
 kv:n.kvs=rF ks
 fol:n.fol=(k:Nat)
 st:n.st=lE t
 ok:gH fs an (ks.map (·.2))
 gr:Gr fs an m d (ks.map (·.2)) t
 few:ks.length<=60
def mL(ks:List (Nat×Rw)):(iW ks).length=ks.length:=by unfold iW;rw[aA]
def K2{fs an}(F:gO fs an){r}(h:nF fs an r):Cd (cS r):=(ER F h).cd (by decide)
def aAd(C:Addr):EH (pY (lL C)):=λτ n ds Q=>∃(fs:Fs)(an:List Str)(d:Nat)(m:Int)(T:Bk)(dr:D)(ns:List Int)(N:Nat)(t0:Tr),τ=.tuple [mQ T,dr]/\ds=[iH ns,mQ T,fD fs an,dr,.int (N:Nat)]/\ns.length<=63/\gO fs an/\T.fm=fD fs an/\T.dp=(d:Nat)/\T.ls=m/\d<=6/\N<=100/\n.2=[]/\PN fs an m d [] t0 0 n.1 /\
 ∀ks t n1,oP ks->PN fs an m d ks t ks.length n1->Q (n1,iW ks) (.bool true)
def aDf{F:wW}{c:TZ F}{t u:SZ F}{τ DC n σ}(b:Bool)(P:F.S->List Sl->Prop)(h:∀q:F.S->Bool->Prop,q n b->c τ n σ q)
  (k1:b=true->∀DC':yP F,(∀m σ',P m σ'->DC'.nx m σ')->t τ DC' n σ) (k0:b=false->P n σ) (k:∀m σ',P m σ'->u τ DC m σ'):qM (zIf c t DB) u τ DC n σ:=
 rP b h (λhb=>k1 hb _ k) λhb=>k _ _ (k0 hb)
def zn{F:wW}{τ}{DC:yP F}{n σ}(h:DC.nx n σ):DB τ DC n σ:=h
def CI{fs cs}(h:jH fs (.tuple cs)=true):∀c∈cs,c=.none\/∃f∈fs,∃z∈f.2,c=.str z:=λc hc=>by
 obtain⟨hl,hv⟩:=nD h;obtain⟨k,hk⟩:=cD hc;have hk':k<fs.length:=by rw[<- hl];exact(aH.mp hk).1
 have:=hv k fs[k] c (aE hk') hk
 cases c with
 |none=>exact .inl rfl
 |str z=>exact .inr ⟨_,fK hk',z,of_decide_eq_true this,rfl⟩
 |_=>cases this
theorem TY:∀{ts},(∀t∈ts,nl t=true)->nlA ts=true
|[],_=>rfl
|a::r,h=>by
 show(nl a&&nlA r)=true;rw[h a (aL ..),TY λt ht=>h t (aI _ ht)];rfl
def MF{fs cs}(h:jH fs (.tuple cs)=true):nl (.tuple cs)=true:=TY λc hc=>by
 rcases CI h c hc with rfl | ⟨_,_,_,_,rfl⟩
 ·rfl
 ·rfl
def aE3{fs an r}(h:nF fs an r):nl (cS r)=true:=by
 show(nl (.tuple r.1)&&(true&&true))=true;rw[MF h.1];rfl
theorem TX:∀t:Tr,nl (lE t)=true
|.say a=>rfl
|.ask k n v s y m=>by
 show(true&&(true&&(true&&(nl (lE y)&&(nl (lE m)&&true)))))=true;rw[TX y,TX m];rfl
theorem xR:∀{ts},(∀t∈ts,bP t t=true)->EL ts ts=true
|[],_=>by unfold EL;rfl
|a::r,h=>by
 unfold EL;rw[h a (aL ..),xR λt ht=>h t (aI _ ht)];rfl
def wN(z:Str):bP (.str z) (.str z)=true:=by simp[bP]
def wO{fs an r}(h:nF fs an r):bP (cS r) (cS r)=true:=by
 unfold cS bP;refine xR λt ht=>?_;rcases aN.mp ht with rfl | ht
 ·unfold bP;refine xR λc hc=>?_;rcases CI h.1 c hc with rfl | ⟨_,_,_,_,rfl⟩
  ·rfl
  ·exact wN _
 ·rw[bF.mp ht];exact wN _
theorem LY:∀{n:Nat}{d},nY n d->nY (n+1) d
|0,_,h=>h.elim
|n+1,d,h=>by
 rcases h with h | h | h | ⟨ts,h1,h2,h3⟩
 ·exact .inl h
 ·exact .inr (.inl h)
 ·exact .inr (.inr (.inl h))
 ·exact .inr (.inr (.inr ⟨ts,h1,h2,λx hx=>LY (h3 x hx)⟩))
def E2{n m:Nat}(hnm:n<=m){d}(h:nY n d):nY m d:=by
 obtain⟨k,rfl⟩:=Nat.exists_eq_add_of_le hnm;clear hnm
 induction k with
 |zero=>exact h
 |succ k ih=>exact LY ih
def mF{n:Nat}{z}(h:tI z=true):nY (n+1) (.str z):=.inr (.inl ⟨z,h,rfl⟩)
def pT{n:Nat}{ts:List D}(hl:ts.length<=50000)(h:∀x∈ts,nY n x):nY (n+1) (.tuple ts):=.inr (.inr (.inr ⟨ts,.inl rfl,hl,h⟩))
def R1{n:Nat}{ts:List D}(hl:ts.length<=50000)(h:∀x∈ts,nY n x):nY (n+1) (.list ts):=.inr (.inr (.inr ⟨ts,.inr rfl,hl,h⟩))
theorem E1{fs an}(F:gO fs an):∀t:Tr,wU fs an t->nY (t.dep+3) (lE t)
|.say a,h=>pT (aD rfl) λx hx=>by
 rcases aN.mp hx with rfl | hx
 ·exact mF TV
 ·rw[bF.mp hx];exact mF (F.an.2.1 a h)
|.ask k n v s y m,h=>by
 obtain⟨hq,hs,hy,hm⟩:=h;obtain⟨f,hf,hfn,hv,hk⟩:=wI hq;have iy:=E2 (show y.dep+3<=max y.dep m.dep+3 by omega) (E1 F y hy);have im:=E2 (show m.dep+3<=max y.dep m.dep+3 by omega) (E1 F m hm);show nY (max y.dep m.dep+1+3) _;rw[show max y.dep m.dep+1+3=max y.dep m.dep+3+1 by omega];refine pT (aD rfl) λx hx=>?_;simp only[aN,bV,or_false]at hx;rcases hx with rfl | rfl | rfl | rfl | rfl
 ·exact mF KC
 ·refine pT (aD rfl) λx hx=>?_;simp only[aN,bV,or_false]at hx;rcases hx with rfl | rfl | rfl
  ·refine mF ?_;rcases hk with rfl | ⟨rfl,_⟩
   ·exact aCi
   ·exact MD
  ·rw[<- hfn];exact mF (F.name hf)
  ·exact mF (F.vals hf _ hv)
 ·exact mF (aCg hs)
 ·exact iy
 ·exact im
def R0{fs an}(F:gO fs an){ks:List (Nat×Rw)}(h:gH fs an (ks.map (·.2)))(hl:ks.length<=60):nY 7 (.list (iW ks)):=by
 refine R1 (by rw[mL];omega) λx hx=>?_;obtain⟨e,he,rfl⟩:=bA.mp hx;have hr:=h _ (bA.mpr ⟨e,he,rfl⟩);refine pT (aD rfl) λx hx=>?_;rcases aN.mp hx with rfl | hx
 ·exact .inl ⟨_,rfl⟩
 rw[bF.mp hx];refine pT (aD rfl) λx hx=>?_;rcases aN.mp hx with rfl | hx
 ·refine pT ?_ λc hc=>?_
  ·have:=(nD hr.1).1;have:=F.n5;omega
  ·rcases CI hr.1 c hc with rfl | ⟨f,hf,z,hz,rfl⟩
   ·exact .inr (.inr (.inl rfl))
   ·exact mF (F.vals hf z hz)
 ·rw[bF.mp hx];exact mF (F.an.2.1 _ hr.2)
def HU{ks:List (Nat×Rw)}(h:oP ks){k:Nat}(hk:k<ks.length):HV k ks=some (ks[k]).2:=by
 have hm:ks[k]∈ks:=fK hk;have e1:(ks[k]).1=k:=h k _ (aE hk);unfold HV
 cases hf:ks.find? λe=>decide (e.1=k)with
 |none=>
  have:=List.find?_eq_none.mp hf _ hm;exact absurd (decide_eq_true e1) this
 |some e=>
  have h1:e.1=k:=of_decide_eq_true (Z5 (p:=λe:Nat×Rw=>decide (e.1=k)) hf);obtain⟨i,hi⟩:=cD (GA hf);have h2:=h i e hi;have h3:i=k:=by omega
  subst h3;rw[aE hk]at hi;cases hi
  rfl
def QZ{ks:List (Nat×Rw)}(h:oP ks){k:Nat}(r:Rw):mE k r ks=ks.set k (k,r):=by
 apply iM;intro i;unfold mE;rw[aK,List.getElem?_set];by_cases z:k=i
 ·subst z;rw[if_pos rfl];by_cases hk:k<ks.length
  ·rw[if_pos hk,aE hk];have e:=h k _ (aE hk);show some (if(ks[k]).1=k then((ks[k]).1,r)else ks[k])=_;rw[if_pos e,e]
  ·rw[if_neg hk,dX (by omega)];rfl
 ·rw[if_neg z]
  cases hi:ks[i]? with
  |none=>rfl
  |some e=>
   have:=h i e hi;show some (if e.1=k then(e.1,r)else e)=some e;rw[if_neg (by omega)]
def oP.turn{ks}(h:oP ks)(k:Nat)(r:Rw):oP (mE k r ks):=λi e hi=>by
 unfold mE at hi;rw[aK]at hi;obtain⟨e0,h0,rfl⟩:=cV.mp hi;have:=h i e0 h0;by_cases z:e0.1=k
 ·rw[if_pos z];exact this
 ·rw[if_neg z];exact this
def MZ{ks:List (Nat×Rw)}(h:oP ks):∀{k:Nat},k<ks.length->kM k ks=ks.eraseIdx k:=by
 have key:∀(l:List (Nat×Rw))(o k:Nat),(∀(i:Nat) e,l[i]?=some e->e.1=o+i)->k<l.length->(l.filter λe=>decide (e.1≠o+k))=l.eraseIdx k:=by
  intro l
  induction l with
  |nil=>intro o k _ hk;cases hk
  |cons a l ih=>
   intro o k hl hk;have ha:a.1=o:=hl 0 a rfl
   cases k with
   |zero=>
    rw[eF,if_neg (by rw[ha];simp)];show _=l;rw[List.filter_eq_self];intro e he;obtain⟨i,hi⟩:=cD he;have:=hl (i+1) e (by rw[rH];exact hi);exact decide_eq_true (by omega)
   |succ k=>
    rw[eF,if_pos (decide_eq_true (by omega))];show _=a::l.eraseIdx k
    rw[show o+(k+1)=(o+1)+k by omega,ih (o+1) k (λi e hi=>by
     have:=hl (i+1) e (by rw[rH];exact hi);omega) (by simpa using hk)]
 intro k hk;have:=key ks 0 k (λi e hi=>by have:=h i e hi;omega) hk;rw[zL]at this;exact this
def TM(ks:List (Nat×Rw))(k:Nat)(r:Rw):(iW ks).set k (.tuple [.int (k:Nat),cS r])=iW (ks.set k (k,r)):=by
 unfold iW;rw[List.map_set]
theorem D4{α β:Type}(f:α->β):∀(l:List α)(k:Nat),(l.map f).eraseIdx k=(l.eraseIdx k).map f
|[],_=>rfl
|_::_,0=>rfl
|a::l,k+1=>by
 show f a::(l.map f).eraseIdx k=f a::(l.eraseIdx k).map f;rw[D4 f l k]
def J9(ks:List (Nat×Rw))(k:Nat):(iW ks).eraseIdx k=iW (ks.eraseIdx k):=by
 unfold iW;exact D4 _ ks k
def OC(ks:List (Nat×Rw))(k:Nat)(r:Rw):iW ks++[.tuple [.int (k:Nat),cS r]]=iW (ks++[(k,r)]):=by
 unfold iW;rw[cK];rfl
def BJ{ks:List (Nat×Rw)}(h:oP ks){k:Nat}(hk:k<ks.length):(iW ks)[k]?=some (.tuple [.int (k:Nat),cS (ks[k]).2]):=by
 unfold iW;rw[aK,aE hk];show some (gX [.int ((ks[k]).1:Nat),cS (ks[k]).2])=_;rw[h k _ (aE hk)]
def Q0(k:Nat)(r:Rw)(ks:List (Nat×Rw)):(mE k r ks).length=ks.length:=by unfold mE;rw[aA]
def aJj{fs an}(F:gO fs an):uF an (.str "zzzzzzzzz")=false:=decide_eq_false λz=>by
 have h:=F.an.2.1 _ z;exact absurd h (by decide +kernel)
def aG4{n m:Nat}(hn:9<=n):Th n m (.str "zzzzzzzzz"):=Q1 (by show Str.length _<=_;rw[show Str.length "zzzzzzzzz"=9 by decide +kernel];exact hn) (by decide +kernel)
def NQ{fs an}(F:gO fs an){cs}(h:jH fs (.tuple cs)=true):Th 92 2 (.tuple [.tuple cs,.str "zzzzzzzzz"]):=by
 have n5:=F.n5;exact uQ 45 1 2 (jR (uQ 8 0 5 (CJ F h (aM 8)) (by rw[(nD h).1];exact n5) (by decide) (by decide)) (jR (aG4 (by decide)) tS)) (aD rfl) (by decide) (by decide)
end K71
namespace K71
set_option maxHeartbeats 4000000
open PySem L2 TL
def aBz:bZ ["field"] ["field"] (aY (top 14)):=nQ
def aB1:bZ ["form","thing","fields"] ["form","thing"] (aY (top 12)):=nQ
def aB0:bZ ["form","thing"] ["form","thing"] (aY (top 13)):=nQ
def aBc:bZ ["tree"] ["tree"] (aY (top 42)):=nQ
def aBb:bZ ["one","other","on_yes","on_no"] ["one","other"] (aY (top 46)):=nQ
def aHn:bZ ["self"] ["self"] (aY (kG (top 45) 4)):=nQ
def aHm:bZ ["self"] ["self"] (aY (kG (top 45) 5)):=nQ
def aHl:bZ ["self","number"] ["self","number"] (aY (kG (top 45) 7)):=nQ
def XU:bZ ["self","thing"] ["self","thing"] (aY (kG (top 45) 6)):=nQ
def aHk:bZ ["self","stood"] ["self"] (aY (kG (top 45) 8)):=nQ
def XV:bZ ["self","row","number"] ["self","row"] (aY (kG (top 45) 1)):=nQ
def aHp:bZ ["self","number","row"] ["self","number"] (aY (kG (top 45) 2)):=nQ
def aHo:bZ ["self","number","row","stood"] ["self","number","row"] (aY (kG (top 45) 3)):=nQ
def aHq:bZ ["self","form","deep","least"] ["self","form","deep","least"] (aY (kG (top 45) 0)):=nQ
def aAz:bZ ["_law_book","_law_row","_law_told","e"] ["_law_book","_law_row"] (aY (top 59)):=nQ
def aHj:bZ ["thing","fewest","most"] ["thing","fewest","most"] (aY (top 10)):=nQ
def aBa:bZ ["_law_script","_law_way"] ["_law_script"] (aY (top 48)):=nQ
def aA9:bZ ["_law_tape_here","_law_many","_law_script","_law_spot","_law_cell","_law_left","_law_mixed"] ["_law_tape_here","_law_many"] (aY (top 49)):=nQ
def aA8:bZ ["_law_tape_here","_law_many","_law_letters","_law_way","_law_some","_law_turn","_law_base","_law_size","_law_names_here","_law_at","_law_start"] ["_law_tape_here","_law_many"] (aY (top 50)):=nQ
def aA7:bZ ["_law_tape_here","_law_fields","_law_values","_law_many","_law_names_here","_law_some","_law_k","_law_size","_law_words"] ["_law_tape_here","_law_fields","_law_values"] (aY (top 51)):=nQ
def aBk:bZ ["question","field"] ["question","field"] (aY (top 32)):=nQ
def aBm:bZ ["form","question"] ["form","question"] (aY (top 30)):=nQ
def aBl:bZ ["question","stray","field"] ["question","stray","field"] (aY (top 31)):=nQ
def aBn:bZ ["form","question","stray","case","number"] ["form","question","stray","case"] (aY (top 29)):=nQ
def aBi:bZ ["side","sides"] ["side","sides"] (aY (top 34)):=nQ
def aBj:bZ ["form","question","stray","rows","sides"] ["form","question","stray","rows"] (aY (top 33)):=nQ
def aBy:bZ ["form","rows","told"] ["form","rows"] (aY (top 16)):=nQ
def aBx:bZ ["form","rows","counts"] ["form","rows"] (aY (top 17)):=nQ
def aBu:bZ ["one","other","rest"] ["one","other"] (aY (top 20)):=nQ
def aBv:bZ ["top","bottom","shared"] ["top","bottom"] (aY (top 19)):=nQ
def aBw:bZ ["form","rows","many"] ["form","rows"] (aY (top 18)):=nQ
def aBf:bZ ["rows","numbers"] ["rows","numbers"] (aY (top 38)):=nQ
def aBp:bZ ["field","name","values","told_by_is","told_by_upto"] ["field"] (aY (top 27)):=nQ
def aBq:bZ ["form","questions","field"] ["form"] (aY (top 26)):=nQ
def aBo:bZ ["form","choices","question"] ["form"] (aY (top 28)):=nQ
def aBh:bZ ["sides","fewest"] ["sides","fewest"] (aY (top 35)):=nQ
def aBt:bZ ["one","other"] ["one","other"] (aY (top 21)):=nQ
def aBr:bZ ["fractions","common","found"] ["fractions"] (aY (top 23)):=nQ
def aBg:bZ ["form","rows","least","told","question","stray","sides","doubts","bottom"] ["form","rows","least"] (aY (top 37)):=nQ
def aBs:bZ ["one","other"] ["one","other"] (aY (top 22)):=nQ
def aBe:bZ ["form","rows","least","told"] ["form","rows","least"] (aY (top 39)):=nQ
def aBd:bZ ["form","rows","deep","least","found","sides","parts"] ["form","rows","deep","least"] (aY (top 40)):=nQ
def aA0:bZ ["_law_tape_here","_law_form_here","_law_case","_law_name","_law_values","_law_value"] ["_law_tape_here","_law_form_here"] (aY (top 58)):=nQ
def aA6:bZ ["_law_form_here","_law_knot","_law_case","_law_kind","_law_name","_law_value","_law_at","_law_values"] ["_law_form_here","_law_knot","_law_case"] (aY (top 52)):=nQ
def aA5:bZ ["_law_found","_law_due"] ["_law_found","_law_due"] (aY (top 53)):=nQ
def aA4:bZ ["_law_form_here","_law_some","_law_name","_law_values"] ["_law_form_here"] (aY (top 54)):=nQ
def aA3:bZ ["_law_form_here","_law_rows"] ["_law_form_here","_law_rows"] (aY (top 55)):=nQ
def aA2:bZ ["_law_form_here","_law_rows","_law_counts_here"] ["_law_form_here","_law_rows"] (aY (top 56)):=nQ
def aA1:bZ ["_law_form_here","_law_rows","_law_deep","_law_few","_law_counts_here","_law_leaf","_law_chosen","_law_least_top","_law_least_bottom","_law_question","_law_stray","_law_knot","_law_yes","_law_no","_law_top","_law_bottom"] ["_law_form_here","_law_rows","_law_deep","_law_few"] (aY (top 57)):=nQ
def aAy:bZ ["_law_tape_here","_law_book","_law_form_here","_law_rows","_law_many","_law_k","_law_row","_law_due"] ["_law_tape_here","_law_book","_law_form_here","_law_rows","_law_many"] (aY (top 60)):=nQ
def RZ:bZ ["_law_script","_law_tape_here","_law_form_here","_law_deep","_law_few","_law_book","_law_rows","_law_at","_law_row","_law_gone"] ["_law_script"] (aY (top 61)):=nQ
section
variable{P:cC}{w:World}{K:aF}{mg:Str->Option Value}{base:Heap}{c_JudgeError c_TooMany c_NoPlace c_NoRow c_NoSuch c_NoLine c_NoText c_NoRule:Addr}{a_0 a_1 a_2 a_3 a_4 a_5 a_6 a_7 a_8 a_9 a_10 a_11 a_12 a_13 a_14 a_15 a_16 a_17 a_18 a_19 a_20 a_21 a_22 a_23 a_24 a_25 a_26 a_27 a_28 a_29 a_30 a_31 a_32 a_33 a_34 a_35 a_36 a_37 a_38 a_39 a_40 a_41 a_42 a_43 a_44 a_45 a_46 a_47 a_48 a_49 a_law:Addr}{f_0 f_1 f_2 f_3 f_4 f_5 f_6 f_7 f_8 f_9 f_10 f_11 f_12 f_13 f_14 f_15 f_16 f_17 f_18 f_19 f_20 f_21 f_22 f_23 f_24 f_25 f_26 f_27 f_28 f_29 f_30 f_31 f_32 f_33 f_34 f_35 f_36 f_37 f_38 f_39 f_40 f_41 f_42 f_43 f_44 f_45 f_46 f_47 f_48 f_49 f_law:gT}{c_Book:Addr}{t_SIDES:Addr}{t_MOST_ROWS:Tok}(T:Txt K mg c_JudgeError c_TooMany c_NoPlace c_NoRow c_NoSuch c_NoLine c_NoText c_NoRule a_0 a_1 a_2 a_3 a_4 a_5 a_6 a_7 a_8 a_9 a_10 a_11 a_12 a_13 a_14 a_15 a_16 a_17 a_18 a_19 a_20 a_21 a_22 a_23 a_24 a_25 a_26 a_27 a_28 a_29 a_30 a_31 a_32 a_33 a_34 a_35 a_36 a_37 a_38 a_39 a_40 a_41 a_42 a_43 a_44 a_45 a_46 a_47 a_48 a_49 a_law f_0 f_1 f_2 f_3 f_4 f_5 f_6 f_7 f_8 f_9 f_10 f_11 f_12 f_13 f_14 f_15 f_16 f_17 f_18 f_19 f_20 f_21 f_22 f_23 f_24 f_25 f_26 f_27 f_28 f_29 f_30 f_31 f_32 f_33 f_34 f_35 f_36 f_37 f_38 f_39 f_40 f_41 f_42 f_43 f_44 f_45 f_46 f_47 f_48 f_49 f_law c_Book t_SIDES t_MOST_ROWS)
include T
def aJb:bU P w K mg base eG 1 a_12 f_12 ["field"] (bJ K aAw):=by
 refine tZ T.D_12.F aBz (λds Q h=>by obtain⟨f,rfl,hf,h⟩:=h;rfl) λcdv Ar outer s H E hr ds Q h=>?_;obtain⟨f,rfl,hf,h⟩:=h;have nd:=aBz.nd;refine⟨_,(cA (dO (dD dG jF (cG bM dP (aJ 0) aQ) (gG (aB qW aO))))),?_⟩;show JS _ _ [.val (jZ f)];refine⟨_,rfl,_,rfl,aD rfl,?_,h⟩;rw[aA];simp only[dH,Z4];omega
def aJd
  (F_12:bU P w K mg base eG 1 a_12 f_12 ["field"] (bJ K aAw))
  (F_9:bU P w K mg base eG 1 a_9 f_9 ["thing","fewest","most"] (bJ K aD6)):bU P w K mg base eG 2 a_10 f_10 ["form","thing"] (bJ K aAx):=by
 refine tZ T.D_10.F aB1 (λds Q h=>by obtain⟨fs,an,d,rfl,F,hd,h⟩:=h;rfl) λcdv Ar outer s H E hr ds Q h=>?_;obtain⟨fs,an,d,rfl,F,hd,h⟩:=h;have nd:=aB1.nd;refine⟨_,(bC (ss 2 nd (cG bM dP (aJ 0) aQ))
 (bC (jP (EQ (tv (cd F_9 T.D_9 hr (aB (aJ 1) (aB (cB jG (aB (aJ 2) aO) cJ T.b_len gA) (aB (cB jG (aB (aJ 2) aO) cJ T.b_len gA) aO))))))
 (cA (dO sM))
 gZ)
 (cA (dO (cB aC1 (aB (el (fr:=[none,none]) (N':=["field","value"]) (aFe (aB (aJ 2) (aB (aJ 1) aO)) (λh=>aEk rfl T.b_zip h)) (λb=>⟨(tM (sC rfl (gR (pk 0) (gR (pk 1) pF)))),iG,(pK (J5 hr) TK (aJ 1) (cd F_12 T.D_12 hr (aB (aJ 0) aO)))⟩)) aO) (wS rfl) T.b_all VX))))),?_⟩
 show jA _ _ _ [.val (fD fs an),.val d,.un];have hl:(fs.map jZ).length=fs.length:=aA ..
 have hbad:uE d ((fs.map jZ).length:Int) ((fs.map jZ).length:Int)=false->jH fs d=false:=λe=>by
  cases d with
  |tuple ts=>
   have:¬ts.length=fs.length:=λz=>by
    simp only[uE,hl,z,mP,decide_true,Bool.and_true]at e;cases e
   simp only[jH,decide_eq_false this,aDd]
  |_=>rfl
 refine dB (.tuple (fs.map jZ)) (λq hq=>⟨_,rfl,_,rfl,hq⟩) ?_;refine hU (λb=>b=!uE d ((fs.map jZ).length:Int) ((fs.map jZ).length:Int)) (λq hq=>⟨_,rfl,_,rfl,_,rfl,d,_,_,rfl,mT hd.1,hq _ rfl⟩) (λhT=>?_) λhF=>?_
 ·have:=hbad (by simpa using hT.symm);rw[this]at h;exact h
 ·try unfold kC
  dsimp only;have hT:uE d ((fs.map jZ).length:Int) ((fs.map jZ).length:Int)=true:=by simpa using hF.symm
  cases d with
  |tuple ts=>
   have hlen:ts.length=fs.length:=by
    simp only[uE,hl,dI,decide_eq_true_eq]at hT;omega
   show nX (f1 aJu) _ _ Q;dsimp only[nX,yM,IR];have n5:=F.n5;refine FE (ts:=oY (fs.map jZ) ts) (λR h=>⟨_,rfl,_,rfl,_,_,rfl,h⟩) (λx=>.bool (okD x)) (by rw[lO];omega) (λx hx=>?_) (λa b q hm hq=>?_) ?_
   ·obtain⟨k,hk⟩:=cD hx;obtain⟨a,b,_,_,rfl⟩:=vQ hk;exact⟨a,b,rfl⟩
   ·obtain⟨k,hk⟩:=cD hm;obtain⟨a',b',h1,h2,e⟩:=vQ hk;cases e;obtain⟨f,hf,rfl⟩:=bA.mp (aZ h1);exact⟨_,rfl,_,rfl,f,rfl,(F.vs f hf).2.1,B4 (BI (F.vals hf) (hd.item (aZ h2))) hq⟩
   ·refine⟨(oY (fs.map jZ) ts).map okD,by rw[bG];rfl,?_⟩;rw[YH]
    have e:jH fs (.tuple ts)=(fs.zip ts).all λp=>J8 p.1 p.2:=by
     simp only[jH,decide_eq_true hlen,nV]
    rw[e]at h;exact h
  |_=>exact absurd hT (by simp[uE])
def aJc
  (F_10:bU P w K mg base eG 2 a_10 f_10 ["form","thing"] (bJ K aAx))
  (F_9:bU P w K mg base eG 1 a_9 f_9 ["thing","fewest","most"] (bJ K aD6)):bU P w K mg base eG 3 a_11 f_11 ["form","thing"] (bJ K RX):=by
 refine tZ T.D_11.F aB0 (λds Q h=>by obtain⟨fs,an,d,rfl,F,hd,h⟩:=h;rfl) λcdv Ar outer s H E hr ds Q h=>?_;obtain⟨fs,an,d,rfl,F,hd,h⟩:=h;have nd:=aB0.nd;refine⟨_,(bC (jP (EQ (tv (cd F_9 T.D_9 hr (aB (aJ 1) (aB aQ (aB aQ aO))))))
 (cA (dO sM))
 gZ)
 (cA (dO (B8 (cd F_10 T.D_10 hr (aB (aJ 0) (aB (cG bM dP (aJ 1) aQ) aO))) (B6 (pK (J5 hr) TK (cG bM dP (aJ 1) aQ) (cG bM dP (aJ 0) aQ))))))),?_⟩
 show jA _ _ _ [.val (fD fs an),.val d];rcases aDp d with⟨c,a,rfl⟩ | ⟨e,he⟩
 ·refine hU (λb=>b=false) (λq hq=>⟨_,rfl,_,_,_,rfl,mT hd.1,hq _ rfl⟩) (λhT=>by cases hT) λ_=>?_
  try unfold kC
  dsimp only;refine⟨_,rfl,_,rfl,_,rfl,fs,an,c,rfl,F,hd.item (by simp),?_⟩;show(if jH fs c=true then _ else _);have e:sK fs an (.tuple [c,a])=(jH fs c&&uF an a):=rfl;rw[e]at h
  cases hc:jH fs c with
  |true=>
   rw[if_pos rfl];rw[hc]at h;refine⟨_,rfl,_,rfl,_,rfl,_,rfl,B4 (MA F.an.2.1 (hd.item (by simp))) ?_⟩;show Q (.bool ((an.map aP).any λz=>bP z a));rw[CN];exact h
  |false=>
   rw[if_neg (by decide)];rw[hc]at h;exact h
 ·refine hU (λb=>b=true) (λq hq=>⟨_,rfl,d,_,_,rfl,mT hd.1,hq _ (by rw[e];rfl)⟩) (λ_=>?_) λhF=>by cases hF
  have:sK fs an d=false:=by
   unfold aCn at he;unfold sK;split at he
   ·cases he
   ·rfl
  rw[this]at h;exact h
def aIo:bU P w K mg base eG 1 a_35 f_35 ["tree"] (bJ K RO):=by
 refine tZ T.D_35.F aBc (λds Q h=>by obtain⟨t,rfl,h⟩:=h;rfl) λcdv Ar outer s H E hr ds Q h=>?_;obtain⟨t,rfl,h⟩:=h;have nd:=aBc.nd;refine⟨_,(cA (dO (pK lV pW (cG bM dP (aJ 0) aQ) eU))),?_⟩
 cases t with
 |say a=>exact⟨_,rfl,_,rfl,h⟩
 |ask k n v s y m=>exact⟨_,rfl,_,rfl,h⟩
def XA(dd:Nat)
  (F_35:bU P w K mg base eG 1 a_35 f_35 ["tree"] (bJ K RO))
  (F_36:bU P w K mg base eG (2+dd) a_36 f_36 ["one","other"] (bJ K (rV dd))):bU P w K mg base eG (2+dd+1) a_36 f_36 ["one","other"] (bJ K (rV (dd+1))):=by
 refine tZ T.D_36.F aBb (λds Q h=>by obtain⟨fs,an,t,u,rfl,F,hto,huo,htd,ht12,hu12,h⟩:=h;rfl) λcdv Ar outer s H E hr ds Q h=>?_;obtain⟨fs,an,t,u,rfl,F,hto,huo,htd,ht12,hu12,h⟩:=h;have nd:=aBb.nd;refine⟨_,(bC (jP (rQ (AS (tv (cd (hk:=by omega) F_35 T.D_35 hr (aB (aJ 0) aO))) (AS (tv (cd (hk:=by omega) F_35 T.D_35 hr (aB (aJ 1) aO))) (xA (eQ (xH hr) nM (iL lK tY (aJ 0) kZ (iO aQ)) (iL lK tY (aJ 1) kZ (iO aQ)))))))
 (cA (dO (D3 (eQ (xI hr) nM (aJ 0) (aJ 1)) (xQ aO) (xQ (aB (gG aO) aO)))))
 gZ)
 (bC (mZ (i:=2) (fr:=[none]) (N':=["place"]) (fZ (cd (hk:=by omega) F_36 T.D_36 hr (aB (cG bM dP (aJ 0) aQ) (aB (cG bM dP (aJ 1) aQ) aO)))) (λb=>⟨(eN (pk 0)),iG,(dD dG jF (gG (aB eU aO)) (aJ 0))⟩) (λhi hY=>lU (show pG _ (aY (top 46)) ["one","other","on_yes","on_no"] ["place"] [none]=true from by decide +kernel) nd rfl (by first | exact Or.inl rfl | exact Or.inr rfl) rfl hi hY rfl))
 (bC (mZ (i:=3) (fr:=[none]) (N':=["place"]) (fZ (cd (hk:=by omega) F_36 T.D_36 hr (aB (cG bM dP (aJ 0) aQ) (aB (cG bM dP (aJ 1) aQ) aO)))) (λb=>⟨(eN (pk 0)),iG,(dD dG jF (gG (aB eU aO)) (aJ 0))⟩) (λhi hY=>lU (show pG _ (aY (top 46)) ["one","other","on_yes","on_no"] ["place"] [none]=true from by decide +kernel) nd rfl (by first | exact Or.inl rfl | exact Or.inr rfl) rfl hi hY rfl))
 (cA (dO (dD dG jF (aJ 2) (aJ 3))))))),?_⟩
 show jA _ _ _ [.val (lE t),.val (lE u),.un,.un];refine hU (λb=>b=!MP t u) (λq hq=>?_) (λhT=>?_) λhF=>?_
 ·refine⟨_,rfl,t,rfl,?_⟩;show(if UR t=true then q true else _)
  cases t with
  |say a=>exact(if_pos rfl).mpr (hq _ rfl)
  |ask k n v s y m=>
   refine(if_neg (λz=>by cases z)).mpr ?_;refine⟨_,rfl,u,rfl,?_⟩;show(if UR u=true then q true else _)
   cases u with
   |say b=>exact(if_pos rfl).mpr (hq _ rfl)
   |ask k' n' v' s' y' m'=>
    refine(if_neg (λz=>by cases z)).mpr ?_;refine⟨_,rfl,_,rfl,FD (M5 F hto) (M5 F huo),?_⟩;show q (!bP (.tuple [.str "ask",.tuple [.str k,.str n,.str v],.str s]) (.tuple [.str "ask",.tuple [.str k',.str n',.str v'],.str s']));rw[VF];exact hq _ rfl
 ·have hh:MP t u=false:=by
   cases hx:MP t u with
   |false=>rfl
   |true=>rw[hx]at hT;cases hT
  obtain⟨c1,c2⟩:=aFx hh;refine⟨_,rfl,_,rfl,FD (aCy F hto (by omega)) (aCy F huo (by omega)),?_⟩;show(if bP (lE t) (lE u)=true then _ else _);by_cases e:t=u
  ·rw[if_pos ((FO t u).mpr e)];rw[c1 e]at h;exact⟨(aD rfl),h⟩
  ·rw[if_neg (λz=>e ((FO t u).mp z))];rw[c2 e]at h;exact⟨(aD rfl),(aD rfl),h⟩
 ·unfold kC;dsimp only
  cases t with
  |say a=>cases hF
  |ask k n v s y m=>
   cases u with
   |say b=>cases hF
   |ask k' n' v' s' y' m'=>
    have hF':false=!decide (k=k'/\n=n'/\v=v'/\s=s'):=hF
    have hh:k=k'/\n=n'/\v=v'/\s=s':=by
     by_cases e:k=k'/\n=n'/\v=v'/\s=s'
     ·exact e
     ·rw[decide_eq_false e]at hF';cases hF'
    obtain⟨rfl,rfl,rfl,rfl⟩:=hh;obtain⟨_,_,hy,hm⟩:=hto;obtain⟨_,_,hy',hm'⟩:=huo;have e1:(Tr.ask k n v s y m).dep=max y.dep m.dep+1:=rfl;have e1':(Tr.ask k n v s y' m').dep=max y'.dep m'.dep+1:=rfl;rw[ZK,cK]at h;have l1:=AH y y';have l2:=AH m m';have n1:=HC (t:=y) (by omega);have n2:=HC (t:=m) (by omega);have one:∀(w:Str)(p:List Str)(q:D->Prop),p.length<=12->q (uW (w::p))->aJ3 (.tuple [.str w]) (uW p) q:=λw p q hp hq=>⟨by rw[aA];show 1+_<=_;omega,hq⟩;refine dB (.list (((GG y y').map plY).map uW)) (λq hq=>?_) ?_
    ·refine iQ (ts:=(GG y y').map uW) (λR h=>⟨_,rfl,_,rfl,_,rfl,_,rfl,fs,an,y,y',rfl,F,hy,hy',by omega,by omega,by omega,_,rfl,h⟩) (λx=>match x with | .tuple ts=>.tuple (.str "yes"::ts) | _=>x) (by rw[aA];omega) (λx q hx hq=>?_) ?_
     ·obtain⟨p,hp,rfl⟩:=bA.mp hx;have:=AI y y' p hp;exact⟨(aD rfl),_,rfl,one "yes" p q (by omega) hq⟩
     ·rw[bG];rw[bG]at hq;exact hq
    refine dB (.list (((GG m m').map plN).map uW)) (λq hq=>?_) ?_
    ·refine iQ (ts:=(GG m m').map uW) (λR h=>⟨_,rfl,_,rfl,_,rfl,_,rfl,fs,an,m,m',rfl,F,hm,hm',by omega,by omega,by omega,_,rfl,h⟩) (λx=>match x with | .tuple ts=>.tuple (.str "no"::ts) | _=>x) (by rw[aA];omega) (λx q hx hq=>?_) ?_
     ·obtain⟨p,hp,rfl⟩:=bA.mp hx;have:=AI m m' p hp;exact⟨(aD rfl),_,rfl,one "no" p q (by omega) hq⟩
     ·rw[bG];rw[bG]at hq;exact hq
    exact⟨_,rfl,_,rfl,by simp only[aA];omega,h⟩
def aIn
  (F_35:bU P w K mg base eG 1 a_35 f_35 ["tree"] (bJ K RO)):bU P w K mg base eG 15 a_36 f_36 ["one","other"] (bJ K aAi):=by
 have h:∀dd:Nat,bU P w K mg base eG (2+dd) a_36 f_36 ["one","other"] (bJ K (rV dd)):=λdd=>by
  induction dd with
  |zero=>exact FM wL λds Q h=>T3 h
  |succ dd ih=>exact XA T dd F_35 ih
 exact h 13
def aL6:bU P w K mg base eG 1 a_4 f_4 ["self"] (eB K (aD8 c_Book)):=by
 refine WH (F:=lL c_Book) T.D_4.F aHn (λτ n ds Q h=>by obtain⟨Bo,ks,ht,rfl,hk,h⟩:=h;rfl) λcdv Ar outer s H E hr Tp n ds Q h=>?_;obtain⟨Bo,ks,ht,rfl,hk,h⟩:=h;have nd:=aHn.nd;refine⟨_,(fS (lI (VA T.C_Book T.n_Book_numbered (aJ 0) (pc:=λh=>xG (xV rfl) rfl T.b_list wT (cL (S8 qF EK PySem.F.type_dict_items OI h) gL))))),?_⟩;obtain rfl:Tp=Bo:=jN ht;refine⟨_,rfl,rfl,?_⟩;rw[hk];unfold rF;rw[bG];exact h
def aL5:bU P w K mg base eG 1 a_5 f_5 ["self"] (eB K (aHe c_Book)):=by
 refine WH (F:=lL c_Book) T.D_5.F aHm (λτ n ds Q h=>by obtain⟨Bo,ht,rfl,h⟩:=h;rfl) λcdv Ar outer s H E hr Tp n ds Q h=>?_;obtain⟨Bo,ht,rfl,h⟩:=h;have nd:=aHm.nd;refine⟨_,(fS (lI (qV T.C_Book T.n_Book_standing (aJ 0)))),?_⟩;obtain rfl:Tp=Bo:=jN ht;exact⟨_,rfl,rfl,Tp,_,rfl,rfl,h⟩
def aL3:bU P w K mg base eG 2 a_7 f_7 ["self","number"] (eB K (aD7 c_Book)):=by
 refine WH (F:=lL c_Book) T.D_7.F aHl (λτ n ds Q h=>by obtain⟨Bo,j,d,ht,rfl,hj,h⟩:=h;rfl) λcdv Ar outer s H E hr Tp n ds Q h=>?_;obtain⟨Bo,j,d,ht,rfl,hj,h⟩:=h;have nd:=aHl.nd;refine⟨_,(fS (oJ (aDo hr.u1 T.C_Book T.n_Book_numbered (aJ 1) (aJ 0))
 (fS (uT AX))
 lS)),?_⟩
 obtain rfl:Tp=Bo:=jN ht;refine⟨_,rfl,j,rfl,_,rfl,rfl,?_⟩;rw[hj];exact h
def aL4
  (F_11:bU P w K mg base eG 3 a_11 f_11 ["form","thing"] (bJ K RX)):bU P w K mg base eG 4 a_6 f_6 ["self","thing"] (eB K (XL c_Book)):=by
 refine WH (F:=lL c_Book) T.D_6.F XU (λτ n ds Q h=>by obtain⟨fs,an,Bo,d,ht,rfl,F,hf,hd,hw,h⟩:=h;rfl) λcdv Ar outer s H E hr Tp n ds Q h=>?_;obtain⟨fs,an,Bo,d,ht,rfl,F,hf,hd,hw,h⟩:=h;have nd:=XU.nd;refine⟨_,(fS (oJ (uO (uN (pZ F_11 T.D_11.m T.D_11.k T.D_11.d (hr.mono (by decide)) (dN (qV T.C_Book T.n_Book_form (aJ 0)) (dN (jS (aJ 1)) kX)) (λh=>jE F_11 (hr.mono (by decide)) rfl T.D_11.m T.D_11.k T.D_11.d .nil iK h)) (λh=>rZ h)))
 (fS (uT AX))
 lS)),?_⟩
 obtain rfl:Tp=Bo:=jN ht;refine⟨_,rfl,rfl,Tp,_,rfl,rfl,_,rfl,fs,an,d,by rw[hf],F,hd,?_⟩;rw[hw];exact h
def aL2
  (F_36:bU P w K mg base eG 15 a_36 f_36 ["one","other"] (bJ K aAi))
  (F_34:bU P w K mg base eG 15 a_34 f_34 ["form","rows","deep","least"] (bJ K RP)):bU P w K mg base eG 16 a_8 f_8 ["self"] (eB K (XJ c_Book)):=by
 refine WH (F:=lL c_Book) T.D_8.F aHk (λτ n ds Q h=>by obtain⟨fs,an,d,m,Bo,ks,t0,ht,rfl,F,hf,hdp,hls,hk,hR,hl,hd,hst,ht0,hd0,h⟩:=h;rfl) λcdv Ar outer s H E hr Tp n ds Q h=>?_;obtain⟨fs,an,d,m,Bo,ks,t0,ht,rfl,F,hf,hdp,hls,hk,hR,hl,hd,hst,ht0,hd0,h⟩:=h;have nd:=aHk.nd;refine⟨_,(dR (uS (i:=1) (qV T.C_Book T.n_Book_standing (aJ 0)) (λh=>mS (i:=1) nd rfl (by first | exact Or.inl rfl | exact Or.inr rfl) h))
 (dR (W0 T.C_Book T.n_Book_standing (aJ 0) (pZ F_34 T.D_34.m T.D_34.k T.D_34.d (hr.mono (by decide)) (dN (qV T.C_Book T.n_Book_form (aJ 0)) (dN (Y9 T.C_Book T.n_Book_numbered (aJ 0) (pc:=λh=>xG (yX rfl) rfl T.b_list wT (cL (S8 qF DA PySem.F.type_dict_values KE h) gL))) (dN (qV T.C_Book T.n_Book_deep (aJ 0)) (dN (qV T.C_Book T.n_Book_least (aJ 0)) kX)))) (λh=>jE F_34 (hr.mono (by decide)) rfl T.D_34.m T.D_34.k T.D_34.d .nil iK h)))
 (fS (lI (pZ F_36 T.D_36.m T.D_36.k T.D_36.d (hr.mono (by decide)) (dN (jS (aJ 1)) (dN (qV T.C_Book T.n_Book_standing (aJ 0)) kX)) (λh=>jE F_36 (hr.mono (by decide)) rfl T.D_36.m T.D_36.k T.D_36.d .nil iK h)))))),?_⟩
 obtain rfl:Tp=Bo:=jN ht;have hv:n.kvs.map (·.2)=(ks.map (·.2)).map cS:=by rw[hk];unfold rF;rw[bG,bG];rfl
 refine⟨_,rfl,rfl,Tp,_,rfl,rfl,?_⟩;refine⟨_,rfl,rfl,Tp,_,rfl,rfl,_,rfl,rfl,_,rfl,rfl,Tp,_,rfl,rfl,_,rfl,rfl,Tp,_,rfl,rfl,?_⟩;refine⟨fs,an,ks.map (·.2),d,m,by rw[hf,hv,hdp,hls],F,hR,by rw[aA];exact hl,by omega,λt hg=>?_⟩;obtain⟨g1,g2⟩:=wK d hg;refine⟨_,rfl,rfl,?_⟩;dsimp only;refine⟨_,rfl,_,rfl,rfl,Tp,_,rfl,rfl,fs,an,t0,t,by rw[hst],F,ht0,g1,by omega,by omega,by omega,h t hg _⟩
def aL9
  (F_8:bU P w K mg base eG 16 a_8 f_8 ["self"] (eB K (XJ c_Book)))
  (F_6:bU P w K mg base eG 4 a_6 f_6 ["self","thing"] (eB K (XL c_Book))):bU P w K mg base eG 17 a_1 f_1 ["self","row"] (eB K (aHh c_Book)):=by
 refine WH (F:=lL c_Book) T.D_1.F XV (λτ n ds Q h=>by obtain⟨fs,an,d,m,Bo,ks,k,r,t0,ht,rfl,F,hf,hdp,hls,hk,hR,hl,hd,hst,ht0,hd0,hfo,hkk,hnew,hrow,hcd,h⟩:=h;rfl) λcdv Ar outer s H E hr Tp n ds Q h=>?_;obtain⟨fs,an,d,m,Bo,ks,k,r,t0,ht,rfl,F,hf,hdp,hls,hk,hR,hl,hd,hst,ht0,hd0,hfo,hkk,hnew,hrow,hcd,h⟩:=h;have nd:=XV.nd;refine⟨_,(dR (vW (pH (by decide +kernel) (aJ 0) (CM (aB (aJ 1) aO)) (λh ha=>oB h T.C_Book T.M_6 F_6 (hr.mono (by decide)) T.D_6.d .nil iK ha)) (λh=>kJ h))
 (dR (oJ (uP DP rL (U8 T.C_Book T.n_Book_numbered (aJ 0) (pc:=λh=>iI D8 rfl T.b_len gA (cL h gL))) (jS (MW rfl T.c_MOST_ROWS)))
 (fS (uT AX))
 lS)
 (dR (uS (i:=2) (qV T.C_Book T.n_Book_following (aJ 0)) (λh=>mS (i:=2) nd rfl (by first | exact Or.inl rfl | exact Or.inr rfl) h))
 (dR (W3 T.C_Book T.n_Book_following (aJ 0) aQ)
 (dR (RB hr.u1 T.C_Book T.n_Book_numbered (aJ 0) (aJ 2) (aJ 1))
 (fS (lI (KS (dN (jS (aJ 2)) (dN (oN (by decide +kernel) (aJ 0) (λh=>oK h T.C_Book T.M_8 F_8 (hr.mono (by decide)) T.D_8.d .nil iK)) kX)))))))))),?_⟩
 obtain rfl:Tp=Bo:=jN ht;refine⟨_,rfl,rfl,_,rfl,fs,an,Tp,cS r,rfl,rfl,F,hf,hcd,wH hrow,?_⟩;have hkl:n.kvs.length=ks.length:=by rw[hk];unfold rF;rw[aA]
 dsimp only;refine rP false (λq hq=>⟨_,rfl,rfl,?_⟩) (λz=>by cases z) λ_=>?_
 ·have e:decide ((60:Int)<=(n.kvs.length:Nat))=false:=decide_eq_false (by omega);rw[<- e]at hq;exact hq
 unfold DB;dsimp only;show qM _ _ _ _ _ [.val (mQ Tp),.val (cS r),.un];refine LJ (.int (k:Nat)) (λq hq=>⟨_,rfl,rfl,Tp,_,rfl,rfl,by rw[hfo];exact hq⟩) ?_;refine⟨_,rfl,rfl,1,rfl,?_⟩;refine⟨_,rfl,_,rfl,rfl,_,rfl,(k:Nat),rfl,by show n.kvs.length<=_;omega,?_⟩;have hput:C3 n.kvs (k:Nat) (cS r)=rF (ks++[(k,r)]):=by rw[hk];exact SK hnew
 refine⟨_,rfl,_,rfl,rfl,fs,an,d,m,Tp,ks++[(k,r)],t0,rfl,rfl,F,hf,hdp,hls,hput,tF hR hrow,by rw[bQ];show _+1<=60;omega,hd,hst,ht0,hd0,λt hg pl=>⟨(aD rfl),?_⟩⟩;have e:(⟨rF (ks++[(k,r)]),((k+1:Nat):Int),lE t⟩:JB)=⟨C3 n.kvs (k:Nat) (cS r),n.fol+1,lE t⟩:=by rw[hput,hfo];rfl
 have hq:=h t hg pl;rw[e]at hq;exact hq
def aL8
  (F_8:bU P w K mg base eG 16 a_8 f_8 ["self"] (eB K (XJ c_Book)))
  (F_7:bU P w K mg base eG 2 a_7 f_7 ["self","number"] (eB K (aD7 c_Book))):bU P w K mg base eG 17 a_2 f_2 ["self","number"] (eB K (aHg c_Book)):=by
 refine WH (F:=lL c_Book) T.D_2.F aHp (λτ n ds Q h=>by obtain⟨fs,an,d,m,Bo,ks,k,r,t0,ht,rfl,F,hf,hdp,hls,hk,hR,hl,hd,hst,ht0,hd0,hget,h⟩:=h;rfl) λcdv Ar outer s H E hr Tp n ds Q h=>?_;obtain⟨fs,an,d,m,Bo,ks,k,r,t0,ht,rfl,F,hf,hdp,hls,hk,hR,hl,hd,hst,ht0,hd0,hget,h⟩:=h;have nd:=aHp.nd;refine⟨_,(dR (vW (pH (by decide +kernel) (aJ 0) (CM (aB (aJ 1) aO)) (λh ha=>oB h T.C_Book T.M_7 F_7 (hr.mono (by decide)) T.D_7.d .nil iK ha)) (λh=>kJ h))
 (dR (uS (i:=2) (aFs T.C_Book T.n_Book_numbered (aJ 0) (aJ 1) (pc:=λh ha=>mI qF GI PySem.F.type_dict_pop YL h (cL ha gL))) (λh=>mS (i:=2) nd rfl (by first | exact Or.inl rfl | exact Or.inr rfl) h))
 (fS (lI (KS (dN (jS (aJ 2)) (dN (oN (by decide +kernel) (aJ 0) (λh=>oK h T.C_Book T.M_8 F_8 (hr.mono (by decide)) T.D_8.d .nil iK)) kX))))))),?_⟩
 obtain rfl:Tp=Bo:=jN ht;have hg0:B1 n.kvs (k:Nat)=some (cS r):=by rw[hk];exact MR hget
 refine⟨_,rfl,rfl,_,rfl,Tp,(k:Nat),cS r,rfl,rfl,hg0,?_⟩;dsimp only;show qM _ _ _ _ _ [.val (mQ Tp),.val (.int (k:Nat)),.un];refine⟨_,rfl,rfl,_,rfl,(k:Nat),cS r,rfl,hg0,?_⟩;have hdrop:CC n.kvs (k:Nat)=rF (kM k ks):=by rw[hk];exact VJ k ks
 refine⟨_,rfl,_,rfl,rfl,fs,an,d,m,Tp,kM k ks,t0,rfl,rfl,F,hf,hdp,hls,hdrop,DN hR,bK (cE _ _) hl,hd,hst,ht0,hd0,λt hg pl=>⟨(aD rfl),?_⟩⟩;have hq:=h t hg pl;rw[<- hdrop]at hq;exact hq
def aL7
  (F_8:bU P w K mg base eG 16 a_8 f_8 ["self"] (eB K (XJ c_Book)))
  (F_7:bU P w K mg base eG 2 a_7 f_7 ["self","number"] (eB K (aD7 c_Book)))
  (F_6:bU P w K mg base eG 4 a_6 f_6 ["self","thing"] (eB K (XL c_Book))):bU P w K mg base eG 17 a_3 f_3 ["self","number","row"] (eB K (aHf c_Book)):=by
 refine WH (F:=lL c_Book) T.D_3.F aHo (λτ n ds Q h=>by obtain⟨fs,an,d,m,Bo,ks,k,r,r2,t0,ht,rfl,F,hf,hdp,hls,hk,hR,hl,hd,hst,ht0,hd0,hget,hrow,hcd,h⟩:=h;rfl) λcdv Ar outer s H E hr Tp n ds Q h=>?_;obtain⟨fs,an,d,m,Bo,ks,k,r,r2,t0,ht,rfl,F,hf,hdp,hls,hk,hR,hl,hd,hst,ht0,hd0,hget,hrow,hcd,h⟩:=h;have nd:=aHo.nd;refine⟨_,(dR (vW (pH (by decide +kernel) (aJ 0) (CM (aB (aJ 1) aO)) (λh ha=>oB h T.C_Book T.M_7 F_7 (hr.mono (by decide)) T.D_7.d .nil iK ha)) (λh=>kJ h))
 (dR (vW (pH (by decide +kernel) (aJ 0) (CM (aB (aJ 2) aO)) (λh ha=>oB h T.C_Book T.M_6 F_6 (hr.mono (by decide)) T.D_6.d .nil iK ha)) (λh=>kJ h))
 (dR (uS (i:=3) (aFt hr.u1 T.C_Book T.n_Book_numbered (aJ 0) (aJ 1)) (λh=>mS (i:=3) nd rfl (by first | exact Or.inl rfl | exact Or.inr rfl) h))
 (dR (RB hr.u1 T.C_Book T.n_Book_numbered (aJ 0) (aJ 1) (aJ 2))
 (fS (lI (KS (dN (jS (aJ 3)) (dN (oN (by decide +kernel) (aJ 0) (λh=>oK h T.C_Book T.M_8 F_8 (hr.mono (by decide)) T.D_8.d .nil iK)) kX))))))))),?_⟩
 obtain rfl:Tp=Bo:=jN ht;have hg0:B1 n.kvs (k:Nat)=some (cS r):=by rw[hk];exact MR hget
 refine⟨_,rfl,rfl,_,rfl,Tp,(k:Nat),cS r,rfl,rfl,hg0,?_⟩;dsimp only;refine⟨_,rfl,rfl,_,rfl,fs,an,Tp,cS r2,rfl,rfl,F,hf,hcd,wH hrow,?_⟩;dsimp only;show qM _ _ _ _ _ [.val (mQ Tp),.val (.int (k:Nat)),.val (cS r2),.un];refine⟨_,rfl,rfl,_,rfl,(k:Nat),cS r,rfl,hg0,?_⟩;have hkl:n.kvs.length=ks.length:=by rw[hk];unfold rF;rw[aA]
 refine⟨_,rfl,_,rfl,rfl,_,rfl,(k:Nat),rfl,by omega,?_⟩;have hput:C3 n.kvs (k:Nat) (cS r2)=rF (mE k r2 ks):=by rw[hk];exact SJ hget
 refine⟨_,rfl,_,rfl,rfl,fs,an,d,m,Tp,mE k r2 ks,t0,rfl,rfl,F,hf,hdp,hls,hput,R9 hR hrow,by unfold mE;rw[aA];exact hl,hd,hst,ht0,hd0,λt hg pl=>⟨(aD rfl),?_⟩⟩;have hq:=h t hg pl;rw[<- hput]at hq;exact hq
def aMa
  (F_34:bU P w K mg base eG 15 a_34 f_34 ["form","rows","deep","least"] (bJ K RP)):bU P w K mg base eG 16 a_0 f_0 ["self","form","deep","least"] (AA c_Book K aHi):=by
 refine fnB (C:=c_Book) T.D_0.F aHq rfl T.C_Book T.n_Book_form T.n_Book_deep T.n_Book_least T.n_Book_numbered T.n_Book_following T.n_Book_standing λcdv Ar outer s H E hr zz fm dp ls Q h=>?_;obtain⟨fs,an,d,m,hds,F,hd,h⟩:=h;have nd:=aHq.nd;refine⟨_,_,(cd F_34 T.D_34 hr (aB (aJ 1) (aB (xQ aO) (aB (aJ 2) (aB (aJ 3) aO))))),(λh=>(mG (uV (pv 0) (pv 1) rfl) (mG (uV (pv 0) (pv 2) rfl) (mG (uV (pv 0) (pv 3) rfl) (mG (uV (pv 0) S6 rfl) (mG (uV (pv 0) mH rfl) (E8 (uV (pv 0) h rfl)))))))),?_⟩;injection hds with e1 hds
 injection hds with e2 hds
 injection hds with e3 _
 injection e2 with e2
 injection e3 with e3
 subst e1 e2 e3;exact⟨_,rfl,(aD rfl),_,rfl,_,rfl,fs,an,[],d,_,rfl,F,(λr hr=>by cases hr),(cT _),by omega,h⟩
def aIb
  (F_1:bU P w K mg base eG 17 a_1 f_1 ["self","row"] (eB K (aHh c_Book)))
  (X_1:bU P w K mg base (V9 P w) 17 a_1 f_1 ["self","row"] (nA K (LQ c_Book c_TooMany c_NoRow))):bU P w K mg base eG 18 a_48 f_48 ["_law_book","_law_row"] (eB K (RJ c_Book)):=by
 refine WH (F:=lL c_Book) T.D_48.F aAz (λτ n ds Q h=>by obtain⟨fs,an,d,m,Bo,ks,k,dr,t0,ht,rfl,F,hf,hdp,hls,hk,hR,hd,hst,ht0,hd0,hfo,hkk,hnew,hl,hcd,h⟩:=h;rfl) λcdv Ar outer s H E hr Tp n ds Q h=>?_;obtain⟨fs,an,d,m,Bo,ks,k,dr,t0,ht,rfl,F,hf,hdp,hls,hk,hR,hd,hst,ht0,hd0,hfo,hkk,hnew,hl,hcd,h⟩:=h;have nd:=aAz.nd;refine⟨_,(dR (uT (ss 2 nd eU))
 (dR (zB.or (WZ (fS (uS (i:=2) (U9 bM dP (pH (by decide +kernel) (aJ 0) (CM (aB (aJ 1) aO)) (λh ha=>oB h T.C_Book T.M_1 F_1 (hr.mono (by decide)) T.D_1.d .nil iK ha)) (jS aQ)) (λh=>mS (i:=2) nd rfl (by first | exact Or.inl rfl | exact Or.inr rfl) h))) (λh=>X1 BB h)) (zB.or (by refine' WY (J:=c_TooMany) (i:=3) (G1 (by decide +kernel) (aJ 0) (CM (aB (aJ 1) aO)) (λh ha=>R8 (aB5 (L3 BB h T.C_Book T.M_1 X_1 (hr.mono (by decide)) T.D_1.d ha)))) (λea=>?hb) (λr b=>X0 BB rfl rfl nd rfl rfl rfl T.x_TooMany r b);(case hb=>(refine' (fS (uT (jP (rQ (AU (tv (show gK _ _ (aFv K (.type "ValueError") (IB 3))from ?z1)) (vU (EQ (tv (show gK _ _ (VG K [c_NoLine,c_NoPlace,c_NoRow,c_NoRule,c_NoSuch,c_NoText] (IB 3))from ?z0))))))   (cA (ss 2 nd eU))   gZ)));(case z0=>exact(MV (cs:=[c_NoLine,c_NoPlace,c_NoRow,c_NoRule,c_NoSuch,c_NoText]) (aJ 3) (λh=>iI D9 rfl T.b_isinstance eV (cL h (cL (BG (cL (kL rfl T.x_NoLine rfl) (cL (kL rfl T.x_NoPlace rfl) (cL (kL rfl T.x_NoRow rfl) (cL (kL rfl T.x_NoRule rfl) (cL (kL rfl T.x_NoSuch rfl) (cL (kL rfl T.x_NoText rfl) gL))))))) gL)))));(case z1=>exact(VD (c:=.type "ValueError") (cv:=.ty "ValueError") (aJ 3) (λh=>iI (IJ λ_ z=>z) rfl T.b_isinstance eV (cL h (cL (mJ rfl T.b_ValueError uI rfl) gL))))))))
 (by refine' RA (J0:=c_TooMany) (J:=c_NoRow) (i:=3) (G1 (by decide +kernel) (aJ 0) (CM (aB (aJ 1) aO)) (λh ha=>R8 (aB5 (L3 BB h T.C_Book T.M_1 X_1 (hr.mono (by decide)) T.D_1.d ha)))) (λea=>?hb) (λr b=>SO BB rfl rfl nd rfl rfl rfl T.x_TooMany rfl T.x_NoRow r b);(case hb=>(refine' (fS (uT (jP (rQ (AU (tv (show gK _ _ (aFv K (.type "ValueError") (IB 3))from ?z3)) (vU (EQ (tv (show gK _ _ (VG K [c_NoLine,c_NoPlace,c_NoRule,c_NoSuch,c_NoText,c_TooMany] (IB 3))from ?z2))))))   (cA (ss 2 nd eU))   gZ)));(case z2=>exact(MV (cs:=[c_NoLine,c_NoPlace,c_NoRule,c_NoSuch,c_NoText,c_TooMany]) (aJ 3) (λh=>iI D9 rfl T.b_isinstance eV (cL h (cL (BG (cL (kL rfl T.x_NoLine rfl) (cL (kL rfl T.x_NoPlace rfl) (cL (kL rfl T.x_NoRule rfl) (cL (kL rfl T.x_NoSuch rfl) (cL (kL rfl T.x_NoText rfl) (cL (kL rfl T.x_TooMany rfl) gL))))))) gL)))));(case z3=>exact(VD (c:=.type "ValueError") (cv:=.ty "ValueError") (aJ 3) (λh=>iI (IJ λ_ z=>z) rfl T.b_isinstance eV (cL h (cL (mJ rfl T.b_ValueError uI rfl) gL))))))))))
 (fS (lI (jS (aJ 2)))))),?_⟩
 obtain rfl:Tp=Bo:=jN ht;have hkl:n.kvs.length=ks.length:=by rw[hk];unfold rF;rw[aA]
 show qM _ _ _ _ _ [.val (mQ Tp),.val dr,.un,.un];refine vP (dB (.str "") (λq hq=>hq) ?_);dsimp only;rcases h with⟨hw,h⟩ | ⟨hw,h60,h⟩ | ⟨r,rfl,hrow,h60,h⟩
 ·refine .inr (.inr ⟨_,rfl,rfl,_,rfl,fs,an,Tp,dr,rfl,rfl,F,hf,hcd,.inl ⟨hw,⟨c_NoRow,rfl,T.u_NoRow_TooMany,T.e_NoRow⟩,?_⟩⟩);refine uY (λb=>b=true) (λq hq=>⟨_,rfl,c_NoRow,.none,true,rfl,T.v_NoRow,?_⟩) (λ_=>?_) λhF=>by cases hF
  ·show(if true=true then _ else _);rw[if_pos rfl];refine⟨_,rfl,c_NoRow,.none,false,rfl,(aD rfl),?_,hq _ rfl⟩;show mN K (.ref c_NoRow) [.ref c_NoLine,.ref c_NoPlace,.ref c_NoRule,.ref c_NoSuch,.ref c_NoText,.ref c_TooMany]=some false;simp only[mN,T.q_NoRow_NoLine,T.q_NoRow_NoPlace,T.q_NoRow_NoRule,T.q_NoRow_NoSuch,T.q_NoRow_NoText,T.q_NoRow_TooMany]
  ·exact tH (.str "row") (λq hq=>hq) ⟨_,rfl,h⟩
 ·refine .inr (.inl ⟨_,rfl,rfl,_,rfl,fs,an,Tp,dr,rfl,rfl,F,hf,hcd,.inr ⟨hw,by omega,⟨c_TooMany,rfl,T.e_TooMany⟩,?_⟩⟩);refine uY (λb=>b=true) (λq hq=>⟨_,rfl,c_TooMany,.none,true,rfl,T.v_TooMany,?_⟩) (λ_=>?_) λhF=>by cases hF
  ·show(if true=true then _ else _);rw[if_pos rfl];refine⟨_,rfl,c_TooMany,.none,false,rfl,(aD rfl),?_,hq _ rfl⟩;show mN K (.ref c_TooMany) [.ref c_NoLine,.ref c_NoPlace,.ref c_NoRow,.ref c_NoRule,.ref c_NoSuch,.ref c_NoText]=some false;simp only[mN,T.q_TooMany_NoLine,T.q_TooMany_NoPlace,T.q_TooMany_NoRow,T.q_TooMany_NoRule,T.q_TooMany_NoSuch,T.q_TooMany_NoText]
  ·exact tH (.str "many") (λq hq=>hq) ⟨_,rfl,h⟩
 ·exact .inl ⟨_,rfl,rfl,_,rfl,fs,an,d,m,Tp,ks,k,r,t0,rfl,rfl,F,hf,hdp,hls,hk,hR,h60,hd,hst,ht0,hd0,hfo,hkk,hnew,hrow,hcd,λt hg pl=>⟨_,rfl,_,rfl,h t hg⟩⟩
def aL1:bU P w K mg base eG 1 a_9 f_9 ["thing","fewest","most"] (bJ K aD6):=by
 refine tZ T.D_9.F aHj (λds Q h=>by obtain⟨d,lo,hi,rfl,hnd,h⟩:=h;rfl) λcdv Ar outer s H E hr ds Q h=>?_;obtain⟨d,lo,hi,rfl,hnd,h⟩:=h;have nd:=aHj.nd;refine⟨_,(cA (dO (B8 (qX (tK _) (aJ 0) (λh=>iI mM rfl T.b_isinstance eV (cL h (cL (mJ rfl T.b_tuple nE rfl) gL)))) (B6 (VE aCf aCf rL rL (aJ 1) (cB jG (aB (aJ 0) aO) cJ T.b_len gA) (aJ 2)))))),?_⟩;show JS _ _ [.val d,.val (.int lo),.val (.int hi)];refine⟨_,rfl,?_⟩
 cases d with
 |tuple ts=>
  show(if true=true then _ else Q (.bool false));rw[if_pos rfl];refine⟨_,rfl,_,rfl,?_⟩;show(if decide (lo<=(ts.length:Int))=true then _ else Q (.bool false));have e:uE (.tuple ts) lo hi=(decide (lo<=(ts.length:Int))&&decide ((ts.length:Int)<=hi)):=rfl;rw[e]at h
  cases hb:decide (lo<=(ts.length:Int))with
  |true=>
   rw[hb]at h;rw[if_pos rfl];exact⟨_,rfl,h⟩
  |false=>
   rw[hb]at h;rw[if_neg (by decide)];exact h
 |dict kvs=>cases hnd
 |_=>exact h
def aIm:bU P w K mg base eG 1 a_37 f_37 ["_law_script"] (iP K aAh):=by
 refine fnF T.D_37.F aBa (λds Q h=>by obtain⟨ns,rfl,hl,h⟩:=h;rfl) λcdv Ar outer s H E hr ds Q h=>?_;obtain⟨ns,rfl,hl,h⟩:=h;have nd:=aBa.nd;refine⟨_,(bC (ss 1 nd aQ)
 (bC (jP (eQ BH rL (cB jG (aB (aJ 0) aO) cJ T.b_len gA) aQ)
 (cA (ss 1 nd (dD nL GF (cG bM dP (aJ 0) aQ) aQ)))
 gZ)
 (cA (vY (aFo (aB (iL lK tY (aJ 0) kZ (iO aQ)) (aB aQ (aB aQ (aB (aJ 1) aO))))))))),?_⟩
 show jA _ _ _ [.val (.list (ns.map bI)),.un];refine dB (.int 0) (λq hq=>hq) ?_;refine A3 (0<ns.length) (λd=>∃c:Int,d=.int c/\(c=0\/c=1)) (λq hq=>⟨_,rfl,hq _ λhb=>?_⟩) (λhn q hq=>?_) (.int 0) rfl ⟨0,rfl,.inl rfl⟩ ?_
 ·have hb':((ns.map bI).length:Int)>0:=of_decide_eq_true hb;rw[aA]at hb';omega
 ·have e:L2.atI (ns.map bI) 0=some (.int ns[0]):=L2.gQ (j:=0) (by rw[aK,aE hn];rfl);refine⟨_,rfl,_,e,(show(0:Int)<2 by decide),hq _ ⟨_,rfl,?_⟩⟩;omega
 rintro _ ⟨c,rfl,hc⟩
 have ecut:kW (ns.map bI) none (some 63)=ns.map bI:=by
  have:=oO (ns.map bI) 63;rw[fJ (by rw[aA];exact hl)]at this;exact this
 refine⟨_,rfl,_,rfl,(aD rfl),?_⟩;rw[ecut];exact h c hc
def aIl:bU P w K mg base eG 1 a_38 f_38 ["_law_tape_here","_law_many"] (bJ K GV):=by
 refine tZ T.D_38.F aA9 (λds Q h=>by obtain⟨ns,m,rfl,hl,hm0,hm1,h⟩:=h;rfl) λcdv Ar outer s H E hr ds Q h=>?_;obtain⟨ns,m,rfl,hl,hm0,hm1,h⟩:=h;have nd:=aA9.nd;refine⟨_,(bC (ss 2 nd (wM (i:=0) 0 (sD bM (pv 0) mH (by intro _ _;rfl))))
 (bC (ss 3 nd (wM (i:=0) 1 (sD bM (pv 0) mH (by intro _ _;rfl))))
 (bC (uU (i:=0) 1 (dD dG jF (aJ 3) aQ) (E9 (pv 0) mH vZ) (λhe hg=>BE he hg))
 (bC (ss 4 nd aQ)
 (bC (jP (eQ BH rL (cB jG (aB (aJ 2) aO) cJ T.b_len gA) aQ)
 (cA (ss 4 nd (cG bM dP (aJ 2) (dD nL GF (D3 (eQ lV pW (wM (i:=0) 3 (sD bM (pv 0) mH (by intro _ _;rfl))) aQ) (dD wD GF (aJ 3) aQ) (aJ 3)) (cB jG (aB (aJ 2) aO) cJ T.b_len gA)))))
 gZ)
 (bC (jP (eQ lV pW (wM (i:=0) 3 (sD bM (pv 0) mH (by intro _ _;rfl))) aQ)
 (bC (jP (eQ lV pW (dD nL GF (aJ 3) aQ) aQ)
 (cA (uU (i:=0) 2 (dD wD GF (aJ 4) aQ) (E9 (pv 0) mH vZ) (λhe hg=>BE he hg)))
 gZ)
 (bC (ss 5 nd (wM (i:=0) 2 (sD bM (pv 0) mH (by intro _ _;rfl))))
 (bC (uU (i:=0) 2 (dD wD GF (aJ 5) (aJ 1)) (E9 (pv 0) mH vZ) (λhe hg=>BE he hg))
 (cA (dO (dD nL GF (aJ 5) (aJ 1)))))))
 gZ)
 (bC (ss 6 nd (dD nL GF (dD fF mK (dD dG jF (dD nL GF (aJ 4) aQ) aQ) (dD dG jF (dD dG jF (dD fF mK (dD nL GF (aJ 3) aQ) aQ) aQ) (aJ 3))) aQ))
 (bC (ss 6 nd (dD nL GF (dD dG jF (dD dG jF (dD fF mK (aJ 6) (aJ 6)) (dD fF mK aQ (aJ 6))) (aJ 3)) aQ))
 (cA (dO (dD nL GF (dD nL GF (dD fF mK (aJ 6) aQ) aQ) (aJ 1)))))))))))),?_⟩
 show jA _ _ _ [.val (iH ns),.val (.int m),.un,.un,.un,.un,.un];have p60:(0:Int)<60:=by decide
 refine dB (.list (ns.map bI)) (λq hq=>⟨ns,rfl,hq⟩) ?_;refine eA (λd=>∃a:Int,d=.int a/\0<=a) (λq hq=>⟨ns,rfl,λa ha=>hq _ ⟨a,rfl,ha⟩⟩) ?_;rintro _ ⟨a,rfl,ha⟩;refine EY ns rfl (a+1) (λq hq=>⟨_,rfl,hq⟩) (by omega) ?_;refine dB (.int 0) (λq hq=>hq) ?_;refine A3 (0<ns.length) (λd=>∃c:Int,d=.int c) (λq hq=>⟨_,rfl,hq _ λhb=>?_⟩) (λhn q hq=>?_) (.int 0) rfl ⟨0,rfl⟩ ?_
 ·have hb':((ns.map bI).length:Int)>0:=of_decide_eq_true hb;rw[aA]at hb';omega
 ·have hp:(0:Int)<((ns.map bI).length:Nat):=by rw[aA];omega
  refine⟨_,rfl,ns,rfl,λc hc=>?_⟩;show(if decide (c=1)=true then _ else _);split
  ·obtain⟨x,hx⟩:=IQ hn (a / 60);exact⟨_,rfl,⟨by decide,by decide⟩,_,rfl,hp,_,hx,hq _ ⟨x,rfl⟩⟩
  ·obtain⟨x,hx⟩:=IQ hn a;exact⟨_,rfl,_,rfl,hp,_,hx,hq _ ⟨x,rfl⟩⟩
 rintro _ ⟨c,rfl⟩;refine hU (λ_=>True) (λq hq=>⟨ns,rfl,λw hw=>hq _ trivial⟩) (λ_=>?_) λ_=>?_
 ·refine hU (λ_=>True) (λq hq=>⟨_,rfl,p60,hq _ trivial⟩) (λ_=>?_) λ_=>?_
  ·refine FC ns rfl (c / 2) (λq hq=>⟨_,rfl,⟨by decide,by decide⟩,hq⟩) ?_;dsimp only;refine eA (λd=>∃b:Int,d=.int b) (λq hq=>⟨ns,rfl,λb=>hq _ ⟨b,rfl⟩⟩) ?_;rintro _ ⟨b,rfl⟩;refine wA ns rfl (b / m) (λq hq=>⟨_,rfl,_,rfl,⟨hm0,by omega⟩,hq⟩) ?_;exact⟨_,rfl,_,rfl,hm0,h _ (jL _ (by omega)) (hX _ hm0)⟩
  ·unfold kC;dsimp only;refine eA (λd=>∃b:Int,d=.int b) (λq hq=>⟨ns,rfl,λb=>hq _ ⟨b,rfl⟩⟩) ?_;rintro _ ⟨b,rfl⟩;refine wA ns rfl (b / m) (λq hq=>⟨_,rfl,_,rfl,⟨hm0,by omega⟩,hq⟩) ?_;exact⟨_,rfl,_,rfl,hm0,h _ (jL _ (by omega)) (hX _ hm0)⟩
 ·unfold kC;dsimp only;have q1:(0:Int)<1000003:=by decide
  have q2:(0:Int)<997:=by decide
  have q3:(0:Int)<1000033:=by decide
  have q4:(0:Int)<999983:=by decide
  have q5:(0:Int)<65537:=by decide
  have c0:(0:Int)<=c%1000003/\c%1000003<1000003:=⟨jL _ (by decide),hX _ (by decide)⟩;have a0:(0:Int)<=a%997/\a%997<997:=⟨jL _ (by decide),hX _ (by decide)⟩;refine eA (λd=>∃x:Int,d=.int x/\0<=x/\x<1000033) (λq hq=>⟨_,rfl,q1,_,rfl,q2,.inr ⟨by decide,by decide⟩,_,rfl,.inl ⟨by omega,by omega⟩,q3,hq _ ⟨_,rfl,jL _ (by decide),hX _ (by decide)⟩⟩) ?_;rintro _ ⟨x,rfl,x0,x1⟩;refine eA (λd=>∃x:Int,d=.int x/\0<=x/\x<999983) (λq hq=>⟨_,rfl,_,rfl,.inl ⟨by omega,by omega⟩,_,rfl,.inl ⟨by decide,by decide⟩,_,rfl,q4,hq _ ⟨_,rfl,jL _ (by decide),hX _ (by decide)⟩⟩) ?_;rintro _ ⟨y,rfl,y0,y1⟩;exact⟨_,rfl,.inl ⟨by omega,by omega⟩,q5,_,rfl,hm0,h _ (jL _ (by omega)) (hX _ hm0)⟩
def aIk
  (F_38:bU P w K mg base eG 1 a_38 f_38 ["_law_tape_here","_law_many"] (bJ K GV)):bU P w K mg base eG 2 a_39 f_39 ["_law_tape_here","_law_many"] (bJ K aAg):=by
 refine tZ T.D_39.F aA8 (λds Q h=>by obtain⟨ns,m,rfl,hl,hm1,hm5,h⟩:=h;rfl) λcdv Ar outer s H E hr ds Q h=>?_;obtain⟨ns,m,rfl,hl,hm1,hm5,h⟩:=h;have nd:=aA8.nd;refine⟨_,(bC (ss 2 nd eU)
 (bC (ss 3 nd (cd F_38 T.D_38 hr (aB (aJ 0) (aB aQ aO))))
 (bC (jP (eQ lV pW (aJ 3) aQ)
 (bC (XF (i:=4) nd rfl (by first | exact Or.inl rfl | exact Or.inr rfl) (xQ (PH (by repeat constructor))))
 (bC (ss 5 nd (cd F_38 T.D_38 hr (aB (aJ 0) (aB aQ aO))))
 (cA (dO (iL lK tY (dD dG jF (iL lK tY (aJ 4) (iO (aJ 5)) kZ) (iL lK tY (aJ 4) kZ (iO (aJ 5)))) kZ (iO (aJ 1)))))))
 gZ)
 (bC (ss 6 nd (ZB eU (aB (el (fr:=[none,some 2,some 0]) (N':=["_law_k","_law_letters","_law_tape_here"]) (sJ (aB aQ aO) (λh=>pU rfl T.b_range h)) (λb=>⟨(eN (pk 0)),iG,(cG bM dP (aJ 1) (cd F_38 T.D_38 hr (aB (aJ 2) (aB aQ aO))))⟩)) aO) (λh ha=>mI PySem.F.plainAttrs_str PySem.F.slot_str_join PySem.F.type_str_join YM h ha)))
 (bC (jP (eQ lV pW (aJ 3) aQ)
 (bC (ss 7 nd (dD dG jF aQ (cd F_38 T.D_38 hr (aB (aJ 0) (aB (dD sE HB aQ (aJ 1)) aO)))))
 (bC (mZ (i:=8) (fr:=[none,some 6,some 7]) (N':=["_law_k","_law_base","_law_size"]) (sJ (aB (aJ 1) aO) (λh=>pU rfl T.b_range h)) (λb=>⟨(eN (pk 0)),iG,(iL lK tY (aJ 1) kZ (iO (dD dG jF (aJ 2) (aJ 0))))⟩) (λhi hY=>lU (show pG _ (aY (top 50)) ["_law_tape_here","_law_many","_law_letters","_law_way","_law_some","_law_turn","_law_base","_law_size","_law_names_here","_law_at","_law_start"] ["_law_k","_law_base","_law_size"] [none,some 6,some 7]=true from by decide +kernel) nd rfl (by first | exact Or.inl rfl | exact Or.inr rfl) rfl hi hY rfl))
 (bC (ss 5 nd (cd F_38 T.D_38 hr (aB (aJ 0) (aB (aJ 1) aO))))
 (cA (dO (dD dG jF (iL lK tY (aJ 8) (iO (aJ 5)) kZ) (iL lK tY (aJ 8) kZ (iO (aJ 5)))))))))
 gZ)
 (bC (ss 7 nd (dD dG jF aQ (cd F_38 T.D_38 hr (aB (aJ 0) (aB aQ aO)))))
 (bC (ss 9 nd (cd F_38 T.D_38 hr (aB (aJ 0) (aB (aJ 7) aO))))
 (bC (ss 10 nd (cd F_38 T.D_38 hr (aB (aJ 0) (aB aQ aO))))
 (cA (dO (el (fr:=[none,some 6,some 2,some 7,some 9,some 10]) (N':=["_law_k","_law_base","_law_letters","_law_size","_law_at","_law_start"]) (sJ (aB (aJ 1) aO) (λh=>pU rfl T.b_range h)) (λb=>⟨(eN (pk 0)),iG,(dD dG jF (dD dG jF (iL lK tY (aJ 1) kZ (iO (aJ 4))) (cG bM dP (aJ 2) (dD nL GF (dD dG jF (aJ 5) (aJ 0)) aQ))) (iL lK tY (aJ 1) (iO (dD dG jF (aJ 4) aQ)) (iO (aJ 3))))⟩)))))))))))),?_⟩
 show jA _ _ _ [.val (iH ns),.val (.int m),.un,.un,.un,.un,.un,.un,.un,.un,.un];refine dB (.str iD) (λq hq=>hq) ?_;refine eA (λd=>∃w:Int,d=.int w) (λq hq=>⟨_,rfl,ns,4,rfl,hl,by decide,by decide,λr _ _=>hq _ ⟨r,rfl⟩⟩) ?_;rintro _ ⟨w,rfl⟩;have nat:∀r:Int,0<=r->∃t:Nat,bI r=.int (t:Int)/\r=(t:Int):=λr h0=>⟨r.toNat,by rw[eM h0],(eM h0).symm⟩;refine hU (λb=>b=decide (w=0)) (λq hq=>⟨_,rfl,hq _ rfl⟩) (λ_=>?_) λ_=>?_
 ·refine dB (.list (zX.map aP)) (λq hq=>⟨by decide,hq⟩) ?_;refine eA (λd=>∃t:Nat,d=.int (t:Int)) (λq hq=>⟨_,rfl,ns,12,rfl,hl,by decide,by decide,λr h0 _=>hq _ ((nat r h0).imp λ_ e=>e.1)⟩) ?_;rintro _ ⟨t,rfl⟩;refine⟨_,rfl,_,rfl,_,rfl,_,rfl,?_,_,rfl,?_⟩
  ·rw[lR,lR,aA,aA,KY,oO,eP,bO];show 12-t+min t 12<=100000;omega
  ·show Q (.list (kW (kW (zX.map aP) (some (t:Int)) none++kW (zX.map aP) none (some (t:Int))) none (some (m:Int))));rw[lR,lR,<- cK,lR,KY,oO,oO];exact h _ (DR aJk t (by omega))
 ·unfold kC;dsimp only;refine eA (λd=>∃z:Str,d=.str z/\z.cps.toList.length=8/\∀c∈z.cps.toList,c∈iD.cps.toList) (λq hq=>?_) ?_
  ·refine⟨_,rfl,?_⟩;refine KN (ts:=fC 8) (λR h=>⟨8,rfl,by decide,by decide,h⟩) (λ_ _ y=>∃c,c∈iD.cps.toList/\y=.str ⟨#[c]⟩) (by decide) (λj x q hx hq=>?_) λys hl' hy=>?_
   ·refine⟨_,rfl,_,rfl,ns,26,rfl,hl,by decide,by decide,λr h0 h1=>?_⟩;obtain⟨c,hc,hcc,_⟩:=FZ (xs:=iD.cps.toList) (i:=r) h0 (by rw[yE];exact h1);exact⟨by decide,c,hcc,hq _ ⟨c,hc,rfl⟩⟩
   ·obtain⟨cs,rfl,hcl⟩:=GW (ys:=ys) λy hy'=>by
     obtain⟨j,hj,rfl⟩:=uM.mp hy';have hjt:j<(fC 8).length:=by rw[<- hl'];exact hj
     exact hy j (fC 8)[j] _ (aE hjt) (aE hj)
    have hl8:cs.length=8:=by rw[aA,mV]at hl';exact hl'
    refine⟨cs.map λc=>⟨#[c]⟩,by rw[bG];rfl,?_,hq _ ⟨_,rfl,?_,?_⟩⟩
    ·rw[aA,bG,hl8]
     have:(aNm ((λx:Str=>x.length)∘λc=>(⟨#[c]⟩:Str)) cs).sum=cs.length:=by
      clear hl8 hl' hy hcl
      induction cs with
      |nil=>rfl
      |cons a l ih=>rw[bX,fY,ih,dH];show 1+_=_;omega
     rw[this,hl8];decide
    ·rw[show(Txt.join (Str.ofString "") (cs.map λc=>⟨#[c]⟩)).cps.toList=cs from BU cs];exact hl8
    ·rw[show(Txt.join (Str.ofString "") (cs.map λc=>⟨#[c]⟩)).cps.toList=cs from BU cs];exact hcl
  rintro _ ⟨z,rfl,hz8,hzl⟩
  have hz:z.length<=100000:=by
   have:z.length=z.cps.toList.length:=by simp[Str.length]
   omega
  refine hU (λb=>b=decide (w=1)) (λq hq=>⟨_,rfl,hq _ rfl⟩) (λ_=>?_) λ_=>?_
  ·refine eA (λd=>∃k:Nat,d=.int (k:Int)/\1<=k/\k+m<=9) (λq hq=>⟨_,rfl,_,rfl,ns,9-(m:Int),rfl,hl,by omega,by omega,λr h0 h1=>hq _ ⟨(1+r).toNat,by rw[eM (by omega)],by omega,by omega⟩⟩) ?_;rintro _ ⟨k,rfl,hk1,hk9⟩;refine dB (.list (((fQ m).map λj:Nat=>Txt.slice z none (some ((k:Int)+(j:Int)))).map aP)) (λq hq=>?_) ?_
   ·refine iQ (ts:=fC m) (λR h=>⟨_,rfl,(m:Int),rfl,by omega,by omega,by simpa using h⟩) (λx=>match x with | .int j=>.str (Txt.slice z none (some ((k:Int)+j))) | _=>.none) (by rw[mV];omega) (λx q hx hq=>?_) ?_
    ·obtain⟨j,hj,rfl⟩:=bA.mp hx;exact⟨_,rfl,_,rfl,_,rfl,hz,hq⟩
    ·unfold fC;rw[bG];rw[bG]at hq;exact hq
   refine eA (λd=>∃t:Nat,d=.int (t:Int)) (λq hq=>⟨_,rfl,_,rfl,ns,(m:Int),rfl,hl,by omega,by omega,λr h0 _=>hq _ ((nat r h0).imp λ_ e=>e.1)⟩) ?_;rintro _ ⟨t,rfl⟩;have hnb:=TR hz8 hzl hk1 hk9
   have fin:∀ys:List Str,EI m ys->(kW (ys.map aP) (some (t:Int)) none).length+(kW (ys.map aP) none (some (t:Int))).length<=100000/\Q (.list (kW (ys.map aP) (some (t:Int)) none++kW (ys.map aP) none (some (t:Int)))):=λys hy=>by
    have h1:=hy.1;rw[lR,lR,<- cK,aA,aA,KY,oO,eP,bO];exact⟨by omega,h _ (OF hy t)⟩
   exact⟨_,rfl,_,rfl,_,rfl,_,rfl,fin _ hnb⟩
  ·try unfold kC
   dsimp only;refine eA (λd=>∃k:Nat,d=.int (k:Int)/\1<=k/\k<=8) (λq hq=>⟨_,rfl,ns,8,rfl,hl,by decide,by decide,λr h0 h1=>hq _ ⟨(1+r).toNat,by rw[eM (by omega)],by omega,by omega⟩⟩) ?_;rintro _ ⟨k,rfl,hk1,hk8⟩;refine eA (λd=>∃t:Nat,d=.int (t:Int)/\t<k) (λq hq=>⟨_,rfl,_,rfl,ns,(k:Int),rfl,hl,by omega,by omega,λr h0 h1=>hq _ ⟨r.toNat,by rw[eM h0],by omega⟩⟩) ?_;rintro _ ⟨t,rfl,htk⟩;refine eA (λd=>∃s:Nat,d=.int (s:Int)) (λq hq=>⟨_,rfl,ns,26,rfl,hl,by decide,by decide,λr h0 _=>hq _ ((nat r h0).imp λ_ e=>e.1)⟩) ?_;rintro _ ⟨s,rfl⟩;refine iQ (ts:=fC m) (λR h=>⟨_,rfl,(m:Int),rfl,by omega,by omega,by simpa using h⟩) (λx=>match x with | .int j=>.str (wZ z t k (O8 ((s+j.toNat)%26))) | _=>.none) (by rw[mV];omega) (λx q hx hq=>?_) ?_
   ·obtain⟨j,hj,rfl⟩:=bA.mp hx;have e:((s:Int)+(j:Int))%26=(((s+j)%26:Nat):Int):=by omega
    have hc:=AK (i:=(s+j)%26) (xX _ (by decide));have hca:L2.atI iD.cps.toList (((s:Int)+(j:Int))%26)=some (O8 ((s+j)%26)):=by rw[e];exact L2.gQ hc
    obtain⟨w1,w2⟩:=JM z hz8 t k (O8 ((s+j)%26));exact⟨_,rfl,_,rfl,hz,_,rfl,_,rfl,_,rfl,(show(0:Int)<26 by decide),by decide,_,hca,w1,_,rfl,_,rfl,_,rfl,hz,w2,hq⟩
   ·unfold fC;rw[bG];have:=h _ (OE hz8 hzl (k:=k) (t:=t) (s:=s) (m:=m) hk8 htk (by omega));rw[bG]at this;exact this
def aIj
  (F_38:bU P w K mg base eG 1 a_38 f_38 ["_law_tape_here","_law_many"] (bJ K GV))
  (F_39:bU P w K mg base eG 2 a_39 f_39 ["_law_tape_here","_law_many"] (bJ K aAg)):bU P w K mg base eG 3 a_40 f_40 ["_law_tape_here","_law_fields","_law_values"] (bJ K aAf):=by
 refine tZ T.D_40.F aA7 (λds Q h=>by obtain⟨ns,f,v,rfl,hl,hf1,hf5,hv2,hv5,h⟩:=h;rfl) λcdv Ar outer s H E hr ds Q h=>?_;obtain⟨ns,f,v,rfl,hl,hf1,hf5,hv2,hv5,h⟩:=h;have nd:=aA7.nd;refine⟨_,(bC (ss 3 nd (dD dG jF aQ (cd F_38 T.D_38 hr (aB (aJ 0) (aB (aJ 1) aO)))))
 (bC (ss 4 nd (cd F_39 T.D_39 hr (aB (aJ 0) (aB (aJ 3) aO))))
 (bC (so 5 nd aO)
 (bC (sf (sJ (aB (aJ 3) aO) (λh=>pU rfl T.b_range h)) (eN (pn 6 nd))
 (bC (ss 7 nd (dD dG jF aQ (cd F_38 T.D_38 hr (aB (aJ 0) (aB (dD sE HB (aJ 2) aQ) aO)))))
 (bC (ss 8 nd (aJ 4))
 (bC (jP (rQ (AS (eQ BH rL (aJ 7) (aJ 3)) (xA (eQ BH rL (cd F_38 T.D_38 hr (aB (aJ 0) (aB aQ aO))) aQ))))
 (cA (ss 8 nd (cd F_39 T.D_39 hr (aB (aJ 0) (aB (aJ 7) aO)))))
 gZ)
 (cA (EU (i:=5) (pv 5) (gG (aB (cG bM dP (aJ 4) (aJ 6)) (aB (cY AJ (aB (iL lK tY (aJ 8) kZ (iO (aJ 7))) aO) mY T.b_tuple nE) aO))) (pb:=λh=>kJ (mI cI gW gU mU (pv 5) h))))))))
 (rR 5 (cA (dO (gG (aB (cY AJ (aB (aJ 5) aO) mY T.b_tuple nE) (aB (cY AJ (aB (cd F_39 T.D_39 hr (aB (aJ 0) (aB (dD dG jF aQ (cd F_38 T.D_38 hr (aB (aJ 0) (aB aQ aO)))) aO))) aO) mY T.b_tuple nE) aO)))))))))),?_⟩
 show jA _ _ _ [.val (iH ns),.val (.int f),.val (.int v),.un,.un,.un,.un,.un,.un];refine eA (λd=>∃m:Nat,d=.int (m:Int)/\1<=m/\m<=f) (λq hq=>⟨_,rfl,_,rfl,ns,(f:Int),rfl,hl,by omega,by omega,λr h0 h1=>hq _ ⟨(1+r).toNat,by rw[eM (by omega)],by omega,by omega⟩⟩) ?_;rintro _ ⟨m,rfl,hm1,hmf⟩;refine eA (λd=>∃ys,EI m ys/\d=.list (ys.map aP)) (λq hq=>⟨_,rfl,_,rfl,ns,m,rfl,hl,hm1,by omega,λys hy=>hq _ ⟨ys,hy,rfl⟩⟩) ?_;rintro _ ⟨ys,hy,rfl⟩;refine tE [] (by decide) (λq hq=>hq) ?_
 refine pE (ts:=fC m) (λR h=>⟨_,rfl,(m:Int),rfl,by omega,by omega,by simpa using h⟩)
  (λj σ=>∃(fs:List (Str×List Str))(s6 s7 s8:Sl),σ=[.val (iH ns),.val (.int f),.val (.int v),.val (.int m),.val (.list (ys.map aP)),.own (fs.map jZ),s6,s7,s8]/\fs.map (·.1)=ys.take j/\∀x∈fs,2<=x.2.length/\x.2.length<=v/\EI x.2.length x.2) ⟨[],_,_,_,rfl,by simp,λx hx=>by simp at hx⟩ (λj x σ' hx hP=>?_) λσ' hP=>?_
 ·obtain⟨hj,rfl⟩:=BY hx;obtain⟨fs,s6,s7,s8,rfl,hfn,hfv⟩:=hP;have hjy:j<ys.length:=by rw[hy.1];exact hj
  have hfl:fs.length<=j:=by
   have:=congrArg kF hfn;rw[aA,bO]at this;omega
  refine eA (λd=>∃k:Nat,d=.int (k:Int)/\2<=k/\k<=v) (λq hq=>⟨_,rfl,_,rfl,ns,(v:Int)-1,rfl,hl,by omega,by omega,λr h0 h1=>hq _ ⟨(2+r).toNat,by rw[eM (by omega)],by omega,by omega⟩⟩) ?_;rintro _ ⟨k,rfl,hk2,hkv⟩;refine dB (.list (ys.map aP)) (λq hq=>⟨_,rfl,hq⟩) ?_
  have fin:∀(ws:List Str)(n:Nat),EI n ws->k<=n->∃(fs':List (Str×List Str)),fs'.map (·.1)=ys.take (j+1)/\(∀x∈fs',2<=x.2.length/\x.2.length<=v/\EI x.2.length x.2)/\fs'.map jZ=fs.map jZ++[jZ (ys[j],ws.take k)]:=λws n hw hkn=>by
   have hk:=OG hw hkn;refine⟨fs++[(ys[j],ws.take k)],?_,λx hx=>?_,by rw[cK];rfl⟩
   ·rw[cK,hfn,cW,aE hjy];rfl
   ·rcases dL.mp hx with hx | hx
    ·exact hfv x hx
    ·rw[bF.mp hx];show 2<=(ws.take k).length/\(ws.take k).length<=v/\EI (ws.take k).length (ws.take k);rw[hk.1];exact⟨hk2,hkv,hk⟩
  have hya:L2.atI (ys.map aP) (j:Int)=some (.str ys[j]):=V3 hjy;refine hU (λb=>b=false->k<=m) (λq hq=>?_) (λ_=>?_) λhF=>?_
  ·refine⟨_,rfl,_,rfl,?_⟩;show(if decide ((k:Int)>(m:Int))=true then _ else _);by_cases e:(k:Int)>(m:Int)
   ·rw[if_pos (decide_eq_true e)];exact hq _ λz=>by cases z
   ·rw[if_neg (by simpa using e)];exact⟨_,rfl,ns,4,rfl,hl,by decide,by decide,λr _ _=>hq _ λ_=>by omega⟩
  ·refine⟨_,rfl,_,rfl,ns,k,rfl,hl,by omega,by omega,λws hw=>?_⟩;obtain⟨fs',h1,h2,h3⟩:=fin ws k hw (aM _);refine wE (ts:=fs.map jZ) (jZ (ys[j],ws.take k)) rfl (by rw[aA];omega) (λq hq=>⟨_,rfl,_,rfl,_,hya,_,rfl,_,rfl,?_⟩) ⟨fs',_,_,_,by rw[h3];rfl,h1,h2⟩;show _/\q (.tuple [.str ys[j],.tuple (kW (ws.map aP) none (some (k:Int)))]);rw[lR,oO];exact⟨(aD rfl),hq⟩
  ·unfold kC;dsimp only;obtain⟨fs',h1,h2,h3⟩:=fin ys m hy (hF rfl);refine wE (ts:=fs.map jZ) (jZ (ys[j],ys.take k)) rfl (by rw[aA];omega) (λq hq=>⟨_,rfl,_,rfl,_,hya,_,rfl,_,rfl,?_⟩) ⟨fs',_,_,_,by rw[h3];rfl,h1,h2⟩;show _/\q (.tuple [.str ys[j],.tuple (kW (ys.map aP) none (some (k:Int)))]);rw[lR,oO];exact⟨(aD rfl),hq⟩
 ·obtain⟨fs,s6,s7,s8,rfl,hfn,hfv⟩:=hP;rw[mV,fJ (by rw[hy.1];exact aM _)]at hfn
  have hfl:fs.length=m:=by
   have:=congrArg kF hfn;rw[aA,hy.1]at this;exact this
  refine⟨_,rfl,_,rfl,_,rfl,_,rfl,ns,3,rfl,hl,by decide,by decide,λr h0 h1=>⟨ns,(2+r).toNat,by rw[eM (by omega)],hl,by omega,by omega,λan ha=>⟨(aD rfl),?_⟩⟩⟩;have hal:=ha.1;refine h fs an ⟨by omega,by omega,by rw[hfn,hfl];exact hy,λx hx=>?_,by omega,by omega,by rw[hal];exact ha,by omega⟩ (by omega) λx hx=>(hfv x hx).2.1;obtain⟨x1,x2,x3⟩:=hfv x hx;exact⟨x1,by omega,x3⟩
def aIw:bU P w K mg base eG 1 a_27 f_27 ["question","field"] (bJ K aAm):=by
 refine tZ T.D_27.F aBk (λds Q h=>by obtain⟨k,n,v,f,rfl,hn,hv,hl,h⟩:=h;rfl) λcdv Ar outer s H E hr ds Q h=>?_;obtain⟨k,n,v,f,rfl,hn,hv,hl,h⟩:=h;have nd:=aBk.nd;refine⟨_,(bC (jP (eQ lV pW (cG bM dP (aJ 0) aQ) eU)
 (cA (dO (gG (aB (cG bM dP (aJ 0) aQ) aO))))
 gZ)
 (cA (dO (iL lK tY (cG bM dP (aJ 1) aQ) kZ (iO (dD dG jF (B7 (cG bM dP (aJ 1) aQ) (aB (cG bM dP (aJ 0) aQ) aO) (λh ha=>mI pO pN pM (BN hr) h ha)) aQ)))))),?_⟩
 show jA _ _ _ [.val (.tuple [.str k,.str n,.str v]),.val (jZ f)];unfold BZ at h;refine hU (λb=>b=decide (k="is")) (λq hq=>⟨_,rfl,_,rfl,hq _ rfl⟩) (λhT=>?_) λhF=>?_
 ·rw[if_pos (of_decide_eq_true hT.symm)]at h;exact⟨_,rfl,_,rfl,aD rfl,h⟩
 ·try unfold kC
  dsimp only;rw[if_neg (of_decide_eq_false hF.symm)]at h;refine⟨_,rfl,_,rfl,_,rfl,_,rfl,_,rfl,_,rfl,_,rfl,_,_,rfl,pV hn hv,?_⟩;show Q (.tuple (kW (f.2.map aP) none (some ((f.2.idxOf v:Int)+1))));have e:((f.2.idxOf v:Nat):Int)+1=((f.2.idxOf v+1:Nat):Int):=rfl;rw[e,lR,oO];exact h
def aIy:bU P w K mg base eG 1 a_25 f_25 ["form","question"] (bJ K aAo):=by
 refine tZ T.D_25.F aBm (λds Q h=>by obtain⟨fs,an,k,n,v,f0,j,rfl,F,hj,hfn,h⟩:=h;rfl) λcdv Ar outer s H E hr ds Q h=>?_;obtain⟨fs,an,k,n,v,f0,j,rfl,F,hj,hfn,h⟩:=h;have nd:=aBm.nd;refine⟨_,(cA (dO (tO (el (fr:=[none]) (N':=["field"]) (fZ (cG bM dP (aJ 0) aQ)) (λb=>⟨(eN (pk 0)),iG,(cG bM dP (aJ 0) aQ)⟩)) (aB (cG bM dP (aJ 1) aQ) aO) (λh ha=>mI cI lX lW (tJ hr) h ha)))),?_⟩;have n5:=F.n5;have hjl:=(aH.mp hj).1;have ej:(fs.map (·.1)).idxOf n=j:=by rw[<- hfn];exact zY F hj
 have hnm:n∈fs.map (·.1):=bA.mpr ⟨f0,aZ hj,hfn⟩;show AG _ _ _ Q;dsimp only[AG];refine iQ (ts:=fs.map jZ) (λR h=>⟨_,rfl,_,rfl,_,rfl,h⟩) fst (by rw[aA];omega) (λx q hx hq=>?_) ?_
 ·obtain⟨f,hf,rfl⟩:=bA.mp hx;exact⟨_,rfl,_,rfl,hq⟩
 ·have e:(fs.map jZ).map fst=(fs.map (·.1)).map aP:=by rw[bG,bG];rfl
  rw[e];have:=pV F.nd.2.1 hnm;rw[ej]at this;exact⟨_,rfl,_,rfl,_,rfl,_,j,rfl,this,by omega,h⟩
def aIx
  (F_27:bU P w K mg base eG 1 a_27 f_27 ["question","field"] (bJ K aAm)):bU P w K mg base eG 2 a_26 f_26 ["question","stray","field"] (bJ K aAn):=by
 refine tZ T.D_26.F aBl (λds Q h=>by obtain⟨k,n,v,st,f,rfl,hn,hv,hl,h⟩:=h;rfl) λcdv Ar outer s H E hr ds Q h=>?_;obtain⟨k,n,v,st,f,rfl,hn,hv,hl,h⟩:=h;have nd:=aBl.nd;refine⟨_,(cA (dO (dD dG jF (cd F_27 T.D_27 hr (aB (aJ 0) (aB (aJ 2) aO))) (D3 (eQ lV pW (aJ 1) eU) (gG (aB qW aO)) (gG aO))))),?_⟩;have hhl:=UY (k:=k) (v:=v) hl;refine⟨_,rfl,_,rfl,k,n,v,f,rfl,hn,hv,hl,_,rfl,?_⟩;unfold uC at h;show(if decide (st="yes")=true then _ else _);by_cases e:st="yes"
 ·rw[if_pos (decide_eq_true e)];rw[if_pos e]at h;exact⟨aD rfl,by rw[aA];show _+1<=_;omega,h⟩
 ·rw[if_neg (by simpa using e)];rw[if_neg e]at h;exact⟨aD rfl,by rw[aA];show _+0<=_;omega,h⟩
def aIz
  (F_26:bU P w K mg base eG 2 a_26 f_26 ["question","stray","field"] (bJ K aAn))
  (F_25:bU P w K mg base eG 1 a_25 f_25 ["form","question"] (bJ K aAo)):bU P w K mg base eG 3 a_24 f_24 ["form","question","stray","case"] (bJ K aAp):=by
 refine tZ T.D_24.F aBn (λds Q h=>by obtain⟨fs,an,k,n,v,st,cs,rfl,F,hq,hst,hc,h⟩:=h;rfl) λcdv Ar outer s H E hr ds Q h=>?_;obtain⟨fs,an,k,n,v,st,cs,rfl,F,hq,hst,hc,h⟩:=h;have nd:=aBn.nd;refine⟨_,(bC (ss 4 nd (cd F_25 T.D_25 hr (aB (aJ 0) (aB (aJ 1) aO))))
 (cA (dO (D3 (eQ (J5 hr) TK (cG bM dP (aJ 3) (aJ 4)) (cd F_26 T.D_26 hr (aB (aJ 1) (aB (aJ 2) (aB (cG bM dP (cG bM dP (aJ 0) aQ) (aJ 4)) aO))))) eU eU)))),?_⟩
 show jA _ _ _ [.val (fD fs an),.val (.tuple [.str k,.str n,.str v]),.val (.str st),.val (.tuple cs),.un];obtain⟨hcl,hcv⟩:=nD hc;obtain⟨f0,hf0,hfn,hv0,hk0⟩:=wI hq;obtain⟨j,hj⟩:=cD hf0;have hjl:=(aH.mp hj).1;have hcj:cs[j]?=some cs[j]:=aE (by omega)
 generalize hcc:cs[j]=c at hcj
 have hca:L2.atI cs (j:Int)=some c:=L2.gQ hcj;have hfa:L2.atI (fs.map jZ) (j:Int)=some (jZ f0):=L2.gQ (by rw[aK,hj];rfl);have hok:=hcv j f0 c hj hcj;rw[A1 F hj hcj hfn]at h
 have hcd:Cd c:=by
  cases c with
  |none=>exact(ES (n:=8) (m:=0)).cd (by decide)
  |str z=>exact(jM (F.vals hf0 z (of_decide_eq_true hok)) (n:=8) (m:=0) (aM _)).cd (by decide)
  |_=>cases hok
 refine dB (.int (j:Int)) (λq hq=>⟨_,rfl,_,rfl,fs,an,k,n,v,f0,j,rfl,F,hj,hfn,hq⟩) ?_;refine⟨_,rfl,_,rfl,_,hca,_,rfl,_,rfl,_,rfl,_,rfl,_,rfl,_,hfa,k,n,v,st,f0,rfl,F.vals hf0,hv0,(F.vs f0 hf0).2.1,B4 (TH (F.vals hf0) hv0 hcd) ?_⟩;rw[<- UU hst hok]at h;show(if OU c (.tuple (uC k v st f0))=true then _ else _)
 cases hb:OU c (.tuple (uC k v st f0))with
 |true=>rw[if_pos rfl];rw[hb,if_pos rfl]at h;exact h
 |false=>rw[if_neg (by decide)];rw[hb,if_neg (by decide)]at h;exact h
def aIu:bU P w K mg base eG 1 a_29 f_29 ["side","sides"] (iP K aAl):=by
 refine fnF T.D_29.F aBi (λds Q h=>by obtain⟨w,ss,rfl,hl,h⟩:=h;rfl) λcdv Ar outer s H E hr ds Q h=>?_;obtain⟨w,ss,rfl,hl,h⟩:=h;have nd:=aBi.nd;refine⟨_,(cA (vY (fl (fr:=[none,none,some 0]) (N':=["number","found","side"]) (YY (aB (aJ 1) aO) (λh=>X8 rfl T.b_enumerate h)) (λb=>⟨(tM (sC rfl (gR (pk 0) (gR (pk 1) pF)))),(FI (eQ lV pW (aJ 1) (aJ 2))),(aJ 0)⟩)))),?_⟩;rw[<- IA]at h;refine U7 (UF (ts:=yI (ss.map aP)) (λR h=>⟨_,rfl,_,rfl,h⟩) (onW w) aFq (by rw[qA,aA];omega) (λx hx=>?_) (λa b q hm hq=>?_) (λa b q hm hq=>?_) h)
 ·rw[D5]at hx;obtain⟨y,_,rfl⟩:=bA.mp hx;exact⟨_,_,rfl⟩
 ·obtain⟨i,hi⟩:=cD hm;have hil:=(aH.mp hi).1;rw[qA,aA]at hil;rw[xS (a:=.str ss[i]) (by rw[aK,aE hil];rfl)]at hi;cases hi;exact⟨_,rfl,_,rfl,hq⟩
 ·exact⟨_,rfl,hq⟩
def aIv
  (F_29:bU P w K mg base eG 1 a_29 f_29 ["side","sides"] (iP K aAl))
  (F_24:bU P w K mg base eG 3 a_24 f_24 ["form","question","stray","case"] (bJ K aAp)):bU P w K mg base eG 4 a_28 f_28 ["form","question","stray","rows"] (oC K LV):=by
 refine fnP T.D_28.F aBj (λds Q h=>by obtain⟨fs,an,k,n,v,st,rs,rfl,F,hq,hst,hok,hrl,h⟩:=h;rfl) λcdv Ar outer s H E hr ds Q h=>?_;obtain⟨fs,an,k,n,v,st,rs,rfl,F,hq,hst,hok,hrl,h⟩:=h;have nd:=aBj.nd;refine⟨_,(bC (mZ (i:=4) (fr:=[none,some 0,some 1,some 2]) (N':=["row","form","question","stray"]) (fZ (aJ 3)) (λb=>⟨(eN (pk 0)),iG,(cd F_24 T.D_24 hr (aB (aJ 1) (aB (aJ 2) (aB (aJ 3) (aB (cG bM dP (aJ 0) aQ) aO)))))⟩) (λhi hY=>lU (show pG _ (aY (top 33)) ["form","question","stray","rows","sides"] ["row","form","question","stray"] [none,some 0,some 1,some 2]=true from by decide +kernel) nd rfl (by first | exact Or.inl rfl | exact Or.inr rfl) rfl hi hY rfl))
 (cA (GR (cF F_29 T.D_29 hr (aB eU (aB (aJ 4) aO))) (cF F_29 T.D_29 hr (aB eU (aB (aJ 4) aO)))))),?_⟩
 show jA _ _ _ [.val (fD fs an),.val (.tuple [.str k,.str n,.str v]),.val (.str st),.val (.list (rs.map cS)),.un];have e:(rs.map cS).map (sdD fs k n v st)=(rs.map λr=>jD fs k n v st r.1).map aP:=by rw[bG,bG];rfl
 refine dB (.list ((rs.map λr=>jD fs k n v st r.1).map aP)) (λq hq'=>?_) ?_
 ·refine iQ (ts:=rs.map cS) (λR h=>⟨_,rfl,_,rfl,h⟩) (sdD fs k n v st) (by rw[aA];omega) (λx q hx hq'=>?_) ?_
  ·obtain⟨r,hr,rfl⟩:=bA.mp hx;exact⟨_,rfl,_,rfl,_,rfl,_,rfl,_,rfl,fs,an,k,n,v,st,r.1,rfl,F,hq,hst,(hok r hr).1,hq'⟩
  ·rw[e];exact hq'
 rw[<- LX,<- LX]at h;exact⟨_,rfl,"yes",_,rfl,by rw[aA];exact hrl,_,rfl,"no",_,rfl,by rw[aA];exact hrl,h⟩
def aJa:bU P w K mg base eG 1 a_13 f_13 ["form","rows"] (iP K RW):=by
 refine fnF T.D_13.F aBy (λds Q h=>by obtain⟨fs,an,rs,rfl,F,hok,hrl,h⟩:=h;rfl) λcdv Ar outer s H E hr ds Q h=>?_;obtain⟨fs,an,rs,rfl,F,hok,hrl,h⟩:=h;have nd:=aBy.nd;refine⟨_,(bC (ss 2 nd (el (fr:=[none]) (N':=["row"]) (fZ (aJ 1)) (λb=>⟨(eN (pk 0)),iG,(cG bM dP (aJ 0) aQ)⟩)))
 (cA (vY (fl (fr:=[none,some 2]) (N':=["answer","told"]) (fZ (cG bM dP (aJ 0) aQ)) (λb=>⟨(eN (pk 0)),iG,(OZ (aJ 1) (aB (aJ 0) aO) (λh ha=>mI cI PySem.F.slot_list_count PySem.F.type_list_count (OH hr) h ha))⟩))))),?_⟩
 show jA _ _ _ [.val (fD fs an),.val (.list (rs.map cS)),.un];have a4:=F.a4;refine dB (.list (rs.map λr=>aP r.2)) (λq hq=>?_) ?_
 ·refine iQ (ts:=rs.map cS) (λR h=>⟨_,rfl,_,rfl,h⟩) aD9 (by rw[aA];omega) (λx q hx hq=>?_) ?_
  ·obtain⟨r,hr,rfl⟩:=bA.mp hx;exact⟨_,rfl,_,rfl,hq⟩
  ·rw[bG];exact hq
 have ll:=UI (ys:=rs.map λr=>r.2) λy hy=>by
  obtain⟨r,hr,rfl⟩:=bA.mp hy;exact F.an.2.1 _ (hok r hr).2
 rw[bG]at ll;refine U7 (iQ (ts:=an.map aP) (λR h=>⟨_,rfl,_,rfl,_,rfl,h⟩) (ZJ rs) (by rw[aA];omega) (λx q hx hq=>?_) ?_)
 ·obtain⟨a,ha,rfl⟩:=bA.mp hx;have hA:=jM (F.an.2.1 a ha) (n:=8) (m:=0) (aM _);refine⟨_,rfl,_,rfl,_,rfl,_,rfl,⟨ll.1,hA.lay,by have:=hA.depth;omega⟩,?_⟩;rw[JQ];exact hq
 ·show Q _
  have e:(an.map aP).map (ZJ rs)=(hZ an rs).map bI:=by
   unfold hZ;rw[bG,bG];rfl
  rw[e];exact h
def aI9
  (F_13:bU P w K mg base eG 1 a_13 f_13 ["form","rows"] (iP K RW)):bU P w K mg base eG 2 a_14 f_14 ["form","rows"] (bJ K RV):=by
 refine tZ T.D_14.F aBx (λds Q h=>by obtain⟨fs,an,rs,rfl,F,hok,hrl,h⟩:=h;rfl) λcdv Ar outer s H E hr ds Q h=>?_;obtain⟨fs,an,rs,rfl,F,hok,hrl,h⟩:=h;have nd:=aBx.nd;refine⟨_,(bC (ss 2 nd (HX (cF F_13 T.D_13 hr (aB (aJ 0) (aB (aJ 1) aO)))))
 (cA (dO (cG bM dP (cG bM dP (aJ 0) aQ) (tO (aJ 2) (aB (cB aC0 (aB (aJ 2) aO) (uH rfl) T.b_max VW) aO) (λh ha=>mI cI lX lW (tJ hr) h ha)))))),?_⟩
 show jA _ _ _ [.val (fD fs an),.val (.list (rs.map cS)),.un];have a2:=F.a2;refine dB (.list ((hZ an rs).map bI)) (λq hq=>⟨_,rfl,_,rfl,fs,an,rs,rfl,F,hok,hrl,hq⟩) ?_
 have hne:hZ an rs≠[]:=λz=>by
  have:=congrArg kF z;unfold hZ at this;rw[aA]at this;simp at this;rw[this]at a2;simp at a2
 refine⟨_,rfl,_,rfl,_,rfl,_,rfl,_,rfl,_,rfl,hne,λm hm hmax=>?_⟩;obtain⟨j,hj,hno⟩:=B3 (hZ an rs) m hm;have hjl:=(aH.mp hj).1;have hal:(hZ an rs).length=an.length:=by unfold hZ;rw[aA]
 have a4:=F.a4;have haj:an[j]?=some an[j]:=aE (by omega);have hcj:(hZ an rs)[j]?=some ((vD rs an[j]:Nat):Int):=by unfold hZ;rw[aK,haj];rfl
 rw[hj]at hcj;have em:m=((vD rs an[j]:Nat):Int):=Option.some.inj hcj;refine⟨_,j,rfl,DQ hj hno,by omega,_,L2.gQ (by rw[aK,haj];rfl),h _ ⟨j,haj,λi b hb=>?_,λi b hi hb=>?_⟩⟩
 ·have:=hmax ((vD rs b:Nat):Int) (aZ (i:=i) (by unfold hZ;rw[aK,hb];rfl));omega
 ·have hcb:(hZ an rs)[i]?=some ((vD rs b:Nat):Int):=by unfold hZ;rw[aK,hb];rfl
  have h1:=hmax _ (aZ hcb);have h2:((vD rs b:Nat):Int)≠m:=λz=>hno i hi (by rw[hcb,z]);omega
def aI6:bU P w K mg base eG 1 a_17 f_17 ["one","other"] (bJ K RT):=by
 refine tZ T.D_17.F aBu (λds Q h=>by obtain⟨a,b,rfl,h⟩:=h;rfl) λcdv Ar outer s H E hr ds Q h=>?_;obtain⟨a,b,rfl,h⟩:=h;have nd:=aBu.nd;refine⟨_,(bC (RG (eQ BH rL (aJ 1) aQ)
 (bC (ss 2 nd (dD nL GF (aJ 0) (aJ 1)))
 (bC (ss 0 nd (aJ 1))
 (cA (ss 1 nd (aJ 2))))) (λhc hb=>SN PassesOwn.never hc hb))
 (cA (dO (aJ 0)))),?_⟩
 show jA _ _ _ [.val (.int a),.val (.int b),.un];refine NZ (λy σ=>∃(x:Nat)(s2:Sl),σ=[.val (.int x),.val (.int y),s2]/\x.gcd y=a.gcd b) b ⟨a,_,rfl,rfl⟩ λy σ' hP=>?_;obtain⟨x,s2,rfl,hg⟩:=hP;refine⟨decide (0<y),λq hq=>⟨_,rfl,?_⟩,?_⟩
 ·show q (decide ((y:Int)>0));have:decide ((y:Int)>0)=decide (0<y):=by rw[decide_eq_decide];omega
  rw[this];exact hq
 by_cases hy:0<y
 ·rw[if_pos (decide_eq_true hy)];refine dB (.int ((x%y:Nat):Int)) (λq hq=>⟨_,rfl,_,rfl,(show(0:Int)<(y:Int) by omega),?_⟩) ?_
  ·rw[<- Int.natCast_emod];exact hq
  refine dB (.int y) (λq hq=>⟨_,rfl,hq⟩) ?_;refine tH (.int ((x%y:Nat):Int)) (λq hq=>⟨_,rfl,hq⟩) ⟨x%y,xX _ hy,y,_,rfl,?_⟩;rw[<- hg,aKr x y,Nat.gcd_rec y x,aKr]
 ·rw[if_neg (by simpa using hy)];have hy0:y=0:=by omega
  subst hy0;rw[Nat.gcd_zero_right]at hg;subst hg;exact⟨_,rfl,h⟩
def aI7
  (F_17:bU P w K mg base eG 1 a_17 f_17 ["one","other"] (bJ K RT)):bU P w K mg base eG 2 a_16 f_16 ["top","bottom"] (bJ K LW):=by
 refine tZ T.D_16.F aBv (λds Q h=>by obtain⟨a,b,rfl,hb,ha2,hb2,h⟩:=h;rfl) λcdv Ar outer s H E hr ds Q h=>?_;obtain⟨a,b,rfl,hb,ha2,hb2,h⟩:=h;have nd:=aBv.nd;refine⟨_,(bC (ss 2 nd (cd F_17 T.D_17 hr (aB (aJ 0) (aB (aJ 1) aO))))
 (cA (dO (gG (aB (dD G9 GF (aJ 0) (aJ 2)) (aB (dD G9 GF (aJ 1) (aJ 2)) aO)))))),?_⟩
 show jA _ _ _ [.val (.int a),.val (.int b),.un];refine dB (.int ((a.gcd b:Nat):Int)) (λq hq=>⟨_,rfl,_,rfl,a,b,rfl,hq⟩) ?_;have hgp:0<a.gcd b:=rE _ hb;have hgl:a.gcd b<=b:=Nat.gcd_le_right _ hb
 have hd:(0:Int)<((a.gcd b:Nat):Int)/\((a.gcd b:Nat):Int)<2^200:=⟨by omega,by
  have:(a.gcd b)<2^190:=pQ hgl hb2;have h2:(2^190:Nat)<=2^200:=oG (by decide) (by decide)
  exact_mod_cast bR this h2⟩
 refine⟨_,rfl,_,rfl,hd,_,rfl,_,rfl,hd,aD rfl,?_⟩;show Q (.tuple [.int ((a:Int) / ((a.gcd b:Nat):Int)),.int ((b:Int) / ((a.gcd b:Nat):Int))]);rw[<- rO,<- rO];exact h
def aI8
  (F_13:bU P w K mg base eG 1 a_13 f_13 ["form","rows"] (iP K RW))
  (F_16:bU P w K mg base eG 2 a_16 f_16 ["top","bottom"] (bJ K LW)):bU P w K mg base eG 3 a_15 f_15 ["form","rows"] (bJ K RU):=by
 refine tZ T.D_15.F aBw (λds Q h=>by obtain⟨fs,an,rs,rfl,F,hok,hrl,h⟩:=h;rfl) λcdv Ar outer s H E hr ds Q h=>?_;obtain⟨fs,an,rs,rfl,F,hok,hrl,h⟩:=h;have nd:=aBw.nd;refine⟨_,(bC (ss 2 nd (cB jG (aB (aJ 1) aO) cJ T.b_len gA))
 (bC (jP (eQ lV pW (aJ 2) aQ)
 (cA (dO (gG (aB aQ (aB aQ aO)))))
 gZ)
 (cA (dO (cd F_16 T.D_16 hr (aB (cB aCz (aB (el (fr:=[none,some 2]) (N':=["count","many"]) (fZ (HX (cF F_13 T.D_13 hr (aB (aJ 0) (aB (aJ 1) aO))))) (λb=>⟨(eN (pk 0)),iG,(dD fF mK (aJ 0) (dD sE HB (aJ 1) (aJ 0)))⟩)) aO) (uG rfl) T.b_sum VV) (aB (aJ 2) aO))))))),?_⟩
 show jA _ _ _ [.val (fD fs an),.val (.list (rs.map cS)),.un];have a4:=F.a4;refine dB (.int (rs.length:Int)) (λq hq=>⟨_,rfl,?_⟩) ?_
 ·show q (.int ((rs.map cS).length:Int));rw[aA];exact hq
 refine hU (λb=>b=decide ((rs.length:Int)=0)) (λq hq=>⟨_,rfl,hq _ rfl⟩) (λhT=>?_) λhF=>?_
 ·have h0:rs.length=0:=by have:=of_decide_eq_true hT.symm;omega
  have:rs=[]:=rG.mp h0;subst this
  have e01:UC (yV [] []) (max 1 ([]:List Rw).length)=.tuple [.int 0,.int 1]:=by
   show UC 0 1=_;unfold UC;rw[Nat.gcd_zero_left];rfl
  rw[e01]at h;exact⟨aD rfl,h⟩
 ·try unfold kC
  dsimp only;have h0:¬rs.length=0:=λz=>by have:=of_decide_eq_false hF.symm;omega
  have em:max 1 rs.length=rs.length:=by omega
  rw[em]at h;have hpl:=JX rs rs;have hp2:rs.length*rs.length<=60*60:=lN hrl hrl;have hal:(hZ an rs).length=an.length:=by unfold hZ;rw[aA]
  have hcn:∀c∈hZ an rs,0<=c/\c<=(rs.length:Int):=λc hc=>by
   unfold hZ at hc;obtain⟨a,_,rfl⟩:=bA.mp hc;have:=VP rs a;omega
  show nX LW _ _ Q;dsimp only[nX,yM,IR];refine iQ (ts:=(hZ an rs).map bI) (λR h=>⟨_,rfl,_,rfl,fs,an,rs,rfl,F,hok,hrl,_,rfl,h⟩) (aCd rs.length) (by rw[aA,hal];omega) (λx q hx hq=>?_) ?_
  ·obtain⟨c,hc,rfl⟩:=bA.mp hx;have:=hcn c hc;exact⟨_,rfl,_,rfl,_,rfl,.inl ⟨by omega,by omega⟩,hq⟩
  ·have e:((hZ an rs).map bI).map (aCd rs.length)=((hZ an rs).map λc=>c*((rs.length:Int)-c)).map bI:=by
    rw[bG,bG];rfl
   rw[e];refine⟨_,rfl,λn hn=>?_,by rw[aA,hal];omega,?_⟩
   ·obtain⟨c,hc,rfl⟩:=bA.mp hn;have:=hcn c hc;have h1:0<=c*((rs.length:Int)-c):=aGg (by omega) (by omega);have h2:c*((rs.length:Int)-c)<=60*60:=aGh (by omega) (by omega) (by omega) (by decide);omega
   ·rw[L8 F.an.2.2 λr hr=>(hok r hr).2];exact⟨_,rfl,_,_,rfl,by omega,pQ (show yV rs rs<=3600 by omega) (by decide),pQ (show rs.length<=60 from hrl) (by decide),h⟩
def aIr:bU P w K mg base eG 1 a_32 f_32 ["rows","numbers"] (bJ K LU):=by
 refine tZ T.D_32.F aBf (λds Q h=>by obtain⟨fs,k,n,v,st,w,rs,rfl,hl,h⟩:=h;rfl) λcdv Ar outer s H E hr ds Q h=>?_;obtain⟨fs,k,n,v,st,w,rs,rfl,hl,h⟩:=h;have nd:=aBf.nd;refine⟨_,(cA (dO (el (fr:=[none,some 0]) (N':=["number","rows"]) (fZ (aJ 1)) (λb=>⟨(eN (pk 0)),iG,(cG bM dP (aJ 1) (aJ 0))⟩)))),?_⟩;show JS _ _ [.val (.list (rs.map cS)),.val (.list (iF fs k n v st rs w))]
 have hz:(iF fs k n v st rs w).length<=60:=by
  unfold iF;have:=cE (sG fs k n v st rs w) (fC rs.length);rw[mV]at this;omega
 refine iQ (ts:=iF fs k n v st rs w) (λR h=>⟨_,rfl,_,rfl,h⟩) (A5 rs) (by omega) (λx q hx hq=>?_) ?_
 ·obtain⟨j,hj,rfl⟩:=bA.mp (cU.mp hx).1;have hj':j<rs.length:=by simpa using hj
  have hat:L2.atI (rs.map cS) (j:Int)=some (cS rs[j]):=L2.gQ (by rw[aK,aE hj'];rfl)
  have hr:A5 rs (.int (j:Int))=cS rs[j]:=by
   show(match L2.atI rs (j:Int)with | some r=>cS r | none=>.none)=_;rw[L2.gQ (aE hj')]
  rw[hr]at hq;exact⟨_,rfl,_,rfl,_,hat,hq⟩
 ·rw[YV fs k n v st w rs.length rs rfl];exact h
def aI1:bU P w K mg base eG 1 a_22 f_22 ["field"] (iP K aAr):=by
 refine fnF T.D_22.F aBp (λds Q h=>by obtain⟨f,rfl,h2,h5,h⟩:=h;rfl) λcdv Ar outer s H E hr ds Q h=>?_;obtain⟨f,rfl,h2,h5,h⟩:=h;have nd:=aBp.nd;refine⟨_,(bC (ss 1 nd (cG bM dP (aJ 0) aQ))
 (bC (ss 2 nd (cG bM dP (aJ 0) aQ))
 (bC (ss 3 nd (D3 (eQ lV pW (cB jG (aB (aJ 2) aO) cJ T.b_len gA) aQ) (iL lK tY (aJ 2) kZ (iO aQ)) (aJ 2)))
 (bC (ss 4 nd (iL lK tY (aJ 2) (iO aQ) (iO (aFu aQ))))
 (cA (vY (aFp (el (fr:=[none,some 1]) (N':=["value","name"]) (fZ (aJ 3)) (λb=>⟨(eN (pk 0)),iG,(gG (aB eU (aB (aJ 1) (aB (aJ 0) aO))))⟩)) (el (fr:=[none,some 1]) (N':=["value","name"]) (fZ (aJ 4)) (λb=>⟨(eN (pk 0)),iG,(gG (aB eU (aB (aJ 1) (aB (aJ 0) aO))))⟩))))))))),?_⟩
 show jA _ _ _ [.val (jZ f),.un,.un,.un,.un];refine dB (.str f.1) (λq hq=>⟨_,rfl,_,rfl,hq⟩) ?_;refine dB (.tuple (f.2.map aP)) (λq hq=>⟨_,rfl,_,rfl,hq⟩) ?_;refine dB (.tuple ((BC f).map aP)) (λq hq=>⟨_,rfl,?_⟩) ?_
 ·show(if decide (((f.2.map aP).length:Int)=2)=true then _ else _);unfold BC at hq;rw[aA];by_cases e:f.2.length=2
  ·rw[if_pos (decide_eq_true (by omega))];rw[if_pos e]at hq;refine⟨_,rfl,?_⟩;show q (.tuple (kW (f.2.map aP) none (some 1)));rw[lR,ZH _ h2];exact hq
  ·rw[if_neg (by simpa using(by omega:¬(f.2.length:Int)=2))];rw[if_neg e]at hq;exact⟨_,rfl,hq⟩
 refine dB (.tuple ((tX f).map aP)) (λq hq=>⟨_,rfl,?_⟩) ?_
 ·show q (.tuple (kW (f.2.map aP) (some 1) (some (-2))));rw[lR,ZI _ h2];exact hq
 have s5:(BC f).length<=5:=by
  unfold BC;split
  ·rw[bO];omega
  ·omega
 have m5:(tX f).length<=5:=by
  unfold tX;rw[bO,eP];omega
 dsimp only[aB3,aCs];refine iQ (ts:=(BC f).map aP) (λR h=>⟨_,rfl,_,rfl,h⟩) (λx=>.tuple [.str "is",.str f.1,x]) (by rw[aA];omega) (λx q hx hq=>⟨_,rfl,_,rfl,aD rfl,hq⟩) ?_;refine iQ (ts:=(tX f).map aP) (λR h=>⟨_,rfl,_,rfl,h⟩) (λx=>.tuple [.str "upto",.str f.1,x]) (by rw[aA];omega) (λx q hx hq=>⟨_,rfl,_,rfl,aD rfl,hq⟩) ?_;refine⟨_,_,rfl,rfl,by simp only[aA];omega,?_⟩;rw[bG,bG];exact h
def aI2
  (F_22:bU P w K mg base eG 1 a_22 f_22 ["field"] (iP K aAr)):bU P w K mg base eG 2 a_21 f_21 ["form"] (iP K aAs):=by
 refine fnF T.D_21.F aBq (λds Q h=>by obtain⟨fs,an,rfl,F,h⟩:=h;rfl) λcdv Ar outer s H E hr ds Q h=>?_;obtain⟨fs,an,rfl,F,h⟩:=h;have nd:=aBq.nd;refine⟨_,(bC (so 1 nd aO)
 (bC (sf (fZ (cG bM dP (aJ 0) aQ)) (eN (pn 2 nd))
 (cA (LO (i:=1) (pv 1) (HX (cF F_22 T.D_22 hr (aB (aJ 2) aO))) (pb:=λh=>kJ (mI cI C9 C8 MG (pv 1) h)))))
 (cA (NU (pv 1))))),?_⟩
 show jA _ _ _ [.val (fD fs an),.un,.un];have n5:=F.n5;refine tE [] (by decide) (λq hq=>hq) ?_
 refine pE (ts:=fs.map jZ) (λR h=>⟨_,rfl,_,rfl,_,rfl,h⟩)
  (λk σ=>∃s2:Sl,σ=[.val (fD fs an),.own (fR (fs.take k)),s2]) ⟨_,rfl⟩ (λk x σ' hx hP=>?_) λσ' hP=>?_
 ·obtain⟨s2,rfl⟩:=hP;rw[aK]at hx;obtain⟨f,hfk,rfl⟩:=cV.mp hx;have hf:f∈fs:=aZ hfk;obtain⟨v2,v5,hvv⟩:=F.vs f hf;have hcl:=lT F (fs.take k) λg hg=>eI hg;have hkl:(fs.take k).length<=5:=by rw[bO];omega
  have hql:(GE f).length<=10:=by
   unfold GE BC tX;rw[bQ,aA,aA,bO,eP];split
   ·rw[bO];omega
   ·omega
  refine HA (ts:=fR (fs.take k)) (us:=GE f) rfl (by omega) (λq hq=>⟨_,rfl,f,rfl,v2,v5,hq⟩) ⟨.val (jZ f),?_⟩
  have e:fR (fs.take (k+1))=fR (fs.take k)++GE f:=by
   unfold fR;rw[cW,hfk,cK,PX];show _++[GE f].flatten=_;rw[JE]
  rw[e];rfl
 ·obtain⟨s2,rfl⟩:=hP;rw[aA,eO];exact⟨_,rfl,h⟩
def aI0
  (F_21:bU P w K mg base eG 2 a_21 f_21 ["form"] (iP K aAs)):bU P w K mg base eG 3 a_23 f_23 ["form"] (bJ K aAq):=by
 refine tZ T.D_23.F aBo (λds Q h=>by obtain⟨fs,an,rfl,F,h⟩:=h;rfl) λcdv Ar outer s H E hr ds Q h=>?_;obtain⟨fs,an,rfl,F,h⟩:=h;have nd:=aBo.nd;refine⟨_,(bC (so 1 nd aO)
 (bC (sf (fZ (HX (cF F_21 T.D_21 hr (aB (aJ 0) aO)))) (eN (pn 2 nd))
 (cA (LO (i:=1) (pv 1) (el (fr:=[none,some 2]) (N':=["stray","question"]) (fZ (ZC rfl T.c_SIDES T.t_SIDES)) (λb=>⟨(eN (pk 0)),iG,(gG (aB (aJ 1) (aB (aJ 0) aO)))⟩)) (pb:=λh=>kJ (mI cI C9 C8 MG (pv 1) h)))))
 (rR 1 (cA (dO (aJ 1)))))),?_⟩
 show jA _ _ _ [.val (fD fs an),.un,.un];have n5:=F.n5;have hcl:=lT F fs λg hg=>hg;have hql:(qs fs).length=(fR fs).length:=by rw[<- zS,aA]
 refine tE [] (by decide) (λq hq=>hq) ?_
 refine pE (ts:=(qs fs).map qD) (λR h=>⟨_,rfl,fs,an,rfl,F,_,rfl,by rw[<- zS];exact h⟩)
  (λk σ=>∃s2:Sl,σ=[.val (fD fs an),.own ((((qs fs).take k).flatMap oZ).map chQ),s2]) ⟨_,rfl⟩ (λk x σ' hx hP=>?_) λσ' hP=>?_
 ·obtain⟨s2,rfl⟩:=hP;rw[aK]at hx;obtain⟨q,hqk,rfl⟩:=cV.mp hx
  have hlen:((((qs fs).take k).flatMap oZ).map chQ).length=2*((qs fs).take k).length:=by
   rw[aA]
   generalize (qs fs).take k=l
   induction l with
   |nil=>rfl
   |cons x l ih=>rw[WD,bQ,ih,dH];show 2+_=_;omega
  have hk2:((qs fs).take k).length<=50:=by rw[bO];omega
  refine HA (us:=[chQ (q,"yes"),chQ (q,"no")]) rfl (by rw[hlen];show _+2<=_;omega) (λr hr=>?_) ⟨.val (qD q),?_⟩
  ·refine iQ (ts:=[.str "yes",.str "no"]) (λR h=>⟨_,rfl,h⟩) (λx=>.tuple [qD q,x]) (by decide) (λx r' hx hr'=>⟨_,rfl,_,rfl,(aD rfl),hr'⟩) hr
  ·rw[cW,hqk];show _=[_,Sl.own (((((qs fs).take k)++[q]).flatMap oZ).map chQ),_];rw[PY,cK];rfl
 ·obtain⟨s2,rfl⟩:=hP;rw[aA,eO];exact⟨_,rfl,_,rfl,h⟩
def aIt:bU P w K mg base eG 1 a_30 f_30 ["sides","fewest"] (bJ K aAk):=by
 refine tZ T.D_30.F aBh (λds Q h=>by obtain⟨as,bs,m,rfl,h⟩:=h;rfl) λcdv Ar outer s H E hr ds Q h=>?_;obtain⟨as,bs,m,rfl,h⟩:=h;have nd:=aBh.nd;refine⟨_,(cA (dO (B8 (pK DP rL (cB jG (aB (cG bM dP (aJ 0) aQ) aO) cJ T.b_len gA) (aJ 1)) (B6 (pK DP rL (cB jG (aB (cG bM dP (aJ 0) aQ) aO) cJ T.b_len gA) (aJ 1)))))),?_⟩;show JS _ _ [.val (.tuple [.list as,.list bs]),.val (.int m)];refine⟨_,rfl,_,rfl,_,rfl,?_⟩;show(if decide (m<=(as.length:Int))=true then _ else _)
 cases e:decide (m<=(as.length:Int))with
 |false=>
  rw[if_neg (by decide)];rw[e]at h;exact h
 |true=>
  rw[if_pos rfl];rw[e]at h;exact⟨_,rfl,_,rfl,_,rfl,h⟩
def aI5
  (F_16:bU P w K mg base eG 2 a_16 f_16 ["top","bottom"] (bJ K LW)):bU P w K mg base eG 3 a_18 f_18 ["one","other"] (bJ K aAv):=by
 refine tZ T.D_18.F aBt (λds Q h=>by obtain⟨x,y,rfl,hx,hy,h⟩:=h;rfl) λcdv Ar outer s H E hr ds Q h=>?_;obtain⟨x,y,rfl,hx,hy,h⟩:=h;have nd:=aBt.nd;refine⟨_,(cA (dO (cd F_16 T.D_16 hr (aB (dD dG jF (dD fF mK (cG bM dP (aJ 0) aQ) (cG bM dP (aJ 1) aQ)) (dD fF mK (cG bM dP (aJ 1) aQ) (cG bM dP (aJ 0) aQ))) (aB (dD fF mK (cG bM dP (aJ 0) aQ) (cG bM dP (aJ 1) aQ)) aO))))),?_⟩;show JS _ _ [.val (C5 x),.val (C5 y)];have x1:=hx.top;have x2:=hx.bot;have y1:=hy.top;have y2:=hy.bot;obtain⟨h1,h2,h3⟩:=LM hx hy;have big:(1000000000000:Nat)<2^190:=by decide +kernel
 have e:[bI ((x.1:Int)*(y.2:Int)+(y.1:Int)*(x.2:Int)),.int ((x.2:Int)*(y.2:Int))]=[.int ((x.1*y.2+y.1*x.2:Nat):Int),.int ((x.2*y.2:Nat):Int)]:=by
  rw[kR,fH,fH,fH]
 refine⟨_,rfl,_,rfl,_,rfl,_,rfl,.inl ⟨by omega,by omega⟩,_,rfl,_,rfl,_,rfl,_,rfl,.inl ⟨by omega,by omega⟩,_,rfl,_,rfl,_,rfl,_,rfl,.inl ⟨by omega,by omega⟩,_,_,e,h3,by omega,by omega,h⟩
def aI3
  (F_17:bU P w K mg base eG 1 a_17 f_17 ["one","other"] (bJ K RT)):bU P w K mg base eG 2 a_20 f_20 ["fractions"] (bJ K aAt):=by
 refine tZ T.D_20.F aBr (λds Q h=>by obtain⟨l,rfl,hl,h⟩:=h;rfl) λcdv Ar outer s H E hr ds Q h=>?_;obtain⟨l,rfl,hl,h⟩:=h;have nd:=aBr.nd;refine⟨_,(bC (ss 1 nd aQ)
 (bC (sf (fZ (aJ 0)) (eN (pn 2 nd))
 (cA (ss 1 nd (dD wD GF (dD fF mK (aJ 1) (cG bM dP (aJ 2) aQ)) (cd F_17 T.D_17 hr (aB (aJ 1) (aB (cG bM dP (aJ 2) aQ) aO)))))))
 (cA (dO (aJ 1))))),?_⟩
 show jA _ _ _ [.val (.list (l.map C5)),.un,.un];refine dB (.int 1) (λq hq=>hq) ?_
 refine pE (ts:=l.map C5) (λR h=>⟨_,rfl,_,rfl,h⟩)
  (λk σ=>∃s2:Sl,σ=[.val (.list (l.map C5)),.val (.int ((vG (l.take k):Nat):Int)),s2]) ⟨_,rfl⟩ (λk x σ' hx hP=>?_) λσ' hP=>?_
 ·obtain⟨s2,rfl⟩:=hP;rw[aK]at hx;obtain⟨y,hy,rfl⟩:=cV.mp hx;obtain⟨y1,y2⟩:=hl y (aZ hy);have hg:(vG (l.take k)).gcd y.2<=y.2:=aGo y1 (zM _ _);have hg0:0<(vG (l.take k)).gcd y.2:=rE _ y1
  have eb:vG (l.take (k+1))=(vG (l.take k)).lcm y.2:=by
   unfold vG;rw[cW,hy,yT];rfl
  refine tH (.int ((vG (l.take (k+1)):Nat):Int)) (λq hq=>⟨_,rfl,_,rfl,_,rfl,.inr ⟨by omega,by omega⟩,_,rfl,_,rfl,_,rfl,_,_,rfl,⟨by omega,by omega⟩,?_⟩) ⟨_,rfl⟩;rw[eb]at hq
  have e2:((vG (l.take k):Nat):Int)*(y.2:Int) / (((vG (l.take k)).gcd y.2:Nat):Int)=(((vG (l.take k)).lcm y.2:Nat):Int):=by
   rw[<- fH,<- rO];rfl
  rw[e2];exact hq
 ·obtain⟨s2,rfl⟩:=hP;rw[aA,eO];exact⟨_,rfl,h⟩
def aIs
  (F_18:bU P w K mg base eG 3 a_18 f_18 ["one","other"] (bJ K aAv))
  (F_23:bU P w K mg base eG 3 a_23 f_23 ["form"] (bJ K aAq))
  (F_20:bU P w K mg base eG 2 a_20 f_20 ["fractions"] (bJ K aAt))
  (F_15:bU P w K mg base eG 3 a_15 f_15 ["form","rows"] (bJ K RU))
  (F_30:bU P w K mg base eG 1 a_30 f_30 ["sides","fewest"] (bJ K aAk))
  (F_28:bU P w K mg base eG 4 a_28 f_28 ["form","question","stray","rows"] (oC K LV))
  (F_32:bU P w K mg base eG 1 a_32 f_32 ["rows","numbers"] (bJ K LU)):bU P w K mg base eG 6 a_31 f_31 ["form","rows","least"] (iP K aAj):=by
 refine fnL T.L_31 T.D_31.F aBg (λds Q h=>by obtain⟨fs,an,rs,m,rfl,F,hrs,hl,h⟩:=h;rfl) λcdv lc Ar outer s H E hr ds Q h=>?_;obtain⟨fs,an,rs,m,rfl,F,hrs,hl,h⟩:=h;have nd:=aBg.nd;refine⟨_,(bC (so 3 nd aO)
 (bC (sf (fZ (cd F_23 T.D_23 hr (aB (aJ 0) aO))) (tM (sC rfl (gR (pn 4 nd) (gR (pn 5 nd) pF))))
 (bC (ss 6 nd (aCt (cQ F_28 T.D_28 hr (aB (aJ 0) (aB (aJ 4) (aB (aJ 5) (aB (aJ 1) aO)))))))
 (cA (jP (tv (cd F_30 T.D_30 hr (aB (aJ 6) (aB (aJ 2) aO))))
 (bC (mZ (i:=7) (fr:=[none,some 0,some 1]) (N':=["numbers","form","rows"]) (fZ (aJ 6)) (λb=>⟨(eN (pk 0)),iG,(cd F_15 T.D_15 hr (aB (aJ 1) (aB (cd F_32 T.D_32 hr (aB (aJ 2) (aB (aJ 0) aO))) aO)))⟩) (λhi hY=>lU (show pG _ (aY (top 37)) ["form","rows","least","told","question","stray","sides","doubts","bottom"] ["numbers","form","rows"] [none,some 0,some 1]=true from by decide +kernel) nd rfl (by first | exact Or.inl rfl | exact Or.inr rfl) rfl hi hY rfl))
 (cA (EU (i:=3) (pv 3) (gG (aB (aJ 4) (aB (aJ 5) (aB (cd F_18 T.D_18 hr (aB (cG bM dP (aJ 7) aQ) (aB (cG bM dP (aJ 7) aQ) aO))) aO)))) (pb:=λh=>kJ (mI cI gW gU mU (pv 3) h)))))
 gZ))))
 (rR 3 (bC (ss 8 nd (cd F_20 T.D_20 hr (aB (el (fr:=[none,none,none]) (N':=["question","stray","doubt"]) (fZ (aJ 3)) (λb=>⟨(D0 (sC rfl (gR (pk 0) (gR (pk 1) (gR (pk 2) pF))))),iG,(aJ 2)⟩)) aO)))
 (cA (vY (U3 (k:=0) (ib:=8) (hr.mono (by omega)) lc rfl rfl rfl rfl T.b_sorted PD (aB (aJ 3) aO)))))))),?_⟩
 show jA _ _ _ [.val (fD fs an),.val (.list (rs.map cS)),.val (.int m),.un,.un,.un,.un,.un,.un]
 have hcl:(gS fs rs m).length<=40:=by
  have h1:=lT F fs λg hg=>hg;have n2:=F.n2;have h2:=cE (okC fs rs m) (FV fs);rw[FU]at h2;show((FV fs).filter (okC fs rs m)).length<=40;omega
 have hchs:(FV fs).length<=100:=by
  have h1:=lT F fs λg hg=>hg;have n5:=F.n5;rw[FU];omega
 refine tE [] (by decide) (λq hq=>hq) ?_
 refine pE (ts:=(FV fs).map chQ) (λR h=>⟨_,rfl,fs,an,rfl,F,_,rfl,h⟩)
  (λk σ=>∃s4 s5 s6 s7:Sl,σ=[.val (fD fs an),.val (.list (rs.map cS)),.val (.int m),.own ((((FV fs).take k).filter (okC fs rs m)).map (KW fs rs)),s4,s5,s6,s7,.un]) ⟨_,_,_,_,rfl⟩ (λk x σ' hx hP=>?_) λσ' hP=>?_
 ·obtain⟨s4,s5,s6,s7,rfl⟩:=hP;rw[aK]at hx;obtain⟨c,hck,rfl⟩:=cV.mp hx;have hc:=aZ hck;obtain⟨hq,hs⟩:=KZ hc;have hq':=E7 hq
  have lenY:(iF fs c.1.1 c.1.2.1 c.1.2.2 c.2 rs "yes").length=(yR fs c rs).length:=by
   have:=congrArg kF (YV fs c.1.1 c.1.2.1 c.1.2.2 c.2 "yes" rs.length rs rfl);rw[aA,aA]at this;exact this
  have lenN:(iF fs c.1.1 c.1.2.1 c.1.2.2 c.2 rs "no").length=(nR fs c rs).length:=by
   have:=congrArg kF (YV fs c.1.1 c.1.2.1 c.1.2.2 c.2 "no" rs.length rs rfl);rw[aA,aA,zW F hq' hs hrs]at this;exact this
  have et:((FV fs).take (k+1)).filter (okC fs rs m)=((FV fs).take k).filter (okC fs rs m)++(if okC fs rs m c=true then[c]else[]):=by
   rw[cW,hck,iX];congr 1;show List.filter _ [c]=_;rw[eF];rfl
  have hlk:((((FV fs).take k).filter (okC fs rs m)).map (KW fs rs)).length<=100:=by
   rw[aA];exact bK (cE _ _) (by rw[bO];omega)
  refine⟨qD c.1,.str c.2,rfl,?_⟩;dsimp only;refine dB (.tuple [.list (iF fs c.1.1 c.1.2.1 c.1.2.2 c.2 rs "yes"),.list (iF fs c.1.1 c.1.2.1 c.1.2.2 c.2 rs "no")]) (λq hq2=>⟨_,rfl,_,rfl,_,rfl,_,rfl,fs,an,c.1.1,c.1.2.1,c.1.2.2,c.2,rs,rfl,F,hq',hs,hrs,hl,hq2⟩) ?_;refine uY (λb=>b=okC fs rs m c) (λq hq2=>⟨_,rfl,_,rfl,_,_,m,rfl,?_⟩) (λhT=>?_) λhF=>?_
  ·refine hq2 _ ?_;rw[lenY,lenN];rfl
  ·refine dB (.list [C5 (tQ (yR fs c rs)),C5 (tQ (nR fs c rs))]) (λq hq2=>?_) ?_
   ·refine KN (ts:=[.list (iF fs c.1.1 c.1.2.1 c.1.2.2 c.2 rs "yes"),.list (iF fs c.1.1 c.1.2.1 c.1.2.2 c.2 rs "no")]) (λR h=>⟨_,rfl,_,rfl,h⟩) (λi _ y=>(i=0->y=C5 (tQ (yR fs c rs)))/\(i=1->y=C5 (tQ (nR fs c rs)))) (aD rfl) (λi x q hx hq3=>?_) λys hyl hy=>?_
    ·have hi:i<2:=(aH.mp hx).1;rcases(show i=0\/i=1 by omega)with rfl | rfl
     ·cases hx;exact⟨_,rfl,_,rfl,_,rfl,fs,c.1.1,c.1.2.1,c.1.2.2,c.2,"yes",rs,rfl,hl,fs,an,_,rfl,F,hrs.filt _,bK (cE _ _) hl,hq3 _ ⟨λ_=>rfl,λz=>by cases z⟩⟩
     ·cases hx;refine⟨_,rfl,_,rfl,_,rfl,fs,c.1.1,c.1.2.1,c.1.2.2,c.2,"no",rs,rfl,hl,?_⟩;rw[zW F hq' hs hrs];exact⟨fs,an,_,rfl,F,hrs.filt _,bK (cE _ _) hl,hq3 _ ⟨(λz=>by cases z),λ_=>rfl⟩⟩
    ·match ys,hyl,hy with
     |[a,b],_,hy=>
      have h0:=(hy 0 _ a rfl rfl).1 rfl;have h1:=(hy 1 _ b rfl rfl).2 rfl;rw[h0,h1];exact hq2
   ·have hy60:(yR fs c rs).length<=60:=bK (cE _ _) hl;have hn60:(nR fs c rs).length<=60:=bK (cE _ _) hl;refine wE (KW fs rs c) rfl (by omega) (λq hq2=>⟨_,rfl,_,rfl,_,rfl,_,rfl,_,rfl,_,rfl,_,_,rfl,wQ hy60,wQ hn60,(aD rfl),hq2⟩) ⟨.val (qD c.1),.val (.str c.2),.val (.tuple [.list (iF fs c.1.1 c.1.2.1 c.1.2.2 c.2 rs "yes"),.list (iF fs c.1.1 c.1.2.1 c.1.2.2 c.2 rs "no")]),.val (.list [C5 (tQ (yR fs c rs)),C5 (tQ (nR fs c rs))]),?_⟩;rw[et,if_pos hT.symm,cK];rfl
  ·try unfold kC
   dsimp only;refine⟨.val (qD c.1),.val (.str c.2),.val (.tuple [.list (iF fs c.1.1 c.1.2.1 c.1.2.2 c.2 rs "yes"),.list (iF fs c.1.1 c.1.2.1 c.1.2.2 c.2 rs "no")]),s7,?_⟩;rw[et,if_neg (by rw[<- hF];decide),dQ];rfl
 ·obtain⟨s4,s5,s6,s7,rfl⟩:=hP;rw[aA,eO];refine⟨_,rfl,?_⟩;show jA _ _ _ [.val (fD fs an),.val (.list (rs.map cS)),.val (.int m),.val (.list (CB fs rs m)),s4,s5,s6,s7,.un]
  have hds:∀x∈P6 fs rs m,0<x.2/\x.2<=1000000:=λx hx=>by
   obtain⟨c,_,rfl⟩:=bA.mp hx;have:=xT (fs:=fs) hl c;exact⟨this.pos,bK this.bot (by decide)⟩
  refine dB (.int (vG (P6 fs rs m):Nat)) (λq hq=>?_) ?_
  ·dsimp only[nX,yM,IR];refine YN (ts:=CB fs rs m) (λR h=>⟨_,rfl,_,rfl,h⟩) (λx=>match x with | .tuple [_,_,d]=>d | _=>.none) (by rw[sO];omega) (λx hx=>?_) (λa b c q' hm hq'=>⟨_,rfl,hq'⟩) ?_
   ·obtain⟨c,_,rfl⟩:=bA.mp hx;exact⟨_,_,_,rfl⟩
   ·have e:(CB fs rs m).map (λx=>match x with | .tuple [_,_,d]=>d | _=>.none)=(P6 fs rs m).map C5:=by
     unfold CB P6;rw[bG,bG];rfl
    rw[e];exact⟨_,rfl,hds,hq⟩
  ·refine⟨_,rfl,CB fs rs m,(vG (P6 fs rs m):Nat),BT fs rs m,rfl,by rw[sO];omega,rfl,by rw[sO,UP],λi e k he hk=>?_,λJ hJ=>?_⟩
   ·have hi:i<(gS fs rs m).length:=by rw[<- sO];exact(aH.mp he).1
    have e1:=MX (fs:=fs) (R:=rs) (m:=m) hi;rw[cX,he]at e1;have e2:=FF (fs:=fs) (R:=rs) (m:=m) hi;rw[cX,hk]at e2;have sm:=xT (fs:=fs) hl (gS fs rs m)[i];have s1:=sm.top;have s2:=sm.pos;have s3:=sm.bot;exact⟨_,_,_,_,e1,⟨by omega,by omega⟩,.inl ⟨by omega,by omega⟩,e2⟩
   ·rw[sO]at hJ;exact h J hJ
def aI4:bU P w K mg base eG 1 a_19 f_19 ["one","other"] (bJ K aAu):=by
 refine tZ T.D_19.F aBs (λds Q h=>by obtain⟨x,y,rfl,hx,hy,h⟩:=h;rfl) λcdv Ar outer s H E hr ds Q h=>?_;obtain⟨x,y,rfl,hx,hy,h⟩:=h;have nd:=aBs.nd;refine⟨_,(cA (dO (pK TD rL (dD fF mK (cG bM dP (aJ 0) aQ) (cG bM dP (aJ 1) aQ)) (dD fF mK (cG bM dP (aJ 1) aQ) (cG bM dP (aJ 0) aQ))))),?_⟩;show JS _ _ [.val (C5 x),.val (C5 y)];refine⟨_,rfl,_,rfl,_,rfl,_,rfl,.inl ⟨by omega,by omega⟩,_,rfl,_,rfl,_,rfl,_,rfl,.inl ⟨by omega,by omega⟩,?_⟩;show Q (.bool (decide ((x.1:Int)*(y.2:Int)<(y.1:Int)*(x.2:Int))))
 have e:decide ((x.1:Int)*(y.2:Int)<(y.1:Int)*(x.2:Int))=decide (x.1*y.2<y.1*x.2):=by
  rw[decide_eq_decide,<- fH,<- fH];omega
 rw[e];exact h
def aIq
  (F_15:bU P w K mg base eG 3 a_15 f_15 ["form","rows"] (bJ K RU))
  (F_19:bU P w K mg base eG 1 a_19 f_19 ["one","other"] (bJ K aAu))
  (F_31:bU P w K mg base eG 6 a_31 f_31 ["form","rows","least"] (iP K aAj)):bU P w K mg base eG 7 a_33 f_33 ["form","rows","least"] (bJ K RQ):=by
 refine tZ T.D_33.F aBe (λds Q h=>by obtain⟨fs,an,rs,m,rfl,F,hrs,hl,h⟩:=h;rfl) λcdv Ar outer s H E hr ds Q h=>?_;obtain⟨fs,an,rs,m,rfl,F,hrs,hl,h⟩:=h;have nd:=aBe.nd;refine⟨_,(bC (ss 3 nd (HX (cF F_31 T.D_31 hr (aB (aJ 0) (aB (aJ 1) (aB (aJ 2) aO))))))
 (bC (jP (rQ (AU (NP (aJ 3) (λh=>SL h (λ_=>rfl))) (vU (tv (cd F_19 T.D_19 hr (aB (cG bM dP (cG bM dP (aJ 3) aQ) aQ) (aB (cd F_15 T.D_15 hr (aB (aJ 0) (aB (aJ 1) aO))) aO)))))))
 (cA (dO (cG bM dP (aJ 3) aQ)))
 gZ)
 (cA (dO qW)))),?_⟩
 show jA _ _ _ [.val (fD fs an),.val (.list (rs.map cS)),.val (.int m),.un];have hcl:=VS F rs m;have dsm:∀c:Ch,(dC fs rs c).1<=1000000:=λc=>bK (xT (fs:=fs) hl c).top (by decide);have dbm:(tQ rs).1<=1000000:=bK (wQ hl).top (by decide)
 have at0:∀{i:Nat}{J:List Nat},Rkd fs rs m (i::J)->∃c,ZP fs rs (gS fs rs m)=some c/\L2.atI (aEr fs rs m (i::J)) 0=some (KW fs rs c):=λ{i J} hJ=>by
  refine⟨_,VU hl hJ,?_⟩;refine L2.gQ (j:=0) ?_;show some ((CB fs rs m).getD i .none)=_;rw[MX (hJ.lt i (aL ..))]
 have opt:∀c,ZP fs rs (gS fs rs m)=some c->lQ fs rs m=if jW (dC fs rs c) (tQ rs)=true then some c else none:=λc hc=>by
  unfold lQ;rw[hc];rfl
 refine eA (λv=>∃J,Rkd fs rs m J/\v=.list (aEr fs rs m J)) (λq hq=>⟨_,rfl,_,rfl,_,rfl,fs,an,rs,m,rfl,F,hrs,hl,λJ hJ=>hq _ ⟨J,hJ,rfl⟩⟩) ?_;rintro _ ⟨J,hJ,rfl⟩
 cases J with
 |nil=>
  have e:lQ fs rs m=none:=by unfold lQ;rw[ZO hJ];rfl
  rw[e]at h;refine hU (λb=>b=false) (λq hq=>?_) (λhT=>by cases hT) λ_=>?_
  ·refine⟨_,rfl,[],rfl,?_⟩;show(if(false:Bool)=true then _ else q false);rw[if_neg (by decide)];exact hq _ rfl
  ·try unfold kC
   dsimp only;exact h
 |cons i J=>
  obtain⟨c,hc,h0⟩:=at0 hJ;rw[opt c hc]at h;refine hU (λb=>b=jW (dC fs rs c) (tQ rs)) (λq hq=>?_) (λhT=>?_) λhF=>?_
  ·refine⟨_,rfl,_,rfl,?_⟩;show(if(true:Bool)=true then _ else q false);rw[if_pos rfl];exact⟨_,rfl,_,h0,_,rfl,_,rfl,_,rfl,fs,an,rs,rfl,F,hrs,hl,_,_,rfl,dsm c,dbm,hq _ rfl⟩
  ·rw[if_pos hT.symm]at h;exact⟨_,rfl,_,h0,h⟩
  ·rw[if_neg (by rw[<- hF];decide)]at h
   try unfold kC
   dsimp only;exact h
def XB(dd:Nat)
  (F_33:bU P w K mg base eG 7 a_33 f_33 ["form","rows","least"] (bJ K RQ))
  (F_14:bU P w K mg base eG 2 a_14 f_14 ["form","rows"] (bJ K RV))
  (F_28:bU P w K mg base eG 4 a_28 f_28 ["form","question","stray","rows"] (oC K LV))
  (F_32:bU P w K mg base eG 1 a_32 f_32 ["rows","numbers"] (bJ K LU))
  (F_34:bU P w K mg base eG (8+dd) a_34 f_34 ["form","rows","deep","least"] (bJ K (rW dd))):bU P w K mg base eG (8+dd+1) a_34 f_34 ["form","rows","deep","least"] (bJ K (rW (dd+1))):=by
 refine tZ T.D_34.F aBd (λds Q h=>by obtain⟨fs,an,rs,d,m,rfl,F,hrs,hl,hd,h⟩:=h;rfl) λcdv Ar outer s H E hr ds Q h=>?_;obtain⟨fs,an,rs,d,m,rfl,F,hrs,hl,hd,h⟩:=h;have nd:=aBd.nd;refine⟨_,(bC (ss 4 nd (D3 (eQ BH rL (aJ 2) aQ) (cd (hk:=by omega) F_33 T.D_33 hr (aB (aJ 0) (aB (aJ 1) (aB (aJ 3) aO)))) qW))
 (bC (jP (eQ J2 TJ (aJ 4) qW)
 (cA (dO (gG (aB eU (aB (cd (hk:=by omega) F_14 T.D_14 hr (aB (aJ 0) (aB (aJ 1) aO))) aO)))))
 gZ)
 (bC (ss 5 nd (aCt (cQ (hk:=by omega) F_28 T.D_28 hr (aB (aJ 0) (aB (cG bM dP (aJ 4) aQ) (aB (cG bM dP (aJ 4) aQ) (aB (aJ 1) aO)))))))
 (bC (mZ (i:=6) (fr:=[none,some 0,some 3,some 1,some 2]) (N':=["numbers","form","least","rows","deep"]) (fZ (aJ 5)) (λb=>⟨(eN (pk 0)),iG,(cd (hk:=by omega) F_34 T.D_34 hr (aB (aJ 1) (aB (cd (hk:=by omega) F_32 T.D_32 hr (aB (aJ 3) (aB (aJ 0) aO))) (aB (dD sE HB (aJ 4) aQ) (aB (aJ 2) aO)))))⟩) (λhi hY=>lU (show pG _ (aY (top 40)) ["form","rows","deep","least","found","sides","parts"] ["numbers","form","least","rows","deep"] [none,some 0,some 3,some 1,some 2]=true from by decide +kernel) nd rfl (by first | exact Or.inl rfl | exact Or.inr rfl) rfl hi hY rfl))
 (cA (dO (gG (aB eU (aB (cG bM dP (aJ 4) aQ) (aB (cG bM dP (aJ 4) aQ) (aB (cG bM dP (aJ 6) aQ) (aB (cG bM dP (aJ 6) aQ) aO)))))))))))),?_⟩
 show jA _ _ _ [.val (fD fs an),.val (.list (rs.map cS)),.val (.int d),.val (.int m),.un,.un,.un]
 cases d with
 |zero=>
  refine dB .none (λq hq=>⟨_,rfl,hq⟩) ?_;refine hU (λb=>b=true) (λq hq=>⟨_,rfl,hq _ rfl⟩) (λ_=>?_) λhF=>by cases hF
  exact⟨_,rfl,_,rfl,fs,an,rs,rfl,F,hrs,hl,λa ha=>⟨(aD rfl),h (.say a) ⟨a,ha,rfl⟩⟩⟩
 |succ e=>
  refine dB (aH8 fs rs (lQ fs rs m)) (λq hq=>⟨_,rfl,?_⟩) ?_
  ·show(if decide ((0:Int)<((e+1:Nat):Int))=true then _ else q .none);rw[if_pos (decide_eq_true (by omega))];exact⟨_,rfl,_,rfl,_,rfl,fs,an,rs,m,rfl,F,hrs,hl,hq⟩
  cases eb:lQ fs rs m with
  |none=>
   refine hU (λb=>b=true) (λq hq=>⟨_,rfl,hq _ rfl⟩) (λ_=>?_) λhF=>by cases hF
   refine⟨_,rfl,_,rfl,fs,an,rs,rfl,F,hrs,hl,λa ha=>⟨(aD rfl),h (.say a) ?_⟩⟩;unfold Gr;rw[eb];exact⟨a,ha,rfl⟩
  |some c=>
   have hc:=(cU.mp (EG eb)).1;obtain⟨hq,hs⟩:=KZ hc;have hq':=E7 hq;refine hU (λb=>b=false) (λq hq=>⟨_,rfl,hq _ rfl⟩) (λhT=>by cases hT) λ_=>?_
   try unfold kC
   dsimp only;refine dB (.tuple [.list (iF fs c.1.1 c.1.2.1 c.1.2.2 c.2 rs "yes"),.list (iF fs c.1.1 c.1.2.1 c.1.2.2 c.2 rs "no")]) (λq hq2=>⟨_,rfl,_,rfl,_,rfl,_,rfl,_,rfl,_,rfl,fs,an,c.1.1,c.1.2.1,c.1.2.2,c.2,rs,rfl,F,hq',hs,hrs,hl,hq2⟩) ?_;refine eA (λv=>∃y n,Gr fs an m e (yR fs c rs) y/\Gr fs an m e (nR fs c rs) n/\v=.list [lE y,lE n]) (λq hq2=>?_) ?_
   ·have es:((e+1:Nat):Int)-1=((e:Nat):Int):=by omega
    refine KN (ts:=[.list (iF fs c.1.1 c.1.2.1 c.1.2.2 c.2 rs "yes"),.list (iF fs c.1.1 c.1.2.1 c.1.2.2 c.2 rs "no")]) (λR h=>⟨_,rfl,_,rfl,h⟩) (λi _ y=>(i=0->∃t,Gr fs an m e (yR fs c rs) t/\y=lE t)/\(i=1->∃t,Gr fs an m e (nR fs c rs) t/\y=lE t)) (aD rfl) (λi x q hx hq3=>?_) λys hyl hy=>?_
    ·have hi:i<2:=(aH.mp hx).1;rcases(show i=0\/i=1 by omega)with rfl | rfl
     ·cases hx;exact⟨_,rfl,_,rfl,_,rfl,fs,c.1.1,c.1.2.1,c.1.2.2,c.2,"yes",rs,rfl,hl,_,rfl,_,rfl,fs,an,_,e,m,by rw[<- es]<;>rfl,F,hrs.filt _,bK (cE _ _) hl,by omega,λt ht=>hq3 _ ⟨λ_=>⟨t,ht,rfl⟩,λz=>by cases z⟩⟩
     ·cases hx;refine⟨_,rfl,_,rfl,_,rfl,fs,c.1.1,c.1.2.1,c.1.2.2,c.2,"no",rs,rfl,hl,?_⟩;rw[zW F hq' hs hrs];exact⟨_,rfl,_,rfl,fs,an,_,e,m,by rw[<- es]<;>rfl,F,hrs.filt _,bK (cE _ _) hl,by omega,λt ht=>hq3 _ ⟨(λz=>by cases z),λ_=>⟨t,ht,rfl⟩⟩⟩
    ·match ys,hyl,hy with
     |[a,b],_,hy=>
      obtain⟨y,h0,rfl⟩:=(hy 0 _ a rfl rfl).1 rfl;obtain⟨n,h1,rfl⟩:=(hy 1 _ b rfl rfl).2 rfl;exact hq2 _ ⟨y,n,h0,h1,rfl⟩
   ·rintro _ ⟨y,n,h0,h1,rfl⟩;refine⟨_,rfl,_,rfl,_,rfl,_,rfl,_,rfl,_,rfl,_,rfl,_,rfl,(aD rfl),h (.ask c.1.1 c.1.2.1 c.1.2.2 c.2 y n) ?_⟩;unfold Gr;rw[eb];exact⟨y,n,h0,h1,rfl⟩
def aIp
  (F_33:bU P w K mg base eG 7 a_33 f_33 ["form","rows","least"] (bJ K RQ))
  (F_14:bU P w K mg base eG 2 a_14 f_14 ["form","rows"] (bJ K RV))
  (F_28:bU P w K mg base eG 4 a_28 f_28 ["form","question","stray","rows"] (oC K LV))
  (F_32:bU P w K mg base eG 1 a_32 f_32 ["rows","numbers"] (bJ K LU)):bU P w K mg base eG 15 a_34 f_34 ["form","rows","deep","least"] (bJ K RP):=by
 have h:∀dd:Nat,bU P w K mg base eG (8+dd) a_34 f_34 ["form","rows","deep","least"] (bJ K (rW dd)):=λdd=>by
  induction dd with
  |zero=>exact FM wL λds Q h=>T4 h
  |succ dd ih=>exact XB T dd F_33 F_14 F_28 F_32 ih
 exact h 7
def aIc
  (F_38:bU P w K mg base eG 1 a_38 f_38 ["_law_tape_here","_law_many"] (bJ K GV)):bU P w K mg base eG 2 a_47 f_47 ["_law_tape_here","_law_form_here"] (bJ K RK):=by
 refine tZ T.D_47.F aA0 (λds Q h=>by obtain⟨ns,fs,an,rfl,hl,F,h⟩:=h;rfl) λcdv Ar outer s H E hr ds Q h=>?_;obtain⟨ns,fs,an,rfl,hl,F,h⟩:=h;have nd:=aA0.nd;refine⟨_,(bC (so 2 nd aO)
 (bC (sf (fZ (cG bM dP (aJ 1) aQ)) (tM (sC rfl (gR (pn 3 nd) (gR (pn 4 nd) pF))))
 (bC (ss 5 nd (cG bM dP (aJ 4) (cd F_38 T.D_38 hr (aB (aJ 0) (aB (cB jG (aB (aJ 4) aO) cJ T.b_len gA) aO)))))
 (bC (jP (eQ lV pW (cd F_38 T.D_38 hr (aB (aJ 0) (aB aQ aO))) aQ)
 (cA (ss 5 nd qW))
 gZ)
 (cA (EU (i:=2) (pv 2) (aJ 5) (pb:=λh=>kJ (mI cI gW gU mU (pv 2) h)))))))
 (rR 2 (cA (dO (gG (aB (cY AJ (aB (aJ 2) aO) mY T.b_tuple nE) (aB (cG bM dP (cG bM dP (aJ 1) aQ) (cd F_38 T.D_38 hr (aB (aJ 0) (aB (cB jG (aB (cG bM dP (aJ 1) aQ) aO) cJ T.b_len gA) aO)))) aO)))))))),?_⟩
 show jA _ _ _ [.val (iH ns),.val (fD fs an),.un,.un,.un,.un];have n5:=F.n5;refine tE [] (aD rfl) (λq hq=>hq) ?_
 refine pE (ts:=fs.map jZ) (λR h=>⟨_,rfl,_,rfl,_,rfl,h⟩)
  (λi σ=>∃(cs:List D)(s3 s4 s5:Sl),σ=[.val (iH ns),.val (fD fs an),.own cs,s3,s4,s5]/\cs.length=i/\∀(k:Nat) f c,fs[k]?=some f->cs[k]?=some c->J8 f c=true) ⟨[],_,_,_,rfl,rfl,λk f c _ hc=>by simp at hc⟩ (λi x σ' hx hP=>?_) λσ' hP=>?_
 ·obtain⟨cs,s3,s4,s5,rfl,hcl,hcv⟩:=hP;rw[aK]at hx;obtain⟨f,hf,rfl⟩:=cV.mp hx;have hfm:=aZ hf;have hil:=(aH.mp hf).1;have v2:=(F.vs f hfm).1;have v5:=(F.vs f hfm).2.1;refine⟨_,_,rfl,?_⟩
  have next:∀d:D,J8 f d=true->(∃(cs':List D)(s3 s4 s5:Sl),[Sl.val (iH ns),.val (fD fs an),.own (cs++[d]),.val (.str f.1),.val (.tuple (f.2.map aP)),.val d]=[.val (iH ns),.val (fD fs an),.own cs',s3,s4,s5]/\cs'.length=i+1/\∀(k:Nat) g c,fs[k]?=some g->cs'[k]?=some c->J8 g c=true):=λd hd=>
   ⟨_,_,_,_,rfl,by rw[bQ];show _+1=_;omega,λk g c hg hc=>by
    by_cases hk:k<cs.length
    ·rw[dM hk]at hc;exact hcv k g c hg hc
    ·rw[dU (by omega)]at hc
     have hk0:k=i:=by
      have:=(aH.mp hc).1;simp at this;omega
     subst hk0;rw[hf]at hg;cases hg;rw[show k-cs.length=0 by omega]at hc;cases hc;exact hd⟩
  refine eA (λd=>J8 f d=true) (λq hq=>⟨_,rfl,_,rfl,_,rfl,ns,(f.2.length:Int),by rw[aA],hl,by omega,by omega,λr h0 h1=>?_⟩) ?_
  ·obtain⟨t,hm,ha,_⟩:=FZ (xs:=f.2.map aP) (i:=r) h0 (by rw[aA];exact h1);obtain⟨z,hz,rfl⟩:=bA.mp hm;exact⟨_,ha,hq _ (decide_eq_true hz)⟩
  intro d hd;refine XS (λ_=>True) (λσ=>∃d:D,J8 f d=true/\σ=[.val (iH ns),.val (fD fs an),.own cs,.val (.str f.1),.val (.tuple (f.2.map aP)),.val d]) (λq hq=>⟨_,rfl,ns,5,rfl,hl,by decide,by decide,λr _ _=>hq _ trivial⟩) (λ_ DT' hD=>hD _ ⟨.none,rfl,rfl⟩) (λ_=>⟨d,hd,rfl⟩) ?_;rintro _ ⟨d,hd,rfl⟩;exact wE d rfl (by omega) (λq hq=>⟨_,rfl,hq⟩) (next d hd)
 ·obtain⟨cs,s3,s4,s5,rfl,hcl,hcv⟩:=hP;rw[aA]at hcl;refine⟨_,rfl,_,rfl,_,rfl,_,rfl,_,rfl,_,rfl,_,rfl,ns,(an.length:Int),by rw[aA],hl,by have:=F.a2;omega,by have:=F.a4;omega,λr h0 h1=>?_⟩;obtain⟨t,hm,ha,_⟩:=FZ (xs:=an.map aP) (i:=r) h0 (by rw[aA];exact h1);obtain⟨a,haa,rfl⟩:=bA.mp hm;exact⟨_,ha,(aD rfl),h (cs,a) ⟨aKc hcl hcv,haa⟩⟩
def aIi:bU P w K mg base eG 1 a_41 f_41 ["_law_form_here","_law_knot","_law_case"] (bJ K RN):=by
 refine tZ T.D_41.F aA6 (λds Q h=>by obtain⟨fs,an,k,n,v,s,cs,rfl,F,hq,hs,hc,h⟩:=h;rfl) λcdv Ar outer s H E hr ds Q h=>?_;obtain⟨fs,an,k,n,v,s,cs,rfl,F,hq,hs,hc,h⟩:=h;have nd:=aA6.nd;refine⟨_,(bC (XE (cG bM dP (aJ 1) aQ) (D0 (sC rfl (gR (pn 3 nd) (gR (pn 4 nd) (gR (pn 5 nd) pF))))) (λhe hg=>BE he hg))
 (bC (ss 6 nd (tO (el (fr:=[none]) (N':=["_law_field"]) (fZ (cG bM dP (aJ 0) aQ)) (λb=>⟨(eN (pk 0)),iG,(cG bM dP (aJ 0) aQ)⟩)) (aB (aJ 4) aO) (λh ha=>mI cI lX lW (tJ hr) h ha)))
 (bC (ss 7 nd (cG bM dP (cG bM dP (cG bM dP (aJ 0) aQ) (aJ 6)) aQ))
 (bC (jP (eQ J2 TJ (cG bM dP (aJ 2) (aJ 6)) qW)
 (cA (dO (cG bM dP (aJ 1) aQ)))
 gZ)
 (bC (jP (rQ (AS (eQ lV pW (cG bM dP (aJ 2) (aJ 6)) (aJ 5)) (xA (rQ (AU (eQ lV pW (aJ 3) eU) (vU (eQ TD rL (B7 (aJ 7) (aB (cG bM dP (aJ 2) (aJ 6)) aO) (λh ha=>mI pO pN pM (BN hr) h ha)) (B7 (aJ 7) (aB (aJ 5) aO) (λh ha=>mI pO pN pM (BN hr) h ha)))))))))
 (cA (dO eU))
 gZ)
 (cA (dO eU))))))),?_⟩
 show jA _ _ _ [.val (fD fs an),.val (.tuple [.str "ask",.tuple [.str k,.str n,.str v],.str s]),.val (.tuple cs),.un,.un,.un,.un,.un];obtain⟨hcl,hcv⟩:=nD hc;have n5:=F.n5;obtain⟨f0,hj,hf0,hfn,hv0,hk0⟩:=aFb F hq
 generalize jx fs n=j at hj
 have hjl:=(aH.mp hj).1;have ej:(fs.map (·.1)).idxOf n=j:=by rw[<- hfn];exact zY F hj
 have hnm:n∈fs.map (·.1):=bA.mpr ⟨f0,hf0,hfn⟩;have hcj:cs[j]?=some cs[j]:=aE (by omega)
 generalize hcc:cs[j]=c at hcj
 have hca:L2.atI cs (j:Int)=some c:=L2.gQ hcj;have hfa:L2.atI (fs.map jZ) (j:Int)=some (jZ f0):=L2.gQ (by rw[aK,hj];rfl);have hok:=hcv j f0 c hj hcj;rw[A1 F hj hcj hfn]at h;refine RY (a:=.str k) (b:=.str n) (c:=.str v) (λq hq=>⟨_,rfl,_,rfl,hq⟩) ?_;refine dB (.int (j:Int)) (λq hq=>?_) ?_
 ·dsimp only[AG];refine iQ (ts:=fs.map jZ) (λR h=>⟨_,rfl,_,rfl,_,rfl,h⟩) fst (by rw[aA];omega) (λx q hx hq=>?_) ?_
  ·obtain⟨f,hf,rfl⟩:=bA.mp hx;exact⟨_,rfl,_,rfl,hq⟩
  ·have e:(fs.map jZ).map fst=(fs.map (·.1)).map aP:=by rw[bG,bG];rfl
   rw[e];have:=pV F.nd.2.1 hnm;rw[ej]at this;exact⟨_,rfl,_,rfl,_,j,rfl,this,by omega,hq⟩
 refine dB (.tuple (f0.2.map aP)) (λq hq=>⟨_,rfl,_,rfl,_,rfl,_,hfa,_,rfl,hq⟩) ?_;refine hU (λb=>b=AC c) (λq hq=>⟨_,rfl,_,rfl,_,hca,hq _ rfl⟩) (λhT=>?_) λhF=>?_
 ·cases c with
  |none=>exact⟨_,rfl,_,rfl,h⟩
  |_=>cases hT
 try unfold kC
 dsimp only
 cases c with
 |none=>cases hF
 |str z=>
  have hz:z∈f0.2:=of_decide_eq_true hok;have i1:=pV (F.vals hf0) hz;have i2:=pV (F.vals hf0) hv0;have nd0:=(F.vs f0 hf0).2.2.2.2;have h':Q (.str (if k="is" then(if z=v then "yes" else "no")else if f0.2.idxOf z<=f0.2.idxOf v then "yes" else "no")):=h
  have key:(if(decide (z=v)||(decide (k="upto")&&decide ((f0.2.idxOf z:Int)<(f0.2.idxOf v:Int))))=true then("yes":Str)else "no")=(if k="is" then(if z=v then("yes":Str)else "no")else if f0.2.idxOf z<=f0.2.idxOf v then("yes":Str)else "no"):=by
   by_cases e:z=v
   ·subst e;rw[decide_eq_true rfl,aGr,if_pos rfl];split
    ·exact(if_pos rfl).symm
    ·exact(if_pos (aM _)).symm
   ·rw[decide_eq_false e,GJ];rcases hk0 with rfl | rfl
    ·rw[if_pos rfl,if_neg e,if_neg];rw[decide_eq_false (by decide +kernel)];simp
    ·rw[if_neg (show¬("upto":Str)="is" by decide +kernel),decide_eq_true rfl,nV]
     have hne:f0.2.idxOf z≠f0.2.idxOf v:=λz'=>e (by
      have h1:=mB (jO.mpr hz);have h2:=mB (jO.mpr hv0);rw[<- h1,<- h2];congr 1)
     by_cases l:f0.2.idxOf z<=f0.2.idxOf v
     ·rw[if_pos l,if_pos (decide_eq_true (by omega))]
     ·rw[if_neg l,if_neg (by rw[decide_eq_false (by omega)];decide)]
  rw[<- key]at h';refine hU (λb=>b=(decide (z=v)||(decide (k="upto")&&decide ((f0.2.idxOf z:Int)<(f0.2.idxOf v:Int))))) (λq hq=>⟨_,rfl,_,rfl,_,hca,_,rfl,?_⟩) (λhT=>?_) λhF=>?_
  ·show(if decide (z=v)=true then q true else _);by_cases e:z=v
   ·rw[if_pos (decide_eq_true e)];exact hq _ (by rw[decide_eq_true e];rfl)
   ·rw[if_neg (by rw[decide_eq_false e];decide)];refine⟨_,rfl,?_⟩;show(if decide (k="upto")=true then _ else q false);by_cases e2:k="upto"
    ·rw[if_pos (decide_eq_true e2)];refine⟨_,rfl,_,rfl,_,rfl,_,rfl,_,hca,_,_,rfl,i1,_,rfl,_,rfl,_,rfl,_,_,rfl,i2,?_⟩;refine hq _ ?_;rw[decide_eq_false e,decide_eq_true e2];rfl
    ·rw[if_neg (by rw[decide_eq_false e2];decide)];exact hq _ (by rw[decide_eq_false e,decide_eq_false e2];rfl)
  ·rw[<- hT,if_pos rfl]at h';exact h'
  ·try unfold kC
   dsimp only;rw[<- hF,if_neg (by decide)]at h';exact h'
 |_=>cases hok
def W9(dd:Nat)
  (F_42:bU P w K mg base eG (1+dd) a_42 f_42 ["_law_found","_law_due"] (bJ K (rT dd))):bU P w K mg base eG (1+dd+1) a_42 f_42 ["_law_found","_law_due"] (bJ K (rT (dd+1))):=by
 refine tZ T.D_42.F aA5 (λds Q h=>by obtain⟨d,rfl,hd,h⟩:=h;rfl) λcdv Ar outer s H E hr ds Q h=>?_;obtain⟨d,rfl,hd,h⟩:=h;have nd:=aA5.nd;refine⟨_,(bC (jP (rQ (AS (tv (qX (BR _) (aJ 1) (λh=>iI mM rfl T.b_isinstance eV (cL h (cL (mJ rfl T.b_list wT rfl) gL))))) (xA (tv (qX (tK _) (aJ 1) (λh=>iI mM rfl T.b_isinstance eV (cL h (cL (mJ rfl T.b_tuple nE rfl) gL))))))))
 (bC (jP (rQ (AS (eQ (xH hr) nM (qX (BR _) (aJ 0) (λh=>iI mM rfl T.b_isinstance eV (cL h (cL (mJ rfl T.b_list wT rfl) gL)))) (qX (BR _) (aJ 1) (λh=>iI mM rfl T.b_isinstance eV (cL h (cL (mJ rfl T.b_list wT rfl) gL))))) (xA (eQ (xH hr) nM (qX (tK _) (aJ 0) (λh=>iI mM rfl T.b_isinstance eV (cL h (cL (mJ rfl T.b_tuple nE rfl) gL)))) (qX (tK _) (aJ 1) (λh=>iI mM rfl T.b_isinstance eV (cL h (cL (mJ rfl T.b_tuple nE rfl) gL))))))))
 (cA (dO sM))
 gZ)
 (cA (dO (B8 (pK (xI hr) nM (cB jG (aB (aJ 0) aO) cJ T.b_len gA) (cB jG (aB (aJ 1) aO) cJ T.b_len gA)) (B6 (cB aC1 (aB (el (fr:=[none,none]) (N':=["_law_one","_law_other"]) (YX (aB (aJ 0) (aB (aJ 1) aO)) (λh=>X7 rfl T.b_zip h)) (λb=>⟨(tM (sC rfl (gR (pk 0) (gR (pk 1) pF)))),iG,(cd (hk:=by omega) F_42 T.D_42 hr (aB (aJ 0) (aB (aJ 1) aO)))⟩)) aO) (wS rfl) T.b_all VX))))))
 gZ)
 (cA (dO (B8 (pK (xI hr) nM (qX (HP _) (aJ 0) (λh=>iI mM rfl T.b_isinstance eV (cL h (cL (mJ rfl T.b_bool M7 rfl) gL)))) (qX (HP _) (aJ 1) (λh=>iI mM rfl T.b_isinstance eV (cL h (cL (mJ rfl T.b_bool M7 rfl) gL))))) (B6 (pK (xI hr) nM (aJ 0) (aJ 1))))))),?_⟩
 show jA _ _ _ [.val d,.val d];have e:∀b:Bool,bP (.bool b) (.bool b)=true:=λb=>by cases b<;>rfl
 have ei:∀i:Int,bP (.int i) (.int i)=true:=λi=>by show(i==i)=true;exact beq_self_eq_true i
 by_cases hz:∃i:Int,d=.int i
 ·obtain⟨i,rfl⟩:=hz;refine hU (λb=>b=false) (λq hq=>⟨_,rfl,?_⟩) (λhT=>by cases hT) λ_=>?_
  ·show(if false=true then q true else _);rw[if_neg (by decide)];exact⟨_,rfl,hq _ rfl⟩
  unfold kC;dsimp only;refine⟨_,rfl,_,rfl,⟨rfl,rfl,(aD rfl)⟩,?_⟩;show(if bP (.bool (MO "bool" (.int i))) (.bool (MO "bool" (.int i)))=true then _ else _);rw[if_pos (e _)];refine⟨_,rfl,_,rfl,⟨rfl,rfl,(aD rfl)⟩,?_⟩;show Q (.bool (bP (.int i) (.int i)));rw[ei];exact h
 replace hd:(∃z,tI z=true/\d=.str z)\/d=.none\/∃ts:List D,(d=.tuple ts\/d=.list ts)/\ts.length<=50000/\∀x∈ts,nY dd x:=by
  rcases hd with h1 | h1 | h1 | h1
  ·exact absurd h1 hz
  ·exact .inl h1
  ·exact .inr (.inl h1)
  ·exact .inr (.inr h1)
 clear hz;by_cases hz:d=.none
 ·subst hz;refine hU (λb=>b=false) (λq hq=>⟨_,rfl,?_⟩) (λhT=>by cases hT) λ_=>?_
  ·show(if false=true then q true else _);rw[if_neg (by decide)];exact⟨_,rfl,hq _ rfl⟩
  unfold kC;dsimp only;refine⟨_,rfl,_,rfl,⟨rfl,rfl,(aD rfl)⟩,?_⟩;show(if bP (.bool (MO "bool" .none)) (.bool (MO "bool" .none))=true then _ else _);rw[if_pos (e _)];exact⟨_,rfl,_,rfl,⟨rfl,rfl,(aD rfl)⟩,h⟩
 replace hd:(∃z,tI z=true/\d=.str z)\/∃ts:List D,(d=.tuple ts\/d=.list ts)/\ts.length<=50000/\∀x∈ts,nY dd x:=by
  rcases hd with h1 | h1 | h1
  ·exact .inl h1
  ·exact absurd h1 hz
  ·exact .inr h1
 clear hz;by_cases hz:∃z,tI z=true/\d=.str z
 ·obtain⟨z,hzn,rfl⟩:=hz;refine hU (λb=>b=false) (λq hq=>⟨_,rfl,?_⟩) (λhT=>by cases hT) λ_=>?_
  ·show(if false=true then q true else _);rw[if_neg (by decide)];exact⟨_,rfl,hq _ rfl⟩
  unfold kC;dsimp only;refine⟨_,rfl,_,rfl,⟨rfl,rfl,(aD rfl)⟩,?_⟩;show(if bP (.bool (MO "bool" (.str z))) (.bool (MO "bool" (.str z)))=true then _ else _);rw[if_pos (e _)];refine⟨_,rfl,_,rfl,FD (VR hzn) (VR hzn),?_⟩;show Q (.bool (z==z));rw[beq_self_eq_true];exact h
 ·obtain⟨ts,hts,hl,hx⟩:=hd.resolve_left hz;refine hU (λb=>b=true) (λq hq=>⟨_,rfl,?_⟩) (λ_=>?_) λhF=>by cases hF
  ·rcases hts with rfl | rfl
   ·show(if false=true then q true else _);rw[if_neg (by decide)];exact⟨_,rfl,hq _ rfl⟩
   ·show(if true=true then q true else M6 (aJ7 "tuple" (IB 1)) [.val (.list ts),.val (.list ts)] q);rw[if_pos rfl];exact hq _ rfl
  refine hU (λb=>b=false) (λq hq=>?_) (λhT=>by cases hT) λ_=>?_
  ·rcases hts with rfl | rfl
   all_goals
    refine⟨_,rfl,_,rfl,⟨rfl,rfl,(aD rfl)⟩,?_⟩;show(if(!bP (.bool _) (.bool _))=true then q true else _);rw[e,if_neg (by decide)];refine⟨_,rfl,_,rfl,⟨rfl,rfl,(aD rfl)⟩,?_⟩;show q (!bP (.bool _) (.bool _));rw[e];exact hq _ rfl
  unfold kC;dsimp only
  have pairs:∀x∈oY ts ts,∃a b,x=.tuple [a,b]:=λx hx=>by
   obtain⟨k,hk⟩:=cD hx;obtain⟨a,b,_,_,rfl⟩:=vQ hk;exact⟨_,_,rfl⟩
  have twins:∀a b,.tuple [a,b]∈oY ts ts->a∈ts/\b=a:=λa b hm=>by
   obtain⟨k,hk⟩:=cD hm;obtain⟨a',b',h1,h2,e⟩:=vQ hk;rw[h1]at h2;cases h2;simp only[gX.injEq,List.cons.injEq,and_true]at e;obtain⟨rfl,rfl⟩:=e;exact⟨aZ h1,rfl⟩
  have done:∃bs:List Bool,JC ((oY ts ts).map λ_=>zK true)=.list (bs.map zK)/\Q (.bool (bs.all id)):=by
   refine⟨(oY ts ts).map λ_=>true,by rw[bG];rfl,?_⟩;have:(((oY ts ts).map λ_=>true).all id)=true:=by simp
   rw[this];exact h
  rcases hts with rfl | rfl
  ·refine⟨_,rfl,_,rfl,⟨rfl,rfl,(aD rfl)⟩,?_⟩;show(if bP (.int _) (.int _)=true then _ else _);rw[if_pos (ei _)];dsimp only[nX,yM,IR];refine FE (ts:=oY ts ts) (λR h=>⟨_,rfl,_,rfl,ts,ts,.inl rfl,h⟩) (λ_=>.bool true) (by rw[lO];omega) pairs (λa b q hm hq=>?_) done;obtain⟨ha,rfl⟩:=twins a b hm;exact⟨_,rfl,_,rfl,_,rfl,hx _ ha,hq⟩
  ·refine⟨_,rfl,_,rfl,⟨rfl,rfl,(aD rfl)⟩,?_⟩;show(if bP (.int _) (.int _)=true then _ else _);rw[if_pos (ei _)];dsimp only[nX,yM,IR];refine FE (ts:=oY ts ts) (λR h=>⟨_,rfl,_,rfl,ts,ts,.inr rfl,h⟩) (λ_=>.bool true) (by rw[lO];omega) pairs (λa b q hm hq=>?_) done;obtain⟨ha,rfl⟩:=twins a b hm;exact⟨_,rfl,_,rfl,_,rfl,hx _ ha,hq⟩
def aIh:bU P w K mg base eG 8 a_42 f_42 ["_law_found","_law_due"] (bJ K LS):=by
 have h:∀dd:Nat,bU P w K mg base eG (1+dd) a_42 f_42 ["_law_found","_law_due"] (bJ K (rT dd)):=λdd=>by
  induction dd with
  |zero=>exact FM wL λds Q h=>T2 h
  |succ dd ih=>exact W9 T dd ih
 exact h 7
def aIg:bU P w K mg base eG 1 a_43 f_43 ["_law_form_here"] (bJ K RM):=by
 refine tZ T.D_43.F aA4 (λds Q h=>by obtain⟨fs,an,rfl,F,h⟩:=h;rfl) λcdv Ar outer s H E hr ds Q h=>?_;obtain⟨fs,an,rfl,F,h⟩:=h;have nd:=aA4.nd;refine⟨_,(bC (so 1 nd aO)
 (bC (sf (fZ (cG bM dP (aJ 0) aQ)) (tM (sC rfl (gR (pn 2 nd) (gR (pn 3 nd) pF))))
 (cA (jP (eQ lV pW (cB jG (aB (aJ 3) aO) cJ T.b_len gA) aQ)
 (cA (EU (i:=1) (pv 1) (gG (aB eU (aB (aJ 2) (aB (cG bM dP (aJ 3) aQ) aO)))) (pb:=λh=>kJ (mI cI gW gU mU (pv 1) h))))
 (bC (sF 1 nd (MS (pv 1) (el (fr:=[none,some 2]) (N':=["_law_value","_law_name"]) (fZ (aJ 3)) (λb=>⟨(eN (pk 0)),iG,(gG (aB eU (aB (aJ 1) (aB (aJ 0) aO))))⟩))))
 (cA (sF 1 nd (MS (pv 1) (el (fr:=[none,some 2]) (N':=["_law_value","_law_name"]) (fZ (iL lK tY (aJ 3) (iO aQ) (iO (dD sE HB (cB jG (aB (aJ 3) aO) cJ T.b_len gA) aQ)))) (λb=>⟨(eN (pk 0)),iG,(gG (aB eU (aB (aJ 1) (aB (aJ 0) aO))))⟩)))))))))
 (rR 1 (cA (dO (aJ 1)))))),?_⟩
 show jA _ _ _ [.val (fD fs an),.un,.un,.un];have n5:=F.n5;refine tE [] (aD rfl) (λq hq=>hq) ?_
 refine pE (ts:=fs.map jZ) (λR h=>⟨_,rfl,_,rfl,_,rfl,h⟩)
  (λi σ=>∃s2 s3:Sl,σ=[.val (fD fs an),.own (fR (fs.take i)),s2,s3]) ⟨_,_,rfl⟩ (λi x σ' hx hP=>?_) λσ' hP=>?_
 ·obtain⟨s2,s3,rfl⟩:=hP;rw[aK]at hx;obtain⟨f,hfk,rfl⟩:=cV.mp hx;have hf:=aZ hfk;obtain⟨v2,v5,hvv⟩:=F.vs f hf;have hcl:=lT F (fs.take i) λg hg=>eI hg;have hkl:(fs.take i).length<=5:=by rw[bO];omega
  have e:fR (fs.take (i+1))=fR (fs.take i)++GE f:=by
   unfold fR;rw[cW,hfk,cK,PX];show _++[GE f].flatten=_;rw[JE]
  refine⟨_,_,rfl,?_⟩;by_cases e2:f.2.length=2
  ·refine uY (λb=>b=true) (λq hq=>⟨_,rfl,hq _ (decide_eq_true (by rw[aA];omega))⟩) (λ_=>?_) λhF=>by cases hF
   have h0:f.2[0]?=some (f.2[0]'(by omega)):=aE (by omega)
   have eq:GE f=[mkQ "is" f (f.2[0]'(by omega))]:=by
    have e4:tX f=[]:=by
     unfold tX;rw[show f.2.length-3=0 by omega];rfl
    unfold GE;rw[e4];unfold BC;rw[if_pos e2]
    have e3:f.2.take 1=[f.2[0]'(by omega)]:=by
     rw[cW,h0];rfl
    rw[e3];rfl
   refine wE (mkQ "is" f (f.2[0]'(by omega))) rfl (by omega) (λq hq=>⟨_,rfl,_,rfl,_,L2.gQ (by rw[aK,h0];rfl),(aD rfl),hq⟩) ⟨.val (.str f.1),.val (.tuple (f.2.map aP)),?_⟩;rw[e,eq];rfl
  ·refine uY (λb=>b=false) (λq hq=>⟨_,rfl,hq _ (decide_eq_false (by rw[aA];omega))⟩) (λhT=>by cases hT) λ_=>?_;refine(show jA (GY 1 _) _ _ _ from⟨_,rfl,?_⟩);refine iQ (ts:=f.2.map aP) (λR h=>⟨_,rfl,_,rfl,h⟩) (λx=>.tuple [.str "is",.str f.1,x]) (by rw[aA];omega) (λx q hx hq=>⟨_,rfl,_,rfl,(aD rfl),hq⟩) ?_;rw[bG];refine⟨_,rfl,by rw[aA];omega,?_⟩;dsimp only;refine(show GY 1 _ _ _ from⟨_,rfl,?_⟩)
   have ec:kW (f.2.map aP) (some 1) (some (((f.2.map aP).length:Int)-2))=(tX f).map aP:=by
    rw[aA,show(f.2.length:Int)-2=((f.2.length-2:Nat):Int) by omega];have:=VO (f.2.map aP) 1 (f.2.length-2);rw[show f.2.length-2-1=f.2.length-3 by omega]at this;unfold tX;rw[aGd,aGe];exact this
   have ql:(tX f).length<=5:=by unfold tX;rw[bO,eP];omega
   refine iQ (ts:=(tX f).map aP) (λR h=>?_) (λx=>.tuple [.str "upto",.str f.1,x]) (by rw[aA];omega) (λx q hx hq=>⟨_,rfl,_,rfl,(aD rfl),hq⟩) ?_
   ·rw[<- ec]at h;exact⟨_,rfl,_,rfl,_,rfl,h⟩
   rw[bG];refine⟨_,rfl,by rw[bQ,aA,aA];omega,.val (.str f.1),.val (.tuple (f.2.map aP)),?_⟩;rw[e];unfold GE BC;rw[if_neg e2,<- WE];rfl
 ·obtain⟨s2,s3,rfl⟩:=hP;rw[aA,eO];exact⟨_,rfl,_,rfl,by rw[<- zS];exact h⟩
def aIf:bU P w K mg base eG 1 a_44 f_44 ["_law_form_here","_law_rows"] (bJ K LR):=by
 refine tZ T.D_44.F aA3 (λds Q h=>by obtain⟨fs,an,rs,rfl,F,hok,hrl,h⟩:=h;rfl) λcdv Ar outer s H E hr ds Q h=>?_;obtain⟨fs,an,rs,rfl,F,hok,hrl,h⟩:=h;have nd:=aA3.nd;refine⟨_,(cA (dO (el (fr:=[none,some 1]) (N':=["_law_answer","_law_rows"]) (fZ (cG bM dP (aJ 0) aQ)) (λb=>⟨(eN (pk 0)),iG,(cB jG (aB (el (fr:=[none,some 0]) (N':=["_law_row","_law_answer"]) (fZ (aJ 1)) (λb=>⟨(eN (pk 0)),(FI (eQ lV pW (cG bM dP (aJ 0) aQ) (aJ 1))),(aJ 0)⟩)) aO) cJ T.b_len gA)⟩)))),?_⟩;have a4:=F.a4;refine(iQ (ts:=an.map aP) (λR h=>⟨_,rfl,_,rfl,_,rfl,h⟩) (ZJ rs) (by rw[aA];omega) (λx q hx hq=>?_) ?_)
 ·obtain⟨a,ha,rfl⟩:=bA.mp hx;show nX (f1 aJs) _ _ _;dsimp only[nX,yM,IR];refine BQ (ts:=rs.map cS) (λR h=>⟨_,rfl,_,rfl,h⟩) (λx=>match x with | .tuple [_,.str z]=>decide (z=a) | _=>false) id (by rw[aA];omega) (λx q hx hq=>?_) (λx q hx hq=>⟨_,rfl,hq⟩) ?_
  ·obtain⟨r,hr,rfl⟩:=bA.mp hx;exact⟨_,rfl,_,rfl,_,rfl,hq⟩
  ·rw[CU,sY]
   have e:((rs.filter ((λx:D=>match x with | .tuple [_,.str z]=>decide (z=a) | _=>false)∘cS)).map cS).length=vD rs a:=by
    rw[aA];unfold vD;rw[CZ];rfl
   show q (.int ((((rs.filter ((λx:D=>match x with | .tuple [_,.str z]=>decide (z=a) | _=>false)∘cS)).map cS).length:Nat):Int));rw[e];exact hq
 ·show Q _
  have e:(an.map aP).map (ZJ rs)=(hZ an rs).map bI:=by
   unfold hZ;rw[bG,bG];rfl
  rw[e];exact h
def aIe
  (F_44:bU P w K mg base eG 1 a_44 f_44 ["_law_form_here","_law_rows"] (bJ K LR)):bU P w K mg base eG 2 a_45 f_45 ["_law_form_here","_law_rows"] (bJ K RL):=by
 refine tZ T.D_45.F aA2 (λds Q h=>by obtain⟨fs,an,rs,rfl,F,hok,hrl,h⟩:=h;rfl) λcdv Ar outer s H E hr ds Q h=>?_;obtain⟨fs,an,rs,rfl,F,hok,hrl,h⟩:=h;have nd:=aA2.nd;refine⟨_,(bC (ss 2 nd (cd F_44 T.D_44 hr (aB (aJ 0) (aB (aJ 1) aO))))
 (cA (dO (dD sE HB (dD fF mK (cB jG (aB (aJ 1) aO) cJ T.b_len gA) (cB jG (aB (aJ 1) aO) cJ T.b_len gA)) (cB aCz (aB (el (fr:=[none]) (N':=["_law_count"]) (fZ (aJ 2)) (λb=>⟨(eN (pk 0)),iG,(dD fF mK (aJ 0) (aJ 0))⟩)) aO) (uG rfl) T.b_sum VV))))),?_⟩
 show jA _ _ _ [.val (fD fs an),.val (.list (rs.map cS)),.un];have a4:=F.a4;refine dB (.list ((hZ an rs).map bI)) (λq hq=>⟨_,rfl,_,rfl,fs,an,rs,rfl,F,hok,hrl,hq⟩) ?_;have hal:(hZ an rs).length=an.length:=by unfold hZ;rw[aA]
 have hcn:∀c∈hZ an rs,0<=c/\c<=(rs.length:Int):=λc hc=>by
  unfold hZ at hc;obtain⟨a,_,rfl⟩:=bA.mp hc;have:=VP rs a;omega
 refine⟨_,rfl,_,rfl,.inl ⟨by rw[aA];omega,by rw[aA];omega⟩,?_⟩;show nX (f1 aJr) _ _ _;dsimp only[nX,yM,IR];refine iQ (ts:=(hZ an rs).map bI) (λR h=>⟨_,rfl,_,rfl,h⟩) sqD (by rw[aA,hal];omega) (λx q hx hq=>?_) ?_
 ·obtain⟨c,hc,rfl⟩:=bA.mp hx;have:=hcn c hc;exact⟨_,rfl,_,rfl,.inl ⟨by omega,by omega⟩,hq⟩
 ·have e:((hZ an rs).map bI).map sqD=((hZ an rs).map λc=>c*c).map bI:=by
   rw[bG,bG];rfl
  rw[e];refine⟨_,rfl,λn hn=>?_,by rw[aA,hal];omega,?_⟩
  ·obtain⟨c,hc,rfl⟩:=bA.mp hn;have:=hcn c hc;have h1:0<=c*c:=aGg (by omega) (by omega);have h2:c*c<=60*60:=aGh (by omega) (by omega) (by omega) (by omega);exact⟨h1,by omega⟩
  ·have e2:=aD5 F hok;show Q (.int ((((rs.map cS).length:Nat):Int)*(((rs.map cS).length:Nat):Int)-((hZ an rs).map λc=>c*c).sum));rw[aA,e2];exact h
def W8(dd:Nat)
  (F_44:bU P w K mg base eG 1 a_44 f_44 ["_law_form_here","_law_rows"] (bJ K LR))
  (F_45:bU P w K mg base eG 2 a_45 f_45 ["_law_form_here","_law_rows"] (bJ K RL))
  (F_43:bU P w K mg base eG 1 a_43 f_43 ["_law_form_here"] (bJ K RM))
  (F_41:bU P w K mg base eG 1 a_41 f_41 ["_law_form_here","_law_knot","_law_case"] (bJ K RN))
  (F_46:bU P w K mg base eG (8+dd) a_46 f_46 ["_law_form_here","_law_rows","_law_deep","_law_few"] (bJ K (rS dd))):bU P w K mg base eG (8+dd+1) a_46 f_46 ["_law_form_here","_law_rows","_law_deep","_law_few"] (bJ K (rS (dd+1))):=by
 refine tZ T.D_46.F aA1 (λds Q h=>by obtain⟨fs,an,rs,d,m,rfl,F,hrs,hl,hd,hm,h⟩:=h;rfl) λcdv Ar outer s H E hr ds Q h=>?_;obtain⟨fs,an,rs,d,m,rfl,F,hrs,hl,hd,hm,h⟩:=h;have nd:=aA1.nd;refine⟨_,(bC (ss 4 nd (cd (hk:=by omega) F_44 T.D_44 hr (aB (aJ 0) (aB (aJ 1) aO))))
 (bC (ss 5 nd (gG (aB eU (aB (cG bM dP (cG bM dP (aJ 0) aQ) (tO (aJ 4) (aB (cB aC0 (aB (aJ 4) aO) (uH rfl) T.b_max VW) aO) (λh ha=>mI cI lX lW (tJ hr) h ha))) aO))))
 (bC (jP (rQ (AS (eQ (xI hr) nM (aJ 2) aQ) (xA (eQ (xI hr) nM (aJ 1) (xQ aO)))))
 (cA (dO (aJ 5)))
 gZ)
 (bC (ss 6 nd qW)
 (bC (ss 7 nd (cd (hk:=by omega) F_45 T.D_45 hr (aB (aJ 0) (aB (aJ 1) aO))))
 (bC (ss 8 nd (cB jG (aB (aJ 1) aO) cJ T.b_len gA))
 (bC (sf (fZ (cd (hk:=by omega) F_43 T.D_43 hr (aB (aJ 0) aO))) (eN (pn 9 nd))
 (cA (sf (fZ (xQ (aB eU (aB eU aO)))) (eN (pn 10 nd))
 (bC (ss 11 nd (gG (aB eU (aB (aJ 9) (aB (aJ 10) aO)))))
 (bC (mZ (i:=12) (fr:=[none,some 0,some 11]) (N':=["_law_row","_law_form_here","_law_knot"]) (fZ (aJ 1)) (λb=>⟨(eN (pk 0)),(FI (eQ lV pW (cd (hk:=by omega) F_41 T.D_41 hr (aB (aJ 1) (aB (aJ 2) (aB (cG bM dP (aJ 0) aQ) aO)))) eU)),(aJ 0)⟩) (λhi hY=>lU (show pG _ (aY (top 57)) ["_law_form_here","_law_rows","_law_deep","_law_few","_law_counts_here","_law_leaf","_law_chosen","_law_least_top","_law_least_bottom","_law_question","_law_stray","_law_knot","_law_yes","_law_no","_law_top","_law_bottom"] ["_law_row","_law_form_here","_law_knot"] [none,some 0,some 11]=true from by decide +kernel) nd rfl (by first | exact Or.inl rfl | exact Or.inr rfl) rfl hi hY rfl))
 (bC (mZ (i:=13) (fr:=[none,some 0,some 11]) (N':=["_law_row","_law_form_here","_law_knot"]) (fZ (aJ 1)) (λb=>⟨(eN (pk 0)),(FI (eQ lV pW (cd (hk:=by omega) F_41 T.D_41 hr (aB (aJ 1) (aB (aJ 2) (aB (cG bM dP (aJ 0) aQ) aO)))) eU)),(aJ 0)⟩) (λhi hY=>lU (show pG _ (aY (top 57)) ["_law_form_here","_law_rows","_law_deep","_law_few","_law_counts_here","_law_leaf","_law_chosen","_law_least_top","_law_least_bottom","_law_question","_law_stray","_law_knot","_law_yes","_law_no","_law_top","_law_bottom"] ["_law_row","_law_form_here","_law_knot"] [none,some 0,some 11]=true from by decide +kernel) nd rfl (by first | exact Or.inl rfl | exact Or.inr rfl) rfl hi hY rfl))
 (cA (jP (rQ (AU (eQ DP rL (cB jG (aB (aJ 12) aO) cJ T.b_len gA) (aJ 3)) (vU (eQ DP rL (cB jG (aB (aJ 13) aO) cJ T.b_len gA) (aJ 3)))))
 (bC (ss 14 nd (dD dG jF (dD fF mK (cd (hk:=by omega) F_45 T.D_45 hr (aB (aJ 0) (aB (aJ 12) aO))) (cB jG (aB (aJ 13) aO) cJ T.b_len gA)) (dD fF mK (cd (hk:=by omega) F_45 T.D_45 hr (aB (aJ 0) (aB (aJ 13) aO))) (cB jG (aB (aJ 12) aO) cJ T.b_len gA))))
 (bC (ss 15 nd (dD fF mK (cB jG (aB (aJ 12) aO) cJ T.b_len gA) (cB jG (aB (aJ 13) aO) cJ T.b_len gA)))
 (cA (jP (eQ TD rL (dD fF mK (aJ 14) (aJ 8)) (dD fF mK (aJ 7) (aJ 15)))
 (bC (ss 6 nd (gG (aB (aJ 11) (aB (aJ 12) (aB (aJ 13) aO)))))
 (bC (ss 7 nd (aJ 14))
 (cA (ss 8 nd (aJ 15)))))
 gZ))))
 gZ))))))))
 (bC (jP (eQ J2 TJ (aJ 6) qW)
 (cA (dO (aJ 5)))
 gZ)
 (bC (ss 12 nd (cd (hk:=by omega) F_46 T.D_46 hr (aB (aJ 0) (aB (cG bM dP (aJ 6) aQ) (aB (dD sE HB (aJ 2) aQ) (aB (aJ 3) aO))))))
 (cA (dO (dD dG jF (cG bM dP (aJ 6) aQ) (gG (aB (aJ 12) (aB (cd (hk:=by omega) F_46 T.D_46 hr (aB (aJ 0) (aB (cG bM dP (aJ 6) aQ) (aB (dD sE HB (aJ 2) aQ) (aB (aJ 3) aO))))) aO))))))))))))))),?_⟩
 show jA _ _ _ [.val (fD fs an),.val (.list (rs.map cS)),.val (.int d),.val (.int m),.un,.un,.un,.un,.un,.un,.un,.un,.un,.un,.un,.un];have a2:=F.a2;have a4:=F.a4;refine dB (.list ((hZ an rs).map bI)) (λq hq=>⟨_,rfl,_,rfl,fs,an,rs,rfl,F,hrs,hl,hq⟩) ?_;refine eA (λv=>∃a,EJ an rs a/\v=lE (.say a)) (λq hq=>?_) ?_
 ·have hne:hZ an rs≠[]:=λz=>by
   have:=congrArg kF z;unfold hZ at this;rw[aA]at this;simp at this;rw[this]at a2;simp at a2
  refine⟨_,rfl,_,rfl,_,rfl,_,rfl,_,rfl,_,rfl,hne,λm hm hmax=>?_⟩;obtain⟨j,hj,hno⟩:=B3 (hZ an rs) m hm;have hjl:=(aH.mp hj).1;have hal:(hZ an rs).length=an.length:=by unfold hZ;rw[aA]
  have haj:an[j]?=some an[j]:=aE (by omega);have hcj:(hZ an rs)[j]?=some ((vD rs an[j]:Nat):Int):=by unfold hZ;rw[aK,haj];rfl
  rw[hj]at hcj;have em:m=((vD rs an[j]:Nat):Int):=Option.some.inj hcj;refine⟨_,j,rfl,DQ hj hno,by omega,_,L2.gQ (by rw[aK,haj];rfl),(aD rfl),hq _ ⟨_,⟨j,haj,λi b hb=>?_,λi b hi hb=>?_⟩,rfl⟩⟩
  ·have:=hmax ((vD rs b:Nat):Int) (aZ (i:=i) (by unfold hZ;rw[aK,hb];rfl));omega
  ·have hcb:(hZ an rs)[i]?=some ((vD rs b:Nat):Int):=by unfold hZ;rw[aK,hb];rfl
   have h1:=hmax _ (aZ hcb);have h2:((vD rs b:Nat):Int)≠m:=λz=>hno i hi (by rw[hcb,z]);omega
 rintro _ ⟨a,ha,rfl⟩;have hth:=aLr F hrs hl
 have leaf:lQ fs rs m=none\/d=0->Q (lE (.say a)):=λz=>h _ (by
  cases d with
  |zero=>exact⟨a,ha,rfl⟩
  |succ e=>
   unfold Gr;rw[z.resolve_right (by omega)];exact⟨a,ha,rfl⟩)
 refine hU (λb=>b=(decide (d=0)||decide (rs=[]))) (λq hq=>?_) (λhT=>?_) λhF=>?_
 ·refine⟨_,rfl,⟨rfl,rfl,(aD rfl)⟩,?_⟩;show(if((d:Int)==0)=true then q true else _);by_cases z:d=0
  ·rw[if_pos (by simp[z])];exact hq _ (by rw[decide_eq_true z];rfl)
  ·rw[if_neg (by simp[z])];refine⟨_,rfl,(aD rfl),⟨hth.lay,rfl,bK (ZY _ _) (aD rfl)⟩,?_⟩;refine hq _ ?_;rw[decide_eq_false z,GJ]
   cases rs with
   |nil=>rfl
   |cons r rs=>rfl
 ·refine⟨_,rfl,leaf ?_⟩;have:=hT.symm;rw[sZ,decide_eq_true_eq,decide_eq_true_eq]at this;rcases this with z | z
  ·exact .inr z
  ·subst z;exact .inl (V1 fs m)
 have hz:=hF.symm;rw[NI,decide_eq_false_iff_not,decide_eq_false_iff_not]at hz;obtain⟨hd0,hr0⟩:=hz;have hR:0<rs.length:=PV.mpr hr0
 try unfold kC
 dsimp only;refine dB .none (λq hq=>hq) ?_;refine dB (.int ((yV rs rs:Nat):Int)) (λq hq=>⟨_,rfl,_,rfl,fs,an,rs,rfl,F,hrs,hl,hq⟩) ?_;refine dB (.int (rs.length:Nat)) (λq hq=>⟨_,rfl,?_⟩) ?_
 ·show q (.int (((rs.map cS).length:Nat):Int));rw[aA];exact hq
 have st:∀(S:Option Ch)(s9 s10 s11 s12 s13 s14 s15:Sl),∃σ:List Sl,σ=[.val (fD fs an),.val (.list (rs.map cS)),.val (.int d),.val (.int m),.val (.list ((hZ an rs).map bI)),.val (lE (.say a)),.val (XT fs rs S),.val (.int ((opT fs rs S:Nat):Int)),.val (.int ((opB fs rs S:Nat):Int)),s9,s10,s11,s12,s13,s14,s15]:=λ_ _ _ _ _ _ _ _=>⟨_,rfl⟩;clear st;have hfl:∀(p:Rw->Bool),(rs.filter p).length<=60:=λp=>bK (cE _ _) hl
 refine pE (ts:=(qs fs).map qD) (λR h=>⟨_,rfl,fs,an,rfl,F,_,rfl,h⟩)
  (λi σ=>∃(s9 s10 s11 s12 s13 s14 s15:Sl),σ=[.val (fD fs an),.val (.list (rs.map cS)),.val (.int d),.val (.int m),.val (.list ((hZ an rs).map bI)),.val (lE (.say a)),.val (XT fs rs ((((qs fs).take i).flatMap oZ).foldl (CW fs rs m) none)),.val (.int ((opT fs rs ((((qs fs).take i).flatMap oZ).foldl (CW fs rs m) none):Nat):Int)),.val (.int ((opB fs rs ((((qs fs).take i).flatMap oZ).foldl (CW fs rs m) none):Nat):Int)),s9,s10,s11,s12,s13,s14,s15]) ⟨_,_,_,_,_,_,_,rfl⟩ (λi x σ' hx hP=>?_) λσ' hP=>?_
 ·obtain⟨s9,s10,s11,s12,s13,s14,s15,rfl⟩:=hP;rw[aK]at hx;obtain⟨q0,hq0,rfl⟩:=cV.mp hx;have hqm:=aZ hq0;have hqi:=E7 hqm
  have eT:((qs fs).take (i+1)).flatMap oZ=((qs fs).take i).flatMap oZ++oZ q0:=by
   rw[cW,hq0,PY];simp
  generalize ((qs fs).take i).flatMap oZ=pre at *
  rw[eT];refine(show R4 _ _ _ _ _ from ?_)
  refine aJw (ts:=[.str "yes",.str "no"]) (λR h=>⟨(aD rfl),_,rfl,h⟩)
   (λj σ=>∃(s10 s11 s12 s13 s14 s15:Sl),σ=[.val (fD fs an),.val (.list (rs.map cS)),.val (.int d),.val (.int m),.val (.list ((hZ an rs).map bI)),.val (lE (.say a)),.val (XT fs rs ((pre++(oZ q0).take j).foldl (CW fs rs m) none)),.val (.int ((opT fs rs ((pre++(oZ q0).take j).foldl (CW fs rs m) none):Nat):Int)),.val (.int ((opB fs rs ((pre++(oZ q0).take j).foldl (CW fs rs m) none):Nat):Int)),.val (qD q0),s10,s11,s12,s13,s14,s15]) ?_ (λj x σ' hx hP=>?_) λσ' hP=>?_
  ·rw[aDa,dQ];exact⟨_,_,_,_,_,_,rfl⟩
  ·obtain⟨s10,s11,s12,s13,s14,s15,rfl⟩:=hP
   obtain⟨st,rfl,hst,hc⟩:∃st:Str,x=.str st/\(st="yes"\/st="no")/\(oZ q0)[j]?=some (q0,st):=by
    have hj:j<2:=(aH.mp hx).1;rcases(show j=0\/j=1 by omega)with rfl | rfl
    ·cases hx;exact⟨_,rfl,.inl rfl,rfl⟩
    ·cases hx;exact⟨_,rfl,.inr rfl,rfl⟩
   have e1:pre++(oZ q0).take (j+1)=(pre++(oZ q0).take j)++[(q0,st)]:=by
    rw[cW,hc,<- WE];rfl
   have e2:(pre++(oZ q0).take (j+1)).foldl (CW fs rs m) none=CW fs rs m ((pre++(oZ q0).take j).foldl (CW fs rs m) none) (q0,st):=by
    rw[e1,yT];rfl
   rw[e2]
   generalize (pre++(oZ q0).take j).foldl (CW fs rs m) none=S
   have hcast:∀l:List Rw,((((l.map cS).length:Nat)):Int)=(l.length:Int):=λl=>by rw[aA]
   refine(show jA _ _ _ _ from ?_);refine dB (.tuple [.str "ask",qD q0,.str st]) (λq hq=>⟨_,rfl,_,rfl,(aD rfl),hq⟩) ?_;refine dB (.list ((yR fs (q0,st) rs).map cS)) (λq hq=>?_) ?_
   ·refine BQ (ts:=rs.map cS) (λR h=>⟨_,rfl,_,rfl,h⟩) (onD fs q0 st "yes") id (by rw[aA];omega) (λx q hx hq=>?_) (λx q hx hq=>⟨_,rfl,hq⟩) ?_
    ·obtain⟨r,hr,rfl⟩:=bA.mp hx;exact⟨_,rfl,_,rfl,_,rfl,_,rfl,fs,an,q0.1,q0.2.1,q0.2.2,st,r.1,rfl,F,hqi,hst,(hrs r hr).1,hq⟩
    ·rw[MT];exact hq
   refine dB (.list ((nR fs (q0,st) rs).map cS)) (λq hq=>?_) ?_
   ·refine BQ (ts:=rs.map cS) (λR h=>⟨_,rfl,_,rfl,h⟩) (onD fs q0 st "no") id (by rw[aA];omega) (λx q hx hq=>?_) (λx q hx hq=>⟨_,rfl,hq⟩) ?_
    ·obtain⟨r,hr,rfl⟩:=bA.mp hx;exact⟨_,rfl,_,rfl,_,rfl,_,rfl,fs,an,q0.1,q0.2.1,q0.2.2,st,r.1,rfl,F,hqi,hst,(hrs r hr).1,hq⟩
    ·rw[MT,zW F hqi hst hrs];exact hq
   have ly:(yR fs (q0,st) rs).length<=60:=hfl (onC fs (q0,st));have ln:(nR fs (q0,st) rs).length<=60:=hfl (λr=>!onC fs (q0,st) r);refine uY (λb=>b=okC fs rs m (q0,st)) (λq hq=>⟨_,rfl,_,rfl,?_⟩) (λhT=>?_) λhF=>?_
   ·show(if decide ((((((yR fs (q0,st) rs).map cS).length:Nat)):Int)>=m)=true then _ else q false);rw[hcast];unfold okC at hq;by_cases z:m<=((yR fs (q0,st) rs).length:Int)
    ·rw[if_pos (decide_eq_true z)];refine⟨_,rfl,_,rfl,?_⟩;refine hq _ ?_;rw[decide_eq_true z,nV,hcast]
    ·rw[if_neg (by rw[decide_eq_false z];decide)];exact hq _ (by rw[decide_eq_false z];rfl)
   ·have hok:=hT.symm;have hb1:=R6 (fs:=fs) hl (q0,st);have hb2:=aEv (fs:=fs) hl S;refine dB (.int ((JA fs rs (q0,st):Nat):Int)) (λq hq=>⟨_,rfl,_,rfl,fs,an,yR fs (q0,st) rs,rfl,F,hrs.filt _,hfl _,_,rfl,.inr ⟨by rw[hcast];omega,by rw[hcast];omega⟩,_,rfl,_,rfl,fs,an,nR fs (q0,st) rs,rfl,F,hrs.filt _,hfl _,_,rfl,.inr ⟨by rw[hcast];omega,by rw[hcast];omega⟩,?_⟩) ?_
    ·have e:((JA fs rs (q0,st):Nat):Int)=((yV (yR fs (q0,st) rs) (yR fs (q0,st) rs):Nat):Int)*(((nR fs (q0,st) rs).map cS).length:Int)+((yV (nR fs (q0,st) rs) (nR fs (q0,st) rs):Nat):Int)*(((yR fs (q0,st) rs).map cS).length:Int):=by
      unfold JA;rw[hcast,hcast,kR,fH,fH]
     rw[e]at hq;exact hq
    refine dB (.int ((GD fs rs (q0,st):Nat):Int)) (λq hq=>⟨_,rfl,_,rfl,.inr ⟨by rw[hcast];omega,by rw[hcast];omega⟩,?_⟩) ?_
    ·have e:((GD fs rs (q0,st):Nat):Int)=(((yR fs (q0,st) rs).map cS).length:Int)*(((nR fs (q0,st) rs).map cS).length:Int):=by
      unfold GD;rw[hcast,hcast,fH]
     rw[e]at hq;exact hq
    have es:CW fs rs m S (q0,st)=if JA fs rs (q0,st)*opB fs rs S<opT fs rs S*GD fs rs (q0,st)then some (q0,st)else S:=if_pos hok;rw[es];refine uY (λb=>b=decide (JA fs rs (q0,st)*opB fs rs S<opT fs rs S*GD fs rs (q0,st))) (λq hq=>⟨_,rfl,_,rfl,.inr ⟨by omega,by omega⟩,_,rfl,_,rfl,.inr ⟨by omega,by omega⟩,?_⟩) (λhT=>?_) λhF=>?_
    ·refine hq _ ?_;rw[decide_eq_decide,<- fH,<- fH,aKu]
    ·rw[if_pos (of_decide_eq_true hT.symm)];refine dB (XT fs rs (some (q0,st))) (λq hq=>⟨_,rfl,_,rfl,_,rfl,(aD rfl),hq⟩) ?_;refine dB (.int ((JA fs rs (q0,st):Nat):Int)) (λq hq=>⟨_,rfl,hq⟩) ?_;exact tH (.int ((GD fs rs (q0,st):Nat):Int)) (λq hq=>⟨_,rfl,hq⟩) ⟨_,_,_,_,_,_,rfl⟩
    ·rw[if_neg (of_decide_eq_false hF.symm)];exact⟨_,_,_,_,_,_,rfl⟩
   ·have es:CW fs rs m S (q0,st)=S:=if_neg (by rw[<- hF];decide);rw[es];exact⟨_,_,_,_,_,_,rfl⟩
  ·obtain⟨s10,s11,s12,s13,s14,s15,rfl⟩:=hP;exact⟨_,_,_,_,_,_,_,rfl⟩
 ·obtain⟨s9,s10,s11,s12,s13,s14,s15,rfl⟩:=hP
  have eq:((qs fs).take ((qs fs).map qD).length).flatMap oZ=FV fs:=by
   rw[aA,eO];rfl
  rw[eq,Y7 hm hR]
  cases eb:lQ fs rs m with
  |none=>
   refine hU (λb=>b=true) (λq hq=>⟨_,rfl,hq _ rfl⟩) (λ_=>?_) λhF=>by cases hF
   exact⟨_,rfl,leaf (.inl eb)⟩
  |some c=>
   refine hU (λb=>b=false) (λq hq=>⟨_,rfl,hq _ rfl⟩) (λhT=>by cases hT) λ_=>?_
   try unfold kC
   dsimp only
   cases d with
   |zero=>exact absurd rfl hd0
   |succ e=>
    have es:((e+1:Nat):Int)-1=((e:Nat):Int):=by omega
    refine eA (λv=>∃y,Gr fs an m e (yR fs c rs) y/\v=lE y) (λq hq2=>⟨_,rfl,_,rfl,_,rfl,_,rfl,_,rfl,fs,an,_,e,m,by rw[<- es]<;>rfl,F,hrs.filt _,hfl _,by omega,hm,λt ht=>hq2 _ ⟨t,ht,rfl⟩⟩) ?_;rintro _ ⟨y,h0,rfl⟩;refine⟨_,rfl,_,rfl,_,rfl,_,rfl,_,rfl,_,rfl,_,rfl,_,rfl,fs,an,_,e,m,by rw[<- es]<;>rfl,F,hrs.filt _,hfl _,by omega,hm,λn h1=>⟨(aD rfl),(aD rfl),h (.ask c.1.1 c.1.2.1 c.1.2.2 c.2 y n) ?_⟩⟩;unfold Gr;rw[eb];exact⟨y,n,h0,h1,rfl⟩
def aId
  (F_44:bU P w K mg base eG 1 a_44 f_44 ["_law_form_here","_law_rows"] (bJ K LR))
  (F_45:bU P w K mg base eG 2 a_45 f_45 ["_law_form_here","_law_rows"] (bJ K RL))
  (F_43:bU P w K mg base eG 1 a_43 f_43 ["_law_form_here"] (bJ K RM))
  (F_41:bU P w K mg base eG 1 a_41 f_41 ["_law_form_here","_law_knot","_law_case"] (bJ K RN)):bU P w K mg base eG 15 a_46 f_46 ["_law_form_here","_law_rows","_law_deep","_law_few"] (bJ K aAe):=by
 have h:∀dd:Nat,bU P w K mg base eG (8+dd) a_46 f_46 ["_law_form_here","_law_rows","_law_deep","_law_few"] (bJ K (rS dd)):=λdd=>by
  induction dd with
  |zero=>exact FM wL λds Q h=>T1 h
  |succ dd ih=>exact W8 T dd F_44 F_45 F_43 F_41 ih
 exact h 7
def aIa
  (F_47:bU P w K mg base eG 2 a_47 f_47 ["_law_tape_here","_law_form_here"] (bJ K RK))
  (F_48:bU P w K mg base eG 18 a_48 f_48 ["_law_book","_law_row"] (eB K (RJ c_Book)))
  (F_42:bU P w K mg base eG 8 a_42 f_42 ["_law_found","_law_due"] (bJ K LS)):bU P w K mg base eG 19 a_49 f_49 ["_law_tape_here","_law_book","_law_form_here","_law_rows","_law_many"] (eB K (aAd c_Book)):=by
 refine WH (F:=pY (lL c_Book)) T.D_49.F aAy (λτ n ds Q h=>by obtain⟨fs,an,d,m,Bo,dr,ns,N,t0,ht,rfl,hns,F,hf,hdp,hls,hd,hN,hn2,hH,h⟩:=h;rfl) λcdv Ar outer s H E hr Tp n ds Q h=>?_;obtain⟨fs,an,d,m,Bo,dr,ns,N,t0,ht,rfl,hns,F,hf,hdp,hls,hd,hN,hn2,hH,h⟩:=h;have nd:=aAy.nd;refine⟨_,(dR (aD1 (sJ (aB (aJ 4) aO) (λh=>pU rfl T.b_range h)) (eN (pn 5 nd))
 (dR (uT (ss 6 nd (cd F_47 T.D_47 hr (aB (aJ 0) (aB (aJ 2) aO)))))
 (dR (uS (i:=7) (FN 3 (cB jG (aB (aJ 3) aO) cJ T.b_len gA)) (λh=>mS (i:=7) nd rfl (by first | exact Or.inl rfl | exact Or.inr rfl) h))
 (dR (oJ (QX 3 (eQ BH rL (cB jG (aB (aJ 3) aO) cJ T.b_len gA) aQ))
 (fS (uT (ss 7 nd eU)))
 lS)
 (dR (oJ (QW (uO (uN (pZ F_42 T.D_42.m T.D_42.k T.D_42.d (hr.mono (by decide)) (dN (AE (k:=0) (f:=a_48) (fd:=f_48) (pn:=[]) (dN (jS (aJ 1)) (dN (jS (aJ 6)) kX)) (λh=>jE F_48 (hr.mono (by decide)) rfl T.D_48.m T.D_48.k T.D_48.d .nil iK h)) (dN (jS (aJ 7)) kX)) (λh=>jE F_42 (hr.mono (by decide)) rfl T.D_42.m T.D_42.k T.D_42.d .nil iK h)) (λh=>rZ h))))
 (fS (lI (jS sM)))
 lS)
 (fS (oJ (aLo (eQ (xH hr) nM (aJ 7) eU))
 (fS (LL (i:=3) (pv 3) (gG (aB (aJ 7) (aB (aJ 6) aO))) (pb:=λh=>kJ (mI cI gW gU mU (pv 3) h))))
 lS)))))) (λhi hg hb=>SR PassesOwn.never rfl hi hg hb))
 (fS (lI (jS sM)))),?_⟩
 obtain⟨Tb,lr⟩:=Tp;obtain⟨nb,nl0⟩:=n;injection ht with ht
 injection ht with ht1 ht
 injection ht with ht2 _
 obtain rfl:Tb=Bo:=jN ht1;subst ht2;subst hn2;show qM _ _ _ _ _ [.val (iH ns),.val (mQ Tb),.val (fD fs an),.val (I0 lr),.val (.int (N:Nat)),.un,.un,.un]
 refine aDg (ts:=fC N) (λR h=>⟨_,rfl,_,rfl,by omega,by omega,by simpa using h⟩)
  (λi mm σ=>∃(ks:List (Nat×Rw))(t:Tr)(s5 s6 s7:Sl),σ=[.val (iH ns),.val (mQ Tb),.val (fD fs an),.val (I0 lr),.val (.int (N:Nat)),s5,s6,s7]/\oP ks/\PN fs an m d ks t ks.length mm.1/\mm.2=iW ks) ⟨[],t0,_,_,_,rfl,λi e hi=>by simp at hi,hH,rfl⟩ (λi mm x σ' hx hP=>?_) λmm σ' hP=>?_
 ·obtain⟨ks,t,s5,s6,s7,rfl,hnum,hh,hm2⟩:=hP;obtain⟨nb,nl1⟩:=mm;dsimp only at hm2 hh;subst hm2;show qM (F:=pY (lL c_Book)) _ _ _ _ _ _;refine vP (eA (λv=>∃r,nF fs an r/\v=cS r) (λq hq=>⟨_,rfl,_,rfl,ns,fs,an,rfl,hns,F,λr hr=>hq _ ⟨r,hr,rfl⟩⟩) ?_);rintro _ ⟨r,hrow,rfl⟩;dsimp only;have hcd:=K2 F hrow;have hk0:=hh.few;refine LJ (.int (ks.length:Nat)) (λq hq=>⟨⟨_,_,rfl,rfl⟩,_,rfl,rfl,?_⟩) ?_
  ·have e:((iW ks).length:Int)=(ks.length:Int):=by rw[mL]
   show q _ (.int ((iW ks).length:Int));rw[e];exact hq
  have gok:=wK d hh.gr;by_cases h60:ks.length=60
  ·refine rP true (λq hq=>⟨⟨_,_,rfl,rfl⟩,_,rfl,?_⟩) (λ_=>?_) λz=>by cases z
   ·have e:decide (((iW ks).length:Int)>59)=true:=decide_eq_true (by rw[mL];omega);show q _ (decide (((iW ks).length:Int)>59));rw[e];exact hq
   refine(show zP _ _ _ _ _ from tH (.str "many") (λq hq=>hq) ?_);dsimp only;refine rP false (λq hq=>?_) (λz=>by cases z) λ_=>?_
   ·exact⟨_,_,rfl,_,rfl,_,rfl,fs,an,d,m,Tb,ks,ks.length,cS r,t,rfl,rfl,F,hf,hdp,hls,hh.kv,hh.ok,hd,hh.st,gok.1,by omega,hh.fol,by omega,hnum.new,hk0,hcd,.inr (.inl ⟨wH hrow,h60,⟨_,rfl,.str "many",rfl,.inr (.inl ⟨_,by decide +kernel,rfl⟩),hq⟩⟩)⟩
   ·unfold DB;dsimp only;refine JH false (λq hq=>⟨_,rfl,⟨by decide +kernel,by decide +kernel,(aD rfl)⟩,?_⟩) (λz=>by cases z) λ_=>?_
    ·have e:(!bP (.str "many") (.str "many"))=false:=by decide +kernel
     show q _ (!bP (.str "many") (.str "many"));rw[e];exact hq
    ·exact⟨ks,t,_,_,_,rfl,hnum,hh,rfl⟩
  ·refine rP false (λq hq=>⟨⟨_,_,rfl,rfl⟩,_,rfl,?_⟩) (λz=>by cases z) λ_=>?_
   ·have e:decide (((iW ks).length:Int)>59)=false:=decide_eq_false (by rw[mL];omega);show q _ (decide (((iW ks).length:Int)>59));rw[e];exact hq
   unfold DB;dsimp only;refine AO (λmm b=>b=false/\∃t',mm=((⟨rF (ks++[(ks.length,r)]),((ks.length+1:Nat):Int),lE t'⟩:JB),iW ks)/\Gr fs an m d ((ks++[(ks.length,r)]).map (·.2)) t') (λq hq=>?_) (λmm z=>by cases z.1) λmm z=>?_
   ·exact⟨_,_,rfl,_,rfl,_,rfl,fs,an,d,m,Tb,ks,ks.length,cS r,t,rfl,rfl,F,hf,hdp,hls,hh.kv,hh.ok,hd,hh.st,gok.1,by omega,hh.fol,by omega,hnum.new,hk0,hcd,.inr (.inr ⟨r,rfl,hrow,by omega,λt' hg=>⟨_,rfl,.int (ks.length:Nat),rfl,.inl ⟨_,rfl⟩,hq _ _ ⟨rfl,t',rfl,hg⟩⟩⟩)⟩
   ·obtain⟨_,t',rfl,hg⟩:=z;dsimp only;have e:iW ks++[.tuple [.int (ks.length:Nat),cS r]]=iW (ks++[(ks.length,r)]):=by unfold iW;rw[cK];rfl
    refine JH true (λq hq=>⟨_,rfl,⟨rfl,by decide +kernel,(aD rfl)⟩,hq⟩) (λ_=>?_) λz=>by cases z
    refine⟨⟨_,_,rfl,rfl⟩,_,rfl,_,rfl,(aD rfl),by show(iW ks).length<=_;rw[mL];omega,?_⟩;rw[e];exact⟨ks++[(ks.length,r)],t',_,_,_,rfl,hnum.snoc r,⟨rfl,by rw[bQ];rfl,rfl,tF hh.ok hrow,hg,by rw[bQ];show _+1<=60;omega⟩,rfl⟩
 ·obtain⟨ks,t,s5,s6,s7,rfl,hnum,hh,hm2⟩:=hP;obtain⟨nb,nl1⟩:=mm;dsimp only at hm2 hh;subst hm2;exact h ks t nb hnum hh
def aEz
  (F_38:bU P w K mg base eG 1 a_38 f_38 ["_law_tape_here","_law_many"] (bJ K GV))
  (F_47:bU P w K mg base eG 2 a_47 f_47 ["_law_tape_here","_law_form_here"] (bJ K RK))
  (F_49:bU P w K mg base eG 19 a_49 f_49 ["_law_tape_here","_law_book","_law_form_here","_law_rows","_law_many"] (eB K (aAd c_Book)))
  (F_40:bU P w K mg base eG 3 a_40 f_40 ["_law_tape_here","_law_fields","_law_values"] (bJ K aAf))
  (F_46:bU P w K mg base eG 15 a_46 f_46 ["_law_form_here","_law_rows","_law_deep","_law_few"] (bJ K aAe))
  (F_48:bU P w K mg base eG 18 a_48 f_48 ["_law_book","_law_row"] (eB K (RJ c_Book)))
  (F_42:bU P w K mg base eG 8 a_42 f_42 ["_law_found","_law_due"] (bJ K LS))
  (F_37:bU P w K mg base eG 1 a_37 f_37 ["_law_script"] (iP K aAh))
  (F_0:bU P w K mg base eG 16 a_0 f_0 ["self","form","deep","least"] (AA c_Book K aHi))
  (F_2:bU P w K mg base eG 17 a_2 f_2 ["self","number"] (eB K (aHg c_Book)))
  (F_4:bU P w K mg base eG 1 a_4 f_4 ["self"] (eB K (aD8 c_Book)))
  (F_5:bU P w K mg base eG 1 a_5 f_5 ["self"] (eB K (aHe c_Book)))
  (F_3:bU P w K mg base eG 17 a_3 f_3 ["self","number","row"] (eB K (aHf c_Book))):bU P w K mg base eG 20 a_law f_law ["_law_script"] (bJ K AY):=by
 refine tZ T.D_law.F RZ (λds Q h=>by obtain⟨ns,rfl,hl,h⟩:=h;rfl) λcdv Ar outer s H E hr ds Q h=>?_;obtain⟨ns,rfl,hl,h⟩:=h;have nd:=RZ.nd;refine⟨_,(bC (ss 1 nd (OY (cF F_37 T.D_37 hr (aB (aJ 0) aO))))
 (bC (ss 2 nd (cd F_40 T.D_40 hr (aB (aJ 1) (aB aQ (aB aQ aO)))))
 (bC (ss 3 nd (cY aKd (aB (pK lV pW (cd F_38 T.D_38 hr (aB (aJ 1) (aB aQ aO))) aQ) aO) O6 T.b_int aF0))
 (bC (ss 4 nd (dD dG jF aQ (cd F_38 T.D_38 hr (aB (aJ 1) (aB aQ aO)))))
 (aD0 (i:=5) (aB (aJ 2) (aB (aJ 3) (aB (aJ 4) aO))) (λh=>mS (i:=5) nd rfl (by first | exact Or.inl rfl | exact Or.inr rfl) (YB T.K_Book F_0 (hr.mono (by decide)) rfl T.x_Book T.D_0.d .nil iK h))
 (W2 (i:=6) (mS (i:=6) nd rfl (by first | exact Or.inl rfl | exact Or.inr rfl) (FA gL))
 (dR (oJ (QQ (QR (uO (uN (AE (k:=0) (f:=a_49) (fd:=f_49) (pn:=[]) (dN (jS (aJ 1)) (dN (jS (aJ 5)) (dN (jS (aJ 2)) (dN (jS (aJ 6)) (dN (jS (dD dG jF aQ (cd F_38 T.D_38 hr (aB (aJ 1) (aB aQ aO))))) kX))))) (λh=>jE F_49 (hr.mono (by decide)) rfl T.D_49.m T.D_49.k T.D_49.d .nil iK h)) (λh=>rZ h))) (JK (uO (uN (B5 1 (dN (HW (oN (by decide +kernel) (aJ 5) (λh=>oK h T.C_Book T.M_4 F_4 (hr.mono (by decide)) T.D_4.d .nil iK))) (dN (jS (aJ 6)) kX)) (λh=>jE F_42 (hr.mono (by decide)) rfl T.D_42.m T.D_42.k T.D_42.d .nil iK h)) (λh=>rZ h))))))
 (fS (lI (jS sM)))
 lS)
 (dR (oJ (QX 6 (eQ lV pW (cB jG (aB (aJ 6) aO) cJ T.b_len gA) aQ))
 (dR (oJ (QQ (QR (uP S9 aE1 (VB (dN (jS (aJ 5)) (dN (FN 6 (gG (aB (cG bM dP (cG bM dP (cG bM dP (aJ 6) aQ) aQ) aQ) (aB eU aO)))) kX)) (λh=>jE F_48 (hr.mono (by decide)) rfl T.D_48.m T.D_48.k T.D_48.d .nil iK h)) (jS eU)) (JK (uO (uN (B5 1 (dN (HW (oN (by decide +kernel) (aJ 5) (λh=>oK h T.C_Book T.M_4 F_4 (hr.mono (by decide)) T.D_4.d .nil iK))) (dN (jS (aJ 6)) kX)) (λh=>jE F_42 (hr.mono (by decide)) rfl T.D_42.m T.D_42.k T.D_42.d .nil iK h)) (λh=>rZ h))))))
 (fS (lI (jS sM)))
 lS)
 (dR (uT (ss 7 nd (cd F_38 T.D_38 hr (aB (aJ 1) (aB aQ aO)))))
 (dR (uT (ss 8 nd (cd F_47 T.D_47 hr (aB (aJ 1) (aB (aJ 2) aO)))))
 (dR (oJ (uP (xH hr) nM (HW (U9 bM dP (pH (by decide +kernel) (aJ 5) (CM (aB (aJ 7) (aB (aJ 8) aO))) (λh ha=>oB h T.C_Book T.M_3 F_3 (hr.mono (by decide)) T.D_3.d .nil iK ha)) (jS aQ))) (FN 6 (cG bM dP (cG bM dP (aJ 6) (aJ 7)) aQ)))
 (fS (lI (jS sM)))
 lS)
 (dR (W1 (i:=6) (aJ 7) (gG (aB (aJ 7) (aB (aJ 8) aO))) (λhe hi=>BE he (E9 (pv 6) hi vZ)))
 (dR (uS (i:=9) (ZA (i:=6) (cd F_38 T.D_38 hr (aB (aJ 1) (aB aQ aO))) (λh=>mI cI PySem.F.slot_list_pop PySem.F.type_list_pop T6 (pv 6) (cL h gL))) (λh=>mS (i:=9) nd rfl (by first | exact Or.inl rfl | exact Or.inr rfl) h))
 (dR (oJ (QW (uP (xH hr) nM (U9 bM dP (pH (by decide +kernel) (aJ 5) (CM (aB (cG bM dP (aJ 9) aQ) aO)) (λh ha=>oB h T.C_Book T.M_2 F_2 (hr.mono (by decide)) T.D_2.d .nil iK ha)) (jS aQ)) (jS (cG bM dP (aJ 9) aQ))))
 (fS (lI (jS sM)))
 lS)
 (dR (uT (ss 8 nd (cd F_47 T.D_47 hr (aB (aJ 1) (aB (aJ 2) aO)))))
 (dR (oJ (QW (QQ (QR (uP S9 aE1 (AE (k:=0) (f:=a_48) (fd:=f_48) (pn:=[]) (dN (jS (aJ 5)) (dN (jS (aJ 8)) kX)) (λh=>jE F_48 (hr.mono (by decide)) rfl T.D_48.m T.D_48.k T.D_48.d .nil iK h)) (jS aQ)) (JK (uP S9 aE1 (AE (k:=0) (f:=a_48) (fd:=f_48) (pn:=[]) (dN (jS (aJ 5)) (dN (jS (aJ 8)) kX)) (λh=>jE F_48 (hr.mono (by decide)) rfl T.D_48.m T.D_48.k T.D_48.d .nil iK h)) (jS eU))))))
 (fS (lI (jS sM)))
 lS)
 (fS (LL (i:=6) (pv 6) (gG (aB aQ (aB (aJ 8) aO))) (pb:=λh=>kJ (mI cI gW gU mU (pv 6) h)))))))))))))
 lS)
 (dR (oJ (uO (uN (pZ F_42 T.D_42.m T.D_42.k T.D_42.d (hr.mono (by decide)) (dN (HW (oN (by decide +kernel) (aJ 5) (λh=>oK h T.C_Book T.M_5 F_5 (hr.mono (by decide)) T.D_5.d .nil iK))) (dN (FN 6 (cd F_46 T.D_46 hr (aB (aJ 2) (aB (el (fr:=[none]) (N':=["_law_pair"]) (fZ (aJ 6)) (λb=>⟨(eN (pk 0)),iG,(cG bM dP (aJ 0) aQ)⟩)) (aB (aJ 3) (aB (aJ 4) aO)))))) kX)) (λh=>jE F_42 (hr.mono (by decide)) rfl T.D_42.m T.D_42.k T.D_42.d .nil iK h)) (λh=>rZ h)))
 (fS (lI (jS sM)))
 lS)
 (fS (lI (B5 1 (dN (HW (oN (by decide +kernel) (aJ 5) (λh=>oK h T.C_Book T.M_4 F_4 (hr.mono (by decide)) T.D_4.d .nil iK))) (dN (jS (aJ 6)) kX)) (λh=>jE F_42 (hr.mono (by decide)) rfl T.D_42.m T.D_42.k T.D_42.d .nil iK h))))))))))))),?_⟩
 show jA _ _ _ [.val (.list (ns.map bI)),.un,.un,.un,.un,.un,.un,.un,.un,.un];refine eA (λd=>d=iH ns) (λq hq=>⟨_,rfl,ns,rfl,hl,λc hc=>⟨ns,c,rfl,hc,hq _ rfl⟩⟩) ?_;rintro _ rfl;refine eA (λd=>∃fs an,gO fs an/\d=fD fs an) (λq hq=>⟨_,rfl,ns,2,3,rfl,hl,by decide,by decide,by decide,by decide,λfs an F _ _=>hq _ ⟨fs,an,F,rfl⟩⟩) ?_;rintro _ ⟨fs,an,F,rfl⟩;refine eA (λv=>∃d:Nat,d<=1/\v=.int (d:Nat)) (λq hq=>⟨_,rfl,ns,4,rfl,hl,by decide,by decide,λr h0 h1=>?_⟩) ?_
 ·show q (.int (if decide (r=1)=true then 1 else 0));by_cases z:r=1
  ·rw[if_pos (decide_eq_true z)];exact hq _ ⟨1,aM _,rfl⟩
  ·rw[if_neg λh=>z (of_decide_eq_true h)];exact hq _ ⟨0,cT _,rfl⟩
 rintro _ ⟨d,hd,rfl⟩;refine eA (λv=>∃m:Int,1<=m/\v=.int m) (λq hq=>⟨_,rfl,ns,3,rfl,hl,by decide,by decide,λr h0 h1=>hq _ ⟨_,by omega,rfl⟩⟩) ?_;rintro _ ⟨m,hm,rfl⟩;refine⟨_,rfl,_,rfl,_,rfl,fD fs an,d,m,rfl,fs,an,d,m,rfl,F,by omega,λt0 ht0 Tb hf hdp hls dr=>?_⟩
 have rws:∀(ks:List (Nat×Rw))(t:Tr)(k:Nat)(nb:JB)(s7 s8 s9:Sl)(q:JB×List D->D->Prop),PN fs an m d ks t k nb->q (nb,iW ks) (.bool true)->QO (F:=lL c_Book) 1 LS (QN (zUp (WS c_Book (aD8 c_Book) (IB 5) WR)) (QN (zE (IB 6)) WR)) (.tuple [mQ Tb,dr]) (nb,iW ks) [.val (.list (ns.map bI)),.val (iH ns),.val (fD fs an),.val (.int (d:Nat)),.val (.int m),.val (mQ Tb),.val dr,s7,s8,s9] q:=λks t k nb s7 s8 s9 q hh hq=>
  ⟨_,_,rfl,_,rfl,rfl,Tb,ks,rfl,rfl,hh.kv,_,rfl,⟨_,_,rfl,rfl⟩,.list (iW ks),rfl,R0 F hh.ok hh.few,true,rfl,hq⟩
 show qM (F:=pY (lL c_Book)) _ _ _ _ _ [.val (.list (ns.map bI)),.val (iH ns),.val (fD fs an),.val (.int (d:Nat)),.val (.int m),.val (mQ Tb),.val dr,.un,.un,.un];refine AO (λmm b=>b=false/\∃ks t,oP ks/\PN fs an m d ks t ks.length mm.1/\mm.2=iW ks) (λq hq=>?_) (λmm z=>by cases z.1) λmm z=>?_
 ·refine⟨_,rfl,_,rfl,_,rfl,_,rfl,_,rfl,ns,7,rfl,hl,by decide,by decide,λr h0 h1=>?_⟩;refine⟨fs,an,d,m,Tb,dr,ns,(58+r).toNat,t0,rfl,by rw[eM (by omega)],hl,F,hf,hdp,hls,by omega,by omega,rfl,⟨rfl,rfl,rfl,(λr hr=>by cases hr),ht0,cT _⟩,λks t n1 hnum hh=>?_⟩;show(if(!true)=true then _ else _);rw[if_neg (by decide)];unfold QM WQ;refine rws ks t _ n1 _ _ _ _ hh ?_;exact hq _ _ ⟨rfl,ks,t,hnum,hh,rfl⟩
 obtain⟨_,ks,t,hnum,hh,hm2⟩:=z;obtain⟨nb,nl1⟩:=mm;dsimp only at hm2 hh;subst hm2;refine zn ?_;dsimp only;show qM (F:=pY (lL c_Book)) _ _ _ _ _ [.val (.list (ns.map bI)),.val (iH ns),.val (fD fs an),.val (.int (d:Nat)),.val (.int m),.val (mQ Tb),.val dr,.un,.un,.un];refine aDf (decide (ks.length=60)) (λmm σ=>∃(ks:List (Nat×Rw))(t:Tr)(k:Nat)(s7 s8 s9:Sl),σ=[.val (.list (ns.map bI)),.val (iH ns),.val (fD fs an),.val (.int (d:Nat)),.val (.int m),.val (mQ Tb),.val dr,s7,s8,s9]/\PN fs an m d ks t k mm.1/\mm.2=iW ks) (λq hq=>⟨⟨_,_,rfl,rfl⟩,_,rfl,?_⟩) (λhb DC' hD=>?_) (λ_=>⟨ks,t,_,_,_,_,rfl,hh,rfl⟩) λmm σ' hP=>?_
 ·have e:decide (((iW ks).length:Int)=60)=decide (ks.length=60):=by rw[mL,decide_eq_decide];omega
  show q _ (decide (((iW ks).length:Int)=60));rw[e];exact hq
 ·have h60:ks.length=60:=of_decide_eq_true hb;have gok:=wK d hh.gr;have hfo:nb.fol=((60:Nat):Int):=by rw[hh.fol,h60]
  have hrk:∀(k:Nat)(hk:k<ks.length),nF fs an (ks[k]).2:=λk hk=>hh.ok _ (bA.mpr ⟨_,fK hk,rfl⟩);have hr0:=hrk 0 (by omega);refine rP false (λq hq=>?_) (λz=>by cases z) λ_=>?_
  ·refine⟨_,rfl,⟨_,_,rfl,rfl⟩,_,rfl,_,L2.gQ (BJ hnum (show 0<ks.length by omega)),_,rfl,_,rfl,(aD rfl),?_,_,_,rfl,?_⟩
   ·show(nl (.tuple (ks[0]).2.1)&&(true&&true))=true;rw[MF hr0.1];rfl
   refine⟨fs,an,d,m,Tb,ks,60,.tuple [.tuple (ks[0]).2.1,.str "zzzzzzzzz"],t,rfl,rfl,F,hf,hdp,hls,hh.kv,hh.ok,by omega,hh.st,gok.1,by omega,hfo,by omega,by rw[<- h60];exact hnum.new,hh.few,(NQ F hr0.1).cd (by decide),.inl ⟨?_,?_⟩⟩
   ·show(_&&uF an (.str "zzzzzzzzz"))=false;rw[aJj F,aDe]
   ·dsimp only[zE,eC,fNe,eqF];rw[if_neg (by decide +kernel)];unfold QM WQ;refine rws ks t _ nb _ _ _ _ hh ?_;exact hq
  refine zn ?_;dsimp only;show qM (F:=pY (lL c_Book)) _ _ _ _ _ [.val (.list (ns.map bI)),.val (iH ns),.val (fD fs an),.val (.int (d:Nat)),.val (.int m),.val (mQ Tb),.val dr,.un,.un,.un];refine vP (eA (λv=>∃a:Nat,a<60/\v=.int (a:Nat)) (λq hq=>⟨_,rfl,ns,60,rfl,hl,by decide,by decide,λr h0 h1=>hq _ ⟨r.toNat,by omega,by rw[eM h0]⟩⟩) ?_);rintro _ ⟨a,ha,rfl⟩
  try dsimp only
  refine vP (eA (λv=>∃r,nF fs an r/\v=cS r) (λq hq=>⟨_,rfl,_,rfl,ns,fs,an,rfl,hl,F,λr hr=>hq _ ⟨r,hr,rfl⟩⟩) ?_);rintro _ ⟨r,hrow,rfl⟩
  try dsimp only
  have hra:=hrk a (by omega);have tha:=ER F hra;refine AO (λmm b=>b=false/\∃t',mm=((⟨rF (mE a r ks),nb.fol,lE t'⟩:JB),iW ks)/\Gr fs an m d ((mE a r ks).map (·.2)) t') (λq hq=>?_) (λmm z=>by cases z.1) λmm z=>?_
  ·refine⟨_,_,rfl,_,rfl,rfl,_,rfl,_,rfl,fs,an,d,m,Tb,ks,a,(ks[a]).2,r,t,rfl,rfl,F,hf,hdp,hls,hh.kv,hh.ok,hh.few,by omega,hh.st,gok.1,by omega,HU hnum (by omega),hrow,K2 F hrow,λt' hg pl=>?_⟩;refine⟨_,rfl,⟨_,_,rfl,rfl⟩,_,rfl,_,rfl,_,L2.gQ (BJ hnum (show a<ks.length by omega)),_,rfl,aE3 hra,⟨tha.lay,tha.lay,bK (aC7 _ _) (bK tha.depth (by decide))⟩,?_⟩;show q _ (!bP (cS (ks[a]).2) (cS (ks[a]).2));rw[wO hra];exact hq _ _ ⟨rfl,t',rfl,hg⟩
  obtain⟨_,t',rfl,hg⟩:=z;have hn1:=hnum.turn a r;have hl1:(mE a r ks).length=60:=by rw[Q0,h60]
  have ho1:=R9 (k:=a) hh.ok hrow;have go1:=wK d hg;have en1:(iW ks).set a (.tuple [.int (a:Nat),cS r])=iW (mE a r ks):=by rw[TM,QZ hnum]
  generalize mE a r ks=k1 at *
  refine zn ?_;dsimp only;show qM (F:=pY (lL c_Book)) _ _ _ _ _ [.val (.list (ns.map bI)),.val (iH ns),.val (fD fs an),.val (.int (d:Nat)),.val (.int m),.val (mQ Tb),.val dr,.val (.int (a:Nat)),.val (cS r),.un];refine⟨⟨_,_,rfl,rfl⟩,_,rfl,_,rfl,(aD rfl),_,rfl,a,rfl,by show a<(iW ks).length;rw[mL];omega,?_⟩;rw[en1];dsimp only;have hrk1:∀(k:Nat)(hk:k<k1.length),nF fs an (k1[k]).2:=λk hk=>ho1 _ (bA.mpr ⟨_,fK hk,rfl⟩);refine WO (F:=pY (lL c_Book)) (λmm v=>∃(b:Nat)(hb:b<k1.length),mm=((⟨rF k1,nb.fol,lE t'⟩:JB),iW (kM b k1))/\v=.tuple [.int (b:Nat),cS (k1[b]).2]) (λq hq=>⟨⟨_,_,rfl,rfl⟩,_,rfl,ns,60,rfl,hl,by decide,by decide,λr h0 h1=>?_⟩) ?_
  ·have hb:r.toNat<k1.length:=by omega
   refine⟨r.toNat,_,by rw[eM h0],by omega,BJ hn1 hb,?_⟩;rw[J9,<- MZ hn1 hb];exact hq _ _ ⟨r.toNat,hb,rfl,rfl⟩
  rintro _ _ ⟨b,hb,rfl,rfl⟩;have hrb:=hrk1 b hb;have thb:=ER F hrb;refine AO (λmm z=>z=false/\∃t2,mm=((⟨rF (kM b k1),nb.fol,lE t2⟩:JB),iW (kM b k1))/\Gr fs an m d ((kM b k1).map (·.2)) t2) (λq hq=>?_) (λmm z=>by cases z.1) λmm z=>?_
  ·refine⟨_,_,rfl,_,rfl,rfl,_,rfl,_,rfl,fs,an,d,m,Tb,k1,b,(k1[b]).2,t',rfl,rfl,F,hf,hdp,hls,rfl,ho1,by omega,by omega,rfl,go1.1,by omega,HU hn1 hb,λt2 hg2 pl=>?_⟩;refine⟨_,rfl,_,rfl,_,rfl,⟨thb.lay,thb.lay,bK (aC7 _ _) (bK thb.depth (by decide))⟩,?_⟩;show q _ (!bP (cS (k1[b]).2) (cS (k1[b]).2));rw[wO hrb];exact hq _ _ ⟨rfl,t2,rfl,hg2⟩
  obtain⟨_,t2,rfl,hg2⟩:=z;have hl2:(kM b k1).length=59:=by rw[MZ hn1 hb,List.length_eraseIdx_of_lt hb];omega
  have ho2:=DN (k:=b) ho1
  have hlt:∀e∈kM b k1,e.1<60:=λe he=>by
   obtain⟨i,hi⟩:=cD (cU.mp he).1;have:=(aH.mp hi).1;have:=hn1 i e hi;omega
  have go2:=wK d hg2
  generalize kM b k1=k2 at *
  refine zn ?_;dsimp only;show qM (F:=pY (lL c_Book)) _ _ _ _ _ [.val (.list (ns.map bI)),.val (iH ns),.val (fD fs an),.val (.int (d:Nat)),.val (.int m),.val (mQ Tb),.val dr,.val (.int (a:Nat)),.val (cS r),.val (.tuple [.int (b:Nat),cS (k1[b]).2])];refine vP (eA (λv=>∃r,nF fs an r/\v=cS r) (λq hq=>⟨_,rfl,_,rfl,ns,fs,an,rfl,hl,F,λr hr=>hq _ ⟨r,hr,rfl⟩⟩) ?_);rintro _ ⟨r2,hrow2,rfl⟩
  try dsimp only
  have hcd2:=K2 F hrow2;refine AO (λmm z=>z=false/\∃t3,mm=((⟨rF (k2++[((60:Nat),r2)]),((60+1:Nat):Int),lE t3⟩:JB),iW k2)/\Gr fs an m d ((k2++[((60:Nat),r2)]).map (λe:Nat×Rw=>e.2)) t3) (λq hq=>?_) (λmm z=>by cases z.1) λmm z=>?_
  ·refine⟨_,_,rfl,_,rfl,_,rfl,fs,an,d,m,Tb,k2,60,cS r2,t2,rfl,rfl,F,hf,hdp,hls,rfl,ho2,by omega,rfl,go2.1,by omega,hfo,by omega,(λe he=>by have:=hlt e he;omega),by omega,hcd2,.inr (.inr ⟨r2,rfl,hrow2,by omega,λt3 hg3=>?_⟩)⟩;have go3:=wK d hg3;have hl3:(k2++[((60:Nat),r2)]).length=60:=by rw[bQ,hl2];rfl
   dsimp only[zE,eC,fNe,eqF];rw[if_neg (by decide)];refine⟨_,rfl,_,rfl,fs,an,d,m,Tb,k2++[((60:Nat),r2)],60+1,cS r2,t3,rfl,rfl,F,hf,hdp,hls,rfl,tF ho2 hrow2,by omega,rfl,go3.1,by omega,rfl,by omega,(λe he=>?_),by omega,hcd2,.inr (.inl ⟨wH hrow2,hl3,?_⟩)⟩
   ·rcases dL.mp he with he | he
    ·have:=hlt e he;omega
    ·rw[bF.mp he];show(60:Nat)≠61;decide
   ·show q _ (!decide (("many":Str)="many"));rw[show(!decide (("many":Str)="many"))=false by decide +kernel];exact hq _ _ ⟨rfl,t3,rfl,hg3⟩
  obtain⟨_,t3,rfl,hg3⟩:=z;have hl3:(k2++[((60:Nat),r2)]).length=60:=by rw[bQ,hl2];rfl
  refine zn ?_;dsimp only;refine(show Z8 (F:=lL c_Book) _ _ _ _ _ _ from⟨⟨_,_,rfl,rfl⟩,_,rfl,(aD rfl),by show(iW k2).length<=_;rw[mL];omega,?_⟩);refine hD _ _ ⟨k2++[((60:Nat),r2)],t3,60+1,_,_,_,rfl,⟨rfl,rfl,rfl,tF ho2 hrow2,hg3,by omega⟩,?_⟩;exact OC k2 60 r2
 ·obtain⟨ks,t,k,s7,s8,s9,rfl,hh,hm2⟩:=hP;obtain⟨nb,nl1⟩:=mm;dsimp only at hm2 hh;subst hm2;have gok:=wK d hh.gr;refine rP false (λq hq=>?_) (λz=>by cases z) λ_=>?_
  ·refine⟨_,_,rfl,_,rfl,rfl,Tb,rfl,rfl,⟨_,_,rfl,rfl⟩,_,rfl,?_⟩;refine iQ (ts:=iW ks) (λR h=>⟨_,rfl,_,rfl,h⟩) aD9 (by rw[mL];have:=hh.few;omega) (λx q hx hq=>?_) ?_
   ·obtain⟨e,he,rfl⟩:=bA.mp hx;exact⟨_,rfl,_,rfl,hq⟩
   have e:(iW ks).map aD9=(ks.map (·.2)).map cS:=by unfold iW;rw[bG,bG];rfl
   rw[e];refine⟨_,rfl,_,rfl,fs,an,ks.map (·.2),d,m,rfl,F,hh.ok,by rw[aA];exact hh.few,by omega,hm,λt' ht'=>⟨TX t',?_⟩⟩;obtain rfl:t'=t:=FL d (List.Perm.refl _) ht' hh.gr;exact⟨lE t',by show[nb.st,lE t']=_;rw[hh.st],E2 (show t'.dep+3<=7 by omega) (E1 F t' gok.1),hq⟩
  ·refine zn ?_;dsimp only;exact rws ks t _ nb _ _ _ _ hh h
def aJe
  (F_11:bU P w K mg base eG 3 a_11 f_11 ["form","thing"] (bJ K RX)):bU P w K mg base (V9 P w) 4 a_6 f_6 ["self","thing"] (nA K (pD c_Book c_TooMany c_NoRow)):=by
 refine aJx (F:=lL c_Book) T.D_6.F XU (λτ n ds Q h=>by obtain⟨fs,an,Bo,d,ht,rfl,F,hf,hd,hw,h⟩:=h;rfl) λcdv Ar outer s H E hr ps Tp n ds ED h hE=>?_;obtain⟨fs,an,Bo,d,ht,rfl,F,hf,hd,hw,h⟩:=h;have nd:=XU.nd;refine⟨_,(fS (oJ (uO (uN (pZ F_11 T.D_11.m T.D_11.k T.D_11.d (hr.mono (by decide)) (dN (qV T.C_Book T.n_Book_form (aJ 0)) (dN (jS (aJ 1)) kX)) (λh=>jE F_11 (hr.mono (by decide)) rfl T.D_11.m T.D_11.k T.D_11.d .nil iK h)) (λh=>rZ h)))
 (fS (GO hE T.X_NoRow (aB eU aO) (λh=>G5 T.R_NoRow hr rfl T.x_NoRow h)))
 lS)),?_⟩
 obtain rfl:Tp=Bo:=jN ht;refine JH true (λq hq=>⟨_,rfl,rfl,Tp,_,rfl,rfl,_,rfl,fs,an,d,by rw[hf],F,hd,?_⟩) (λ_=>?_) λz=>by cases z
 ·rw[hw];exact hq
 ·exact⟨(aD rfl),rfl,h,λB p0 hb=>hb⟩
def aJf
  (F_6:bU P w K mg base eG 4 a_6 f_6 ["self","thing"] (eB K (XL c_Book)))
  (X_6:bU P w K mg base (V9 P w) 4 a_6 f_6 ["self","thing"] (nA K (pD c_Book c_TooMany c_NoRow))):bU P w K mg base (V9 P w) 17 a_1 f_1 ["self","row"] (nA K (LQ c_Book c_TooMany c_NoRow)):=by
 refine aJx (F:=lL c_Book) T.D_1.F XV (λτ n ds Q h=>by obtain⟨fs,an,Bo,d,ht,rfl,F,hf,hd,h⟩:=h;rfl) λcdv Ar outer s H E hr ps Tp n ds ED h hE=>?_;obtain⟨fs,an,Bo,d,ht,rfl,F,hf,hd,h⟩:=h;have nd:=XV.nd;refine⟨_,(dR (zB.or (vW (pH (by decide +kernel) (aJ 0) (CM (aB (aJ 1) aO)) (λh ha=>oB h T.C_Book T.M_6 F_6 (hr.mono (by decide)) T.D_6.d .nil iK ha)) (λh=>kJ h))
 (RC (VC hE (by decide +kernel) (aJ 0) (CM (aB (aJ 1) aO)) (λh ha=>oB h T.C_Book T.M_6 X_6 (hr.mono (by decide)) T.D_6.d .nil aH7 ha)) (λh=>kJ h)))
 (dR (oJ (uP DP rL (U8 T.C_Book T.n_Book_numbered (aJ 0) (pc:=λh=>iI D8 rfl T.b_len gA (cL h gL))) (jS (MW rfl T.c_MOST_ROWS)))
 (fS (GO hE T.X_TooMany (aB eU aO) (λh=>G5 T.R_TooMany hr rfl T.x_TooMany h)))
 lS)
 (dR (uT AX)
 (dR (uT AX)
 (dR (uT AX)
 (fS (uT AX))))))),?_⟩
 obtain rfl:Tp=Bo:=jN ht;rcases h with⟨hw,h⟩ | ⟨hw,hl,h⟩
 ·exact .inr ⟨⟨_,rfl,rfl,rfl,_,rfl,fs,an,Tp,d,rfl,rfl,F,hf,hd,hw,h⟩,λB p0 hb=>hb⟩
 ·refine .inl ⟨_,rfl,rfl,_,rfl,fs,an,Tp,d,rfl,rfl,F,hf,hd,hw,?_⟩;dsimp only;refine rP true (λq hq=>⟨_,rfl,rfl,?_⟩) (λ_=>?_) λz=>by cases z
  ·have e:decide ((60:Int)<=(n.kvs.length:Nat))=true:=decide_eq_true (by omega);rw[<- e]at hq;exact hq
  ·exact⟨(aD rfl),rfl,h,λB p0 hb=>hb⟩
def aF2:bU P w K mg base eG 20 a_law f_law ["_law_script"] (bJ K AY):=by
 have O_38:=aIl (P:=P) (w:=w) (base:=base) T;have O_47:=aIc (P:=P) (w:=w) (base:=base) T O_38;have O_35:=aIo (P:=P) (w:=w) (base:=base) T;have O_36:=aIn (P:=P) (w:=w) (base:=base) T O_35;have O_13:=aJa (P:=P) (w:=w) (base:=base) T;have O_17:=aI6 (P:=P) (w:=w) (base:=base) T;have O_16:=aI7 (P:=P) (w:=w) (base:=base) T O_17;have O_15:=aI8 (P:=P) (w:=w) (base:=base) T O_13 O_16;have O_19:=aI4 (P:=P) (w:=w) (base:=base) T;have O_18:=aI5 (P:=P) (w:=w) (base:=base) T O_16;have O_22:=aI1 (P:=P) (w:=w) (base:=base) T;have O_21:=aI2 (P:=P) (w:=w) (base:=base) T O_22;have O_23:=aI0 (P:=P) (w:=w) (base:=base) T O_21;have O_20:=aI3 (P:=P) (w:=w) (base:=base) T O_17;have O_30:=aIt (P:=P) (w:=w) (base:=base) T;have O_29:=aIu (P:=P) (w:=w) (base:=base) T;have O_27:=aIw (P:=P) (w:=w) (base:=base) T;have O_26:=aIx (P:=P) (w:=w) (base:=base) T O_27;have O_25:=aIy (P:=P) (w:=w) (base:=base) T;have O_24:=aIz (P:=P) (w:=w) (base:=base) T O_26 O_25;have O_28:=aIv (P:=P) (w:=w) (base:=base) T O_29 O_24;have O_32:=aIr (P:=P) (w:=w) (base:=base) T;have O_31:=aIs (P:=P) (w:=w) (base:=base) T O_18 O_23 O_20 O_15 O_30 O_28 O_32;have O_33:=aIq (P:=P) (w:=w) (base:=base) T O_15 O_19 O_31;have O_14:=aI9 (P:=P) (w:=w) (base:=base) T O_13;have O_34:=aIp (P:=P) (w:=w) (base:=base) T O_33 O_14 O_28 O_32;have O_8:=aL2 (P:=P) (w:=w) (base:=base) T O_36 O_34;have O_12:=aJb (P:=P) (w:=w) (base:=base) T;have O_9:=aL1 (P:=P) (w:=w) (base:=base) T;have O_10:=aJd (P:=P) (w:=w) (base:=base) T O_12 O_9;have O_11:=aJc (P:=P) (w:=w) (base:=base) T O_10 O_9;have O_6:=aL4 (P:=P) (w:=w) (base:=base) T O_11;have O_1:=aL9 (P:=P) (w:=w) (base:=base) T O_8 O_6;have OX_6:=aJe (P:=P) (w:=w) (base:=base) T (F_11:=O_11);have OX_1:=aJf (P:=P) (w:=w) (base:=base) T (F_6:=O_6) (X_6:=OX_6);have O_48:=aIb (P:=P) (w:=w) (base:=base) T O_1 (X_1:=OX_1);have O_42:=aIh (P:=P) (w:=w) (base:=base) T;have O_49:=aIa (P:=P) (w:=w) (base:=base) T O_47 O_48 O_42;have O_39:=aIk (P:=P) (w:=w) (base:=base) T O_38;have O_40:=aIj (P:=P) (w:=w) (base:=base) T O_38 O_39;have O_44:=aIf (P:=P) (w:=w) (base:=base) T;have O_45:=aIe (P:=P) (w:=w) (base:=base) T O_44;have O_43:=aIg (P:=P) (w:=w) (base:=base) T;have O_41:=aIi (P:=P) (w:=w) (base:=base) T;have O_46:=aId (P:=P) (w:=w) (base:=base) T O_44 O_45 O_43 O_41;have O_37:=aIm (P:=P) (w:=w) (base:=base) T;have O_0:=aMa (P:=P) (w:=w) (base:=base) T O_34;have O_7:=aL3 (P:=P) (w:=w) (base:=base) T;have O_2:=aL8 (P:=P) (w:=w) (base:=base) T O_8 O_7;have O_4:=aL6 (P:=P) (w:=w) (base:=base) T;have O_5:=aL5 (P:=P) (w:=w) (base:=base) T;have O_3:=aL7 (P:=P) (w:=w) (base:=base) T O_8 O_7 O_6;have O_law:=aEz (P:=P) (w:=w) (base:=base) T O_38 O_47 O_49 O_40 O_46 O_48 O_42 O_37 O_0 O_2 O_4 O_5 O_3;exact O_law
def aF3{l:PySem.W.OpenLaw}{fa:Addr}(hfa:mg "law"=some (.ref fa)):∃fd:gT,(∀s(v:Value),BindsTo s fd ⟨[v],[]⟩ [("_law_script",v)])/\∀base:Heap,K.In base->base.Ns dS mg->bU l.prog w K mg base eG 20 fa fd ["_law_script"] (bJ K AY):=by
 have e:=hfa.symm.trans T.D_law.m;cases e;refine⟨f_law,?_,λbase _ _=>aF2 T⟩;obtain⟨_,_,_,_,_,_,_,_,_,e,_⟩:=T.D_law.F.ex;rw[e]
 exactλs v=>.of_eq rfl
omit T
def aKb{K:aF}{h:Heap}{mg:Str->Option Value}(X:K.In h)(G:h.Ns dS mg){C_JudgeError:Addr}
  (ax_JudgeError:eX K dS "JudgeError"=some (some (.ref C_JudgeError)))
  {C_TooMany:Addr}
  (ax_TooMany:eX K dS "TooMany"=some (some (.ref C_TooMany)))
  {C_NoPlace:Addr}
  (ax_NoPlace:eX K dS "NoPlace"=some (some (.ref C_NoPlace)))
  {C_NoRow:Addr}
  (ax_NoRow:eX K dS "NoRow"=some (some (.ref C_NoRow)))
  {C_NoSuch:Addr}
  (ax_NoSuch:eX K dS "NoSuch"=some (some (.ref C_NoSuch)))
  {C_NoLine:Addr}
  (ax_NoLine:eX K dS "NoLine"=some (some (.ref C_NoLine)))
  {C_NoText:Addr}
  (ax_NoText:eX K dS "NoText"=some (some (.ref C_NoText)))
  {C_NoRule:Addr}
  (ax_NoRule:eX K dS "NoRule"=some (some (.ref C_NoRule)))
  {c0_J dd_J} {cd_J:ClassData} {sl_J}
  (l_J:K.lookup C_JudgeError=some ⟨c0_J,dd_J,.cls cd_J,sl_J⟩)
  {oc_J od_J} {es_J:Array DictEntry} {ep_J:Nat} {os_J}
  (ln_J:K.lookup cd_J.ns=some ⟨oc_J,od_J,.dict es_J ep_J,os_J⟩)
  (R_J:(es_J.toList.all λe=>match e.key with | .str _ _=>true | _=>false)=true)
  (n2_J:eX K cd_J.ns "__init__"=some (none))
  (mb_J:bD K C_JudgeError (.type "BaseException")=some true)
  {cc_JudgeError}
  (ic_JudgeError:fW K C_JudgeError=some cc_JudgeError)
  (it_JudgeError:fU K (.ref C_JudgeError)=some (.type "type"))
  (is_JudgeError:bD K C_JudgeError (.ref C_JudgeError)=some true)
  {cc_TooMany}
  (ic_TooMany:fW K C_TooMany=some cc_TooMany)
  (it_TooMany:fU K (.ref C_TooMany)=some (.type "type"))
  (is_TooMany:bD K C_TooMany (.ref C_TooMany)=some true)
  {cc_NoPlace}
  (ic_NoPlace:fW K C_NoPlace=some cc_NoPlace)
  (it_NoPlace:fU K (.ref C_NoPlace)=some (.type "type"))
  (is_NoPlace:bD K C_NoPlace (.ref C_NoPlace)=some true)
  {cc_NoRow}
  (ic_NoRow:fW K C_NoRow=some cc_NoRow)
  (it_NoRow:fU K (.ref C_NoRow)=some (.type "type"))
  (is_NoRow:bD K C_NoRow (.ref C_NoRow)=some true)
  {cc_NoSuch}
  (ic_NoSuch:fW K C_NoSuch=some cc_NoSuch)
  (it_NoSuch:fU K (.ref C_NoSuch)=some (.type "type"))
  (is_NoSuch:bD K C_NoSuch (.ref C_NoSuch)=some true)
  {cc_NoLine}
  (ic_NoLine:fW K C_NoLine=some cc_NoLine)
  (it_NoLine:fU K (.ref C_NoLine)=some (.type "type"))
  (is_NoLine:bD K C_NoLine (.ref C_NoLine)=some true)
  {cc_NoText}
  (ic_NoText:fW K C_NoText=some cc_NoText)
  (it_NoText:fU K (.ref C_NoText)=some (.type "type"))
  (is_NoText:bD K C_NoText (.ref C_NoText)=some true)
  {cc_NoRule}
  (ic_NoRule:fW K C_NoRule=some cc_NoRule)
  (it_NoRule:fU K (.ref C_NoRule)=some (.type "type"))
  (is_NoRule:bD K C_NoRule (.ref C_NoRule)=some true)
  {nm_TooMany qn_TooMany:Str} {N_TooMany:Addr} {bs_TooMany sub_TooMany} {hd_TooMany ab_TooMany:Bool} {sn_TooMany col_TooMany dd_TooMany k0_TooMany k1_TooMany k2_TooMany k3_TooMany k5_TooMany}
  (l_TooMany:K.lookup C_TooMany=some (excClassObj nm_TooMany qn_TooMany C_TooMany N_TooMany bs_TooMany (.ref C_JudgeError::[.type "ValueError",.type "Exception",.type "BaseException",.type "object"]) hd_TooMany sn_TooMany sub_TooMany ab_TooMany col_TooMany dd_TooMany k0_TooMany k1_TooMany k2_TooMany k3_TooMany k5_TooMany "ValueError.__new__"))
  {oc_TooMany od_TooMany} {es_TooMany:Array DictEntry} {ep_TooMany:Nat} {os_TooMany}
  (ln_TooMany:K.lookup N_TooMany=some ⟨oc_TooMany,od_TooMany,.dict es_TooMany ep_TooMany,os_TooMany⟩)
  (R_TooMany:(es_TooMany.toList.all λe=>match e.key with | .str _ _=>true | _=>false)=true)
  (n2_TooMany:eX K N_TooMany "__init__"=some (none))
  (f__getattribute___TooMany:dA K (.ref C_TooMany) "__getattribute__"=some (some (.builtin "BaseException.__getattribute__")))
  (f__getattr___TooMany:dA K (.ref C_TooMany) "__getattr__"=some (none))
  (f__class___TooMany:dA K (.ref C_TooMany) "__class__"=some (some (.builtin "object.__class__")))
  (m_object_TooMany:bD K C_TooMany (.type "object")=some true)
  (m_BaseException_TooMany:bD K C_TooMany (.type "BaseException")=some true)
  (m_ValueError_TooMany:bD K C_TooMany (.type "ValueError")=some true)
  (y_int_TooMany:bD K C_TooMany (.type "int")=some false)
  (y_str_TooMany:bD K C_TooMany (.type "str")=some false)
  (y_list_TooMany:bD K C_TooMany (.type "list")=some false)
  (y_tuple_TooMany:bD K C_TooMany (.type "tuple")=some false)
  (y_bool_TooMany:bD K C_TooMany (.type "bool")=some false)
  (j_TooMany:bD K C_TooMany (.ref C_JudgeError)=some true)
  (q_TooMany_NoPlace:bD K C_TooMany (.ref C_NoPlace)=some false)
  (q_TooMany_NoRow:bD K C_TooMany (.ref C_NoRow)=some false)
  (q_TooMany_NoSuch:bD K C_TooMany (.ref C_NoSuch)=some false)
  (q_TooMany_NoLine:bD K C_TooMany (.ref C_NoLine)=some false)
  (q_TooMany_NoText:bD K C_TooMany (.ref C_NoText)=some false)
  (q_TooMany_NoRule:bD K C_TooMany (.ref C_NoRule)=some false)
  {nm_NoRow qn_NoRow:Str} {N_NoRow:Addr} {bs_NoRow sub_NoRow} {hd_NoRow ab_NoRow:Bool} {sn_NoRow col_NoRow dd_NoRow k0_NoRow k1_NoRow k2_NoRow k3_NoRow k5_NoRow}
  (l_NoRow:K.lookup C_NoRow=some (excClassObj nm_NoRow qn_NoRow C_NoRow N_NoRow bs_NoRow (.ref C_JudgeError::[.type "ValueError",.type "Exception",.type "BaseException",.type "object"]) hd_NoRow sn_NoRow sub_NoRow ab_NoRow col_NoRow dd_NoRow k0_NoRow k1_NoRow k2_NoRow k3_NoRow k5_NoRow "ValueError.__new__"))
  {oc_NoRow od_NoRow} {es_NoRow:Array DictEntry} {ep_NoRow:Nat} {os_NoRow}
  (ln_NoRow:K.lookup N_NoRow=some ⟨oc_NoRow,od_NoRow,.dict es_NoRow ep_NoRow,os_NoRow⟩)
  (R_NoRow:(es_NoRow.toList.all λe=>match e.key with | .str _ _=>true | _=>false)=true)
  (n2_NoRow:eX K N_NoRow "__init__"=some (none))
  (f__getattribute___NoRow:dA K (.ref C_NoRow) "__getattribute__"=some (some (.builtin "BaseException.__getattribute__")))
  (f__getattr___NoRow:dA K (.ref C_NoRow) "__getattr__"=some (none))
  (f__class___NoRow:dA K (.ref C_NoRow) "__class__"=some (some (.builtin "object.__class__")))
  (m_object_NoRow:bD K C_NoRow (.type "object")=some true)
  (m_BaseException_NoRow:bD K C_NoRow (.type "BaseException")=some true)
  (m_ValueError_NoRow:bD K C_NoRow (.type "ValueError")=some true)
  (y_int_NoRow:bD K C_NoRow (.type "int")=some false)
  (y_str_NoRow:bD K C_NoRow (.type "str")=some false)
  (y_list_NoRow:bD K C_NoRow (.type "list")=some false)
  (y_tuple_NoRow:bD K C_NoRow (.type "tuple")=some false)
  (y_bool_NoRow:bD K C_NoRow (.type "bool")=some false)
  (j_NoRow:bD K C_NoRow (.ref C_JudgeError)=some true)
  (q_NoRow_TooMany:bD K C_NoRow (.ref C_TooMany)=some false)
  (q_NoRow_NoPlace:bD K C_NoRow (.ref C_NoPlace)=some false)
  (q_NoRow_NoSuch:bD K C_NoRow (.ref C_NoSuch)=some false)
  (q_NoRow_NoLine:bD K C_NoRow (.ref C_NoLine)=some false)
  (q_NoRow_NoText:bD K C_NoRow (.ref C_NoText)=some false)
  (q_NoRow_NoRule:bD K C_NoRow (.ref C_NoRule)=some false) :
  Cz K mg (C_JudgeError) (C_TooMany) (C_NoPlace) (C_NoRow) (C_NoSuch) (C_NoLine) (C_NoText) (C_NoRule):={ x_JudgeError:=jI X G ax_JudgeError,x_TooMany:=jI X G ax_TooMany,x_NoPlace:=jI X G ax_NoPlace,x_NoRow:=jI X G ax_NoRow,x_NoSuch:=jI X G ax_NoSuch,x_NoLine:=jI X G ax_NoLine,x_NoText:=jI X G ax_NoText,x_NoRule:=jI X G ax_NoRule,X_TooMany:=⟨⟨f__getattribute___TooMany,f__getattr___TooMany,f__class___TooMany,m_object_TooMany,m_BaseException_TooMany⟩,λT hT=>by simp only[aN,bV,or_false]at hT;(rcases hT with rfl | rfl | rfl | rfl | rfl<;>first | exact nN UO y_int_TooMany | exact nN UN y_str_TooMany | exact nN MK y_list_TooMany | exact nN HL y_tuple_TooMany | exact nN ML y_bool_TooMany)⟩,R_TooMany:=⟨_,_,_,_,_,_,_,_,_,_,_,_,_,_,_,_,_,_,_,_,l_TooMany,zV ln_TooMany R_TooMany,n2_TooMany,l_J,zV ln_J R_J,n2_J⟩,j_TooMany:=AF ic_JudgeError it_JudgeError mb_J j_TooMany,e_TooMany:=AF ic_TooMany it_TooMany m_BaseException_TooMany is_TooMany,v_TooMany:=nN uD m_ValueError_TooMany,q_TooMany_TooMany:=HN,q_TooMany_NoPlace:=nO ic_NoPlace it_NoPlace q_TooMany_NoPlace is_NoPlace,q_TooMany_NoRow:=nO ic_NoRow it_NoRow q_TooMany_NoRow is_NoRow,q_TooMany_NoSuch:=nO ic_NoSuch it_NoSuch q_TooMany_NoSuch is_NoSuch,q_TooMany_NoLine:=nO ic_NoLine it_NoLine q_TooMany_NoLine is_NoLine,q_TooMany_NoText:=nO ic_NoText it_NoText q_TooMany_NoText is_NoText,q_TooMany_NoRule:=nO ic_NoRule it_NoRule q_TooMany_NoRule is_NoRule,X_NoRow:=⟨⟨f__getattribute___NoRow,f__getattr___NoRow,f__class___NoRow,m_object_NoRow,m_BaseException_NoRow⟩,λT hT=>by simp only[aN,bV,or_false]at hT;(rcases hT with rfl | rfl | rfl | rfl | rfl<;>first | exact nN UO y_int_NoRow | exact nN UN y_str_NoRow | exact nN MK y_list_NoRow | exact nN HL y_tuple_NoRow | exact nN ML y_bool_NoRow)⟩,R_NoRow:=⟨_,_,_,_,_,_,_,_,_,_,_,_,_,_,_,_,_,_,_,_,l_NoRow,zV ln_NoRow R_NoRow,n2_NoRow,l_J,zV ln_J R_J,n2_J⟩,j_NoRow:=AF ic_JudgeError it_JudgeError mb_J j_NoRow,e_NoRow:=AF ic_NoRow it_NoRow m_BaseException_NoRow is_NoRow,v_NoRow:=nN uD m_ValueError_NoRow,q_NoRow_TooMany:=nO ic_TooMany it_TooMany q_NoRow_TooMany is_TooMany,q_NoRow_NoPlace:=nO ic_NoPlace it_NoPlace q_NoRow_NoPlace is_NoPlace,q_NoRow_NoRow:=HN,q_NoRow_NoSuch:=nO ic_NoSuch it_NoSuch q_NoRow_NoSuch is_NoSuch,q_NoRow_NoLine:=nO ic_NoLine it_NoLine q_NoRow_NoLine is_NoLine,q_NoRow_NoText:=nO ic_NoText it_NoText q_NoRow_NoText is_NoText,q_NoRow_NoRule:=nO ic_NoRule it_NoRule q_NoRow_NoRule is_NoRule,u_TooMany_NoRow:=MU ic_NoRow it_NoRow m_BaseException_NoRow q_TooMany_NoRow,u_NoRow_TooMany:=MU ic_TooMany it_TooMany m_BaseException_TooMany q_NoRow_TooMany }
def UM{t n:Nat}{s k0 k1}(l:K.lookup t=some ⟨.type "tuple",none,.seq #[.str "yes" k0,.str "no" k1] n,s⟩):aF9 K t ["yes","no"]:=⟨_,_,_,l,rfl,rfl,rfl,(by show 2<=bE;decide),.cons ⟨_,rfl⟩ (.cons ⟨_,rfl⟩ (.nil))⟩
def T8{H}:aS H (mask H []):=λb o e=>by
 unfold mask;rw[if_neg (by simp)];exact e
theorem DZ{K H}:∀ns:List Int,Reps K H (ns.map bI) (ns.map V.int)
|[]=>.nil
|n::ns=>.cons (.int n) (DZ ns)
def aLm{l:PySem.W.OpenLaw}{q loose}{XP:(Str->Option Value)->Heap->Prop}{YP:World->Heap->Prop}{d:DefRec}{K:Params->aF}(hn:l.most=some 63)(hdf:d.params.defaults=[])
  (hY:∀(w:World)(h:Heap),YP w h->(K w.params).In h) (hT:∀(w:World)(h:Heap),YP w h->∀P,tabA=some P->h.get? P=some { cls:=.none,data:=.fields #[] }/\(K w.params).lookup P=none/\isCodeTable h P)
  (F:∀(w:World)(mg:Str->Option Value)(fa:Addr)(h:Heap),(K w.params).In h->h.Ns dS mg->mg d.name=some (.ref fa) ->
   ∃fd:gT,(∀s(u:Value),BindsTo s fd ⟨[u],[]⟩ [("_law_script",u)])/\∀base:Heap,(K w.params).In base->base.Ns dS mg->bU l.prog w (K w.params) mg base eG 20 fa fd ["_law_script"] (bJ (K w.params) AY)) :
  WK q loose XP YP l.row.toRowW d [] (λf vs=>PySem.call f vs):=
 L2.WT (n:=63) (k:=20) (x:="_law_script") (CX:=λ_=>eG) (sp:=λw=>bJ (K w.params) AY) hn (by decide) hdf ⟨rfl,by decide,by decide,rfl⟩ hY hT F
  (λw H a ns hl _ hS=>⟨[],[.list (ns.map bI)],λd=>d=.bool true,λp hp=>by simp at hp,.cons (.list (L2.aS.seq T8 hS) (DZ ns)) .nil,⟨ns,rfl,hl,rfl⟩,λd v H' _ r q=>by subst q;cases r;rfl⟩) λ_ _ _ _ _ z=>z
end
end K71
open L2
namespace PySem.W.Fast
theorem tw11366750997207444080:True:=⟨⟩
theorem tw15282315955515835381:True:=⟨⟩
theorem tw11977287215926467181:True:=⟨⟩
theorem tw6891239403042788672:True:=⟨⟩
theorem tw10718805155431576592:True:=⟨⟩
theorem tw4449968026291648580:True:=⟨⟩
theorem tw5286682780429200279:True:=⟨⟩
theorem tw6426176499136143850:True:=⟨⟩
theorem tw11581904862340446543:True:=⟨⟩
theorem tw9844876268963928415:True:=⟨⟩
theorem tw7624146829176528515:True:=⟨⟩
theorem tw18430289842569398407:True:=⟨⟩
theorem tw14733855332405744132:True:=⟨⟩
theorem tw13095225643816168822:True:=⟨⟩
theorem tw13729454465254480587:True:=⟨⟩
theorem tw16617955843367502847:True:=⟨⟩
theorem tw17590106596226583493:True:=⟨⟩
theorem tw14364524620583980881:True:=⟨⟩
theorem tw15285542728411477000:True:=⟨⟩
theorem tw1415434827320929521:True:=⟨⟩
theorem tw8566848246542493799:True:=⟨⟩
theorem tw11084107291564724707:True:=⟨⟩
theorem tw8257377519408213253:True:=⟨⟩
theorem tw2903747236798954017:True:=⟨⟩
theorem tw12757898951590083512:True:=⟨⟩
theorem tw16818052062227108633:True:=⟨⟩
theorem tw11027047650128445227:True:=⟨⟩
theorem tw8597321016525755321:True:=⟨⟩
theorem tw10599845111703763309:True:=⟨⟩
theorem tw9045770103566611067:True:=⟨⟩
theorem tw14848145269640536052:True:=⟨⟩
theorem tw2282719658936561290:True:=⟨⟩
theorem tw376819055919525157:True:=⟨⟩
theorem tw11687481697662215955:True:=⟨⟩
theorem tw214877811105682929:True:=⟨⟩
theorem tw4589776581576169232:True:=⟨⟩
theorem tw6205519440040843205:True:=⟨⟩
theorem tw8570963974033154557:True:=⟨⟩
theorem tw6590367957056980692:True:=⟨⟩
theorem tw1618841338632302355:True:=⟨⟩
theorem tw8504969069081430118:True:=⟨⟩
theorem tw10474125216244585123:True:=⟨⟩
theorem tw18034485875587669859:True:=⟨⟩
theorem tw337716230149810225:True:=⟨⟩
theorem tw9470998771121071530:True:=⟨⟩
theorem tw16004651688489982076:True:=⟨⟩
theorem tw12263563192826505301:True:=⟨⟩
theorem tw15401826672669655761:True:=⟨⟩
theorem tw10591696882901264156:True:=⟨⟩
theorem tw587410997926744406:True:=⟨⟩
theorem tw11603250342936171443:True:=⟨⟩
theorem tw10233441969079900693:True:=⟨⟩
theorem tw6117239740580285986:True:=⟨⟩
theorem tw8994985419985892497:True:=⟨⟩
theorem tw6509282910535842970:True:=⟨⟩
theorem tw16984915037072047642:True:=⟨⟩
theorem tw8350917807494433903:True:=⟨⟩
theorem tw11310714050730853131:True:=⟨⟩
theorem tw10646621176664671743:True:=⟨⟩
theorem tw13880394154246654951:True:=⟨⟩
theorem tw88892678592735893:True:=⟨⟩
theorem tw4851374162318641588:True:=⟨⟩
theorem tw1912042265310357488:True:=⟨⟩
theorem tw17471818029116250968:True:=⟨⟩
theorem tw10914968710716915569:True:=⟨⟩
theorem tw9624194462388031670:True:=⟨⟩
theorem tw14370544031802735053:True:=⟨⟩
theorem tw14979460095364793986:True:=⟨⟩
theorem tw17453140219454041934:True:=⟨⟩
theorem tw3594840809823978632:True:=⟨⟩
theorem tw6305303568462012029:True:=⟨⟩
theorem tw17902530059112901670:True:=⟨⟩
theorem tw12436247456365959714:True:=⟨⟩
theorem tw4817829650619091626:True:=⟨⟩
theorem tw15332002467071846419:True:=⟨⟩
theorem tw15624789358922303895:True:=⟨⟩
theorem tw2206088010081377672:True:=⟨⟩
theorem tw4961829295493551091:True:=⟨⟩
theorem tw1850867540499918123:True:=⟨⟩
theorem tw16577620472409364947:True:=⟨⟩
theorem tw11122794610904752015:True:=⟨⟩
theorem tw14770577559792350896:True:=⟨⟩
theorem tw412896447095115277:True:=⟨⟩
theorem tw10134442369126916754:True:=⟨⟩
theorem tw12660666133003014846:True:=⟨⟩
theorem tw5004155256229684794:True:=⟨⟩
theorem tw6266060089924544934:True:=⟨⟩
theorem tw9426891021561773910:True:=⟨⟩
theorem tw6154770164652344232:True:=⟨⟩
theorem tw5219874146206787734:True:=⟨⟩
theorem tw18366472210347400280:True:=⟨⟩
theorem tw5488254301844269256:True:=⟨⟩
theorem tw16228699225238387450:True:=⟨⟩
theorem tw6548017225748778793:True:=⟨⟩
theorem tw14625493960574599377:True:=⟨⟩
theorem tw8425401503046395531:True:=⟨⟩
theorem tw9812011069914457251:True:=⟨⟩
theorem tw17488304524171216281:True:=⟨⟩
theorem tw2924945683247428212:True:=⟨⟩
theorem tw9941367912694986479:True:=⟨⟩
theorem tw4282612343611794747:True:=⟨⟩
theorem tw17460718468057677940:True:=⟨⟩
theorem tw9315421160755304258:True:=⟨⟩
theorem tw16334770222820813664:True:=⟨⟩
theorem tw422531659350568813:True:=⟨⟩
theorem tw3516814217702196157:True:=⟨⟩
theorem tw14469263309540932458:True:=⟨⟩
theorem tw16187536951885500537:True:=⟨⟩
theorem tw13597825968545155873:True:=⟨⟩
theorem tw14463910545675205848:True:=⟨⟩
theorem tw11579747226694651887:True:=⟨⟩
theorem tw6710365069347410483:True:=⟨⟩
theorem tw13805806756670026844:True:=⟨⟩
theorem tw16747765917824555753:True:=⟨⟩
theorem tw14174444302446817305:True:=⟨⟩
theorem tw2192970748320419031:True:=⟨⟩
theorem tw17168984843434673553:True:=⟨⟩
theorem tw17151764115385086400:True:=⟨⟩
theorem tw15199884447549009261:True:=⟨⟩
theorem tw9635801542837119616:True:=⟨⟩
theorem tw5154907206091544185:True:=⟨⟩
theorem tw7325602162175554150:True:=⟨⟩
theorem tw10312297285453754355:True:=⟨⟩
theorem tw17842608563988455973:True:=⟨⟩
theorem tw8617187875514002850:True:=⟨⟩
theorem tw3825676811407407440:True:=⟨⟩
theorem tw12872643270723126598:True:=⟨⟩
theorem tw2580078275172646814:True:=⟨⟩
theorem tw3203801927350032121:True:=⟨⟩
theorem tw6328023281224946277:True:=⟨⟩
theorem tw14598705602824085268:True:=⟨⟩
theorem tw13469243454590659164:True:=⟨⟩
theorem tw7300504969205372339:True:=⟨⟩
theorem tw13545528335342772976:True:=⟨⟩
theorem tw16006707465079167794:True:=⟨⟩
theorem tw7593200765070711731:True:=⟨⟩
theorem tw16155780986137656614:True:=⟨⟩
theorem tw8146025292982549297:True:=⟨⟩
theorem tw702672404228242862:True:=⟨⟩
theorem tw3563145677270126501:True:=⟨⟩
theorem tw16510260939574263299:True:=⟨⟩
theorem tw11170005391354391045:True:=⟨⟩
theorem tw12321955642075728346:True:=⟨⟩
theorem tw9772706857142461422:True:=⟨⟩
theorem tw6729528953739121235:True:=⟨⟩
theorem tw11356536244260835036:True:=⟨⟩
theorem tw7752737229672284622:True:=⟨⟩
theorem tw1995893976403792456:True:=⟨⟩
theorem tw1755188855176105888:True:=⟨⟩
theorem tw639411129080241378:True:=⟨⟩
theorem tw12693460169781940672:True:=⟨⟩
theorem tw6093088177248886967:True:=⟨⟩
theorem tw10874491455727569731:True:=⟨⟩
theorem tw12619192574995499392:True:=⟨⟩
theorem tw6428268378717952965:True:=⟨⟩
theorem tw814262012444851451:True:=⟨⟩
theorem tw5864326061871170581:True:=⟨⟩
theorem tw5217123117657997043:True:=⟨⟩
theorem tw12447776549574294574:True:=⟨⟩
theorem tw11412801895881670903:True:=⟨⟩
theorem tw9526466877360906631:True:=⟨⟩
theorem tw13757288117040884676:True:=⟨⟩
theorem tw1844384632998721784:True:=⟨⟩
theorem tw5086827936782470702:True:=⟨⟩
theorem tw4721544488879637976:True:=⟨⟩
theorem tw14219235495497560430:True:=⟨⟩
theorem tw13432241268611492317:True:=⟨⟩
theorem tw14318060849213597972:True:=⟨⟩
theorem tw16862362240520578935:True:=⟨⟩
theorem tw12445476384110785921:True:=⟨⟩
theorem tw8370859913523873359:True:=⟨⟩
theorem tw14151952013316001809:True:=⟨⟩
theorem tw3330209931052354907:True:=⟨⟩
theorem tw9745234992909784403:True:=⟨⟩
theorem tw974384989693912353:True:=⟨⟩
theorem tw8481918835557480207:True:=⟨⟩
theorem tw10989880137591095804:True:=⟨⟩
theorem tw3214160151305524544:True:=⟨⟩
theorem tw5473368977622039576:True:=⟨⟩
theorem tw10792114835294522162:True:=⟨⟩
theorem tw5810690047706049710:True:=⟨⟩
theorem tw12609210819619643074:True:=⟨⟩
theorem tw15031010669988756049:True:=⟨⟩
theorem tw4619650357077578805:True:=⟨⟩
theorem tw15948231190274685676:True:=⟨⟩
theorem tw10967068779078624591:True:=⟨⟩
theorem tw5683479414814006100:True:=⟨⟩
theorem tw6287236247037231182:True:=⟨⟩
theorem tw10883318985423144986:True:=⟨⟩
theorem tw3460067594757930999:True:=⟨⟩
theorem tw3851598898978101630:True:=⟨⟩
theorem tw3774905266001707450:True:=⟨⟩
theorem tw11028720140463306432:True:=⟨⟩
theorem tw1054342647225609017:True:=⟨⟩
theorem tw5750604700512503730:True:=⟨⟩
theorem tw15438312259639387637:True:=⟨⟩
theorem tw11261055831601754352:True:=⟨⟩
theorem tw7942779225917364221:True:=⟨⟩
theorem tw10666458932801284073:True:=⟨⟩
theorem tw8518951114057557620:True:=⟨⟩
theorem tw12947383430878013601:True:=⟨⟩
theorem tw12625010248839549299:True:=⟨⟩
theorem tw13653192995226407749:True:=⟨⟩
theorem tw15294277635704809982:True:=⟨⟩
theorem tw15481930709907306636:True:=⟨⟩
theorem tw6269093106970174135:True:=⟨⟩
theorem tw5807772165821082201:True:=⟨⟩
theorem tw3215516608673871840:True:=⟨⟩
theorem tw2058965094479714630:True:=⟨⟩
theorem tw3173608040882988523:True:=⟨⟩
theorem tw6654805511670198433:True:=⟨⟩
theorem tw16679919737333198486:True:=⟨⟩
theorem tw4874038550958692318:True:=⟨⟩
theorem tw1293513145449133493:True:=⟨⟩
theorem tw9962368752141133517:True:=⟨⟩
theorem tw9039030338586125381:True:=⟨⟩
theorem tw876216240264116151:True:=⟨⟩
theorem tw16863590392293545147:True:=⟨⟩
theorem tw17231328956804507394:True:=⟨⟩
theorem tw18108342827776440785:True:=⟨⟩
theorem tw15482513656386894998:True:=⟨⟩
theorem tw14856706186623057079:True:=⟨⟩
theorem tw7884185305674725106:True:=⟨⟩
theorem tw5091446995076059611:True:=⟨⟩
theorem tw14014433891288325216:True:=⟨⟩
theorem tw10045803202825996325:True:=⟨⟩
theorem tw5895526526792597409:True:=⟨⟩
theorem tw2996938209248984716:True:=⟨⟩
theorem tw6303495811924709416:True:=⟨⟩
theorem tw7461470310412264016:True:=⟨⟩
theorem tw6414773947045373956:True:=⟨⟩
theorem tw10272041616528434891:True:=⟨⟩
theorem tw6795791435984668789:True:=⟨⟩
theorem tw14315993069438540027:True:=⟨⟩
end PySem.W.Fast
open PySem PySem.W PyProof.Rows
set_option maxRecDepth 100000 in
set_option maxHeartbeats 0 in
theorem PySem.Challenge.cw_leafjudge_k71_sixty_rows_holds : PySem.Challenge.rw_leafjudge_k71_sixty_rows.Holds := by
  w_on; o_law; k_head; (case hw => w_witness2)
  k_fill
  refine K71.aLm (l := PySem.Challenge.rw_leafjudge_k71_sixty_rows) rfl rfl (λw h Y => PySem.W.km_in_of Y) (λw h Y P e => ?T) ?F
  case T =>
    cases e
    exact ⟨km_tabs_of Y 266 (aL ..), by kernel_rfl, L2.aDv (codeHd_of_K (c := 268) (P := 266) (km_in_of Y) (by kernel_rfl)) (km_tabs_of Y 266 (aL ..))⟩
  case F =>
    intro w mg fa h KX G hmg
    refine' K71.aF3 ⟨K71.aKb KX G ?_ ?_ ?_ ?_ ?_ ?_ ?_ ?_ ?_ ?_ ?_ ?_ ?_ ?_ ?_ ?_ ?_ ?_ ?_ ?_ ?_ ?_ ?_ ?_ ?_ ?_ ?_ ?_ ?_ ?_ ?_ ?_ ?_ ?_ ?_ ?_ ?_ ?_ ?_ ?_ ?_ ?_ ?_ ?_ ?_ ?_ ?_ ?_ ?_ ?_ ?_ ?_ ?_ ?_ ?_ ?_ ?_ ?_ ?_ ?_ ?_ ?_ ?_ ?_ ?_ ?_ ?_ ?_ ?_ ?_ ?_ ?_ ?_ ?_ ?_ ?_ ?_ ?_ ?_ ?_ ?_,mg_of KX G ?_,⟨?_, ?_, ?_, ?_⟩,⟨?_, ?_, ?_, ?_⟩,na ?_,na ?_,na ?_,na ?_,na ?_,na ?_,⟨?_, ?_, ?_⟩,⟨?_, ?_, ?_⟩,⟨?_, ?_, ?_⟩,⟨?_, ?_, ?_⟩,⟨?_, ?_, ?_⟩,⟨?_, ?_, ?_⟩,⟨?_, ?_, ?_⟩,⟨?_, ?_, ?_⟩,dg bn4 ?_ ?_ ?_,dg yL ?_ ?_ ?_,dg yL ?_ ?_ ?_,dg bn3 ?_ ?_ ?_,dg P7 ?_ ?_ ?_,dg P7 ?_ ?_ ?_,dg yL ?_ ?_ ?_,dg yL ?_ ?_ ?_,dg P7 ?_ ?_ ?_,df KX G bn3 ?_ ?_ ?_ ?_,df KX G yL ?_ ?_ ?_ ?_,df KX G yL ?_ ?_ ?_ ?_,df KX G P7 ?_ ?_ ?_ ?_,df KX G yL ?_ ?_ ?_ ?_,df KX G yL ?_ ?_ ?_ ?_,df KX G yL ?_ ?_ ?_ ?_,df KX G yL ?_ ?_ ?_ ?_,df KX G yL ?_ ?_ ?_ ?_,df KX G yL ?_ ?_ ?_ ?_,df KX G yL ?_ ?_ ?_ ?_,df KX G P7 ?_ ?_ ?_ ?_,df KX G P7 ?_ ?_ ?_ ?_,df KX G P7 ?_ ?_ ?_ ?_,df KX G P7 ?_ ?_ ?_ ?_,df KX G bn4 ?_ ?_ ?_ ?_,df KX G yL ?_ ?_ ?_ ?_,df KX G bn3 ?_ ?_ ?_ ?_,df KX G yL ?_ ?_ ?_ ?_,df KX G bn4 ?_ ?_ ?_ ?_,df KX G yL ?_ ?_ ?_ ?_,df KX G yL ?_ ?_ ?_ ?_,df KX G bn3 ?_ ?_ ?_ ?_,df KX G yL ?_ ?_ ?_ ?_,df KX G bn3 ?_ ?_ ?_ ?_,df KX G bn4 ?_ ?_ ?_ ?_,df KX G P7 ?_ ?_ ?_ ?_,df KX G yL ?_ ?_ ?_ ?_,df KX G P7 ?_ ?_ ?_ ?_,df KX G yL ?_ ?_ ?_ ?_,df KX G yL ?_ ?_ ?_ ?_,df KX G bn3 ?_ ?_ ?_ ?_,df KX G bn3 ?_ ?_ ?_ ?_,df KX G yL ?_ ?_ ?_ ?_,df KX G P7 ?_ ?_ ?_ ?_,df KX G yL ?_ ?_ ?_ ?_,df KX G yL ?_ ?_ ?_ ?_,df KX G bn4 ?_ ?_ ?_ ?_,df KX G yL ?_ ?_ ?_ ?_,df KX G yL ?_ ?_ ?_ ?_,df KX G bn5 ?_ ?_ ?_ ?_,df KX G P7 ?_ ?_ ?_ ?_,mg_of KX G ?_,K71.UM ?_,mg_of KX G ?_,aE5 ?y_31 rfl,mg_none_of KX G ?_,mg_none_of KX G ?_,mg_none_of KX G ?_,mg_none_of KX G ?_,mg_none_of KX G ?_,mg_none_of KX G ?_,mg_none_of KX G ?_,mg_none_of KX G ?_,mg_none_of KX G ?_,mg_none_of KX G ?_,mg_none_of KX G ?_,mg_none_of KX G ?_,mg_none_of KX G ?_,mg_none_of KX G ?_⟩ hmg
    (case y_31 => kernel_rfl)
    all_goals first | k_is | rfl | decide | with_unfolding_all rfl | skip
