import PyProof.Rows.All
import Wide.All
import OpenK.AllK
import Wide.FinOn
import Lean
import PyProof.EqAt
import PyProof.EqKinds
import PyProof.TupleCall
import PyProof.P3In
import PyProof.NeData
import PyProof.TupleKey
import PyProof.DictRoadsH
import KE.KItemsList
import PyProof.DictWalks
import KE.KDictList
import PyProof.Rows.Range3
import KE.KListMore
import KE.KRevIter
import KE.KPairComp
import PyProof.TupleOfSeq
import PyProof.Rows.SortStr
import PyProof.ListMulRoad
import PyProof.NsDelKeeps
import KE.KTryMore
import PyProof.ExcInit
import PyProof.ExcClass3
import PyProof.InstStoreFacts
import PySem.Challenge.RW_leafjudge_k63_rules_refused
set_option Elab.async false
set_option linter.all false
set_option maxRecDepth 100000
noncomputable section
def L2.tabA : Option PySem.Addr := none
open PySem renaming wpAny_bind->aB,wpAny_pure->aJ,Program->bE,sizeLine->bU,starEach->bV,wpAny_mono->dW,wpAny_newObj_type->eH,FuncData->eI,wpAny_call_entry->eP,mainGlobals->fA,swapsWith->lA
open Nat renaming le_of_ble_eq_true->aC,le_refl->aN,ne_of_lt->bP,lt_of_lt_of_le->cK,le_trans->cP,zero_le->dS,ne_of_gt->eZ,lt_irrefl->fX,lt_succ_of_lt->kA,le_of_lt->mB,mul_le_mul->nO,le_of_eq->nP,add_mul->qW,lt_succ_self->sE,lt_asymm->tW,min_eq_left->uK,one_mul->vQ,zero_add->zJ,sub_zero->zK,min_eq_right->BU,le_add_right->BV,le_succ->BZ,min_le_left->CG,mod_lt->FO,add_assoc->HX,lt_trans->KM,pow_le_pow_right->OW,mul_le_mul_right->OX,lt_of_le_of_lt->UA,succ_ne_self->XA
open List renaming getElem?_eq_some_iff->aD,length_map->aE,getElem?_eq_getElem->aF,getElem?_map->aH,mem_cons_of_mem->aO,mem_of_getElem?->aR,mem_cons_self->aS,getElem?_set_ne->aU,mem_singleton->aW,mem_map->aX,mem_cons->aY,length_append->aZ,getElem?_set_self->bA,size_toArray->bH,length_take->bI,map_cons->bM,mem_filter->bO,getElem?_of_mem->bQ,map_map->bT,map_append->bY,not_mem_nil->cD,length_cons->cE,take_add_one->cN,take_length->cX,getElem?_eq_none->dD,append_nil->dG,mem_append->dO,getElem?_append_left->dP,getElem?_append_right->dZ,length_filter_le->eB,getElem_mem->eV,filter_cons->eW,flatMap_cons->eX,mem_append_right->fE,length_drop->fH,mem_of_mem_take->fM,range->fN,filter_eq_nil_iff->fP,filter_append->fQ,filter_congr->gA,ext_getElem?->gB,all_eq_true->gI,lookup_cons->gY,getElem?_cons_succ->gZ,getElem?_range->iE,length_nil->iG,filter_map->iH,getElem?_cons_zero->jA,nodup_cons->jB,length_pos_iff->jE,take_of_length_le->jG,getElem?_take->jJ,find?_eq_none->jK,take_append_drop->jN,set_eq_take_append_cons_drop->jR,getElem?_zip_eq_some->jS,append_assoc->jX,filter_eq_self->kH,filterMap_cons->kI,getElem?_replicate->kK,map_id->kT,length->kU,foldl_append->lL,mem_range->lQ,drop_eq_getElem_cons->mC,map_congr_left->mF,filter_sublist->mG,idxOf_lt_length_iff->mO,foldl_cons->mP,length_singleton->oA,mem_flatMap->oB,any_eq_true->oC,flatMap_append->pK,map_nil->pM,take_sublist->qR,length_range->qS,find?_append->qT,Pairwise->qX,find?_cons_of_pos->sG,forIn_cons->tX,mem_append_left->uZ,lookup->vA,drop_zero->vB,map_take->wV,map_drop->wW,getElem_idxOf->wZ,getElem?_drop->xA,pairwise_map->yS,nodup_append->yT,Sublist->yU,range_succ->B0,of_mem_zip->B2,replicate->DS,nodup_iff_pairwise_ne->DU,mem_of_find?_eq_some->FP,getElem?_eq_none_iff->FQ,sublist_append_left->FV,pairwise_singleton->HZ,filter_cons_of_pos->IA,filter_cons_of_neg->IB,map_set->IJ,flatMap_singleton->IK,drop_eq_nil_of_le->IL,pairwise_append->MM,mem_of_mem_drop->MN,mem_iff_getElem->MO,map->MP,take_succ_cons->OY,zip_cons_cons->O5,pairwise_cons->O6,mem_filterMap->O7,filterMap_map->O8,getElem?_inj->UB,flatten_cons->UC,any_eq_false->UD,zipIdx_cons->UO,isEmpty_iff->UP,getElem_inj->UQ,flatMap_def->UR,zipIdx_nil->XB,length_set->XC,take_zero->ZR,forIn_nil->ZS,any_cons->aCi,set_set->aCs,isEmpty->aCt,range'->aF7,filter->aF8
open PySem.W renaming Frag->aG,mroIn->bF,kitOne->cT,exmOne->dX,nsIn->eN,findIn->fD,clsIn->fG,typeIn->hZ,InstAt->iA,keepIn->iU,looks_findIn->jQ,mg_of->jU,kitAny->kG,fnOf->kN,kitMeta->kS,nsOkIn->mY,lookIn->mZ,codeIn->nD,Looks->nS,notCls->pI,isNs_of_in->pJ,kitCls->tV,methodObj->wU,exm_one->zH,cellsFrom_some->FL,looks_mroIn->IG,looks_clsIn->IH,callWith_K->KL,handedIn->OV,subIn->UL,WalkO->UM
open PySem.Heap renaming get?_push_of_some->aI,get?_push_size->bB,lt_size->bC,get?_update_other->cZ,get?_update_self->dR,size_push->eA,SameBut->fR,get?_none_of_le->gF,IsTuple->yV,size_update->zZ,ExtBut->BW,Ns->CH,get?_update_ne->OZ,get?_push_at->UE
open PySem.PyData renaming tuple->aM,str->aV,int->bS,eqv->cC,none->dY,depthAll->eK,canLayAll0->fL,canLay0->jI,eqvAll->lB,hasDictAll->lD,dict->uJ,bulkAll->BY,leavesShortAll->HW,showableAll->ML,strOk->ZQ,list->aCg,bool->aCh
open Option renaming map_eq_some_iff->bK,bind_eq_some_iff->FN,getD_none->O4,none_or->UN
open Bool renaming false_ne_true->bW,and_eq_true->dA,eq_iff_iff->eE,false_eq_true->gG,or_eq_true->jV,or_eq_false_iff->oP,or_false->qY,true_and->aCj,not_true->aCk
open PySem.F renaming plainAttrs_list->eO,plain_extend_loop->gH,slot_dict_itemiterator_next->gQ,slot_dict_keyiterator_next->gW,called_set->iL,type_list_append->iP,slot_list_append->iQ,slot_NoneType_hash->lK,slot_tuple_hash->mM,type_list_extend->qB,slot_list_extend->qC,args_tuple_add_2->qD,entry_tuple_add->qQ,slot_tuple_add->rX,args_dict_itemiterator_next_1->uI,entry_dict_itemiterator_next->uM,args_dict_keyiterator_next_1->uN,entry_dict_keyiterator_next->uY,slot_dict_items_iter->zI,entry_extend_loop->BX,args_list_init_2->CF,typeCall_list_1->DP,slot_dict_items->DQ,entry_list_init->DR,slot_dict_iter->FM,called_list->II
open Array renaming length_toList->fF,getElem?_eq_none->iB,getElem?_eq_getElem->iI,getElem?_eq_some_iff->lO,getElem?_toList->tY,find?_toList->wX,getElem?_setIfInBounds_ne->yW,forIn_toList->O0,append_empty->O1,toList_push->O9,size_append->PC,all_toList->UF,toList->aCl
open Int renaming toNat_of_nonneg->gR,toNat_natCast->iF,emod_lt_of_pos->iV,emod_nonneg->jY,ofNat->kO,natCast_mul->uL,natCast_add->ZT,ediv_one->aF9
namespace L2
open PySem PySem.Spec PyProof.Rows
abbrev CC:=Sum Int Str
def LU:CC->Value->Bool
|.inl k,v=>Value.isInt k v
|.inr x,v=>Value.isStrOf x v
def aHi(w:World):CC->Int
|.inl k=>hashInt k
|.inr x=>hashStr w x
theorem jO:∀{k:CC}{v:Value},LU k v=true->(∃i t,k=Sum.inl i/\v=Value.int i t)\/(∃x t,k=Sum.inr x/\v=Value.str x t)
|.inl i,v,h=>by
 obtain⟨t,e⟩:=Value.isInt_shape (k:=i) (v:=v) h;exact .inl ⟨i,t,rfl,e⟩
|.inr x,v,h=>by
 obtain⟨t,e⟩:=Value.isStrOf_shape (x:=x) (v:=v) h;exact .inr ⟨x,t,rfl,e⟩
theorem NX(x:Str)(t:Tok):LU (.inr x) (.str x t)=true:=by simp[LU,Value.isStrOf]
theorem aA7(a b:Int):decide ((Sum.inl a:CC)=Sum.inl b)=(a==b):=by
 by_cases e:a=b
 ·subst e;simp
 ·have h:¬(Sum.inl a:CC)=Sum.inl b:=λq=>e (Sum.inl.inj q);rw[decide_eq_false h];exact(beq_eq_false_iff_ne.mpr e).symm
theorem SC(a b:Str):decide ((Sum.inr a:CC)=Sum.inr b)=decide (a=b):=by
 by_cases e:a=b
 ·subst e;simp
 ·have h:¬(Sum.inr a:CC)=Sum.inr b:=λq=>e (Sum.inr.inj q);rw[decide_eq_false h,decide_eq_false e]
theorem SD(a:Int)(b:Str):decide ((Sum.inl a:CC)=Sum.inr b)=false:=decide_eq_false (λq=>nomatch q)
theorem aA6(a:Str)(b:Int):decide ((Sum.inr a:CC)=Sum.inl b)=false:=decide_eq_false (λq=>nomatch q)
def oU(prog:bE)(w:World):PySem.KeyKind prog w CC where
 is:=LU
 hash:=aHi w
 inj:=λv a b ha hb=>by
  rcases jO ha with⟨i,t,rfl,rfl⟩ | ⟨x,t,rfl,rfl⟩
  ·rcases jO hb with⟨j,u,rfl,e⟩ | ⟨y,u,rfl,e⟩
   ·injection e with e1 _;rw[e1]
   ·exact nomatch e
  ·rcases jO hb with⟨j,u,rfl,e⟩ | ⟨y,u,rfl,e⟩
   ·exact nomatch e
   ·injection e with e1 _;rw[e1]
 byValue:=λk v h=>by
  rcases jO h with⟨i,t,rfl,rfl⟩ | ⟨x,t,rfl,rfl⟩<;>rfl
 pyHash:=λhv h=>by
  rcases jO hv with⟨i,t,rfl,rfl⟩ | ⟨x,t,rfl,rfl⟩
  ·exact wpAny_pyHash_int h
  ·exact wpAny_pyHash_str h
 eqBool:=λhu hv h=>by
  rcases jO hu with⟨i,t,rfl,rfl⟩ | ⟨x,t,rfl,rfl⟩
  ·rcases jO hv with⟨j,u,rfl,rfl⟩ | ⟨y,u,rfl,rfl⟩
   ·rw[aA7]at h;exact wpAny_eqBool_int h
   ·rw[SD]at h;exact SeqAt.EqAt.int_str i t y u _ _ _ _ h
  ·rcases jO hv with⟨j,u,rfl,rfl⟩ | ⟨y,u,rfl,rfl⟩
   ·rw[aA6]at h;exact SeqAt.EqAt.str_int x t j u _ _ _ _ h
   ·rw[SC]at h;exact wpAny_eqBool_str h
 «strs»:=λk x t v h=>by
  rcases jO h with⟨i,u,rfl,e⟩ | ⟨y,u,rfl,e⟩
  ·exact nomatch e
  ·injection e with e1 _
   subst e1;cases v<;>rfl
theorem yL(prog:bE)(w:World)(x:Str)(t:Tok):(oU prog w).is (.inr x) (.str x t)=true:=NX x t
inductive V where
 |non | bl (b:Bool) | int (i:Int) | str (x:Str) | byt (b:Array UInt8) | flt (b:UInt64) | ref (a:Addr) | ty (n:String)
 deriving DecidableEq
def iO:V->Value->Prop
|.non,u=>u=Value.none
|.bl b,u=>u=Value.bool b
|.int i,u=>∃t,u=Value.int i t
|.str x,u=>∃t,u=Value.str x t
|.byt b,u=>∃t,u=Value.bytes b t
|.flt b,u=>∃t,u=Value.float b t
|.ref a,u=>u=Value.ref a
|.ty n,u=>u=Value.type n
abbrev gX:List V->List Value->Prop:=Paired iO
theorem gX.length{xs:List V}{us:List Value}(r:gX xs us):xs.length=us.length:=Paired.length r
theorem gX.get:∀{xs:List V}{us:List Value}{i:Nat}{x:V},gX xs us->xs[i]?=some x->∃u,us[i]?=some u/\iO x u
|_,_,_,_,.nil,e=>by simp at e
|_,_,0,_,.cons r _,e=>by simp at e;subst e;exact⟨_,rfl,r⟩
|_,_,i+1,x,.cons _ t,e=>by
 obtain⟨u,h1,h2⟩:=gX.get (i:=i) (x:=x) t (by simpa using e);exact⟨u,by simpa using h1,h2⟩
theorem gX.set{x:V}{u:Value}(r:iO x u):∀{xs:List V}{us:List Value}(i:Nat),gX xs us->gX (xs.set i x) (us.set i u)
|_,_,_,.nil=>.nil
|_,_,0,.cons _ t=>.cons r t
|_,_,i+1,.cons q t=>.cons q (gX.set r i t)
theorem gX.append:∀{xs ys:List V}{us ws:List Value},gX xs us->gX ys ws->gX (xs++ys) (us++ws)
|_,_,_,_,.nil,s=>s
|_,_,_,_,.cons r t,s=>.cons r (gX.append t s)
theorem gX.take:∀{xs:List V}{us:List Value}(n:Nat),gX xs us->gX (xs.take n) (us.take n)
|_,_,0,_=>.nil
|_,_,_+1,.nil=>.nil
|_,_,n+1,.cons r t=>.cons r (gX.take n t)
theorem gX.drop:∀{xs:List V}{us:List Value}(n:Nat),gX xs us->gX (xs.drop n) (us.drop n)
|_,_,0,r=>r
|_,_,_+1,.nil=>.nil
|_,_,n+1,.cons _ t=>gX.drop n t
def KG:Option V->Option Value->Prop
|some v,some u=>iO v u
|none,none=>True
|_,_=>False
def KV{κ:Type}:List (κ×V)->List (κ×Value)->Prop:=Paired λ(p:κ×V) (q:κ×Value)=>p.1=q.1/\iO p.2 q.2
def kV:CC->V
|.inl i=>.int i
|.inr x=>.str x
inductive HO where
 /-- a list -/
 |lst (xs:List V)
 /-- a tuple (never changes) -/
 |tup (xs:List V)
 /-- a dict whose keys are ints and texts;one whose keys are tuples of ints and texts (the empty one is both) -/
 |dK (kvs:List (CC×V)) | dT (kvs:List (List CC×V))
 /-- a set of ints: its members,its size -/
 |set (S:Int->Bool) (n:Nat)
 /-- an instance of the class at C,its dict at dx,its attributes -/
 |ins (C dx:Addr) (fs:List (Str×V))
 /-- the dict of the instance at x -/
 |own (x:Addr)
 /-- the dict of an exception -/
 |xd (fs:List (Str×V))
 /-- a bound method,f of x -/
 |met (f x:Addr)
 /-- a range object lo,lo+1,.. below hi -/
 |rng (lo hi:Int)
 /-- a thing that is known to the object (the script;a dict while a loop walks it): read,never written while it is so -/
 |frz (o:Obj) (u:HO)
 /-- a code object's table -/
 |tbl (ps:Array Value)
 /-- any other thing,by what is true of its one object (a def of one's own: SetO a S n:=HO.ext λh=>..) -/
 |ext (φ:Heap->Prop)
abbrev Hp:=Addr->Option HO
def gK(H:Hp)(a:Addr)(o:HO):Hp:=λb=>if b=a then some o else H b
theorem cO{H:Hp}{a:Addr}{o:HO}:gK H a o a=some o:=by unfold gK;rw[if_pos rfl]
theorem cJ{H:Hp}{a b:Addr}{o:HO}(h:b≠a):gK H a o b=H b:=by unfold gK;rw[if_neg h]
theorem zL{H:Hp}{a:Addr}{o u:HO}:gK (gK H a o) a u=gK H a u:=by
 funext b;unfold gK;split<;>rfl
theorem AX{H:Hp}{a b:Addr}{o u:HO}(h:H a=some o)(h':H b=some u)(d:o≠u):a≠b:=by
 intro e;subst e;rw[h]at h';exact d (Option.some.inj h')
theorem dC{H:Hp}{a b:Addr}{o:HO}(h:H a=some o)(h':H b=none):a≠b:=by
 intro e;subst e;rw[h]at h';cases h'
section
variable(P:bE)(w:World)
def CB(h:Heap)(a:Addr)(items:Array Value):Prop:=∃o,h.get? a=some o/\o.cls=.type "tuple"/\∃n,o.data=.seq items n/\o.dict=none
theorem CB.tup{h:Heap}{a:Addr}{items:Array Value}(x:CB h a items):IsTup h a items:=let ⟨o,e,c,n,d,_⟩:=x;⟨o,e,c,n,d⟩
theorem CB.lt{h:Heap}{a:Addr}{items:Array Value}(x:CB h a items):a<h.objs.size:=x.tup.lt
theorem CB.new(h:Heap)(items:Array Value):CB (h.push { cls:=.type "tuple",data:=.seq items }) h.objs.size items:=⟨_,bB _ rfl,rfl,_,rfl,rfl⟩
def aF6(oc:Obj):Prop:=∃(vs:Array Value)(q:Str)(t:Tok),oc.data=.fields vs/\vs[1]?=some (.str q t)
def lG(H:Hp)(h:Heap)(a:Addr):HO->Prop
|.lst xs=>xs.length<=bU/\∃(its:List Value)(n:Nat),gX xs its/\h.get? a=some { cls:=.type "list",data:=.seq its.toArray n }
|.tup xs=>xs.length<=bU/\∃its:List Value,gX xs its/\CB h a its.toArray
|.dK kvs=>kvs.length<=bU/\(a==sysModules)=false/\∃vs,KV kvs vs/\h.DictOf (oU P w) a vs
|.dT kvs=>kvs.length<=bU/\(a==sysModules)=false/\∃xs:List (List CC×Addr×Value),
  Paired (λ(p:List CC×V) (q:List CC×Addr×Value)=>p.1=q.1/\H q.2.1=some (.tup (p.1.map kV))/\iO p.2 q.2.2) kvs xs /\
  ∃o es ep,h.get? a=some o/\o.ExactDict/\o.data=.dict es ep/\es.toList=xs.map (entryOfKey (tupleKind (oU P w)))/\(xs.map (·.1)).Nodup
|.set S n=>h.SetOf (intKind P w) a S n
|.ins C dx fs=>H dx=some (.own a)/\fs.length<=1000/\dx≠a/\h.get? a=some (PySem.W.instObj C dx) /\
  ∃mA,h.Ns1 dx mA/\(∀f,KG (fs.lookup f) (mA f))/\PySem.Within mA (fs.map (·.1))
|.own _=>∃o,h.get? a=some o
|.xd fs=>∃mA,h.Ns1 a mA/\∀f,KG (fs.lookup f) (mA f)
|.rng lo hi=>∃t u v,h.get? a=some { cls:=.type "range",data:=.fields #[.int lo t,.int hi u,.int 1 v] }
|.frz o u=>h.get? a=some o/\lG H h a u
|.tbl _=>∃qs:Array Value,h.get? a=some { cls:=.none,data:=.fields qs }/\TriplesOk qs.toList/\∀(p:Pos)(c:Value),codeAmong p qs.toList=some c->∃c' oc,c=.ref c'/\H c'=some (.frz oc (.own a))/\aF6 oc
|.met f x=>h.get? a=some (wU (.ref f) (.ref x))
|.ext φ=>φ h/\(∃o,h.get? a=some o)/\∀h1 h2:Heap,φ h1->(∀o,h1.get? a=some o->h2.get? a=some o)->φ h2
def rV(H:Hp)(h:Heap):Prop:=∀a o,H a=some o->lG P w H h a o
end
section
variable{P:bE}{w:World}{H H':Hp}{h h':Heap}{a:Addr}{o:HO}
theorem lG.lt(x:lG P w H h a o):a<h.objs.size:=by
 cases o with
 |lst xs=>obtain⟨_,_,_,_,e⟩:=x;exact bC e
 |tup xs=>obtain⟨_,_,_,p⟩:=x;exact p.lt
 |dK kvs=>obtain⟨_,_,_,_,o,_,_,e,_⟩:=x;exact bC e
 |dT kvs=>obtain⟨_,_,_,_,o,_,_,e,_⟩:=x;exact bC e
 |set S n=>obtain⟨o,_,_,_,e,_⟩:=x;exact bC e
 |ins C dx fs=>obtain⟨_,_,_,e,_⟩:=x;exact bC e
 |own y=>obtain⟨_,e⟩:=x;exact bC e
 |xd fs=>obtain⟨_,⟨_,_,_,e,_⟩,_⟩:=x;exact bC e
 |rng lo hi=>obtain⟨_,_,_,e⟩:=x;exact bC e
 |frz ob u=>obtain⟨e,_⟩:=x;exact bC e
 |tbl ps=>obtain⟨_,e,_⟩:=x;exact bC e
 |met f y=>exact bC (show h.get? a=some _ from x)
 |ext φ=>obtain⟨_,⟨_,e⟩,_⟩:=x;exact bC e
theorem Paired.mapP{α β:Type}{F G:α->β->Prop}:∀{l₁:List α}{l₂:List β},Paired F l₁ l₂->(∀a b,F a b->G a b)->Paired G l₁ l₂
|_,_,.nil,_=>.nil
|_,_,.cons r t,f=>.cons (f _ _ r) (Paired.mapP t f)
theorem lG.stay(x:lG P w H h a o)(k:∀b u,(b=a\/H b=some (.own a))->h.get? b=some u->h'.get? b=some u)
  (ho:∀b,H b=some (.own a)->H' b=some (.own a)) (ht:∀b xs,H b=some (.tup xs)->H' b=some (.tup xs)) (hf:∀b ob u,H b=some (.frz ob u)->H' b=some (.frz ob u):=by exactλ_ _ _ q=>q):lG P w H' h' a o:=by
 induction o with
 |lst xs=>obtain⟨z,its,n,r,e⟩:=x;exact⟨z,its,n,r,k _ _ (.inl rfl) e⟩
 |tup xs=>obtain⟨z,its,r,ob,e,c⟩:=x;exact⟨z,its,r,ob,k _ _ (.inl rfl) e,c⟩
 |dK kvs=>obtain⟨z,y,vs,r,ob,es,ep,e,c⟩:=x;exact⟨z,y,vs,r,ob,es,ep,k _ _ (.inl rfl) e,c⟩
 |dT kvs=>
  obtain⟨z,y,xs,r,ob,es,ep,e,c⟩:=x;exact⟨z,y,xs,Paired.mapP r λp q z=>⟨z.1,ht _ _ z.2.1,z.2.2⟩,ob,es,ep,k _ _ (.inl rfl) e,c⟩
 |set S n=>obtain⟨ob,es,ep,t,e,c⟩:=x;exact⟨ob,es,ep,t,k _ _ (.inl rfl) e,c⟩
 |ins C dx fs=>
  obtain⟨d,z,ne,e,mA,⟨od,es,ep,e2,c⟩,r⟩:=x;exact⟨ho _ d,z,ne,k _ _ (.inl rfl) e,mA,⟨od,es,ep,k _ _ (.inr d) e2,c⟩,r⟩
 |own y=>obtain⟨ob,e⟩:=x;exact⟨ob,k _ _ (.inl rfl) e⟩
 |xd fs=>obtain⟨mA,⟨od,es,ep,e,c⟩,r⟩:=x;exact⟨mA,⟨od,es,ep,k _ _ (.inl rfl) e,c⟩,r⟩
 |rng lo hi=>obtain⟨t,u,v,e⟩:=x;exact⟨t,u,v,k _ _ (.inl rfl) e⟩
 |frz ob u ih=>obtain⟨e,q⟩:=x;exact⟨k _ _ (.inl rfl) e,ih q⟩
 |tbl ps=>
  obtain⟨qs,e,t,z⟩:=x;exact⟨qs,k a _ (.inl rfl) e,t,λp c q=>let ⟨c',oc,h1,h2,h3⟩:=z p c q;⟨c',oc,h1,hf _ _ _ h2,h3⟩⟩
 |met f y=>
  have e:h.get? a=some (wU (.ref f) (.ref y)):=x;show h'.get? a=some (wU (.ref f) (.ref y));exact k a _ (.inl rfl) e
 |ext φ=>obtain⟨p,⟨o,e⟩,st⟩:=x;exact⟨st _ _ p λo q=>k _ _ (.inl rfl) q,⟨o,k _ _ (.inl rfl) e⟩,st⟩
theorem rV.lt(x:rV P w H h)(e:H a=some o):a<h.objs.size:=(x a o e).lt
theorem rV.fresh(x:rV P w H h)(e:h.objs.size<=a):H a=none:=by
 cases q:H a with
 |none=>rfl
 |some u=>exact absurd (cK (x.lt q) e) (fX _)
theorem rV.kept(x:rV P w H h)(k:∀b u,h.get? b=some u->h'.get? b=some u):rV P w H h':=λa o e=>
 (x a o e).stay (λb u _ q=>k b u q) (λ_ q=>q) λ_ _ q=>q
theorem rV.laid(x:rV P w H h)(k:∀b u,h.get? b=some u->h'.get? b=some u)(hp:h.objs.size<=a)(new:lG P w (gK H a o) h' a o):rV P w (gK H a o) h':=λb u e=>by
 have hn:=x.fresh hp;by_cases hb:b=a
 ·subst hb;rw[cO]at e;cases e;exact new
 ·rw[cJ hb]at e;exact(x b u e).stay (λc v _ q=>k c v q) (λc q=>by rw[cJ (dC q hn)];exact q) (λc xs q=>by rw[cJ (dC q hn)];exact q) λc ob v q=>by rw[cJ (dC q hn)];exact q
end
def Rd(H:Hp)(a:Addr)(u:HO):Prop:=H a=some u\/∃o,H a=some (.frz o u)
theorem Rd.ok{P:bE}{w:World}{H:Hp}{h:Heap}{a:Addr}{u:HO}(r:Rd H a u)(x:rV P w H h):lG P w H h a u:=by
 rcases r with r | ⟨o,r⟩
 ·exact x a u r
 ·obtain⟨_,q⟩:=x a _ r;exact q
def Mut:Option HO->Prop
|some (.lst _)=>True
|some (.dK _)=>True
|some (.dT _)=>True
|some (.set _ _)=>True
|some (.ins _ _ _)=>True
|some (.ext _)=>True
|_=>False
section
variable{P:bE}{w:World}{H:Hp}{h h':Heap}{x e:Addr}{o':HO}
theorem rV.write(ok:rV P w H h)(mu:Mut (H x))(he:e=x\/H e=some (.own x))(k:∀b u,b≠e->h.get? b=some u->h'.get? b=some u)(heo:∃u,h'.get? e=some u)
  (new:lG P w (gK H x o') h' x o'):rV P w (gK H x o') h':=λb u q=>by
 have nown:∀c y,H c=some (.own y)->c≠x:=λc y r z=>by subst z;rw[r]at mu;exact mu
 have ntup:∀c xs,H c=some (.tup xs)->c≠x:=λc xs r z=>by subst z;rw[r]at mu;exact mu
 by_cases hb:b=x
 ·subst hb;rw[cO]at q;cases q;exact new
 ·rw[cJ hb]at q;by_cases hbe:b=e
  ·have q':H b=some (.own x):=by
    rcases he with z | z
    ·exact absurd (hbe.trans z) hb
    ·rw[hbe];exact z
   rw[q]at q';cases q';obtain⟨v,hv⟩:=heo;exact⟨v,by rw[hbe];exact hv⟩
  ·refine(ok b u q).stay (λc v hc r=>k c v ?_ r) (λc r=>by rw[cJ (nown c b r)];exact r) (λc xs r=>by rw[cJ (ntup c xs r)];exact r) λc ob v r=>by rw[cJ (λz=>by subst z;rw[r]at mu;exact mu)];exact r
   rcases hc with rfl | hc
   ·exact hbe
   ·rintro rfl;rcases he with z | z
    ·exact nown c b hc z
    ·rw[hc]at z;cases z;exact hb rfl
end
structure Un(fs ex:List Addr)(H H':Hp)(h h':Heap):Prop where
 keep:∀b o,h.get? b=some o->H b=none->b∉fs->b∉ex->h'.get? b=some o
 slot:∀b o,h.get? b=some o->H b=none->b∈fs->b∉ex->∃sl,h'.get? b=some { o with slots:=sl }
 free:∀b o,h.get? b=some o->H b=none->b∉ex->H' b=none
 there:∀b o,h.get? b=some o->b∉ex->∃o',h'.get? b=some o'
 tups:∀b xs,H b=some (.tup xs)->H' b=some (.tup xs)
 frzs:∀b o u,H b=some (.frz o u)->H' b=some (.frz o u)
 tbls:∀b ps,H b=some (.tbl ps)->∃more,H' b=some (.tbl (ps++more))
section
variable{fs ex:List Addr}{H H1:Hp}{h h1 h':Heap}{a x e:Addr}{o:HO}
theorem Un.any(u:Un fs ex H H1 h h1){b:Addr}{ob:Obj}(q:h.get? b=some ob)(n:H b=none)(hx:b∉ex):∃sl,h1.get? b=some { ob with slots:=sl }:=by
 by_cases hb:b∈fs
 ·exact u.slot b ob q n hb hx
 ·exact⟨ob.slots,u.keep b ob q n hb hx⟩
theorem Un.kept(k:∀b u,h.get? b=some u->h'.get? b=some u):Un fs ex H H h h':=
 ⟨λb ob q _ _ _=>k b ob q,λb ob q _ _ _=>⟨ob.slots,k b ob q⟩,λ_ _ _ n _=>n,λb ob q _=>⟨ob,k b ob q⟩,λ_ _ q=>q,λ_ _ _ q=>q,λ_ ps q=>⟨#[],by rw[q];simp⟩⟩
theorem Un.refl:Un fs ex H H h h:=Un.kept λ_ _ q=>q
theorem Un.laid(k:∀b u,h.get? b=some u->h'.get? b=some u)(hp:h.objs.size<=a)(hn:H a=none):Un fs ex H (gK H a o) h h' where
 keep:=λb u q _ _ _=>k b u q
 slot:=λb u q _ _ _=>⟨u.slots,k b u q⟩
 free:=λb u q n _=>by rw[cJ (bP (cK (bC q) hp))];exact n
 there:=λb u q _=>⟨u,k b u q⟩
 tups:=λb xs q=>by rw[cJ (dC q hn)];exact q
 frzs:=λb u xs q=>by rw[cJ (dC q hn)];exact q
 tbls:=λb ps q=>⟨#[],by rw[cJ (dC q hn),q];simp⟩
theorem Un.write(mu:Mut (H x))(he:e=x\/H e=some (.own x))(k:∀b u,b≠e->h.get? b=some u->h'.get? b=some u)(heo:∃u,h'.get? e=some u):Un fs ex H (gK H x o) h h':=by
 have hx:∀b,H b=none->b≠x:=λb n z=>by subst z;rw[n]at mu;exact mu
 have hb:∀b,H b=none->b≠e:=λb n z=>by
  subst z;rcases he with r | r
  ·exact hx b n r
  ·rw[n]at r;cases r
 have hm:∀b u,H b=some u->¬Mut (some u)->b≠x:=λb u q nm z=>by subst z;rw[q]at mu;exact nm mu
 refine⟨λb u q n _ _=>k b u (hb b n) q,λb u q n _ _=>⟨u.slots,k b u (hb b n) q⟩,λb u q n _=>by rw[cJ (hx b n)];exact n,λb u q _=>?_,
  λb xs q=>by rw[cJ (hm b _ q λz=>z)];exact q,λb u xs q=>by rw[cJ (hm b _ q λz=>z)];exact q,λb ps q=>⟨#[],by rw[cJ (hm b _ q λz=>z),q];simp⟩⟩
 by_cases hbe:b=e
 ·subst hbe;exact heo
 ·exact⟨u,k b u hbe q⟩
end
def trk(h:Heap)(H:Hp):List Addr:=(fN h.objs.size).filter λa=>(H a).isSome
def EU(h:Heap)(H:Hp):Heap:=PySem.W.hideAll h (trk h H)
theorem N3(h:Heap)(H:Hp):(EU h H).objs.size=h.objs.size:=PySem.W.hideAll_size _ _
theorem SL{h:Heap}{H:Hp}{b:Addr}{o:Obj}(e:h.get? b=some o)(n:H b=none):(EU h H).get? b=some o:=
 PySem.W.hideAll_get _ e λhm=>by
  have q:(H b).isSome=true:=(bO.mp hm).2;rw[n]at q;simp at q
theorem V3{h:Heap}{H:Hp}{b:Addr}{o:Obj}(e:(EU h H).get? b=some o):h.get? b=some o/\H b=none:=by
 have e':h.get? b=some o:=PySem.W.of_hideAll (trk h H) e;refine⟨e',?_⟩
 cases q:H b with
 |none=>rfl
 |some x=>
  have hm:b∈trk h H:=bO.mpr ⟨lQ.mpr (bC e'),by simp[q]⟩;have z:(EU h H).get? b=none:=PySem.W.hideAll_none (trk h H) hm;rw[z]at e;cases e
def W7(g h:Heap)(L:Addr):List (Addr×Obj):=(fN h.objs.size).filterMap λa=>if a=L\/(g.get? a).isSome=true then none else(h.get? a).map λo=>(a,o)
def rest(g h:Heap)(L d:Addr):List (Addr×Obj):=(W7 g h L).filter λp=>decide (p.1≠d)
end L2
namespace L2
open PySem PySem.Spec PyProof.Rows
structure Mod(K:aG)(mg:Str->Option Value)(base:Heap):Prop where
 kin:K.In base
 glob:base.Ns fA mg
 blt:∃mb,base.Ns builtinsNs mb/\∀x:Str,x≠"__name__"->mb x=bootBuiltins x
 nolimit:base.NoLimit
 bmod:∃bm o,mg "__builtins__"=some (.ref bm)/\bm≠builtinsNs/\base.get? bm=some o/\o.cls=.type "module"/\o.dict=some builtinsNs/\o.data=.plain
structure Cx where
 prog:bE
 w:World
 K:aG
 mg:Str->Option Value
 base:Heap
 A:Around
 N:List Str
 s₀:Shared
 H₀:Hp
 env:Env
 outer:List Env
 stack:List Env
 ex:List Addr
 fn:Str->Bool
 calm:Bool
 pn:List (Addr×Obj)
 xe:Value->Shared->Prop
def pL(l:List Env):List Addr:=l.filterMap (·.frame)
abbrev Cx.fs(X:Cx):List Addr:=pL X.outer
def Vis(sc:Scope)(x:Str):Prop:=sc.names.lookup x=some .local\/sc.names.lookup x=some .cell\/sc.names.lookup x=some .free
def MH(sc:Scope)(x:Str):Prop:=sc.names.lookup x=some .local\/sc.names.lookup x=some .cell
def aH4(env:Env)(h:Heap)(m:Str->Option Value)(x:Str)(u:Value):Prop:=
 (env.kindOf x=some .local/\m x=some u)\/((env.kindOf x=some .cell\/env.kindOf x=some .free)/\∃c,env.cells.lookup x=some c/\h.IsCell c (some u))
def Tb(H:Hp):Prop:=∀P,tabA=some P->∃ps,H P=some (.tbl ps)
structure Cx.Ok(X:Cx):Prop where
 mod:Mod X.K X.mg X.base
 kind:X.env.scope.kind=.function
 glob:X.env.globals=fA
 blt:X.env.builtins=builtinsNs
 above:X.s₀.heap.objs.size<=X.env.locals
 inj:∀x y c,X.env.cells.lookup x=some c->X.env.cells.lookup y=some c->x=y
 has:∀x,(X.env.kindOf x=some .cell\/X.env.kindOf x=some .free)->∃c,X.env.cells.lookup x=some c
 cab:∀x c,X.fn x=true->X.env.cells.lookup x=some c->X.s₀.heap.objs.size<=c
 hd:X.calm=true->X.A.handled=none
 frames:X.A.frames=some X.stack
 stk:X.stack=X.outer\/(X.stack=X.env::X.outer/\X.env.frame=some X.env.locals)
 exf:∀b∈X.ex,b≠X.env.locals/\∀x c,X.env.cells.lookup x=some c->c≠b
 bs:∀b o,X.base.get? b=some o->X.s₀.heap.get? b=some o/\X.H₀ b=none
 bsz:X.base.objs.size<=X.s₀.heap.objs.size
 noex:∀b o,X.base.get? b=some o->b∉X.ex
 exfs:∀b∈X.ex,b∉X.fs
 funs:X.s₀.heap.FunFrames X.base X.outer
 frf:∀b∈X.fs,X.H₀ b=none
 tab:Tb X.H₀
structure dM(X:Cx)(pins:List (Addr×Obj))(σ:List (Option V))(H:Hp)(s:Shared):Prop where
 ok:X.Ok
 os:s.os=X.s₀.os
 bare:AllBare s.gens
 base:Un X.fs X.ex X.H₀ H X.s₀.heap s.heap
 loc:∃m,s.heap.Ns X.env.locals m/\∀(i:Nat)(x:Str)(v:V),X.N[i]?=some x->σ[i]?=some (some v)->Vis X.env.scope x->∃u,iO v u/\aH4 X.env s.heap m x u
 cell:∀x c,X.env.cells.lookup x=some c->∃v,s.heap.IsCell c v
 free:H X.env.locals=none
 freeC:∀x c,X.env.cells.lookup x=some c->H c=none
 pin:∀p∈X.pn++pins,s.heap.get? p.1=some p.2/\H p.1=none/\p.1≠X.env.locals/\p.1∉X.fs/\∀v,p.2.data≠.cell v
 hok:rV X.prog X.w H s.heap
 len:σ.length=X.N.length
section
variable{X:Cx}{pins:List (Addr×Obj)}{σ:List (Option V)}{H H':Hp}{s:Shared}{h':Heap}
theorem Cx.Ok.nofr(ok:X.Ok){b:Addr}{o:Obj}(e:X.base.get? b=some o):b∉X.fs:=λhb=>by
 have:=(ok.funs.mem hb).1;rw[e]at this;cases this
theorem dM.bs(I:dM X pins σ H s):∀b o,X.base.get? b=some o->s.heap.get? b=some o/\H b=none:=λb o e=>
 ⟨I.base.keep b o (I.ok.bs b o e).1 (I.ok.bs b o e).2 (I.ok.nofr e) (I.ok.noex b o e),I.base.free b o (I.ok.bs b o e).1 (I.ok.bs b o e).2 (I.ok.noex b o e)⟩
theorem dM.bk(I:dM X pins σ H s):∀b o,X.base.get? b=some o->s.heap.get? b=some o:=λb o e=>(I.bs b o e).1
theorem dM.mod(I:dM X pins σ H s):Mod X.K X.mg X.base:=I.ok.mod
theorem dM.kIn(I:dM X pins σ H s):X.K.In s.heap:=I.ok.mod.kin.keeps I.bk
theorem dM.lt(I:dM X pins σ H s):X.env.locals<s.heap.objs.size:=let ⟨_,hn,_⟩:=I.loc;hn.lt
theorem dM.sz(I:dM X pins σ H s):X.s₀.heap.objs.size<=s.heap.objs.size:=cP I.ok.above (mB I.lt)
theorem dM.nofs(I:dM X pins σ H s){a:Addr}(h:s.heap.objs.size<=a):a∉X.fs:=λhb=>by
 obtain⟨_,o,ho,_⟩:=I.ok.funs.mem hb;exact absurd (cK (bC ho) (cP I.sz h)) (fX _)
theorem dM.cne(I:dM X pins σ H s):∀x c,X.env.cells.lookup x=some c->c≠X.env.locals:=λx c e z=>by
 obtain⟨v,o,ho,hd⟩:=I.cell x c e;obtain⟨m,⟨o',es,ep,ho',hd',_⟩,_⟩:=I.loc;rw[z,ho']at ho;cases ho;rw[hd']at hd;cases hd
theorem dM.funs(I:dM X pins σ H s):s.heap.FunFrames X.base X.outer:=by
 have all:∀(l:List Env),(∀b∈pL l,b∈X.fs)->X.s₀.heap.FunFrames X.base l->s.heap.FunFrames X.base l:=by
  intro l
  induction l with
  |nil=>intro _ _;trivial
  |cons env r ih=>
   intro hs hl;obtain⟨hk,⟨L,o,hf,hn,ho,hd⟩,hr⟩:=hl;have hL:L∈X.fs:=hs L (by unfold pL;rw[kI,hf];exact aS);obtain⟨sl,e⟩:=I.base.slot L o ho (I.ok.frf L hL) hL λz=>I.ok.exfs L z hL;exact⟨hk,⟨L,_,hf,hn,e,hd⟩,ih (λb hb=>hs b (by unfold pL;rw[kI,hf];exact aO _ hb)) hr⟩
 exact all X.outer (λ_ hb=>hb) I.ok.funs
theorem dM.stack(I:dM X pins σ H s):s.heap.FunFrames X.base X.stack:=by
 rcases I.ok.stk with e | ⟨e,hf⟩
 ·rw[e];exact I.funs
 ·rw[e];obtain⟨m,hn,_⟩:=I.loc;refine .cons (by rw[I.ok.kind];decide) hf hn ?_ I.funs;exact gF (cP I.ok.bsz I.ok.above)
theorem dM.stkSub(I:dM X pins σ H s):∀b∈pL X.stack,b∈X.env.locals::X.fs:=λb hb=>by
 rcases I.ok.stk with e | ⟨e,hf⟩
 ·rw[e]at hb;exact aO _ hb
 ·rw[e]at hb;unfold pL at hb;rw[kI,hf]at hb;exact hb
theorem dM.stkFree(I:dM X pins σ H s):∀b∈pL X.stack,H b=none:=λb hb=>by
 rcases aY.mp (I.stkSub b hb)with e | hb
 ·rw[e];exact I.free
 ·obtain⟨_,o,ho,_⟩:=I.ok.funs.mem hb;exact I.base.free b o ho (I.ok.frf b hb) λz=>I.ok.exfs b z hb
theorem dM.step{g':Array GenState}{t':Nat}{d':Drawn}{ch:List Addr}(I:dM X pins σ H s)
  (hch:∀b∈ch,(b∈X.ex\/X.s₀.heap.objs.size<=b)/\b≠X.env.locals/\(∀x c,X.env.cells.lookup x=some c->c≠b)/\∀p∈X.pn++pins,p.1≠b)
  (keep:∀b o,b≠X.env.locals->b∉X.fs->b∉ch->s.heap.get? b=some o->H b=none->h'.get? b=some o)
  (slot:∀b o,b≠X.env.locals->b∈X.fs->b∉ch->s.heap.get? b=some o->H b=none->∃sl,h'.get? b=some { o with slots:=sl }) (free:∀b o,b∉ch->s.heap.get? b=some o->H b=none->H' b=none)
  (there:∀b o,b∉ch->s.heap.get? b=some o->∃o',h'.get? b=some o')
  (tups:∀b xs,H b=some (.tup xs)->H' b=some (.tup xs)) (frzs:∀b o u,H b=some (.frz o u)->H' b=some (.frz o u)) (tbls:∀b ps,H b=some (.tbl ps)->∃more,H' b=some (.tbl (ps++more)))
  (ns:∀m,s.heap.Ns X.env.locals m->h'.Ns X.env.locals m) (hok:rV X.prog X.w H' h') (hg:AllBare g') :
  dM X pins σ H' { s with heap:=h',gens:=g',drawn:=d',toks:=t' }:=by
 have neL:∀b o,X.s₀.heap.get? b=some o->b≠X.env.locals:=λb o e=>bP (cK (bC e) I.ok.above)
 have neC:∀b o,X.s₀.heap.get? b=some o->b∉X.ex->b∉ch:=λb o e hx hb=>by
  rcases(hch b hb).1 with z | z
  ·exact hx z
  ·exact absurd (cK (bC e) z) (fX _)
 have cellK:∀x c,X.env.cells.lookup x=some c->∀v,s.heap.IsCell c v->h'.IsCell c v:=λx c e v ⟨o,ho,hd⟩=>by
  have nch:c∉ch:=λz=>(hch c z).2.2.1 x c e rfl;by_cases hc:c∈X.fs
  ·obtain⟨sl,q⟩:=slot c o (I.cne x c e) hc nch ho (I.freeC x c e);exact⟨_,q,hd⟩
  ·exact⟨o,keep c o (I.cne x c e) hc nch ho (I.freeC x c e),hd⟩
 refine⟨I.ok,I.os,hg,⟨λb o e n hb hx=>?_,λb o e n hb hx=>?_,λb o e n hx=>?_,λb o e hx=>?_,λb xs e=>tups b xs (I.base.tups b xs e),λb o xs e=>frzs b o xs (I.base.frzs b o xs e),λb ps e=>?_⟩,?_,λx c e=>?_,?_,λx c e=>?_,λp hp=>?_,hok,I.len⟩
 ·exact keep b o (neL b o e) hb (neC b o e hx) (I.base.keep b o e n hb hx) (I.base.free b o e n hx)
 ·obtain⟨sl,e1⟩:=I.base.slot b o e n hb hx;obtain⟨sl',e2⟩:=slot b _ (neL b o e) hb (neC b o e hx) e1 (I.base.free b o e n hx);exact⟨sl',e2⟩
 ·obtain⟨o',e1⟩:=I.base.there b o e hx;exact free b o' (neC b o e hx) e1 (I.base.free b o e n hx)
 ·obtain⟨o',e1⟩:=I.base.there b o e hx;exact there b o' (neC b o e hx) e1
 ·obtain⟨m1,e1⟩:=I.base.tbls b ps e;obtain⟨m2,e2⟩:=tbls b _ e1;exact⟨m1++m2,by rw[e2,Array.append_assoc]⟩
 ·obtain⟨m,hn,hl⟩:=I.loc;refine⟨m,ns m hn,λi x v e1 e2 e3=>?_⟩;obtain⟨u,r,l⟩:=hl i x v e1 e2 e3;refine⟨u,r,?_⟩;rcases l with l | ⟨k,c,e,z⟩
  ·exact .inl l
  ·exact .inr ⟨k,c,e,cellK x c e _ z⟩
 ·obtain⟨v,z⟩:=I.cell x c e;exact⟨v,cellK x c e v z⟩
 ·obtain⟨m,⟨o,_,_,ho,_⟩,_⟩:=I.loc;exact free _ o (λz=>(hch _ z).2.1 rfl) ho I.free
 ·obtain⟨v,o,ho,hd⟩:=I.cell x c e;exact free c o (λz=>(hch c z).2.2.1 x c e rfl) ho (I.freeC x c e)
 ·obtain⟨e,n,ne,nf,d⟩:=I.pin p hp;have nch:p.1∉ch:=λz=>(hch p.1 z).2.2.2 p hp rfl;exact⟨keep p.1 p.2 ne nf nch e n,free p.1 p.2 nch e n,ne,nf,d⟩
theorem dM.un{t':Nat}(I:dM X pins σ H s)(u:Un X.fs [] H H' s.heap h')(hok:rV X.prog X.w H' h'):dM X pins σ H' { s with heap:=h',toks:=t' }:=by
 obtain⟨m,⟨o,es,ep,ho,r⟩,_⟩:=id I.loc;obtain⟨sl,hL⟩:=u.any ho I.free (by simp)
 exact I.step (g':=s.gens) (d':=s.drawn) (ch:=[]) (λ_ z=>nomatch z) (λb o _ hb _ e n=>u.keep b o e n hb (by simp)) (λb o _ hb _ e n=>u.slot b o e n hb (by simp)) (λb o _ e n=>u.free b o e n (by simp)) (λb o _ e=>u.there b o e (by simp)) u.tups u.frzs u.tbls (λm' hm=>by
  obtain⟨o',es',ep',ho',r'⟩:=hm;rw[ho]at ho';cases ho';exact⟨_,es',ep',hL,r'⟩) hok I.bare
theorem dM.call{g':Array GenState}{t':Nat}{d':Drawn}{ch:List Addr}(I:dM X pins σ H s)(u:Un (pL X.stack) ch H H' s.heap h')(hok:rV X.prog X.w H' h')(hg:AllBare g')
  (hch:∀b∈ch,(b∈X.ex\/X.s₀.heap.objs.size<=b)/\b≠X.env.locals/\(∀x c,X.env.cells.lookup x=some c->c≠b)/\∀p∈X.pn++pins,p.1≠b) :
  dM X pins σ H' { s with heap:=h',gens:=g',drawn:=d',toks:=t' }:=by
 obtain⟨m,⟨o,es,ep,ho,r⟩,_⟩:=id I.loc;obtain⟨sl,hL⟩:=u.any ho I.free λz=>(hch _ z).2.1 rfl
 exact I.step (ch:=ch) hch (λb o hL hb hc e n=>u.keep b o e n (λz=>(aY.mp (I.stkSub b z)).elim hL hb) hc) (λb o _ _ hc e n=>u.any e n hc) (λb o hc e n=>u.free b o e n hc) (λb o hc e=>u.there b o e hc) u.tups u.frzs u.tbls (λm' hm=>by
  obtain⟨o',es',ep',ho',r'⟩:=hm;rw[ho]at ho';cases ho';exact⟨_,es',ep',hL,r'⟩) hok hg
theorem dM.turned{t':Nat}{it:Addr}(I:dM X pins σ H s)(k:∀b o,b≠it->s.heap.get? b=some o->h'.get? b=some o)(hn:H it=none)(hL:it≠X.env.locals)
  (h1:it∈X.ex\/X.s₀.heap.objs.size<=it) (h2:∀x c,X.env.cells.lookup x=some c->c≠it) (h3:∀p∈X.pn++pins,p.1≠it):dM X pins σ H { s with heap:=h',toks:=t' }:=by
 have nit:∀b u,H b=some u->b≠it:=λb u e z=>by rw[z,hn]at e;cases e
 refine I.step (g':=s.gens) (d':=s.drawn) (ch:=[it]) (λb hb=>?_) (λb o _ _ hc e _=>k b o (λz=>hc (by simp[z])) e) (λb o _ _ hc e _=>⟨o.slots,k b o (λz=>hc (by simp[z])) e⟩) (λ_ _ _ _ n=>n)
  (λb o hc e=>⟨o,k b o (λz=>hc (by simp[z])) e⟩) (λ_ _ e=>e) (λ_ _ _ e=>e) (λb ps e=>⟨#[],by rw[e];simp⟩) (λm hm=>?_) (λb u e=>?_) I.bare
 ·have e:b=it:=by simpa using hb
  subst e;exact⟨h1,hL,h2,h3⟩
 ·obtain⟨o,es,ep,ho,r⟩:=hm;exact⟨o,es,ep,k _ o (Ne.symm hL) ho,r⟩
 ·refine(I.hok b u e).stay (λc v hc q=>k c v ?_ q) (λ_ q=>q) λ_ _ q=>q;rcases hc with z | z
  ·rw[z];exact nit b u e
  ·exact nit c _ z
theorem dM.tok(I:dM X pins σ H s)(t:Nat):dM X pins σ H { s with toks:=t }:=I.un (h':=s.heap) (t':=t) Un.refl I.hok
theorem dM.kept{t':Nat}(I:dM X pins σ H s)(k:∀b u,s.heap.get? b=some u->h'.get? b=some u):dM X pins σ H { s with heap:=h',toks:=t' }:=I.un (Un.kept k) (I.hok.kept k)
theorem dM.laid{a:Addr}{o:HO}{t':Nat}(I:dM X pins σ H s)(k:∀b u,s.heap.get? b=some u->h'.get? b=some u)(hp:s.heap.objs.size<=a)(new:lG X.prog X.w (gK H a o) h' a o) :
  dM X pins σ (gK H a o) { s with heap:=h',toks:=t' }:=I.un (Un.laid k hp (I.hok.fresh hp)) (I.hok.laid k hp new)
theorem dM.write{x e:Addr}{o:HO}{t':Nat}(I:dM X pins σ H s)(mu:Mut (H x))(he:e=x\/H e=some (.own x))(k:∀b u,b≠e->s.heap.get? b=some u->h'.get? b=some u)(heo:∃u,h'.get? e=some u)
  (new:lG X.prog X.w (gK H x o) h' x o):dM X pins σ (gK H x o) { s with heap:=h',toks:=t' }:=I.un (Un.write mu he k heo) (I.hok.write mu he k heo new)
theorem dM.pins_of{pins':List (Addr×Obj)}(I:dM X pins σ H s)(h:∀p∈pins',s.heap.get? p.1=some p.2/\H p.1=none/\p.1≠X.env.locals/\p.1∉X.fs/\∀v,p.2.data≠.cell v):dM X pins' σ H s:=
 ⟨I.ok,I.os,I.bare,I.base,I.loc,I.cell,I.free,I.freeC,λp hp=>(dO.mp hp).elim (λz=>I.pin p (uZ _ z)) (h p),I.hok,I.len⟩
theorem AU{N:List Str}(hN:N.Nodup){i j:Nat}{x:Str}(a:N[i]?=some x)(b:N[j]?=some x):i=j:=by
 obtain⟨h1,e1⟩:=aD.mp a;obtain⟨h2,e2⟩:=aD.mp b;exact(UQ hN).mp (e1.trans e2.symm)
theorem CK{M:Model}{A:Around}{E:Value->Shared->Prop}{i:Nat}{x:Str}{v:V}{u:Value}{Q:Unit->Shared->Prop}(I:dM X pins σ H s)(hN:X.N.Nodup)(hi:X.N[i]?=some x)(hx:MH X.env.scope x)(r:iO v u)
  (h:∀s',dM X pins (σ.set i (some v)) H s'->(∃a,fR a s.heap s'.heap/\(a=X.env.locals\/X.env.cells.lookup x=some a))->Q () s') (hf:X.fn x=true\/X.env.scope.names.lookup x=some .local:=by first | exact .inl rfl | exact .inr rfl | assumption):wpAny M A (storeName X.env x u) Q E s:=by
 obtain⟨m,hn,hl⟩:=id I.loc;have hcls:(X.env.scope.kind==.class||(X.env.scope.kind==.module&&X.env.locals != X.env.globals))=false:=by rw[I.ok.kind];rfl
 have hiσ:i<σ.length:=by rw[I.len];exact(aD.mp hi).1
 have cne:=I.cne
 have tracked:∀{a:Addr}{h':Heap},(∃o,s.heap.get? a=some o/\H a=none)->fR a s.heap h'->rV X.prog X.w H h':=λ{a h'} ha hs b ob e=>by
  obtain⟨_,_,hfree⟩:=ha;refine(I.hok b ob e).stay (λc w' hc q=>(hs.2 c ?_).trans q) (λ_ q=>q) λ_ _ q=>q;rintro rfl;rcases hc with rfl | hc
  ·rw[hfree]at e;cases e
  ·rw[hfree]at hc;cases hc
 rcases hx with hk | hk
 ·refine wpAny_storeName_local hk hn (λh' hn' hs=>?_) hcls;obtain⟨oL,_,_,hoL,_⟩:=id hn;refine h _ ⟨I.ok,I.os,I.bare,⟨λb o e n hb hx=>?_,λb o e n hb hx=>?_,I.base.free,λb o e hx=>?_,I.base.tups,I.base.frzs,I.base.tbls⟩,⟨_,hn',λj y v' e1 e2 e3=>?_⟩,λy c e=>?_,I.free,I.freeC,λp hp=>?_,tracked ⟨oL,hoL,I.free⟩ hs,by simpa using I.len⟩ ⟨_,hs,.inl rfl⟩
  ·exact(hs.2 b (bP (cK (bC e) I.ok.above))).trans (I.base.keep b o e n hb hx)
  ·obtain⟨sl,e1⟩:=I.base.slot b o e n hb hx;exact⟨sl,(hs.2 b (bP (cK (bC e) I.ok.above))).trans e1⟩
  ·obtain⟨o',e1⟩:=I.base.there b o e hx;exact⟨o',(hs.2 b (bP (cK (bC e) I.ok.above))).trans e1⟩
  ·by_cases hj:j=i
   ·subst hj;rw[hi]at e1;cases e1;rw[bA hiσ]at e2;cases e2;exact⟨u,r,.inl ⟨hk,by simp⟩⟩
   ·rw[aU (Ne.symm hj)]at e2;obtain⟨u',r',q⟩:=hl j y v' e1 e2 e3;refine⟨u',r',?_⟩;rcases q with⟨k,e⟩ | ⟨k,c,e,z⟩
    ·refine .inl ⟨k,?_⟩;have:y≠x:=λe=>hj (AU hN e1 (e▸hi));simp[this,e]
    ·exact .inr ⟨k,c,e,z.sameBut hs (cne y c e)⟩
  ·obtain⟨w',z⟩:=I.cell y c e;exact⟨w',z.sameBut hs (cne y c e)⟩
  ·obtain⟨e,n,ne,nf,d⟩:=I.pin p hp;exact⟨(hs.2 p.1 ne).trans e,n,ne,nf,d⟩
 ·have hfn:X.fn x=true:=by
   rcases hf with z | z
   ·exact z
   ·rw[z]at hk;cases hk
  obtain⟨c,hc⟩:=I.ok.has x (.inl hk);obtain⟨w',z⟩:=I.cell x c hc;refine wpAny_storeName_cell I.ok.kind hk hc z (λh' hc' hs=>?_);obtain⟨oc,hoc,hocd⟩:=id z;refine h { s with heap:=h' } ⟨I.ok,I.os,I.bare,⟨λb o e n hb hx=>?_,λb o e n hb hx=>?_,I.base.free,λb o e hx=>?_,I.base.tups,I.base.frzs,I.base.tbls⟩,⟨m,hn.sameBut hs (Ne.symm (cne x c hc)),λj y v' e1 e2 e3=>?_⟩,λy c' e=>?_,I.free,I.freeC,λp hp=>?_,tracked ⟨oc,hoc,I.freeC x c hc⟩ hs,by simpa using I.len⟩ ⟨c,hs,.inr hc⟩
  ·exact(hs.2 b (bP (cK (bC e) (I.ok.cab x c hfn hc)))).trans (I.base.keep b o e n hb hx)
  ·obtain⟨sl,e1⟩:=I.base.slot b o e n hb hx;exact⟨sl,(hs.2 b (bP (cK (bC e) (I.ok.cab x c hfn hc)))).trans e1⟩
  ·obtain⟨o',e1⟩:=I.base.there b o e hx;exact⟨o',(hs.2 b (bP (cK (bC e) (I.ok.cab x c hfn hc)))).trans e1⟩
  ·by_cases hj:j=i
   ·subst hj;rw[hi]at e1;cases e1;rw[bA hiσ]at e2;cases e2;exact⟨u,r,.inr ⟨.inl hk,c,hc,hc'⟩⟩
   ·rw[aU (Ne.symm hj)]at e2;obtain⟨u',r',q⟩:=hl j y v' e1 e2 e3;refine⟨u',r',?_⟩;rcases q with q | ⟨k,c',e,z'⟩
    ·exact .inl q
    ·refine .inr ⟨k,c',e,z'.sameBut hs ?_⟩;rintro rfl;exact hj (AU hN e1 (I.ok.inj _ _ _ e hc▸hi))
  ·by_cases hcc:c'=c
   ·subst hcc;exact⟨_,hc'⟩
   ·obtain⟨w2,z2⟩:=I.cell y c' e;exact⟨w2,z2.sameBut hs hcc⟩
  ·obtain⟨e,n,ne,nf,d⟩:=I.pin p hp;refine⟨(hs.2 p.1 ?_).trans e,n,ne,nf,d⟩;intro q;rw[q,hoc]at e;have q':oc=p.2:=Option.some.inj e;exact d w' (by rw[<- q'];exact hocd)
theorem sL{M:Model}{A:Around}{E:Value->Shared->Prop}{i:Nat}{x:Str}{v:V}{u:Value}{Q:Unit->Shared->Prop}(I:dM X pins σ H s)(hN:X.N.Nodup)(hi:X.N[i]?=some x)(hx:MH X.env.scope x)(r:iO v u)
  (h:∀s',dM X pins (σ.set i (some v)) H s'->Q () s') (hf:X.fn x=true\/X.env.scope.names.lookup x=some .local:=by first | exact .inl rfl | exact .inr rfl | assumption):wpAny M A (storeName X.env x u) Q E s:=
 CK I hN hi hx r (λs' I' _=>h s' I') hf
theorem dM.call'{s':Shared}{ch:List Addr}(I:dM X pins σ H s)(ho:s'.os=s.os)(u:Un (pL X.stack) ch H H' s.heap s'.heap)(hok:rV X.prog X.w H' s'.heap)(hg:AllBare s'.gens)
  (hch:∀b∈ch,(b∈X.ex\/X.s₀.heap.objs.size<=b)/\b≠X.env.locals/\(∀x c,X.env.cells.lookup x=some c->c≠b)/\∀p∈X.pn++pins,p.1≠b):dM X pins σ H' s':=by
 obtain⟨h',g',d',t',o'⟩:=s';have e:o'=s.os:=ho;subst e;exact I.call (g':=g') (t':=t') (d':=d') u hok hg hch
end
abbrev XK:=Value->Option Addr->Hp->Prop
abbrev St:=List (Option V)
abbrev VK:=V->Hp->Prop
abbrev TE:=St->Hp->VK->Prop
abbrev TT:=St->Hp->(Bool->Hp->Prop)->Prop
abbrev TA:=St->Hp->(List V->Hp->Prop)->Prop
structure CD where
 nx:St->Hp->Prop
 rt:VK
 bk:St->Hp->Prop:=λ_ _=>False
 ct:St->Hp->Prop:=λ_ _=>False
abbrev TS:=CD->St->Hp->Prop
def EP(X:Cx)(pins:List (Addr×Obj))(σ:St)(Q:VK)(u:Value)(s':Shared):Prop:=∃v H',dM X pins σ H' s'/\iO v u/\Q v H'
def TP(X:Cx)(pins:List (Addr×Obj))(σ:St)(Q:Bool->Hp->Prop)(b:Bool)(s':Shared):Prop:=∃H',dM X pins σ H' s'/\Q b H'
def AP(X:Cx)(pins:List (Addr×Obj))(σ:St)(Q:List V->Hp->Prop)(us:List Value)(s':Shared):Prop:=∃vs H',dM X pins σ H' s'/\gX vs us/\Q vs H'
def SP(X:Cx)(pins:List (Addr×Obj))(D:CD)(f:Flow)(s':Shared):Prop:=
 match f with
 |.next=>∃σ' H',dM X pins σ' H' s'/\D.nx σ' H'
 |.brk=>∃σ' H',dM X pins σ' H' s'/\D.bk σ' H'
 |.cont=>∃σ' H',dM X pins σ' H' s'/\D.ct σ' H'
 |.ret u=>∃v σ' H',dM X pins σ' H' s'/\iO v u/\D.rt v H'
def PE(X:Cx)(e:Expr)(t:TE):Prop:=
 ∀(pins:List (Addr×Obj))(s:Shared)(σ:St)(H:Hp)(Q:VK),dM X pins σ H s->t σ H Q->wpAny (model X.prog X.w) X.A (eval e X.env) (EP X pins σ Q) X.xe s
def PT(X:Cx)(e:Expr)(t:TT):Prop:=
 ∀(pins:List (Addr×Obj))(s:Shared)(σ:St)(H:Hp)(Q:Bool->Hp->Prop),dM X pins σ H s->t σ H Q->wpAny (model X.prog X.w) X.A (isTrue e X.env (eval e X.env)) (TP X pins σ Q) X.xe s
def PW(X:Cx)(e:Expr)(t:TT):Prop:=
 ∀(whole:Sem Value)(pins:List (Addr×Obj))(s:Shared)(σ:St)(H:Hp)(Q:Bool->Hp->Prop),dM X pins σ H s->t σ H Q->wpAny (model X.prog X.w) X.A (isTrue e X.env whole) (TP X pins σ Q) X.xe s
theorem PW.pt{X:Cx}{e:Expr}{t:TT}(h:PW X e t):PT X e t:=h _
def PA(X:Cx)(es:List Expr)(t:TA):Prop:=
 ∀(pos:Pos)(pins:List (Addr×Obj))(s:Shared)(σ:St)(H:Hp)(Q:List V->Hp->Prop),dM X pins σ H s->t σ H Q->wpAny (model X.prog X.w) X.A (spliced (backTo pos (bV es X.env))) (AP X pins σ Q) X.xe s
def PS(X:Cx)(st:Stmt)(t:TS):Prop:=
 ∀(pins:List (Addr×Obj))(s:Shared)(σ:St)(H:Hp)(D:CD),dM X pins σ H s->t D σ H->wpAny (model X.prog X.w) X.A (exec st X.env) (SP X pins D) X.xe s
def zE(X:Cx)(st:List Stmt)(t:TS):Prop:=
 ∀(pins:List (Addr×Obj))(s:Shared)(σ:St)(H:Hp)(D:CD),dM X pins σ H s->t D σ H->wpAny (model X.prog X.w) X.A (execs st X.env) (SP X pins D) X.xe s
theorem kJ{α:Type}{t:Sem α}{Q Q':α->Shared->Prop}{M:Model}{A:Around}{E:Value->Shared->Prop}{s:Shared}(h:wpAny M A t Q E s)(hQ:∀a s,Q a s->Q' a s):wpAny M A t Q' E s:=dW h hQ λ_ _ x=>x
section
variable{X:Cx}
def vY(i:Nat):TE:=λσ H Q=>∃v,σ[i]?=some (some v)/\Q v H
def tC(v:V):TE:=λ_ H Q=>Q v H
theorem Q8{i:Nat}{x:Str}{pos:Pos}(hN:X.N[i]?=some x)(hv:Vis X.env.scope x)(hd:(x==("__debug__":Str))=false:=by decide)(hcd:(x==("__classdict__":Str))=false:=by decide):PE X (.Name x pos) (vY i):=by
 intro pins s σ H Q I h;obtain⟨v,e,h⟩:=h;obtain⟨m,hn,hl⟩:=I.loc;obtain⟨u,r,l⟩:=hl i x v hN e hv;have fin:EP X pins σ Q u s:=⟨v,H,I,r,h⟩;rcases l with⟨hk,hm⟩ | ⟨hk,c,hc,hcell⟩
 ·exact wpAny_Name (wpAny_loadName_local I.ok.kind hk hn hm fin) hd
 ·rcases hk with hk | hk
  ·exact wpAny_Name (wpAny_loadName_cell I.ok.kind hk hc hcell fin) hd
  ·exact wpAny_Name (wpAny_loadName_free I.ok.kind hk hc hcell fin hcd) hd
theorem rG{i j pos}:PE X (.Constant (.int i) j pos) (tC (.int i)):=λ_ _ _ H _ I h=>wpAny_Constant_int ⟨.int i,H,I.tok _,⟨_,rfl⟩,h⟩
theorem aDu{b j pos}:PE X (.Constant (.bool b) j pos) (tC (.bl b)):=λ_ _ _ H _ I h=>Constant_bool ⟨.bl b,H,I,rfl,h⟩
theorem aAo{j pos}:PE X (.Constant .none j pos) (tC .non):=λ_ _ _ H _ I h=>Constant_none ⟨.non,H,I,rfl,h⟩
theorem JD{x j pos}:PE X (.Constant (.str x) j pos) (tC (.str x)):=λ_ _ _ H _ I h=>Calls.Constant_str ⟨.str x,H,I.tok _,⟨_,rfl⟩,h⟩
def Gl(X:Cx)(x:Str):Prop:=X.env.kindOf x=some .globalImplicit
theorem pR{E:Value->Shared->Prop}{pins:List (Addr×Obj)}{s:Shared}{σ:St}{H:Hp}{x:Str}{u:Value}{pos:Pos}{Q:Value->Shared->Prop}(I:dM X pins σ H s)(hg:Gl X x)(hm:X.mg x=some u)(h:Q u s)
  (hd:(x==("__debug__":Str))=false:=by decide):wpAny (model X.prog X.w) X.A (eval (.Name x pos) X.env) Q E s:=
 Calls.Name_function_global I.ok.kind hg (Calls.loadGlobal_global (by rw[I.ok.glob];exact I.mod.glob.keeps I.bk) hm h) hd
theorem tE{E:Value->Shared->Prop}{pins:List (Addr×Obj)}{s:Shared}{σ:St}{H:Hp}{x:Str}{u:Value}{pos:Pos}{Q:Value->Shared->Prop}(I:dM X pins σ H s)(hg:Gl X x)(hm:X.mg x=none)(hv:bootBuiltins x=some u)(h:Q u s)
  (hn:x≠"__name__":=by decide) (hd:(x==("__debug__":Str))=false:=by decide):wpAny (model X.prog X.w) X.A (eval (.Name x pos) X.env) Q E s:=by
 obtain⟨mb,h1,h2⟩:=I.mod.blt;exact Calls.Name_function_global I.ok.kind hg (Calls.loadGlobal_builtin (by rw[I.ok.glob];exact I.mod.glob.keeps I.bk) hm (by rw[I.ok.blt];exact h1.keeps I.bk) ((h2 x hn).trans hv) h) hd
theorem lM{x:Str}{v:V}{u:Value}{pos:Pos}(hg:Gl X x)(hm:X.mg x=some u)(r:iO v u)(hd:(x==("__debug__":Str))=false:=by decide):PE X (.Name x pos) (tC v):=
 λ_ _ _ H _ I h=>pR I hg hm ⟨v,H,I,r,h⟩ hd
theorem LL{x:Str}{v:V}{u:Value}{pos:Pos}(hg:Gl X x)(hm:X.mg x=none)(hv:bootBuiltins x=some u)(r:iO v u)(hn:x≠"__name__":=by decide)(hd:(x==("__debug__":Str))=false:=by decide):PE X (.Name x pos) (tC v):=
 λ_ _ _ H _ I h=>tE I hg hm hv ⟨v,H,I,r,h⟩ hn hd
variable{a b:Expr}{ta tb:TE}{pos:Pos}
def tB(t:TE):TT:=λσ H Q=>t σ H λx H1=>∃c,x=.bl c/\Q c H1
theorem aAk{e:Expr}{t:TE}(h:PE X e t)(he:∀whole,isTrue e X.env whole=(do let v <- whole;standAt e.pos;holding [v] (truthy v)):=by intro _;rfl):PT X e (tB t):=by
 intro pins s σ H Q I hw;refine isTrue_plain (kJ (h pins s σ H _ I hw) λv s1 ⟨x,H1,I1,r1,q1⟩=>?_) (he _);obtain⟨d,rfl,q⟩:=q1;cases r1;exact wpAny_truthy_bool ⟨H1,I1,q⟩
variable{tA tB':TT}{rest:List Expr}
def aGy(t u:TT):TT:=λσ H Q=>t σ H λc H1=>if c=true then u σ H1 Q else Q false H1
def tOr(t u:TT):TT:=λσ H Q=>t σ H λc H1=>if c=true then Q true H1 else u σ H1 Q
def aGv(t:TT):TT:=λσ H Q=>t σ H λc H1=>Q (!c) H1
theorem VL(ha:PT X a tA):PW X (.BoolOp .And [a] pos) tA:=by
 intro wh pins s σ H Q I h;refine isTrue_and (kJ (ha pins s σ H Q I h) λc s1 e=>?_)
 cases c with
 |true=>exact isTrue_and_nil e
 |false=>exact e
theorem aAi(ha:PT X a tA):PW X (.BoolOp .Or [a] pos) tA:=by
 intro wh pins s σ H Q I h;refine isTrue_or (kJ (ha pins s σ H Q I h) λc s1 e=>?_)
 cases c with
 |false=>exact isTrue_or_nil e
 |true=>exact e
theorem aAj(ha:PT X a tA)(hb:PW X (.BoolOp .And (b::rest) pos) tB'):PW X (.BoolOp .And (a::b::rest) pos) (aGy tA tB'):=by
 intro wh pins s σ H Q I h;refine isTrue_and (kJ (ha pins s σ H _ I h) λc s1 ⟨H1,I1,q1⟩=>?_)
 cases c with
 |true=>exact hb wh pins s1 σ H1 Q I1 q1
 |false=>exact⟨H1,I1,q1⟩
theorem aDp(ha:PT X a tA)(hb:PW X (.BoolOp .Or (b::rest) pos) tB'):PW X (.BoolOp .Or (a::b::rest) pos) (tOr tA tB'):=by
 intro wh pins s σ H Q I h;refine isTrue_or (kJ (ha pins s σ H _ I h) λc s1 ⟨H1,I1,q1⟩=>?_)
 cases c with
 |true=>exact⟨H1,I1,q1⟩
 |false=>exact hb wh pins s1 σ H1 Q I1 q1
theorem aAl(ha:PT X a tA):PT X (.UnaryOp .Not a pos) (aGv tA):=by
 intro pins s σ H Q I h;exact isTrue_not (ha pins s σ H (λc H1=>Q (!c) H1) I h)
def tIf(t:TT)(ta tb:TE):TE:=λσ H Q=>t σ H λc H1=>if c=true then ta σ H1 Q else tb σ H1 Q
theorem RB{c:Expr}(hc:PT X c tA)(ha:PE X a ta)(hb:PE X b tb):PE X (.IfExp c a b pos) (tIf tA ta tb):=by
 intro pins s σ H Q I h;refine wpAny_IfExp (kJ (hc pins s σ H _ I h) λd s1 ⟨H1,I1,q1⟩=>?_)
 cases d with
 |true=>exact ha pins s1 σ H1 Q I1 q1
 |false=>exact hb pins s1 σ H1 Q I1 q1
end
end L2
namespace L2
open PySem PySem.Spec PyProof.Rows
def oM(K:aG)(H:Hp)(a:Addr)(xs:List V):Prop:=
 Rd H a (.lst xs) \/
  ∃(o:Obj)(its:Array Value)(n:Nat),K.lookup a=some o/\o.cls=.type "list"/\o.dict=none/\o.data=.seq its n/\its.size<=bU/\gX xs its.toList
def qE(K:aG)(H:Hp)(a:Addr)(xs:List V):Prop:=
 Rd H a (.tup xs) \/
  ∃(o:Obj)(its:Array Value)(n:Nat),K.lookup a=some o/\o.cls=.type "tuple"/\o.dict=none/\o.data=.seq its n/\its.size<=bU/\gX xs its.toList
def aHy:Value->Option V
|.none=>some .non
|.bool b=>some (.bl b)
|.int i _=>some (.int i)
|.str x _=>some (.str x)
|.bytes b _=>some (.byt b)
|.float b _=>some (.flt b)
|.ref a=>some (.ref a)
|.type n=>some (.ty n)
|_=>none
theorem iO.abs{x:V}{u:Value}(r:iO x u):aHy u=some x:=by
 cases x with
 |non=>cases r;rfl
 |bl _=>cases r;rfl
 |int _=>obtain⟨t,rfl⟩:=r;rfl
 |str _=>obtain⟨t,rfl⟩:=r;rfl
 |byt _=>obtain⟨t,rfl⟩:=r;rfl
 |flt _=>obtain⟨t,rfl⟩:=r;rfl
 |ref _=>cases r;rfl
 |ty _=>cases r;rfl
theorem iO.inj{x y:V}{u:Value}(r:iO x u)(q:iO y u):x=y:=Option.some.inj (r.abs.symm.trans q.abs)
theorem gX.inj:∀{xs ys:List V}{us:List Value},gX xs us->gX ys us->xs=ys
|_,_,_,.nil,.nil=>rfl
|_,_,_,.cons r t,.cons r' t'=>by rw[r.inj r',gX.inj t t']
section
variable{X:Cx}{pins:List (Addr×Obj)}{σ:St}{H:Hp}{s:Shared}{a:Addr}{xs ys:List V}
theorem oM.of{K:aG}(h:H a=some (.lst xs)):oM K H a xs:=.inl (.inl h)
theorem qE.of{K:aG}(h:H a=some (.tup xs)):qE K H a xs:=.inl (.inl h)
theorem dM.list(I:dM X pins σ H s)(h:oM X.K H a xs):∃its:List Value,gX xs its/\PlainL s.heap a its.toArray/\xs.length<=bU:=by
 rcases h with h | ⟨o,its,n,hk,hc,hd,hs,hz,r⟩
 ·obtain⟨z,its,n,r,e⟩:=h.ok I.hok;exact⟨its,r,⟨_,n,e,rfl,rfl,rfl⟩,z⟩
 ·refine⟨its.toList,r,⟨o,n,I.kIn a o hk,hc,hd,by simpa using hs⟩,?_⟩;have e:=r.length;simp only[fF]at e;omega
theorem dM.tuple(I:dM X pins σ H s)(h:qE X.K H a xs):∃its:List Value,gX xs its/\IsTup s.heap a its.toArray/\xs.length<=bU:=by
 rcases h with h | ⟨o,its,n,hk,hc,_,hs,hz,r⟩
 ·obtain⟨z,its,r,p⟩:=h.ok I.hok;exact⟨its,r,p.tup,z⟩
 ·refine⟨its.toList,r,⟨o,I.kIn a o hk,hc,n,by simpa using hs⟩,?_⟩;have e:=r.length;simp only[fF]at e;omega
theorem dM.tupleN(I:dM X pins σ H s)(h:qE X.K H a xs):∃o,s.heap.get? a=some o/\o.cls=.type "tuple"/\o.dict=none:=by
 rcases h with h | ⟨o,its,n,hk,hc,hd,_⟩
 ·obtain⟨z,its,r,⟨o,e,c,n,_,d⟩⟩:=h.ok I.hok;exact⟨o,e,c,d⟩
 ·exact⟨o,I.kIn a o hk,hc,hd⟩
theorem dM.list_inj(I:dM X pins σ H s)(h:oM X.K H a xs)(h':oM X.K H a ys):xs=ys:=by
 obtain⟨its,r,⟨o,n,e,_,_,d⟩,_⟩:=I.list h;obtain⟨its',r',⟨o',n',e',_,_,d'⟩,_⟩:=I.list h';rw[e]at e';cases e';rw[d]at d';injection d' with d1 _
 have:its=its':=by simpa using congrArg aCl d1
 subst this;exact r.inj r'
theorem dM.tuple_inj(I:dM X pins σ H s)(h:qE X.K H a xs)(h':qE X.K H a ys):xs=ys:=by
 obtain⟨its,r,⟨o,e,_,n,d⟩,_⟩:=I.tuple h;obtain⟨its',r',⟨o',e',_,n',d'⟩,_⟩:=I.tuple h';rw[e]at e';cases e';rw[d]at d';injection d' with d1 _
 have:its=its':=by simpa using congrArg aCl d1
 subst this;exact r.inj r'
end
abbrev Cx.wish(X:Cx)(E:Value->Shared->Prop):Cx:={ X with xe:=E }
abbrev Cx.nox(X:Cx):Cx:=X.wish λ_ _=>False
theorem Cx.Ok.wish{X:Cx}(ok:X.Ok)(E:Value->Shared->Prop):(X.wish E).Ok:=
 ⟨ok.mod,ok.kind,ok.glob,ok.blt,ok.above,ok.inj,ok.has,ok.cab,ok.hd,ok.frames,ok.stk,ok.exf,ok.bs,ok.bsz,ok.noex,ok.exfs,ok.funs,ok.frf,ok.tab⟩
theorem Cx.Ok.unwish{X:Cx}{E:Value->Shared->Prop}(ok:(X.wish E).Ok):X.Ok:=
 ⟨ok.mod,ok.kind,ok.glob,ok.blt,ok.above,ok.inj,ok.has,ok.cab,ok.hd,ok.frames,ok.stk,ok.exf,ok.bs,ok.bsz,ok.noex,ok.exfs,ok.funs,ok.frf,ok.tab⟩
section
variable{X:Cx}{pins:List (Addr×Obj)}{σ:St}{H:Hp}{s:Shared}{E:Value->Shared->Prop}
theorem dM.wish(I:dM X pins σ H s)(E:Value->Shared->Prop):dM (X.wish E) pins σ H s:=⟨I.ok.wish E,I.os,I.bare,I.base,I.loc,I.cell,I.free,I.freeC,I.pin,I.hok,I.len⟩
theorem dM.unwish(I:dM (X.wish E) pins σ H s):dM X pins σ H s:=⟨I.ok.unwish,I.os,I.bare,I.base,I.loc,I.cell,I.free,I.freeC,I.pin,I.hok,I.len⟩
theorem SP.unwish{D:CD}{f:Flow}{s':Shared}(h:SP (X.wish E) pins D f s'):SP X pins D f s':=by
 cases f with
 |next=>obtain⟨σ',H',I,q⟩:=h;exact⟨σ',H',I.unwish,q⟩
 |brk=>obtain⟨σ',H',I,q⟩:=h;exact⟨σ',H',I.unwish,q⟩
 |cont=>obtain⟨σ',H',I,q⟩:=h;exact⟨σ',H',I.unwish,q⟩
 |ret u=>obtain⟨v,σ',H',I,r,q⟩:=h;exact⟨v,σ',H',I.unwish,r,q⟩
theorem zE.nox{st:List Stmt}{t:TS}(h:zE X.nox st t):zE X st t:=λpins s σ H D I hw=>
 dW (h pins s σ H D (I.wish _) hw) (λ_ _ q=>q.unwish) λ_ _ z=>False.elim z
end
section
variable{X:Cx}{st:Stmt}{rest:List Stmt}{t u:TS}{e:Expr}{te:TE}{pos:Pos}
def aCx:TS:=λD σ H=>D.nx σ H
def aGt(t u:TS):TS:=λD σ H=>t { D with nx:=u D } σ H
theorem VN:zE X [] aCx:=λ_ _ σ H _ I h=>wpAny_execs_nil ⟨σ,H,I,h⟩
theorem QY(h1:PS X st t)(h2:zE X rest u):zE X (st::rest) (aGt t u):=by
 intro pins s σ H D I h;refine wpAny_execs_cons (kJ (h1 pins s σ H { D with nx:=u D } I h) λf s1 q=>?_)
 cases f with
 |next=>
  obtain⟨σ',H',I',q⟩:=q;exact h2 pins s1 σ' H' D I' q
 |ret v=>exact q
 |brk=>exact q
 |cont=>exact q
theorem LH(h1:PS X st t):zE X [st] t:=by
 intro pins s σ H D I h;refine wpAny_execs_cons (kJ (h1 pins s σ H D I h) λf s1 q=>?_)
 cases f with
 |next=>exact wpAny_execs_nil q
 |ret v=>exact q
 |brk=>exact q
 |cont=>exact q
theorem dM.quiet{pins:List (Addr×Obj)}{σ:St}{H:Hp}{s:Shared}(I:dM X pins σ H s):interactive X.env=false:=by simp[interactive,I.ok.kind]
def PZ(te:TE):TS:=λD σ H=>te σ H λ_ H1=>D.nx σ H1
theorem oR(he:PE X e te)(hs:lA e none pos.line X.env=pure false:=by rfl):PS X (.Expr e pos) (PZ te):=by
 intro pins s σ H D I h;exact wpAny_Expr_any (kJ (he pins s σ H _ I h) λv s1 ⟨x,H1,I1,r1,q1⟩=>⟨σ,H1,I1,q1⟩) I.quiet hs
def aGu(te:TE):TS:=λD σ H=>te σ H D.rt
theorem EB(he:PE X e te):PS X (.Return (some e) pos) (aGu te):=by
 intro pins s σ H D I h;exact wpAny_Return_some (kJ (he pins s σ H _ I h) λv s1 ⟨x,H1,I1,r1,q1⟩=>⟨x,σ,H1,I1,r1,q1⟩)
def aGx(c:TT)(t u:TS):TS:=λD σ H=>c σ H λb H1=>if b=true then t D σ H1 else u D σ H1
theorem aDq{c:Expr}{a b:List Stmt}{tc:TT}(hc:PT X c tc)(ha:zE X a t)(hb:zE X b u):PS X (.If c a b pos) (aGx tc t u):=by
 intro pins s σ H D I h;refine wpAny_If (kJ (hc pins s σ H _ I h) λd s1 ⟨H1,I1,q1⟩=>?_)
 cases d with
 |true=>exact ha pins s1 σ H1 D I1 q1
 |false=>exact hb pins s1 σ H1 D I1 q1
end
abbrev TG:=V->St->Hp->(St->Hp->Prop)->Prop
abbrev TGs:=List V->St->Hp->(St->Hp->Prop)->Prop
def PG(X:Cx)(target:Expr)(t:TG):Prop:=
 ∀(pins:List (Addr×Obj))(s:Shared)(σ:St)(H:Hp)(v:V)(u:Value)(Q:St->Hp->Prop),dM X pins σ H s->iO v u->t v σ H Q ->
  wpAny (model X.prog X.w) X.A (assign target X.env u) (λ_ s'=>∃σ' H',dM X pins σ' H' s'/\Q σ' H') X.xe s
def PGs(X:Cx)(ts:List Expr)(t:TGs):Prop:=
 ∀(pins:List (Addr×Obj))(s:Shared)(σ:St)(H:Hp)(vs:List V)(us:List Value)(Q:St->Hp->Prop),dM X pins σ H s->gX vs us->t vs σ H Q ->
  wpAny (model X.prog X.w) X.A (assignInOrder ((assignEach ts X.env).map (·.2)) us) (λ_ s'=>∃σ' H',dM X pins σ' H' s'/\Q σ' H') X.xe s
abbrev aB9:=V->V->V->Hp->(Hp->Prop)->Prop
def aF1(X:Cx)(t:aB9):Prop:=
 ∀(pins:List (Addr×Obj))(s:Shared)(σ:St)(H:Hp)(o i v:V)(ov iv u:Value)(Q:Hp->Prop),dM X pins σ H s->iO o ov->iO i iv->iO v u->t o i v H Q ->
  wpAny (model X.prog X.w) X.A (setItem ov iv u) (λ_ s'=>∃H',dM X pins σ H' s'/\Q H') X.xe s
abbrev TIp:=V->V->Hp->VK->Prop
def PIp(X:Cx)(op:Operator)(t:TIp):Prop:=
 ∀(pins:List (Addr×Obj))(s:Shared)(σ:St)(H:Hp)(x y:V)(v u:Value)(Q:VK),dM X pins σ H s->iO x v->iO y u->t x y H Q ->
  wpAny (model X.prog X.w) X.A (inplaceOp op v u) (EP X pins σ Q) X.xe s
section
variable{X:Cx}{pos:Pos}
def nF(i:Nat):TG:=λv σ H Q=>Q (σ.set i (some v)) H
theorem LK{i:Nat}{x:Str}(hN:X.N.Nodup)(hi:X.N[i]?=some x)(hx:MH X.env.scope x)(hf:X.fn x=true\/X.env.scope.names.lookup x=some .local:=by first | exact .inl rfl | exact .inr rfl | assumption):PG X (.Name x pos) (nF i):=by
 intro pins s σ H v u Q I r h;exact wpAny_assign_Name (sL I hN hi hx r (λs' I'=>⟨_,H,I',h⟩) hf)
def aFh:TGs:=λvs σ H Q=>vs=[]/\Q σ H
def SQ(t:TG)(u:TGs):TGs:=λvs σ H Q=>∃v r,vs=v::r/\t v σ H λσ' H'=>u r σ' H' Q
theorem pP:PGs X [] aFh:=by
 intro pins s σ H vs us Q I r h;obtain⟨e,h⟩:=h;subst e;cases r;exact assignInOrder_nil ⟨σ,H,I,h⟩
theorem iY{e:Expr}{es:List Expr}{t:TG}{u:TGs}(h1:PG X e t)(h2:PGs X es u)
  (hs:(assignEach (e::es) X.env).map (·.2)=assign e X.env::(assignEach es X.env).map (·.2):=by rfl):PGs X (e::es) (SQ t u):=by
 intro pins s σ H vs us Q I r h;obtain⟨v,vr,e1,h⟩:=h;subst e1
 cases r with
 |cons r rr=>
  rw[hs];refine assignInOrder_cons (kJ (h1 pins s σ H _ _ _ I r h) λ_ s1 ⟨σ1,H1,I1,q1⟩=>?_);exact h2 pins s1 σ1 H1 _ _ Q I1 rr q1
def aFg(K:aG)(n:Nat)(t:TGs):TG:=λv σ H Q=>∃a xs,v=.ref a/\qE K H a xs/\xs.length=n/\t xs σ H Q
theorem sX{es:List Expr}{k:Nat}{t:TGs}{n:Nat}(hc:X.calm=true)(h:PGs X es t)
  (hn:(assignEach es X.env).length=n:=by rfl) (hst:(assignEach es X.env).findIdx? (·.1)=none:=by rfl):PG X (.Tuple es k pos) (aFg X.K n t):=by
 intro pins s σ H v u Q I r hw;obtain⟨a,xs,e1,hq,hl,hw⟩:=hw;subst e1;cases r;obtain⟨its,rv,ht,hz⟩:=I.tuple hq;refine assign_Tuple_tuple (I.ok.hd hc) ht (by simp[hn,<- hl,rv.length]) hst λh' hx=>?_;have I1:dM X pins σ H { s with heap:=h' }:=I.kept (t':=s.toks) λb o e=>hx b o (bP (bC e)) e;exact h pins _ σ H xs _ Q I1 (by simpa using rv) hw
def aBh(to ti:TE)(t:aB9):TG:=λv σ H Q=>to σ H λo H1=>ti σ H1 λi H2=>t o i v H2 λH3=>Q σ H3
theorem EG{o i:Expr}{to ti:TE}{t:aB9}(ho:PE X o to)(hi:PE X i ti)(hs:aF1 X t)
  (ha:∀v,assign (.Subscript o i pos) X.env v=(do
   let ov <- holding [v] (eval o X.env)
   let iv <- holding [v,ov] (eval i X.env)
   standAt pos
   holding [v,ov,iv] (setItem ov iv v)
   release [v,ov,iv] []):=by intro _;rfl):PG X (.Subscript o i pos) (aBh to ti t):=by
 intro pins s σ H v u Q I r h;rw[ha];refine aB (wpAny_holding (kJ (ho pins s σ H _ I h) λov s1 ⟨x,H1,I1,r1,q1⟩=>?_));refine aB (wpAny_holding (kJ (hi pins s1 σ H1 _ I1 q1) λiv s2 ⟨y,H2,I2,r2,q2⟩=>?_));refine aB (wpAny_standAt (aB (wpAny_holding (kJ (hs pins s2 σ H2 x y v ov iv u _ I2 r1 r2 r q2) λ_ s3 ⟨H3,I3,q3⟩=>?_))));exact wpAny_release ⟨σ,H3,I3,q3⟩
def vZ(te:TE)(g:TG):TS:=λD σ H=>te σ H λx H1=>g x σ H1 D.nx
theorem EE{tg e:Expr}{te:TE}{g:TG}(he:PE X e te)(hg:PG X tg g)(hs:swapsWithSole [tg] e pos.line X.env=pure false:=by rfl)(hw:swappedStores [tg] e X.env=pure none:=by rfl)
  (h1:(assignEach [tg] X.env).map (·.2)=[assign tg X.env]:=by rfl):PS X (.Assign [tg] e pos) (vZ te g):=by
 intro pins s σ H D I h;refine wpAny_Assign_stores (kJ (he pins s σ H _ I h) λv s1 ⟨x,H1,I1,r1,q1⟩=>?_) hs hw;rw[h1];exact kJ (hg pins s1 σ H1 x v _ I1 r1 q1) λ_ s2 q=>q
theorem vG{i:Nat}{x:Str}{e:Expr}{te:TE}{pos':Pos}(hN:X.N.Nodup)(hi:X.N[i]?=some x)(hx:MH X.env.scope x)(he:PE X e te)(hs:lA e (some (.Name x pos')) pos.line X.env=pure false:=by rfl)(hf:X.fn x=true\/X.env.scope.names.lookup x=some .local:=by first | exact .inl rfl | exact .inr rfl | assumption) :
  PS X (.Assign [.Name x pos'] e pos) (vZ te (nF i)):=by
 intro pins s σ H D I h;refine wpAny_Assign_Name (kJ (he pins s σ H _ I h) λv s1 ⟨y,H1,I1,r1,q1⟩=>?_) hs;exact sL I1 hN hi hx r1 (λs2 I2=>⟨_,H1,I2,q1⟩) hf
def aCz(i:Nat)(te:TE)(ti:TIp):TS:=λD σ H=>∃x,σ[i]?=some (some x)/\te σ H λy H1=>ti x y H1 λz H2=>D.nx (σ.set i (some z)) H2
theorem aAm{i:Nat}{x:Str}{e:Expr}{te:TE}{op:Operator}{ti:TIp}{pos':Pos}(hN:X.N.Nodup)(hi:X.N[i]?=some x)(hx:MH X.env.scope x)(he:PE X e te)(ho:PIp X op ti)(hf:X.fn x=true\/X.env.scope.names.lookup x=some .local:=by first | exact .inl rfl | exact .inr rfl | assumption) :
  PS X (.AugAssign (.Name x pos') op e pos) (aCz i te ti):=by
 intro pins s σ H D I h;obtain⟨v,e1,h⟩:=h;obtain⟨m,hn,hl⟩:=I.loc;have vis:Vis X.env.scope x:=by rcases hx with k | k;exact .inl k;exact .inr (.inl k)
 obtain⟨u,r,l⟩:=hl i x v hi e1 vis;refine wpAny_AugAssign_Name ?_
 have go:wpAny (model X.prog X.w) X.A (eval e X.env) (λw s₂=>wpAny (model X.prog X.w) X.A (inplaceOp op u w) (λr s₃=>wpAny (model X.prog X.w) X.A (storeName X.env x r) (λ_=>SP X pins D .next) X.xe s₃) X.xe s₂) X.xe s:=by
  refine kJ (he pins s σ H _ I h) λw s1 ⟨y,H1,I1,r1,q1⟩=>?_;refine kJ (ho pins s1 σ H1 v y u w _ I1 r r1 q1) λz s2 ⟨zv,H2,I2,r2,q2⟩=>?_;exact sL I2 hN hi hx r2 (λs3 I3=>⟨_,H2,I3,q2⟩) hf
 rcases l with⟨hk,hm⟩ | ⟨hk,c,hc,hcell⟩
 ·exact wpAny_loadName_local I.ok.kind hk hn hm go
 ·rcases hk with hk | hk
  ·exact wpAny_loadName_cell I.ok.kind hk hc hcell go
  ·rcases hx with k | k
   ·have:X.env.scope.names.lookup x=some .free:=hk;rw[k]at this;cases this
   ·have:X.env.scope.names.lookup x=some .free:=hk;rw[k]at this;cases this
def ipI(f:Int->Int->Int):TIp:=λx y H Q=>∃i j,x=.int i/\y=.int j/\Q (.int (f i j)) H
theorem aBc:PIp X .Add (ipI λi j=>i+j):=by
 intro pins s σ H x y v u Q I r1 r2 h;obtain⟨i,j,e1,e2,q⟩:=h;subst e1;subst e2;obtain⟨t,rfl⟩:=r1;obtain⟨t',rfl⟩:=r2;exact iadd_int ⟨.int _,H,I.tok _,⟨_,rfl⟩,q⟩
end
section
variable{X:Cx}{pos:Pos}
def PQ(c:TT)(tb:TS):TS:=λD σ H=>∃W:Nat->St->Hp->Prop,(∃m,W m σ H)/\∀m σ H,W m σ H ->
 c σ H λb H1=>if b=true then∃N:St->Hp->Prop,(∀σ' H',N σ' H'->∃m',m'<m/\W m' σ' H')/\tb { D with nx:=N,ct:=N,bk:=D.nx } σ H1 else D.nx σ H1
theorem QZ{c:Expr}{body:List Stmt}{tc:TT}{tb:TS}(hp:PassesOwn (model X.prog X.w) X.A X.env X.xe)(hc:PT X c tc)(hb:zE X body tb):PS X (.While c body [] pos) (PQ tc tb):=by
 intro pins s σ H D I h;obtain⟨W,⟨m0,w0⟩,turn⟩:=h;refine wpAny_While (codeAny_whileLoop (λn s'=>∃σ' H',dM X pins σ' H' s'/\W n σ' H') ?_ m0 ⟨σ,H,I,w0⟩);rintro n s1 ⟨σ1,H1,I1,w1⟩;refine wpAny_passesOwn hp (kJ (hc pins s1 σ1 H1 _ I1 (turn n σ1 H1 w1)) λb s2 ⟨H2,I2,q2⟩=>?_)
 cases b with
 |true=>
  obtain⟨N,hN,q2⟩:=q2;rw[if_pos rfl];refine wpAny_passesOwn hp (kJ (hb pins s2 σ1 H2 _ I2 q2) λf s3 q3=>?_)
  cases f with
  |next=>
   obtain⟨σ3,H3,I3,n3⟩:=q3;obtain⟨m',hm,w3⟩:=hN σ3 H3 n3;exact⟨m',hm,σ3,H3,I3,w3⟩
  |cont=>
   obtain⟨σ3,H3,I3,n3⟩:=q3;obtain⟨m',hm,w3⟩:=hN σ3 H3 n3;exact⟨m',hm,σ3,H3,I3,w3⟩
  |brk=>exact q3
  |ret v=>exact q3
 |false=>
  rw[if_neg bW];exact wpAny_execs_nil ⟨σ1,H2,I2,q2⟩
end
structure It where
 go:Nat->Hp->Prop
 yld:Nat->Hp->V->Hp->Prop
 stop:Nat->Hp->Prop
def zF(X:Cx)(pins:List (Addr×Obj))(H:Hp)(b:Addr):Prop:=
 H b=none/\b≠X.env.locals/\b∉X.fs/\(b∈X.ex\/X.s₀.heap.objs.size<=b)/\(∀x c,X.env.cells.lookup x=some c->c≠b)/\∀p∈X.pn++pins,p.1≠b
theorem dM.fpOk{X:Cx}{pins:List (Addr×Obj)}{σ:St}{H H':Hp}{s:Shared}{b:Addr}(I:dM X pins σ H s)(hb:s.heap.objs.size<=b)(hn:H' b=none):zF X pins H' b:=by
 refine⟨hn,eZ (cK I.lt hb),I.nofs hb,.inr (cP I.sz hb),λx c e z=>?_,λp hp z=>?_⟩
 ·obtain⟨v,q⟩:=I.cell x c e;exact absurd (cK q.lt (by rw[z];exact hb)) (fX _)
 ·exact absurd (cK (bC (I.pin p hp).1) (by rw[z];exact hb)) (fX _)
structure BS(P:bE)(w:World)(K:aG)(tg:Expr)(J:It)(fp:List Addr)(it:Addr)(tn:Nat->Heap->Prop):Prop where
 mem:it∈fp
 obj:∀i h,tn i h->∀b∈fp,∃o,h.get? b=some o/\∀v,o.data≠.cell v
 keep:∀i h h',tn i h->(∀b∈fp,∀o,h.get? b=some o->h'.get? b=some o)->tn i h'
 item:∀(X:Cx),X.prog=P->X.w=w->X.K=K->X.calm=true->∀(i:Nat)(pins:List (Addr×Obj))(s:Shared)(σ:St)(H:Hp)(E:Value->Shared->Prop),dM X pins σ H s->(∀b∈fp,zF X pins H b)->tn i s.heap->J.go i H ->
  wpAny (model P w) X.A (pyNext (.ref it)) (λr s1=>∃u,r=some u /\
   wpAny (model P w) X.A (letOwnedTupleGo tg (.ref it) u) (λ_ s2=>∃x H',dM X pins σ H' s2/\iO x u/\J.yld i H x H'/\tn (i+1) s2.heap/\∀b∈fp,H' b=none) E s1) E s
 done:∀(X:Cx),X.prog=P->X.w=w->X.K=K->X.calm=true->∀(i:Nat)(pins:List (Addr×Obj))(s:Shared)(σ:St)(H:Hp)(E:Value->Shared->Prop),dM X pins σ H s->(∀b∈fp,zF X pins H b)->tn i s.heap->J.stop i H ->
  wpAny (model P w) X.A (pyNext (.ref it)) (λr s1=>r=none/\dM X pins σ H s1) E s
 self:∀(A:Around)(i:Nat)(s:Shared)(Q:Value->Shared->Prop)(E:Value->Shared->Prop),tn i s.heap->Q (.ref it) s->wpAny (model P w) A (pyIter (.ref it)) Q E s
abbrev TI:=St->Hp->(It->Hp->Prop)->Prop
def PIE(X:Cx)(pins:List (Addr×Obj))(σ:St)(tg:Expr)(R:It->Hp->Prop)(itv:Value)(s2:Shared):Prop:=
 ∃(it:Addr)(fp:List Addr)(tn:Nat->Heap->Prop)(J:It)(H':Hp),itv=.ref it/\dM X pins σ H' s2/\BS X.prog X.w X.K tg J fp it tn/\tn 0 s2.heap/\(∀b∈fp,zF X pins H' b)/\R J H'
def PI(X:Cx)(tg iter:Expr)(wi:TI):Prop:=
 ∀(pins:List (Addr×Obj))(s:Shared)(σ:St)(H:Hp)(R:It->Hp->Prop),dM X pins σ H s->wi σ H R ->
  wpAny (model X.prog X.w) X.A (eval iter X.env) (λv s1=>wpAny (model X.prog X.w) X.A (pyIter v) (PIE X pins σ tg R) X.xe s1) X.xe s
theorem G4{M:Model}{A:Around}{E:Value->Shared->Prop}{s:Shared}{tg:Expr}{it:Addr}{u:Value}{o:Obj}{n:String}{vs:Array Value}{Q:Unit->Shared->Prop}(ho:s.heap.get? it=some o)(hc:o.cls=.type n)(hd:o.data=.fields vs)
  (hn:["enumerate","zip","dict_itemiterator","dict_reverseitemiterator","odict_iterator","itertools.zip_longest","itertools.pairwise"].contains n=false) (hQ:Q () s):wpAny M A (letOwnedTupleGo tg (.ref it) u) Q E s:=by
 unfold letOwnedTupleGo
 cases tg<;>first
  |exact aJ hQ
  | (cases u<;>first
    |exact aJ hQ
    | (refine aB (wpAny_load ho ?_)
       rw[hc,hd];show wpAny M A (if(["enumerate","zip","dict_itemiterator","dict_reverseitemiterator","odict_iterator","itertools.zip_longest","itertools.pairwise"].contains n&&vs[0]?==some (rawInt _))=true then _ else _) Q E s;rw[if_neg (by intro h;rw[hn,Bool.false_and]at h;cases h)];exact aJ hQ))
def Itl(K:aG)(a:Addr):It:=
 ⟨λi H=>∃xs x,oM K H a xs/\xs[i]?=some x,λi H x H'=>H'=H/\∀xs,oM K H a xs->xs[i]?=some x,λi H=>∃xs,oM K H a xs/\xs.length<=i⟩
def Itt(K:aG)(a:Addr):It:=
 ⟨λi H=>∃xs x,qE K H a xs/\xs[i]?=some x,λi H x H'=>H'=H/\∀xs,qE K H a xs->xs[i]?=some x,λi H=>∃xs,qE K H a xs/\xs.length<=i⟩
def Itr(lo:Int)(n:Nat):It:=⟨λi _=>i<n,λi H x H'=>H'=H/\x=.int (lo+i),λi _=>n<=i⟩
theorem MS{P:bE}{w:World}{K:aG}{tg:Expr}(a it:Addr):BS P w K tg (Itl K a) [it] it (λi h=>h.IsListIter it a i) where
 mem:=by simp
 obj:=λi h st b hb=>by
  have e:b=it:=by simpa using hb
  subst e;obtain⟨o,e,c,d⟩:=st;exact⟨o,e,λv z=>by rw[d]at z;cases z⟩
 keep:=λi h h' st k=>st.at λo e=>k it (by simp) o e
 item:=by
  intro X hP hw hK hc i pins s σ H E I hf st hg;subst hP hw hK;obtain⟨xs,x,hq,hx⟩:=hg;obtain⟨its,rv,p,hz⟩:=I.list hq;obtain⟨u,hu,ru⟩:=rv.get hx;obtain⟨f0,f1,f2,f3,f4,f5⟩:=hf it (by simp);refine wpAny_pyNext_list_item st p.isList (x:=u) (by simpa using hu) λh' st' sb=>?_;have I1:dM X pins σ H { s with heap:=h' }:=I.turned (t':=s.toks) (λb o hb e=>(sb.2 b hb).trans e) f0 f1 f3 f4 f5;obtain⟨o,e,c,d⟩:=id st';exact⟨u,rfl,G4 (s:={ s with heap:=h' }) e c d (by decide) ⟨x,H,I1,ru,⟨rfl,λys hy=>by rw[I.list_inj hy hq];exact hx⟩,st',λb hb=>(hf b hb).1⟩⟩
 done:=by
  intro X hP hw hK hc i pins s σ H E I hf st hg;subst hP hw hK;obtain⟨xs,hq,hx⟩:=hg;obtain⟨its,rv,p,hz⟩:=I.list hq;obtain⟨f0,f1,f2,f3,f4,f5⟩:=hf it (by simp);have hl:=rv.length;exact wpAny_pyNext_list_end (I.ok.hd hc) st p.isList (by simp;omega) λh' eb=>⟨rfl,I.turned (t':=s.toks) (λb o hb e=>eb b o hb e) f0 f1 f3 f4 f5⟩
 self:=λ_ _ _ _ _ st h=>wpAny_pyIter_listiter st h
theorem IP{P:bE}{w:World}{K:aG}{tg:Expr}(a it:Addr):BS P w K tg (Itt K a) [it] it (λi h=>h.IsTupleIter it a i) where
 mem:=by simp
 obj:=λi h st b hb=>by
  have e:b=it:=by simpa using hb
  subst e;obtain⟨o,e,c,d⟩:=st;exact⟨o,e,λv z=>by rw[d]at z;cases z⟩
 keep:=λi h h' st k=>st.at λo e=>k it (by simp) o e
 item:=by
  intro X hP hw hK hc i pins s σ H E I hf st hg;subst hP hw hK;obtain⟨xs,x,hq,hx⟩:=hg;obtain⟨its,rv,p,hz⟩:=I.tuple hq;obtain⟨u,hu,ru⟩:=rv.get hx;obtain⟨f0,f1,f2,f3,f4,f5⟩:=hf it (by simp);refine wpAny_pyNext_tuple_item st (show s.heap.IsTuple a its.toArray from p) (x:=u) (by simpa using hu) λh' st' sb=>?_;have I1:dM X pins σ H { s with heap:=h' }:=I.turned (t':=s.toks) (λb o hb e=>(sb.2 b hb).trans e) f0 f1 f3 f4 f5;obtain⟨o,e,c,d⟩:=id st';exact⟨u,rfl,G4 (s:={ s with heap:=h' }) e c d (by decide) ⟨x,H,I1,ru,⟨rfl,λys hy=>by rw[I.tuple_inj hy hq];exact hx⟩,st',λb hb=>(hf b hb).1⟩⟩
 done:=by
  intro X hP hw hK hc i pins s σ H E I hf st hg;subst hP hw hK;obtain⟨xs,hq,hx⟩:=hg;obtain⟨its,rv,p,hz⟩:=I.tuple hq;obtain⟨f0,f1,f2,f3,f4,f5⟩:=hf it (by simp);have hl:=rv.length;exact wpAny_pyNext_tuple_end (I.ok.hd hc) st (show s.heap.IsTuple a its.toArray from p) (by simp;omega) λh' eb=>⟨rfl,I.turned (t':=s.toks) (λb o hb e=>eb b o hb e) f0 f1 f3 f4 f5⟩
 self:=λ_ _ _ _ _ st h=>wpAny_pyIter_tupleiter st h
theorem IQ{P:bE}{w:World}{K:aG}{tg:Expr}(it:Addr)(lo:Int)(n:Nat):BS P w K tg (Itr lo n) [it] it (λi h=>IsRangeIter h it (lo+(i:Nat)*1) ((n:Int)-(i:Nat)) 1) where
 mem:=by simp
 obj:=λi h st b hb=>by
  have e:b=it:=by simpa using hb
  subst e
  exact⟨_,st,λv z=>by
   have z':Data.fields _=Data.cell v:=z;cases z'⟩
 keep:=λi h h' st k=>k it (by simp) _ st
 item:=by
  intro X hP hw hK hc i pins s σ H E I hf st hg;subst hP hw hK;obtain⟨f0,f1,f2,f3,f4,f5⟩:=hf it (by simp);have W:=Walks.range (prog:=X.prog) (w:=X.w) (I.ok.hd hc) it lo 1 n;refine W.item i s _ _ hg st λv h' tk hv st' kk=>?_;obtain⟨t,rfl⟩:=hv;have I1:dM X pins σ H { s with heap:=h',toks:=tk }:=I.turned (λb o hb e=>kk b o (by simpa using hb) e) f0 f1 f3 f4 f5;refine⟨_,rfl,G4 (s:={ s with heap:=h',toks:=tk }) (n:="range_iterator") st' rfl rfl (by decide) ⟨.int (lo+i),H,I1,⟨t,?_⟩,⟨rfl,rfl⟩,st',λb hb=>(hf b hb).1⟩⟩;rw[Int.mul_one]
 done:=by
  intro X hP hw hK hc i pins s σ H E I hf st hg;subst hP hw hK;obtain⟨f0,f1,f2,f3,f4,f5⟩:=hf it (by simp);exact wpAny_pyNext_range_end (I.ok.hd hc) st (by have:n<=i:=hg;omega) λh' eb=>⟨rfl,I.turned (t':=s.toks) (λb o hb e=>eb b o hb e) f0 f1 f3 f4 f5⟩
 self:=λ_ _ _ _ _ st h=>wpAny_pyIter_rangeiter st h
section
variable{X:Cx}{tg:Expr}
theorem QS{pins:List (Addr×Obj)}{σ:St}{H:Hp}{s:Shared}{R:It->Hp->Prop}{E:Value->Shared->Prop}{lo hi:Int}{t u v:Tok}{tk:Nat}(I:dM X pins σ H s)(h1:-(2^62)<=lo)(h2:lo<2^62)(h3:-(2^62)<=hi)(h4:hi<2^62)
  (q:R (Itr lo (hi-lo).toNat) H):wpAny (model X.prog X.w) X.A (pyIter (.ref s.heap.objs.size)) (PIE X pins σ tg R) E { s with heap:=s.heap.push { cls:=.type "range",data:=.fields #[.int lo t,.int hi u,.int 1 v] },toks:=tk }:=by
 refine wpAny_pyIter_range (IsRange.new ..) (small_one h1 h2 h3 h4) ?_;have I1:dM X pins σ H { s with heap:=s.heap.push { cls:=.type "range",data:=.fields #[.int lo t,.int hi u,.int 1 v] },toks:=tk }:=I.kept λb o e=>aI _ e
 refine⟨(s.heap.push { cls:=.type "range",data:=.fields #[.int lo t,.int hi u,.int 1 v] }).objs.size,[(s.heap.push { cls:=.type "range",data:=.fields #[.int lo t,.int hi u,.int 1 v] }).objs.size],_,_,H,rfl,
  I1.kept (t':=tk) λb o e=>aI _ e,IQ _ lo (hi-lo).toNat,?_,λb hb=>?_,q⟩
 ·have e1:lo+((0:Nat):Int)*1=lo:=by simp
  have e2:(((hi-lo).toNat:Nat):Int)-((0:Nat):Int)=Builtin.Range.rangeSize lo hi 1:=by rw[rangeSize_one];split<;>omega
  show IsRangeIter _ _ (lo+((0:Nat):Int)*1) ((((hi-lo).toNat:Nat):Int)-((0:Nat):Int)) 1;rw[e1,e2];exact bB _ rfl
 ·have e:b=(s.heap.push { cls:=.type "range",data:=.fields #[.int lo t,.int hi u,.int 1 v] }).objs.size:=by simpa using hb
  subst e;exact I1.fpOk (aN _) (I1.hok.fresh (aN _))
def Y9(ta:TA):TI:=λσ H R=>ta σ H λvs H1=>∃j:Int,vs=[.int j]/\-(2^62)<=j/\j<2^62/\R (Itr 0 j.toNat) H1
theorem kD{a:Expr}{ta:TA}{p pos:Pos}(hg:Gl X "range")(hm:X.mg "range"=none)(ha:PA X [a] ta)(hs:bV [a] X.env=[(false,eval a X.env)]:=by rfl):PI X tg (.Call (.Name "range" p) [a] [] pos) (Y9 ta):=by
 intro pins s σ H R I h;refine Call_ (tE I hg hm boot_range (PyProof.Rows.callWith_type1 (kJ (ha pos pins s σ H _ I h) λus s1 ⟨vs,H1,I1,r1,q1⟩=>?_) hs rfl));obtain⟨j,e,q1,q2,q⟩:=q1;subst e
 cases r1 with
 |cons r rr=>
  cases rr;obtain⟨t,rfl⟩:=r;exact call_range_1 (QS I1 (by omega) (by omega) q1 q2 (by simpa using q))
def aCy(wi:TI)(g:TG)(tb:TS):TS:=λD σ H=>wi σ H λJ H1=>∃W:Nat->Nat->St->Hp->Prop,(∃m,W 0 m σ H1)/\∀i m σ H,W i m σ H ->
 (J.stop i H/\D.nx σ H)\/(J.go i H/\∃N:St->Hp->Prop,(∀σ' H',N σ' H'->∃m',m'<m/\W (i+1) m' σ' H')/\∀x H',J.yld i H x H'->g x σ H' λσ2 H2=>tb { D with nx:=N,ct:=N,bk:=D.nx } σ2 H2)
def AN(fp:List Addr)(h:Heap):List (Addr×Obj):=fp.filterMap λb=>(h.get? b).map λo=>(b,o)
theorem rK{fp:List Addr}{h:Heap}{b:Addr}{o:Obj}(hb:b∈fp)(e:h.get? b=some o):(b,o)∈AN fp h:=O7.mpr ⟨b,hb,by rw[e];rfl⟩
theorem NK{fp:List Addr}{h:Heap}{p:Addr×Obj}(hp:p∈AN fp h):p.1∈fp/\h.get? p.1=some p.2:=by
 obtain⟨b,hb,e⟩:=O7.mp hp
 cases q:h.get? b with
 |none=>rw[q]at e;cases e
 |some o=>
  rw[q]at e;have e':(b,o)=p:=Option.some.inj e;subst e';exact⟨hb,q⟩
theorem dM.pinned{pins:List (Addr×Obj)}{σ:St}{H:Hp}{s:Shared}{fp:List Addr}(I:dM X pins σ H s)(hf:∀b∈fp,zF X pins H b)(ho:∀b∈fp,∃o,s.heap.get? b=some o/\∀v,o.data≠.cell v):dM X (pins++AN fp s.heap) σ H s:=
 I.pins_of λp hp=>(dO.mp hp).elim (λz=>I.pin p (fE _ z)) λz=>by
  obtain⟨hb,e⟩:=NK z;obtain⟨f0,f1,f2,_⟩:=hf p.1 hb;obtain⟨o,e',d⟩:=ho p.1 hb;rw[e]at e';cases e';exact⟨e,f0,f1,f2,d⟩
theorem dM.unpinned{pins pl:List (Addr×Obj)}{σ:St}{H:Hp}{s:Shared}(I:dM X (pins++pl) σ H s):dM X pins σ H s:=I.pins_of λp hp=>I.pin p (fE _ (uZ _ hp))
theorem Q2{iter:Expr}{body:List Stmt}{wi:TI}{g:TG}{tb:TS}{pos:Pos}(hp:PassesOwn (model X.prog X.w) X.A X.env X.xe)(hc:X.calm=true)(hi:PI X tg iter wi)(hg:PG X tg g)(hb:zE X body tb)
  (hs:∀x,foldedSetIterable iter X.env x=pure x:=by intro _;rfl):PS X (.For tg iter body [] pos) (aCy wi g tb):=by
 intro pins s σ H D I h;refine wpAny_For (kJ (hi pins s σ H _ I h) λv s1 h1=>kJ h1 λitv s2 h2=>?_) hs;obtain⟨it,fp,tn,J,H2,e,I2,T,st2,f2,W,⟨m0,w0⟩,turn⟩:=h2;subst e
 -- what stays true of the iterator's objects through the loop
 have stat:∀{H':Hp},(∀b∈fp,H' b=none)->∀b∈fp,zF X pins H' b:=λhn b hb=>⟨hn b hb,(f2 b hb).2⟩;refine codeAny_forLoop_any (λn s'=>∃i σ' H',dM X pins σ' H' s'/\tn i s'.heap/\(∀b∈fp,H' b=none)/\W i n σ' H') ?_ m0 ⟨0,σ,H2,I2,st2,λb hb=>(f2 b hb).1,w0⟩;rintro n s3 ⟨i,σ3,H3,I3,st3,fr3,w3⟩;rcases turn i n σ3 H3 w3 with⟨stop,qn⟩ | ⟨go,N,hN,step⟩
 ·refine wpAny_passesOwn hp (kJ (T.done X rfl rfl rfl hc i pins s3 σ3 H3 X.xe I3 (stat fr3) st3 stop) λr s4 ⟨hr,I4⟩=>?_);subst hr;exact wpAny_execs_nil ⟨σ3,H3,I4,qn⟩
 ·refine wpAny_passesOwn hp (kJ (T.item X rfl rfl rfl hc i pins s3 σ3 H3 X.xe I3 (stat fr3) st3 go) λr s4 ⟨u,hr,h4⟩=>?_);subst hr;refine wpAny_passesOwn hp (kJ h4 λ_ s5 ⟨x,H5,I5,r5,y5,st5,fr5⟩=>?_);have I5':=I5.pinned (stat fr5) (T.obj _ _ st5);refine wpAny_passesOwn hp (kJ (hg _ s5 σ3 H5 x u _ I5' r5 (step x H5 y5)) λ_ s6 ⟨σ6,H6,I6,q6⟩=>?_);refine wpAny_passesOwn hp (kJ (hb _ s6 σ6 H6 _ I6 q6) λf s7 q7=>?_)
  have again:∀{σ7:St}{H7:Hp},dM X (pins++AN fp s5.heap) σ7 H7 s7->N σ7 H7->∃m,m<n/\∃i σ' H',dM X pins σ' H' s7/\tn i s7.heap/\(∀b∈fp,H' b=none)/\W i m σ' H':=λ{σ7 H7} I7 n7=>by
   obtain⟨m',hm,w7⟩:=hN σ7 H7 n7;refine⟨m',hm,i+1,σ7,H7,I7.unpinned,T.keep _ _ _ st5 λb hb o e=>(I7.pin (b,o) (fE _ (fE _ (rK hb e)))).1,λb hb=>?_,w7⟩;obtain⟨o,e,d⟩:=T.obj _ _ st5 b hb;exact(I7.pin (b,o) (fE _ (fE _ (rK hb e)))).2.1
  cases f with
  |next=>obtain⟨σ7,H7,I7,n7⟩:=q7;exact again I7 n7
  |cont=>obtain⟨σ7,H7,I7,n7⟩:=q7;exact again I7 n7
  |brk=>obtain⟨σ7,H7,I7,q7⟩:=q7;exact⟨σ7,H7,I7.unpinned,q7⟩
  |ret v=>obtain⟨x7,σ7,H7,I7,r7,q7⟩:=q7;exact⟨x7,σ7,H7,I7.unpinned,r7,q7⟩
end
end L2
namespace L2
open PySem PySem.Spec PyProof.Rows
abbrev R2:=V->V->Hp->VK->Prop
def qV(X:Cx)(f:Value->Value->Sem Value)(r:R2):Prop:=
 ∀(pins:List (Addr×Obj))(s:Shared)(σ:St)(H:Hp)(x y:V)(v u:Value)(Q:VK),dM X pins σ H s->iO x v->iO y u->r x y H Q ->
  wpAny (model X.prog X.w) X.A (f v u) (EP X pins σ Q) X.xe s
def UnR(X:Cx)(f:Value->Sem Value)(r:V->Hp->VK->Prop):Prop:=
 ∀(pins:List (Addr×Obj))(s:Shared)(σ:St)(H:Hp)(x:V)(v:Value)(Q:VK),dM X pins σ H s->iO x v->r x H Q ->
  wpAny (model X.prog X.w) X.A (f v) (EP X pins σ Q) X.xe s
def lH(X:Cx)(f:Value)(r:List V->Hp->VK->Prop):Prop:=
 ∀(pins:List (Addr×Obj))(s:Shared)(σ:St)(H:Hp)(xs:List V)(us:List Value)(Q:VK),dM X pins σ H s->gX xs us->r xs H Q ->
  wpAny (model X.prog X.w) X.A (call f us) (EP X pins σ Q) X.xe s
def tOp(r:R2)(ta tb:TE):TE:=λσ H Q=>ta σ H λx H1=>tb σ H1 λy H2=>r x y H2 Q
def tUn(r:V->Hp->VK->Prop)(ta:TE):TE:=λσ H Q=>ta σ H λx H1=>r x H1 Q
def rI(C:Int->Int->Prop)(g:Int->Int->V):R2:=λx y H Q=>∃i j,x=.int i/\y=.int j/\C i j/\Q (g i j) H
def VJ(g:Int->Int->V):R2:=λx y H Q=>∃i j,x=.int i/\y=.int j/\Q (g i j) H
def rU(g:Int->V):V->Hp->VK->Prop:=λx H Q=>∃i,x=.int i/\Q (g i) H
section
variable{X:Cx}{a b:Expr}{ta tb:TE}{pos:Pos}
theorem aB4(ha:PE X a ta)(hb:PE X b tb){pins:List (Addr×Obj)}{s:Shared}{σ:St}{H:Hp}{R:V->V->Hp->Prop}(I:dM X pins σ H s)
  (h:ta σ H λx H1=>tb σ H1 λy H2=>R x y H2) {Q:Value->Shared->Prop} {f:Value->Value->Sem Value}
  (hf:∀v u s2 x y H2,dM X pins σ H2 s2->iO x v->iO y u->R x y H2->wpAny (model X.prog X.w) X.A (f v u) Q X.xe s2) :
  wpAny (model X.prog X.w) X.A (eval a X.env) (λv s₁=>wpAny (model X.prog X.w) X.A (eval b X.env) (λu s₂=>wpAny (model X.prog X.w) X.A (f v u) Q X.xe s₂) X.xe s₁) X.xe s:=by
 refine kJ (ha pins s σ H _ I h) λv s1 ⟨x,H1,I1,r1,q1⟩=>?_;refine kJ (hb pins s1 σ H1 _ I1 q1) λu s2 ⟨y,H2,I2,r2,q2⟩=>?_;exact hf v u s2 x y H2 I2 r1 r2 q2
theorem Y6{op:Operator}{r:R2}(ho:qV X (binaryOp op) r)(ha:PE X a ta)(hb:PE X b tb):PE X (.BinOp a op b pos) (tOp r ta tb):=by
 intro pins s σ H Q I h;exact wpAny_BinOp (aB4 ha hb I h λv u s2 x y H2 I2 rx ry q=>ho pins s2 σ H2 x y v u Q I2 rx ry q)
theorem aDs{op:UnaryOp}{r:V->Hp->VK->Prop}(ho:UnR X (unaryOp op) r)(ha:PE X a ta):PE X (.UnaryOp op a pos) (tUn r ta):=by
 intro pins s σ H Q I h;exact UnaryOp_ (kJ (ha pins s σ H _ I h) λv s1 ⟨x,H1,I1,r1,q1⟩=>ho pins s1 σ H1 x v Q I1 r1 q1)
theorem opI{f:Value->Value->Sem Value}{C:Int->Int->Prop}{g:Int->Int->Int}
  (rule:∀(i j:Int)(t u:Tok)(s:Shared)(Q:Value->Shared->Prop)(E:Value->Shared->Prop),C i j->Q (.int (g i j) s.toks) { s with toks:=s.toks+1 }->wpAny (model X.prog X.w) X.A (f (.int i t) (.int j u)) Q E s) :
  qV X f (rI C λi j=>.int (g i j)):=by
 intro pins s σ H x y v u Q I rx ry h;obtain⟨i,j,rfl,rfl,hc,q⟩:=h;obtain⟨t,rfl⟩:=rx;obtain⟨t',rfl⟩:=ry;exact rule i j t t' s _ _ hc ⟨.int (g i j),H,I.tok _,⟨_,rfl⟩,q⟩
theorem aDz{f:Value->Value->Sem Value}{g:Int->Int->Int}
  (rule:∀(i j:Int)(t u:Tok)(s:Shared)(Q:Value->Shared->Prop)(E:Value->Shared->Prop),Q (.int (g i j) s.toks) { s with toks:=s.toks+1 }->wpAny (model X.prog X.w) X.A (f (.int i t) (.int j u)) Q E s) :
  qV X f (VJ λi j=>.int (g i j)):=by
 intro pins s σ H x y v u Q I rx ry h;obtain⟨i,j,rfl,rfl,q⟩:=h;obtain⟨t,rfl⟩:=rx;obtain⟨t',rfl⟩:=ry;exact rule i j t t' s _ _ ⟨.int (g i j),H,I.tok _,⟨_,rfl⟩,q⟩
theorem aD0{f:Value->Value->Sem Value}{g:Int->Int->Bool}
  (rule:∀(i j:Int)(t u:Tok)(s:Shared)(Q:Value->Shared->Prop)(E:Value->Shared->Prop),Q (.bool (g i j)) s->wpAny (model X.prog X.w) X.A (f (.int i t) (.int j u)) Q E s) :
  qV X f (VJ λi j=>.bl (g i j)):=by
 intro pins s σ H x y v u Q I rx ry h;obtain⟨i,j,rfl,rfl,q⟩:=h;obtain⟨t,rfl⟩:=rx;obtain⟨t',rfl⟩:=ry;exact rule i j t t' s _ _ ⟨.bl (g i j),H,I,rfl,q⟩
def aH9(i j:Int):Prop:=0<j/\j<1073741824
def T8(i j:Int):Prop:=(-(2^64)<i/\i<2^64)\/(-(2^64)<j/\j<2^64)
theorem T8.ok{i j:Int}(h:T8 i j):IntMulOk i j:=by
 rcases h with⟨h1,h2⟩ | ⟨h1,h2⟩
 ·exact .of_left (intBits_le_64 h1 h2)
 ·exact .of_right (intBits_le_64 h1 h2)
theorem aAs:qV X (binaryOp .Add) (VJ λi j=>.int (i+j)):=aDz λ_ _ _ _ _ _ _ q=>add_int q
theorem vK:qV X (binaryOp .Sub) (VJ λi j=>.int (i-j)):=aDz λ_ _ _ _ _ _ _ q=>sub_int q
theorem aAp:qV X (binaryOp .Mult) (rI T8 λi j=>.int (i*j)):=opI λ_ _ _ _ _ _ _ hc q=>mul_int q hc.ok
theorem EH:qV X (binaryOp .FloorDiv) (rI aH9 λi j=>.int (i / j)):=opI λi j _ _ _ _ _ hc q=>by
 have h1:(0:Int)<j:=hc.1;have h2:j<1073741824:=hc.2;exact floordiv_int (by omega) (by rw[Int.fdiv_eq_ediv_of_nonneg i (by omega)];exact q) (.inl (PyProof.noPylong_small (by omega)))
theorem oY:qV X (binaryOp .Mod) (rI (λ_ j=>0<j) λi j=>.int (i%j)):=opI λi j _ _ _ _ _ hc q=>by
 have h1:(0:Int)<j:=hc;exact mod_int' (by omega) (by rw[Int.fmod_eq_emod_of_nonneg i (by omega)];exact q)
theorem unI{f:Value->Sem Value}{g:Int->Int}
  (rule:∀(i:Int)(t:Tok)(s:Shared)(Q:Value->Shared->Prop)(E:Value->Shared->Prop),Q (.int (g i) s.toks) { s with toks:=s.toks+1 }->wpAny (model X.prog X.w) X.A (f (.int i t)) Q E s) :
  UnR X f (rU λi=>.int (g i)):=by
 intro pins s σ H x v Q I rx h;obtain⟨i,rfl,q⟩:=h;obtain⟨t,rfl⟩:=rx;exact rule i t s _ _ ⟨.int (g i),H,I.tok _,⟨_,rfl⟩,q⟩
theorem ZU:UnR X (unaryOp .USub) (rU λi=>.int (-i)):=unI λ_ _ _ _ _ q=>neg_int q
end
def aC3:V->V->Bool
|.non,.non=>true | .non,.int _=>true | .int _,.non=>true | .non,.bl _=>true | .bl _,.non=>true | .non,.str _=>true | .str _,.non=>true
|.int _,.int _=>true | .bl _,.bl _=>true | .str _,.str _=>true | .byt _,.byt _=>true
|.int _,.str _=>true | .str _,.int _=>true | .bl _,.str _=>true | .str _,.bl _=>true
|_,_=>false
def rEq:R2:=λx y H Q=>aC3 x y=true/\Q (.bl (decide (x=y))) H
theorem WZ{i j:Int}:decide (V.int i=V.int j)=(i==j):=by
 rw[eE];simp
theorem aBw{i j:Bool}:decide (V.bl i=V.bl j)=(i==j):=by
 rw[eE];simp
theorem WY{i j:Str}:decide (V.str i=V.str j)=(i==j):=by
 rw[eE];simp
theorem W0{i j:Array UInt8}:decide (V.byt i=V.byt j)=(i.toList==j.toList):=by
 rw[eE];cases i;cases j;simp
section
variable{X:Cx}{a b:Expr}{ta tb:TE}{pos:Pos}
theorem kY{pins:List (Addr×Obj)}{σ:St}{H:Hp}{s:Shared}{Q:VK}{k k':Bool}(I:dM X pins σ H s)(q:Q (.bl k) H)(e:k=k'):EP X pins σ Q (.bool k') s:=by
 subst e;exact⟨.bl k,H,I,rfl,q⟩
theorem nV:qV X (compareOp .Eq) rEq:=by
 intro pins s σ H x y v u Q I rx ry h;obtain⟨hs,q⟩:=h
 cases x with
 |non=>
  cases rx
  cases y with
  |non=>cases ry;exact PySem.EqNone.eq_none_none (kY I q (by simp))
  |bl j=>cases ry;exact PySem.EqNone.eq_none_bool (kY I q (by simp))
  |int j=>obtain⟨t',rfl⟩:=ry;exact PySem.EqNone.eq_none_int (kY I q (by simp))
  |str j=>obtain⟨t',rfl⟩:=ry;exact PySem.EqNone.eq_none_str (kY I q (by simp))
  |_=>exact absurd (show false=true from hs) bW
 |bl i=>
  cases rx
  cases y with
  |non=>cases ry;exact PySem.EqNone.eq_bool_none (kY I q (by simp))
  |bl j=>cases ry;exact eq_bool (kY I q aBw)
  |str j=>obtain⟨t',rfl⟩:=ry;exact PySem.EqMixed.eq_bool_str (kY I q (by simp))
  |_=>exact absurd (show false=true from hs) bW
 |int i=>
  obtain⟨t,rfl⟩:=rx
  cases y with
  |non=>cases ry;exact PySem.EqNone.eq_int_none (kY I q (by simp))
  |int j=>obtain⟨t',rfl⟩:=ry;exact eq_int (kY I q WZ)
  |str j=>obtain⟨t',rfl⟩:=ry;exact PySem.EqMixed.eq_int_str (kY I q (by simp))
  |_=>exact absurd (show false=true from hs) bW
 |str i=>
  obtain⟨t,rfl⟩:=rx
  cases y with
  |non=>cases ry;exact PySem.EqNone.eq_str_none (kY I q (by simp))
  |bl j=>cases ry;exact PySem.EqMixed.eq_str_bool (kY I q (by simp))
  |int j=>obtain⟨t',rfl⟩:=ry;exact PySem.EqMixed.eq_str_int (kY I q (by simp))
  |str j=>obtain⟨t',rfl⟩:=ry;exact eq_str (kY I q WY)
  |_=>exact absurd (show false=true from hs) bW
 |byt i=>
  obtain⟨t,rfl⟩:=rx
  cases y with
  |byt j=>obtain⟨t',rfl⟩:=ry;exact PySem.W.eq_bytes (kY I q W0)
  |_=>exact absurd (show false=true from hs) bW
 |_=>cases y<;>exact absurd (show false=true from hs) bW
theorem aDy:qV X (compareOp .Lt) (VJ λi j=>.bl (decide (i<j))):=aD0 λ_ _ _ _ _ _ _ q=>lt_int q
theorem nU:qV X (compareOp .Gt) (VJ λi j=>.bl (decide (j<i))):=aD0 λ_ _ _ _ _ _ _ q=>gt_int q
theorem NI:qV X (compareOp .In) (λx y H Q=>∃i j,x=.str i/\y=.str j/\Q (.bl (!(Builtin.Str.occurrences j i 0 j.length 1).isEmpty)) H):=by
 intro pins s σ H x y v u Q I rx ry h;obtain⟨i,j,rfl,rfl,q⟩:=h;obtain⟨t,rfl⟩:=rx;obtain⟨t',rfl⟩:=ry;exact in_str (kY I q rfl)
theorem aAq:qV X (compareOp .Is) (λx y H Q=>y=.non/\Q (.bl (decide (x=.non))) H):=by
 intro pins s σ H x y v u Q I rx ry h;obtain⟨rfl,q⟩:=h;cases ry;refine is_none_gen (kY I q ?_)
 cases x<;>first
  | (cases rx;rfl)
  | (obtain⟨t,rfl⟩:=rx;rfl)
theorem VZ:qV X (compareOp .IsNot) (λx y H Q=>y=.non/\Q (.bl (!decide (x=.non))) H):=by
 intro pins s σ H x y v u Q I rx ry h;obtain⟨rfl,q⟩:=h;cases ry;refine isnot_none_gen (kY I q ?_)
 cases x<;>first
  | (cases rx;rfl)
  | (obtain⟨t,rfl⟩:=rx;rfl)
theorem qV.or{f:Value->Value->Sem Value}{r r':R2}(h:qV X f r)(h':qV X f r'):qV X f (λx y H Q=>r x y H Q\/r' x y H Q):=by
 intro pins s σ H x y v u Q I rx ry q;rcases q with q | q
 ·exact h pins s σ H x y v u Q I rx ry q
 ·exact h' pins s σ H x y v u Q I rx ry q
theorem RM(b:Expr){op:CmpOp}(h:op≠.In:=by decide)(h2:op≠.NotIn:=by decide):behindInMarks op b=false:=by
 have e1:(op==CmpOp.In)=false:=by cases op<;>first | rfl | exact absurd rfl h
 have e2:(op==CmpOp.NotIn)=false:=by cases op<;>first | rfl | exact absurd rfl h2
 cases b<;>simp[behindInMarks,e1,e2]
theorem VY{op:CmpOp}{r:R2}(ho:qV X (compareOp op) r)(ha:PE X a ta)(hb:PE X b tb)(hm:behindInMarks op b=false):PE X (.Compare a [op] [b] pos) (tOp r ta tb):=by
 intro pins s σ H Q I h;exact wpAny_Compare1 (aB4 ha hb I h λv u s2 x y H2 I2 rx ry q=>ho pins s2 σ H2 x y v u Q I2 rx ry q) hm
def aCv(t:TE):TT:=λσ H Q=>t σ H λx H'=>∃k,x=.bl k/\Q k H'
theorem VM{op:CmpOp}{r:R2}(ho:qV X (compareOp op) r)(ha:PE X a ta)(hb:PE X b tb)(hm:behindInMarks op b=false):PT X (.Compare a [op] [b] pos) (aCv (tOp r ta tb)):=by
 intro pins s σ H Q I h
 refine wpAny_isTrue_Compare1 (kJ (ha pins s σ H _ I h) λv s1 ⟨x,H1,I1,r1,q1⟩=>kJ (hb pins s1 σ H1 _ I1 q1) λu s2 ⟨y,H2,I2,r2,q2⟩=>
  kJ (ho pins s2 σ H2 x y v u _ I2 r1 r2 q2) λc s3 ⟨z,H3,I3,r3,k,e,q3⟩=>?_) hm
 subst e;cases r3;exact wpAny_truthy_bool ⟨H3,I3,q3⟩
theorem xS:(bU:Nat)<2^63:=by rw[sizeLine_eq];decide
theorem JG:qV X (binaryOp .Add) (λx y H Q=>∃i j,x=.str i/\y=.str j/\i.length+j.length<=bU/\Q (.str (i++j)) H):=by
 intro pins s σ H x y v u Q I rx ry h;obtain⟨i,j,rfl,rfl,hz,q⟩:=h;obtain⟨t,rfl⟩:=rx;obtain⟨t',rfl⟩:=ry;exact add_str (λt' tk=>⟨.str (i++j),H,I.tok _,⟨_,rfl⟩,q⟩) hz
theorem rY{x:V}{us:List Value}(r:gX [x] us):∃u,us=[u]/\iO x u:=by
 cases r with
 |cons r1 r2=>cases r2;exact⟨_,rfl,r1⟩
theorem KP{x y:V}{us:List Value}(r:gX [x,y] us):∃u w',us=[u,w']/\iO x u/\iO y w':=by
 cases r with
 |cons r1 r2=>
  cases r2 with
  |cons r3 r4=>cases r4;exact⟨_,_,rfl,r1,r3⟩
theorem DD(hc:X.calm=true):lH X (.builtin "max") (λxs H Q=>∃i j,xs=[.int i,.int j]/\Q (.int (if j>i then j else i)) H):=by
 intro pins s σ H xs us Q I r h;obtain⟨i,j,rfl,q⟩:=h;obtain⟨u,w',rfl,⟨t,rfl⟩,⟨t',rfl⟩⟩:=KP r;refine max_two_ints (I.ok.hd hc) λh' tk k=>⟨_,H,I.kept k,?_,q⟩;by_cases hj:j>i
 ·rw[if_pos hj,if_pos hj];exact⟨_,rfl⟩
 ·rw[if_neg hj,if_neg hj];exact⟨_,rfl⟩
theorem DB(hc:X.calm=true):lH X (.builtin "min") (λxs H Q=>∃i j,xs=[.int i,.int j]/\Q (.int (if j<i then j else i)) H):=by
 intro pins s σ H xs us Q I r h;obtain⟨i,j,rfl,q⟩:=h;obtain⟨u,w',rfl,⟨t,rfl⟩,⟨t',rfl⟩⟩:=KP r;refine min_two_ints (I.ok.hd hc) λh' tk k=>⟨_,H,I.kept k,?_,q⟩;by_cases hj:j<i
 ·rw[if_pos hj,if_pos hj];exact⟨_,rfl⟩
 ·rw[if_neg hj,if_neg hj];exact⟨_,rfl⟩
theorem yA:lH X (.type "int") (λxs H Q=>(∃i,xs=[.int i]/\Q (.int i) H)\/∃k,xs=[.bl k]/\Q (.int (if k then 1 else 0)) H):=by
 intro pins s σ H xs us Q I r h;rcases h with⟨i,rfl,q⟩ | ⟨k,rfl,q⟩
 ·obtain⟨u,rfl,t,rfl⟩:=rY r;exact call_int_int ⟨.int i,H,I,⟨_,rfl⟩,q⟩
 ·obtain⟨u,rfl,r1⟩:=rY r;cases r1;exact call_int_bool ⟨.int (if k then 1 else 0),H,I.tok _,⟨_,rfl⟩,q⟩
end
theorem NV{h:Heap}{dx:Addr}{mA:Str->Option Value}(n:h.Ns1 dx mA):∃od,h.get? dx=some od/\∀name,mZ name od=some (mA name):=by
 obtain⟨o,es,ep,ho,hd,hk,_,hm⟩:=n;refine⟨o,ho,λname=>?_⟩;have e:=hm name;unfold nsFind findBy at e;rw[<- wX]at e;unfold mZ;rw[hd];dsimp only;split
 ·rename_i y q;rw[q]at e;exact congrArg some e
 ·rename_i q;rw[q]at e
  have a:es.toList.any (·.refKey)=false:=by
   rw[UD];intro y hy;obtain⟨z,t,hkey⟩:=hk y (Array.mem_toList_iff.mp hy);simp[DictEntry.refKey,hkey]
  have a':¬es.toList.any (·.refKey)=true:=by rw[a];exact bW
  rw[if_neg a'];exact congrArg some e
theorem KG.some_of{v:V}{o:Option Value}(r:KG (some v) o):∃u,o=some u/\iO v u:=by
 cases o with
 |none=>exact(show False from r).elim
 |some u=>exact⟨u,rfl,r⟩
theorem N5{v:V}{u:Value}(r:iO v u):OV u=true:=by
 cases v with
 |non=>cases (show u=Value.none from r);rfl
 |bl b=>cases (show u=Value.bool b from r);rfl
 |int i=>obtain⟨t,e⟩:=(show∃t,u=Value.int i t from r);cases e;rfl
 |str x=>obtain⟨t,e⟩:=(show∃t,u=Value.str x t from r);cases e;rfl
 |byt b=>obtain⟨t,e⟩:=(show∃t,u=Value.bytes b t from r);cases e;rfl
 |flt b=>obtain⟨t,e⟩:=(show∃t,u=Value.float b t from r);cases e;rfl
 |ref a=>cases (show u=Value.ref a from r);rfl
 |ty n=>cases (show u=Value.type n from r);rfl
def aCd(K:aG)(C:Addr)(f:Str):Prop:=fD K (.ref C) f=some none
section
variable{s:Shared}{f:Str}{A:Around}{E:Value->Shared->Prop}
theorem W3{prog:bE}{w:World}{env:Env}{e:Expr}{f:Str}{pos:Pos}{s:Shared}{Q:Value->Shared->Prop}(hb:attributeBase e f env (eval e env)=eval e env)
  (h:wpAny (model prog w) A (eval e env) (λo s₁=>wpAny (model prog w) A (getAttr o f true) Q E s₁) E s):wpAny (model prog w) A (eval (.Attribute e f pos) env) Q E s:=
 Attribute_any_ h (by rw[arm_eval_Attribute,hb])
end
end L2
namespace L2
open PySem PySem.Spec PyProof.Rows
structure Room(k:Nat)(A:Around):Prop where
 hd:A.handled=none
 dp:A.depth+3*k+5<recursionLimit
 un:A.units+16*k+200<cLine
 gd:A.guards=some []
theorem Room.mono{j k:Nat}{A:Around}(r:Room k A)(h:j<=k):Room j A:=⟨r.hd,by have:=r.dp;omega,by have:=r.un;omega,r.gd⟩
theorem Room.deeper{k:Nat}{A:Around}(r:Room (k+1) A)(env:Env):Room k (A.deeper env):=
 ⟨r.hd,by have:=r.dp;show A.depth+1+3*k+5<_;omega,by have:=r.un;show A.units+3+16*k+200<_;omega,r.gd⟩
theorem JR{A:Around}{C:Addr}{us:List Value}{kw:List (Str×Value)}:(A.under (.builtin "type.__call__" ⟨.ref C::us,kw⟩)).depth=A.depth+1:=by
 first | rfl | simp[Around.under,Code.weight,Code.isCreation,Code.isGuard,Code.isCaller,Code.frames,Code.isFrame,guardIds]
theorem JQ{A:Around}{C:Addr}{us:List Value}{kw:List (Str×Value)}:(A.under (.builtin "type.__call__" ⟨.ref C::us,kw⟩)).units=A.units+1:=by
 first | rfl | simp[Around.under,Code.cUnits,Code.frames,Code.isFrame]
theorem Room.make{k:Nat}{A:Around}(r:Room (k+1) A)(C:Addr)(us:List Value)(kw:List (Str×Value)):Room k (A.under (.builtin "type.__call__" ⟨.ref C::us,kw⟩)):=
 ⟨r.hd,by have:=r.dp;rw[JR];omega,by have:=r.un;rw[JQ];omega,by first | exact r.gd | (simp[Around.under,Code.isGuard,guardIds];exact r.gd)⟩
theorem Room.depth{k:Nat}{A:Around}(r:Room k A):A.depth<recursionLimit:=by have:=r.dp;omega
def yX:TA:=λ_ H Q=>Q [] H
def pO(ta:TE)(tr:TA):TA:=λσ H Q=>ta σ H λx H1=>tr σ H1 λxs H2=>Q (x::xs) H2
section
variable{X:Cx}{e:Expr}{es:List Expr}{te:TE}{t:TA}{pos:Pos}
theorem mS:PA X [] yX:=λ_ _ _ _ H Q I h=>Calls.spliced_nil ⟨[],H,I,.nil,h⟩
theorem fW(ha:PE X e te)(hr:PA X es t)(hs:bV (e::es) X.env=(false,eval e X.env)::bV es X.env:=by rfl):PA X (e::es) (pO te t):=by
 intro pos pins s σ H Q I h;rw[hs];show wpAny _ _ (spliced ((false,eval e X.env)::backTo pos (bV es X.env))) _ _ s;refine Calls.spliced_cons (kJ (ha pins s σ H _ I h) λu s1 ⟨x,H1,I1,r1,q1⟩=>?_);exact kJ (hr pos pins s1 σ H1 _ I1 q1) λus s2 ⟨xs,H2,I2,r2,q2⟩=>⟨x::xs,H2,I2,.cons r1 r2,q2⟩
def aCu(t:TA):TE:=λσ H Q=>t σ H λxs H1=>xs.length<=bU/\∀p,H1 p=none->Q (.ref p) (gK H1 p (.tup xs))
def aGw(t:TA):TE:=λσ H Q=>t σ H λxs H1=>xs.length<=bU/\∀p,H1 p=none->Q (.ref p) (gK H1 p (.lst xs))
theorem JC{x1}(h:PA X es t):PE X (.Tuple es x1 pos) (aCu t):=by
 intro pins s σ H Q I hq;refine wpAny_Tuple_spliced (kJ (h pos pins s σ H _ I hq) λus s1 ⟨xs,H1,I1,r,z,q⟩=>⟨by rw[<- r.length];exact z,?_⟩);have hf:H1 s1.heap.objs.size=none:=I1.hok.fresh (aN _);refine⟨.ref s1.heap.objs.size,gK H1 s1.heap.objs.size (.tup xs),I1.laid (t':=s1.toks) (λb u e=>aI _ e) (aN _) ?_,rfl,q _ hf⟩;exact⟨z,us,r,⟨_,bB _ rfl,rfl,_,rfl,rfl⟩⟩
theorem JE(h:PA X es t):PE X (.List es pos) (aGw t):=by
 intro pins s σ H Q I hq;refine wpAny_List_spliced (kJ (h pos pins s σ H _ I hq) λus s1 ⟨xs,H1,I1,r,z,q⟩=>⟨by rw[<- r.length];exact z,?_⟩);have hf:H1 s1.heap.objs.size=none:=I1.hok.fresh (aN _);refine⟨.ref s1.heap.objs.size,gK H1 s1.heap.objs.size (.lst xs),I1.laid (t':=s1.toks) (λb u e=>aI _ e) (aN _) ?_,rfl,q _ hf⟩;exact⟨z,us,0,r,bB _ rfl⟩
end
abbrev Sp:=List V->Hp->VK->XK->Prop
abbrev MK:=List Env->Hp->Shared->XK->Value->Shared->Prop
structure KI(P:bE)(w:World)(K:aG)(mg:Str->Option Value)(base:Heap)(A:Around)(outer:List Env)(s:Shared)(H:Hp):Prop where
 frames:A.frames=some outer
 mod:Mod K mg base
 bs:∀b o,base.get? b=some o->s.heap.get? b=some o/\H b=none
 bsz:base.objs.size<=s.heap.objs.size
 funs:s.heap.FunFrames base outer
 frf:∀b∈pL outer,H b=none
 hok:rV P w H s.heap
 bare:AllBare s.gens
 tab:Tb H
def CE(outer:List Env)(P:bE)(w:World)(H:Hp)(s:Shared)(Q:VK)(u:Value)(s':Shared):Prop:=
 ∃v H',s'.os=s.os/\AllBare s'.gens/\Un (pL outer) [] H H' s.heap s'.heap/\rV P w H' s'.heap/\iO v u/\Q v H'
def CR(CX:MK)(outer:List Env)(P:bE)(w:World)(H:Hp)(s:Shared)(Q:VK)(E:XK)(r:Result)(s':Shared):Prop:=
 match r with
 |.ok (.ret u)=>CE outer P w H s Q u s'
 |.ok _=>False
 |.error e=>CX outer H s E e s'
structure bX(P:bE)(w:World)(K:aG)(mg:Str->Option Value)(base:Heap)(CX:MK)(k:Nat)(f:Addr)(fd:eI)(ps:List Str)(sp:Sp):Prop where
 len:∀vs H Q E,sp vs H Q E->vs.length=ps.length
 run:∀(A:Around)(outer:List Env)(s:Shared)(H:Hp)(args:Args)(us:List Value)(vs:List V)(Q:VK)(E:XK),Room k A->KI P w K mg base A outer s H->BindsTo s fd args (ps.zip us)->gX vs us->sp vs H Q E ->
  codeAny (model P w) A (.call (.ref f) args) (CR CX outer P w H s Q E) s
theorem bX.imp{P:bE}{w:World}{K:aG}{mg:Str->Option Value}{base:Heap}{CX:MK}{k:Nat}{f:Addr}{fd:eI}{ps:List Str}{sp sp':Sp}(F:bX P w K mg base CX k f fd ps sp)
  (h:∀vs H Q E,sp' vs H Q E->sp vs H Q E):bX P w K mg base CX k f fd ps sp':=
 ⟨λvs H Q E q=>F.len vs H Q E (h _ _ _ _ q),λA outer s H args us vs Q E hr he hb hv hs=>F.run A outer s H args us vs Q E hr he hb hv (h _ _ _ _ hs)⟩
theorem KI.make{P:bE}{w:World}{K:aG}{mg:Str->Option Value}{base:Heap}{A:Around}{outer:List Env}{s:Shared}{H:Hp}(e:KI P w K mg base A outer s H)(C:Addr)(us:List Value)(kw:List (Str×Value)) :
  KI P w K mg base (A.under (.builtin "type.__call__" ⟨.ref C::us,kw⟩)) outer s H:=⟨by first | exact e.frames | (simpa[Around.under,Code.envs,Code.isFrame,pushEnvs]using e.frames),e.mod,e.bs,e.bsz,e.funs,e.frf,e.hok,e.bare,e.tab⟩
section
variable{X:Cx}{pins:List (Addr×Obj)}{σ:St}{H:Hp}{s s':Shared}
theorem dM.env0(I:dM X pins σ H s):KI X.prog X.w X.K X.mg X.base X.A X.stack s H:=
 ⟨I.ok.frames,I.ok.mod,I.bs,cP I.ok.bsz I.sz,I.stack,I.stkFree,I.hok,I.bare,λP e=>let ⟨ps,h⟩:=I.ok.tab P e;let ⟨m,h'⟩:=I.base.tbls P ps h;⟨_,h'⟩⟩
theorem dM.after{Q:VK}{u:Value}(I:dM X pins σ H s)(h:CE X.stack X.prog X.w H s Q u s'):EP X pins σ Q u s':=by
 obtain⟨v,H',os,bare,un,hok,r,q⟩:=h;obtain⟨hh,g,d,t,os'⟩:=s';obtain rfl:os'=s.os:=os;exact⟨v,H',I.call (h':=hh) (g':=g) (d':=d) (t':=t) (ch:=[]) un hok bare (λb z=>absurd z (by simp)),r,q⟩
end
def KR(sp:Sp)(dvs:List V)(E:XK)(t:TA):TE:=λσ H Q=>t σ H λvs H1=>sp (vs++dvs) H1 Q E
def tU(K:aG)(fd:eI)(ps:List Str)(ds:List Value):Prop:=
 ∀(s:Shared)(us:List Value),K.In s.heap->(us++ds).length=ps.length->BindsTo s fd ⟨us,[]⟩ (ps.zip (us++ds))
theorem tU.all{K:aG}{fd:eI}{ps:List Str}(h:∀us:List Value,us.length=ps.length->bindArgs fd ⟨us,[]⟩=pure (ps.zip us)):tU K fd ps []:=λs us _ hl=>by
 rw[dG]at hl |-
 exact .of_eq (h us hl)
def FE(CX:MK)(X:Cx)(E:XK):Prop:=∀(pins:List (Addr×Obj))(σ:St)(H:Hp)(s:Shared)(e:Value)(s':Shared),dM X pins σ H s->CX X.stack H s E e s'->X.xe e s'
section
variable{X:Cx}{CX:MK}{k:Nat}{f:Addr}{fd:eI}{ps:List Str}{sp:Sp}{dvs:List V}{ds:List Value}{E:XK}{x:Str}{p pos:Pos}{e:Expr}{es:List Expr}{t:TA}
theorem aAg{pins:List (Addr×Obj)}{σ:St}{H:Hp}{s:Shared}{Q:VK}{us:List Value}{vs:List V}(F:bX X.prog X.w X.K X.mg X.base CX k f fd ps sp)(hr:Room k X.A)(hb:tU X.K fd ps ds)(hd:gX dvs ds)(hx:FE CX X E)
  (I:dM X pins σ H s) (r:gX vs us) (h:sp (vs++dvs) H Q E):wpAny (model X.prog X.w) X.A (call (.ref f) us) (EP X pins σ Q) X.xe s:=by
 have r2:gX (vs++dvs) (us++ds):=r.append hd;have hl:(us++ds).length=ps.length:=by rw[<- r2.length];exact F.len _ _ _ _ h
 refine wpAny_call (codeAny_mono (F.run X.A X.stack s H ⟨us,[]⟩ (us++ds) (vs++dvs) Q E hr I.env0 (hb s us I.kIn hl) r2 h) λr s' hq=>?_)
 cases r with
 |error e=>exact hx pins σ H s e s' I hq
 |ok fl=>
  cases fl with
  |ret u=>exact I.after hq
  |next=>exact False.elim hq
  |brk=>exact False.elim hq
  |cont=>exact False.elim hq
theorem rH(F:bX X.prog X.w X.K X.mg X.base CX k f fd ps sp)(hr:Room k X.A)(hg:Gl X x)(hm:X.mg x=some (.ref f))(hk:iU X.K (.ref f)=true)(hb:tU X.K fd ps ds)(hd:gX dvs ds)(hx:FE CX X E)
  (ha:PA X (e::es) t) (hdb:(x==("__debug__":Str))=false:=by decide) (he:bV (e::es) X.env=(false,eval e X.env)::bV es X.env:=by rfl) (hpl:(backTo pos (bV es X.env)).any (·.1)=false:=by rfl) :
  PE X (.Call (.Name x p) (e::es) [] pos) (KR sp dvs E t):=by
 intro pins s σ H Q I h;refine wpAny_Call_Name_kw (pR I hg hm ?_ hdb);refine KL (h₀:=X.base) I.ok.mod.kin hk (kJ (ha pos pins s σ H _ I h) λus s1 ⟨vs,H1,I1,r,q⟩=>⟨I1.kIn,?_⟩) he hpl;exact aAg F hr hb hd hx I1 r q
end
structure cQ(N P:List Str)(sc:Scope):Prop where
 kind:sc.kind=.function
 co:sc.isCoroutine=false
 gen:sc.isGenerator=false
 nd:N.Nodup
 pre:N.take P.length=P
 par:∀x∈P,sc.names.lookup x=some .local\/sc.names.lookup x=some .cell
 nofree:∀y∈sc.names,y.2≠.free
theorem DF{kindOf:Str->Option NameKind}{x:Str}:∀{binds:List (Str×Value)}{m:Str->Option Value},(∀v,(x,v)∉binds)->bindL kindOf binds m x=m x
|[],_,_=>rfl
| (n,v)::r,m,h=>by
 unfold bindL;rw[DF λw hw=>h w (aO _ hw)];split
 ·have:x≠n:=by rintro rfl;exact h v aS
  simp[this]
 ·rfl
theorem DH{kindOf:Str->Option NameKind}{x:Str}:∀{binds:List (Str×Value)}{m:Str->Option Value},(∀v,(x,v)∉binds)->bindC kindOf binds m x=m x
|[],_,_=>rfl
| (n,v)::r,m,h=>by
 unfold bindC;rw[DH λw hw=>h w (aO _ hw)];split
 ·rfl
 ·have:x≠n:=by rintro rfl;exact h v aS
  simp[this]
theorem DG{kindOf:Str->Option NameKind}{x:Str}{v:Value}:∀{P:List Str}{vs:List Value}{i:Nat}{m:Str->Option Value},P.Nodup->P[i]?=some x->vs[i]?=some v->kindOf x=some .local ->
 bindL kindOf (P.zip vs) m x=some v
|[],_,_,_,_,h,_,_=>by simp at h
|_::_,[],_,_,_,_,h,_=>by simp at h
|p::P,w::vs,0,m,nd,h1,h2,hk=>by
 simp at h1 h2;subst h1;subst h2;show bindL kindOf ((p,w)::P.zip vs) m p=_;unfold bindL;rw[DF λv hv=>(jB.mp nd).1 (B2 hv).1,if_pos hk];simp
|p::P,w::vs,i+1,m,nd,h1,h2,hk=>by
 show bindL kindOf ((p,w)::P.zip vs) m x=_;unfold bindL;exact DG (i:=i) (jB.mp nd).2 (by simpa using h1) (by simpa using h2) hk
theorem DI{kindOf:Str->Option NameKind}{x:Str}{v:Value}:∀{P:List Str}{vs:List Value}{i:Nat}{m:Str->Option Value},P.Nodup->P[i]?=some x->vs[i]?=some v->kindOf x≠some .local ->
 bindC kindOf (P.zip vs) m x=some v
|[],_,_,_,_,h,_,_=>by simp at h
|_::_,[],_,_,_,_,h,_=>by simp at h
|p::P,w::vs,0,m,nd,h1,h2,hk=>by
 simp at h1 h2;subst h1;subst h2;show bindC kindOf ((p,w)::P.zip vs) m p=_;unfold bindC;rw[DH λv hv=>(jB.mp nd).1 (B2 hv).1,if_neg hk];simp
|p::P,w::vs,i+1,m,nd,h1,h2,hk=>by
 show bindC kindOf ((p,w)::P.zip vs) m x=_;unfold bindC;exact DI (i:=i) (jB.mp nd).2 (by simpa using h1) (by simpa using h2) hk
def sM(N:List Str)(vs:List V):St:=vs.map some++DS (N.length-vs.length) none
def vL(CX:MK)(P:bE)(w:World)(K:aG)(mg:Str->Option Value)(base:Heap)(N:List Str)(qual:Str)(scope:Scope)(f:Addr)(cd:Value)(A:Around)(outer:List Env)(s:Shared)(H:Hp)(E:XK):Cx where
 prog:=P
 w:=w
 K:=K
 mg:=mg
 base:=base
 A:=A.deeper (envOfC qual scope s.heap.objs.size f cd)
 N:=N
 s₀:=s
 H₀:=H
 env:=envOfC qual scope s.heap.objs.size f cd
 outer:=outer
 stack:=envOfC qual scope s.heap.objs.size f cd::outer
 ex:=[]
 calm:=true
 fn:=λ_=>true
 pn:=[]
 xe:=λe s'=>wpAny (model P w) (A.deeper (envOfC qual scope s.heap.objs.size f cd)) (leaving (envOfC qual scope s.heap.objs.size f cd) e) (λ_ s''=>CX outer H s E e s'') (λe' s''=>CX outer H s E e' s'') s'
theorem HJ{sc:Scope}{n:Nat}{x:Str}(h:sc.names.lookup x=some .cell):∃c,(cellsFrom n sc.names []).lookup x=some c:=by
 have q:=FL sc.names n [] (.inl h);exact Option.isSome_iff_exists.mp q
theorem N1{CX:MK}{P:bE}{w:World}{K:aG}{mg:Str->Option Value}{base:Heap}{N ps:List Str}{qual:Str}{scope:Scope}{f:Addr}{cd:Value}{A:Around}{outer:List Env}{s s1:Shared}{H:Hp}{E:XK}{us:List Value}{vs:List V}
  (S:cQ N ps scope) (hd:A.handled=none) (e0:KI P w K mg base A outer s H) (hl:vs.length=ps.length) (r:gX vs us)
  (x:InCallC s s.heap.objs.size (bindL (envOfC qual scope s.heap.objs.size f cd).kindOf (ps.zip us) λ_=>none) (cellsFrom (s.heap.objs.size+1) scope.names []) (bindC (envOfC qual scope s.heap.objs.size f cd).kindOf (ps.zip us) λ_=>none) s1) :
  dM (vL CX P w K mg base N qual scope f cd A outer s H E) [] (sM N vs) H s1:=by
 have hpl:ps.length<=N.length:=by have:=congrArg kU S.pre;rw[bI]at this;omega
 obtain⟨h1,tk,rfl,hk⟩:=x.done;have noA:∀b:Addr,b∉(vL CX P w K mg base N qual scope f cd A outer s H E).ex:=λb z=>absurd (show b∈([]:List Addr)from z) (by simp)
 refine⟨⟨e0.mod,S.kind,rfl,rfl,aN _,λy z c h1 h2=>?_,λy hy=>?_,λy c _ h=>?_,λ_=>hd,Around.frames_deeper e0.frames,.inr ⟨rfl,rfl⟩,λb z=>absurd z (noA b),e0.bs,e0.bsz,λb _ _=>noA b,λb z=>absurd z (noA b),e0.funs,e0.frf,e0.tab⟩,
  rfl,e0.bare,Un.kept hk,⟨_,x.toInCall.ns,λi y v h1 h2 h3=>?_⟩,λy c h=>⟨_,x.cell y c h⟩,e0.hok.fresh (aN _),λy c h=>?_,λp hp=>absurd (show p∈([]:List (Addr×Obj))from hp) (by simp),e0.hok.kept hk,?_⟩
 ·exact name_of_addr x.apart (PySem.mem_of_lookup h1) (PySem.mem_of_lookup h2)
 ·have hy:scope.names.lookup y=some .cell\/scope.names.lookup y=some .free:=hy;rcases hy with hy | hy
  ·exact HJ hy
  ·exact absurd rfl (S.nofree _ (PySem.mem_of_lookup hy))
 ·exact mB (x.above y c (PySem.mem_of_lookup h))
 ·have hi:i<vs.length:=by
   unfold sM at h2;by_cases hi:i<vs.length
   ·exact hi
   ·rw[dZ (by simpa using hi)]at h2;rw[kK]at h2;split at h2<;>cases h2
  have ha:vs[i]?=some v:=by
   unfold sM at h2;rw[dP (by simpa using hi),aH]at h2
   cases e:vs[i]? with
   |none=>rw[e]at h2;cases h2
   |some a=>rw[e]at h2;cases h2;rfl
  obtain⟨u,hu,rv⟩:=r.get ha
  have hp:ps[i]?=some y:=by
   rw[<- S.pre,List.getElem?_take_of_lt (by omega)];exact h1
  have ndP:ps.Nodup:=by rw[<- S.pre];exact S.nd.sublist (qR _ _)
  refine⟨u,rv,?_⟩;rcases S.par y (aR hp)with k | k
  ·exact .inl ⟨k,DG ndP hp hu k⟩
  ·obtain⟨c,e⟩:=HJ (n:=s.heap.objs.size+1) k;refine .inr ⟨.inl k,c,e,?_⟩;have q:=x.cell y c e;rw[DI ndP hp hu (by show scope.names.lookup y≠_;rw[k];decide)]at q;exact q
 ·exact e0.hok.fresh (mB (x.above y c (PySem.mem_of_lookup h)))
 ·unfold sM;show _=N.length;rw[aZ,aE,List.length_replicate];omega
theorem ZC{CX:MK}{P:bE}{w:World}{K:aG}{mg:Str->Option Value}{base:Heap}{k:Nat}{f:Addr}{name qual:Str}{params:Arguments}{body:List Stmt}{scope:Scope}{dV kV doc pm cdv ct oc:Value}{an od:Option Addr}
  {osl:Array (Option Value)} {N ps:List Str} {sp:Sp} (lk:K.lookup f=some ⟨oc,od,.func (kN name qual params body scope dV kV doc pm an cdv ct),osl⟩) (hcd:nD K cdv qual=true) (S:cQ N ps scope)
  (len:∀vs H Q E,sp vs H Q E->vs.length=ps.length)
  (hbody:∀(A:Around)(outer:List Env)(s:Shared)(H:Hp)(vs:List V)(Q:VK)(E:XK),Room k (A.deeper (envOfC qual scope s.heap.objs.size f cdv))->sp vs H Q E ->
   ∃t,zE (vL CX P w K mg base N qual scope f cdv A outer s H E) body t/\t { nx:=λ_ H'=>Q .non H',rt:=Q } (sM N vs) H) :
  bX P w K mg base CX (k+1) f (kN name qual params body scope dV kV doc pm an cdv ct) ps sp:=by
 refine⟨len,λA outer s H args us vs Q E hr e0 hb r hsp=>?_⟩;have hl:=len _ _ _ _ hsp;have KX:K.In s.heap:=e0.mod.kin.keeps λb o e=>(e0.bs b o e).1;have lim:s.heap.NoLimit:=e0.mod.nolimit.keeps λb o e=>(e0.bs b o e).1
 have hkind:∀y∈ps.zip us,scope.names.lookup y.1=some .local\/(scope.names.lookup y.1=some .cell/\((cellsFrom (s.heap.objs.size+1) scope.names []).lookup y.1).isSome=true):=λ⟨n,v⟩ hy=>by
  rcases S.par n (B2 hy).1 with q | q
  ·exact .inl q
  ·exact .inr ⟨q,FL _ _ _ (.inl q)⟩
 refine codeAny_call_function hr.depth (KX _ _ lk) rfl S.co S.gen rfl (PySem.W.codeRec_of KX hcd) (hb _ _ _ _ ?_);refine wpAny_newFunctionEnv_cells S.kind hkind λenv he s1 x=>?_;subst he;refine⟨lim.keeps x.toInCall.keep,codeAny_func ?_⟩;obtain⟨t,ht,hq⟩:=hbody A outer s H vs Q E (hr.deeper _) hsp;have I:dM (vL CX P w K mg base N qual scope f cdv A outer s H E) [] (sM N vs) H s1:=N1 S hr.hd e0 hl r x;refine dW (ht [] s1 (sM N vs) H _ I hq) (λfl s' hs=>?_) λe s' hs=>hs
 have fin:∀{σ':St}{H':Hp}{v:V}{u:Value},dM (vL CX P w K mg base N qual scope f cdv A outer s H E) [] σ' H' s'->iO v u->Q v H'->CE outer P w H s Q u s':=
  λ{σ' H' v u} J rv q=>⟨v,H',J.os,J.bare,J.base,J.hok,rv,q⟩
 cases fl with
 |ret u=>
  obtain⟨v,σ',H',J,rv,q⟩:=hs;exact fin J rv q
 |next=>
  obtain⟨σ',H',J,q⟩:=hs;exact fin (v:=V.non) (u:=Value.none) J rfl q
 |brk=>
  obtain⟨_,_,_,q⟩:=hs;exact False.elim q
 |cont=>
  obtain⟨_,_,_,q⟩:=hs;exact False.elim q
section
variable{X:Cx}{x:Str}{p pos:Pos}{e:Expr}{es:List Expr}{t:TA}{id T:String}{r:List V->Hp->VK->Prop}
def P0(r:List V->Hp->VK->Prop)(t:TA):TE:=λσ H Q=>t σ H λvs H1=>r vs H1 Q
theorem mR(hc:lH X (.builtin id) r)(hg:Gl X x)(hm:X.mg x=none)(hv:bootBuiltins x=some (.builtin id))(ha:PA X (e::es) t)(hn:x≠"__name__":=by decide)(hdb:(x==("__debug__":Str))=false:=by decide)
  (he:bV (e::es) X.env=(false,eval e X.env)::bV es X.env:=by rfl) (hpl:(backTo pos (bV es X.env)).any (·.1)=false:=by rfl):PE X (.Call (.Name x p) (e::es) [] pos) (P0 r t):=by
 intro pins s σ H Q I h;refine wpAny_Call_Name_kw (tE I hg hm hv ?_ hn hdb);exact PyProof.Rows.callWith_builtin1 (kJ (ha pos pins s σ H _ I h) λus s1 ⟨vs,H1,I1,r1,q1⟩=>hc pins s1 σ H1 vs us Q I1 r1 q1) he hpl
theorem oV(hc:lH X (.type T) r)(hg:Gl X x)(hm:X.mg x=none)(hv:bootBuiltins x=some (.type T))(ha:PA X (e::es) t)(hn:x≠"__name__":=by decide)(hdb:(x==("__debug__":Str))=false:=by decide)
  (he:bV (e::es) X.env=(false,eval e X.env)::bV es X.env:=by rfl) (hpl:(backTo pos (bV es X.env)).any (·.1)=false:=by rfl):PE X (.Call (.Name x p) (e::es) [] pos) (P0 r t):=by
 intro pins s σ H Q I h;refine wpAny_Call_Name_kw (tE I hg hm hv ?_ hn hdb);exact PyProof.Rows.callWith_type1 (kJ (ha pos pins s σ H _ I h) λus s1 ⟨vs,H1,I1,r1,q1⟩=>hc pins s1 σ H1 vs us Q I1 r1 q1) he hpl
end
end L2
namespace HT
open PySem PyProof.Rows
section
variable{prog:bE}{w:World}{A:Around}{E:Value->Shared->Prop}{s:Shared}
theorem cat_tup{t b:Addr}{vs ws:List Value}{Q:Value->Shared->Prop}(ht:IsTup s.heap t vs.toArray)(hb:IsTup s.heap b ws.toArray)(hv:vs≠[])
  (h1:ws=[]->Q (.ref t) s) (h2:ws≠[]->Q (.ref s.heap.objs.size) { s with heap:=s.heap.push { cls:=.type "tuple",data:=.seq (vs++ws).toArray } })
  (hsz:vs.length+ws.length<=bU):wpAny (model prog w) A (binaryOp .Add (.ref t) (.ref b)) Q E s:=by
 obtain⟨⟨cls,dd,data,sl⟩,ho,hc,n,hd⟩:=id ht;obtain⟨⟨cls2,dd2,data2,sl2⟩,ho2,hc2,n2,hd2⟩:=id hb;simp only at hc hd hc2 hd2;subst hc hd hc2 hd2;have e:vs.toArray++ws.toArray=(vs++ws).toArray:=by simp
 by_cases hw:ws=[]
 ·exact concat_meets ⟨_,ho,rfl⟩ ⟨_,ho2,rfl⟩ noFill_tuple_add seq_tuple_add rX qQ (qD _ _)
   (tuple_addW1 t b vs.toArray ws.toArray n n2 dd dd2 sl sl2 (by simpa using hv) (by simp[hw])) ⟨ho,ho2,h1 hw⟩
 ·refine concat_meets ⟨_,ho,rfl⟩ ⟨_,ho2,rfl⟩ noFill_tuple_add seq_tuple_add rX qQ (qD _ _)
   (tuple_addW2 t b vs.toArray ws.toArray n n2 dd dd2 sl sl2 (by simpa using hv) (by simpa using hw) (by rw[bH,bH];exact hsz)) ⟨ho,ho2,?_⟩
  rw[e];exact h2 hw
def sIx(n d:Nat):Option Int->Nat
|none=>d
|some v=>if v<0 then(v+(n:Int)).toNat else min v.toNat n
theorem sIx_none(n d:Nat):sIx n d none=d:=rfl
theorem sIx_nat(n d k:Nat):sIx n d (some (k:Int))=min k n:=by
 show(if(k:Int)<0 then((k:Int)+(n:Int)).toNat else min (k:Int).toNat n)=min k n;rw[if_neg (by omega),iF]
theorem sIx_le(n d:Nat)(hd:d<=n)(o:Option Int):sIx n d o<=n:=by
 cases o with
 |none=>exact hd
 |some v=>
  show(if v<0 then(v+(n:Int)).toNat else min v.toNat n)<=n;by_cases hv:v<0
  ·rw[if_pos hv];omega
  ·rw[if_neg hv];exact Nat.min_le_right _ _
theorem clip_eq(v:Int)(n d:Nat):(if v<0 then max (v+(n:Int)) 0 else min v (n:Int))=((sIx n d (some v):Nat):Int):=by
 show(if v<0 then max (v+(n:Int)) 0 else min v (n:Int))=(((if v<0 then(v+(n:Int)).toNat else min v.toNat n):Nat):Int);by_cases hv:v<0
 ·simp only[if_pos hv];omega
 ·simp only[if_neg hv];omega
theorem KE(lo hi:Option Int)(n:Nat):Builtin.Slice.sliceAdjust lo hi 1 (n:Int)=(((sIx n 0 lo:Nat):Int),((sIx n n hi:Nat):Int)):=by
 have h1:¬((1:Int)<0):=by omega
 unfold Builtin.Slice.sliceAdjust;simp only[h1,if_false];refine Prod.ext ?_ ?_
 ·cases lo with
  |none=>rfl
  |some v=>exact clip_eq v n 0
 ·cases hi with
  |none=>rfl
  |some v=>exact clip_eq v n n
theorem I0(i j:Nat):Builtin.Slice.slicePlaces (i:Int) (j:Int) 1=j-i:=by
 unfold Builtin.Slice.slicePlaces;have h1:(1:Int)>0:=by omega
 simp only[h1,if_true,aF9];split<;>omega
theorem AE{v:Value}{o:Option Int}{Q:Option Int->Shared->Prop}(p:IsPart v o)(h:Q o s):wpAny (model prog w) A (Builtin.Slice.slicePartIndex v) Q E s:=by
 cases p with
 |none=>exact slicePart_none h
 |int i t=>exact slicePart_int h
theorem qG{sl:Addr}{vl vu:Value}{lo hi:Option Int}{n:Nat}{Q:Int×Int×Nat->Shared->Prop}(hs:s.heap.IsSliceOf sl vl vu .none)(pl:IsPart vl lo)(pu:IsPart vu hi)
  (h:Q (((sIx n 0 lo:Nat):Int),1,sIx n n hi-sIx n 0 lo) s):wpAny (model prog w) A (Builtin.Slice.sliceApplied (.ref sl) (pure (n:Int))) Q E s:=by
 obtain⟨os,hos,hcs,hds⟩:=id hs;unfold Builtin.Slice.sliceApplied Builtin.Slice.sliceFields;refine aB (aB (wpAny_field hos hds (x:=vl) rfl (aB (wpAny_field hos hds (x:=vu) rfl (aB (wpAny_field hos hds (x:=.none) rfl (aJ ?_)))))));refine aB (slicePart_none ?_);show wpAny _ _ (if((1:Int)==0)=true then _ else _) _ _ s;rw[if_neg (by decide)];refine aB (AE pl (aB (AE pu (aB (aJ ?_)))));show wpAny _ _ (match Builtin.Slice.sliceAdjust lo hi 1 (n:Int)with | (lo,hi)=>pure (lo,(1:Int),Builtin.Slice.slicePlaces lo hi 1)) _ _ s;rw[KE lo hi n];show wpAny _ _ (pure (((sIx n 0 lo:Nat):Int),(1:Int),Builtin.Slice.slicePlaces ((sIx n 0 lo:Nat):Int) ((sIx n n hi:Nat):Int) 1)) _ _ s;rw[I0];exact aJ h
theorem Q4(xs:Array Value)(i k:Nat):((fN k).filterMap λ(m:Nat)=>xs[((i:Int)+(m:Int)*1).toNat]?).toArray=((xs.toList.drop i).take k).toArray:=by
 have e:(λ(m:Nat)=>xs[((i:Int)+(m:Int)*1).toNat]?)=λm=>xs[i+m]?:=by
  funext m;have:((i:Int)+(m:Int)*1).toNat=i+m:=by omega
  rw[this]
 rw[e];have:=pick_run xs i k;rw[O8]at this;have e2:((λx=>xs[x]?)∘λx=>i+x)=λm=>xs[i+m]?:=rfl;rw[e2]at this;rw[this]
theorem getItem_tuple_cut{t sl:Addr}{items:Array Value}{vl vu:Value}{lo hi:Option Int}{Q:Value->Shared->Prop}(ht:IsTup s.heap t items)(hs:s.heap.IsSliceOf sl vl vu .none)(pl:IsPart vl lo)(pu:IsPart vu hi)
  (hw:¬(sIx items.size 0 lo=0/\sIx items.size items.size hi=items.size))
  (h:Q (.ref s.heap.objs.size) { s with heap:=s.heap.push { cls:=.type "tuple",data:=.seq ((items.toList.drop (sIx items.size 0 lo)).take (sIx items.size items.size hi-sIx items.size 0 lo)).toArray } })
  (hsz:items.size<=bU):wpAny (model prog w) A (getItem (.ref t) (.ref sl)) Q E s:=by
 have htake:sizeOk (.seq ((items.toList.drop (sIx items.size 0 lo)).take (sIx items.size items.size hi-sIx items.size 0 lo)).toArray):=by
  show((items.toList.drop (sIx items.size 0 lo)).take (sIx items.size items.size hi-sIx items.size 0 lo)).toArray.size<=bU;rw[bH,bI,fH,fF];omega
 have hj:sIx items.size items.size hi<=items.size:=sIx_le _ _ (aN _) hi;obtain⟨os,hos,hcs,hds⟩:=id hs;have hTs:s.TypeIs (.ref sl) "slice":=⟨os,hos,hcs⟩;unfold getItem
 try with_reducible refine wpAny_holding ?_
 first | refine aB (aJ ?_) | skip
 refine aB (wpAny_sequenceKey ht.typeIs (by decide) ?_)
 refine aB (wpAny_callSpecial?_slot (name:=Str.ofString "__getitem__") ht.typeIs PyProof.Rows.slot_tuple_getitem
  (eP PyProof.Rows.slot_tuple_getitem ht.typeIs entry_tuple_getitem ?_ (args_tuple_getitem _ _)))
 show wpAny _ _ (Builtin.Tuple.tupleItemsOf (.ref t) >>= _) _ _ s;refine aB (tupleItemsOf_ ht ?_);refine aB (wpAny_typeOf hTs ?_);rw[if_pos (by decide)];refine aB (qG hs pl pu ?_)
 have hno:¬((((sIx items.size 0 lo:Nat):Int)==0&&(1:Int)==1&&(sIx items.size items.size hi-sIx items.size 0 lo)==items.size)=true):=by
  intro q;rw[dA,dA]at q;have q1:((sIx items.size 0 lo:Nat):Int)=0:=eq_of_beq q.1.1;have q2:sIx items.size items.size hi-sIx items.size 0 lo=items.size:=eq_of_beq q.2;exact hw ⟨by omega,by omega⟩
 show wpAny _ _ (if(((sIx items.size 0 lo:Nat):Int)==0&&(1:Int)==1&&(sIx items.size items.size hi-sIx items.size 0 lo)==items.size)=true then _ else _) _ _ s;rw[if_neg hno,Q4]
 first
  |exact aB (m:=Builtin.Tuple.tupleExact _) (eH (aJ ⟨_,rfl,aJ h⟩) htake)
  |exact aB (m:=Builtin.Tuple.tupleExact _) (eH (aB (aJ (aJ ⟨_,rfl,aJ h⟩))) htake)
  |exact aB (aB (m:=Builtin.Tuple.tupleExact _) (eH (aJ (aJ ⟨_,rfl,aJ h⟩)) htake))
  |exact aB (aB (m:=Builtin.Tuple.tupleExact _) (eH (aJ ⟨_,rfl,aJ h⟩) htake))
end
end HT
namespace L2
open PySem PySem.Spec PyProof.Rows
abbrev TO:=St->Hp->(Option Int->Hp->Prop)->Prop
def PO(X:Cx)(e:Option Expr)(t:TO):Prop:=
 ∀(pins:List (Addr×Obj))(s:Shared)(σ:St)(H:Hp)(Q:Option Int->Hp->Prop),dM X pins σ H s->t σ H Q ->
  wpAny (model X.prog X.w) X.A (evalPart e X.env) (λu s'=>∃o H',dM X pins σ H' s'/\IsPart u o/\Q o H') X.xe s
def UU:TO:=λ_ H Q=>Q none H
def aCw(t:TE):TO:=λσ H Q=>t σ H λx H1=>∃i,x=.int i/\Q (some i) H1
section
variable{X:Cx}{e:Expr}{te:TE}{lo hi:Option Expr}{tl th:TO}{pos p2:Pos}
theorem VR:PO X none UU:=by
 intro pins s σ H Q I h;rw[evalPart_none];exact aJ ⟨none,H,I,.none,h⟩
theorem VQ(h:PE X e te):PO X (some e) (aCw te):=by
 intro pins s σ H Q I hw;rw[evalPart_some];refine kJ (h pins s σ H _ I hw) λu s1 ⟨x,H1,I1,r1,q1⟩=>?_;obtain⟨i,rfl,q⟩:=q1;obtain⟨t,rfl⟩:=r1;exact⟨some i,H1,I1,.int i t,q⟩
def T3(X:Cx)(r:V->Option Int->Option Int->Hp->VK->Prop):Prop:=
 ∀(pins:List (Addr×Obj))(s:Shared)(σ:St)(H:Hp)(x:V)(v vl vu:Value)(lo hi:Option Int)(sl:Addr)(Q:VK),dM X pins σ H s->iO x v->s.heap.IsSliceOf sl vl vu .none->IsPart vl lo->IsPart vu hi->r x lo hi H Q ->
  ∃T id,typeLookup (.type T) "__getitem__"=pure (some (.builtin id))/\s.TypeIs v T/\wpAny (model X.prog X.w) X.A (getItem v (.ref sl)) (EP X pins σ Q) X.xe s
theorem T3.or{r r':V->Option Int->Option Int->Hp->VK->Prop}(h:T3 X r)(h':T3 X r'):T3 X (λx lo hi H Q=>r x lo hi H Q\/r' x lo hi H Q):=by
 intro pins s σ H x v vl vu lo hi sl Q I rx hs pl pu q;rcases q with q | q
 ·exact h pins s σ H x v vl vu lo hi sl Q I rx hs pl pu q
 ·exact h' pins s σ H x v vl vu lo hi sl Q I rx hs pl pu q
def tSl(r:V->Option Int->Option Int->Hp->VK->Prop)(te:TE)(tl th:TO):TE:=λσ H Q=>te σ H λx H1=>tl σ H1 λl H2=>th σ H2 λu H3=>r x l u H3 Q
theorem Q9{r:V->Option Int->Option Int->Hp->VK->Prop}(hr:T3 X r)(he:PE X e te)(hl:PO X lo tl)(hu:PO X hi th):PE X (.Subscript e (.Slice lo hi none p2) pos) (tSl r te tl th):=by
 intro pins s σ H Q I h;refine Subscript_ (kJ (he pins s σ H _ I h) λv s1 ⟨x,H1,I1,r1,q1⟩=>?_);refine wpAny_Slice (kJ (hl pins s1 σ H1 _ I1 q1) λvl s2 ⟨l,H2,I2,pl,q2⟩=>kJ (hu pins s2 σ H2 _ I2 q2) λvu s3 ⟨u,H3,I3,pu,q3⟩=>?_);rw[evalPart_none];refine aJ ?_;have I4:dM X pins σ H3 { s3 with heap:=s3.heap.push { cls:=.type "slice",data:=.fields #[vl,vu,.none] } }:=I3.kept (t':=s3.toks) λb ob q=>aI _ q;obtain⟨T,id,hT,ht,hg⟩:=hr pins { s3 with heap:=s3.heap.push { cls:=.type "slice",data:=.fields #[vl,vu,.none] } } σ H3 x v vl vu l u s3.heap.objs.size Q I4 r1 (Heap.IsSliceOf.new ..) pl pu q3;show wpAny (model X.prog X.w) X.A (subscriptTail e (.Slice lo hi none p2) v (.ref s3.heap.objs.size)) (EP X pins σ Q) X.xe { s3 with heap:=s3.heap.push { cls:=.type "slice",data:=.fields #[vl,vu,.none] } };exact tail_any (ops:=[.ref s3.heap.objs.size,v]) ht hT hg (by with_unfolding_all rfl)
def E3(xs:List V)(lo hi:Option Int):List V:=(xs.drop (HT.sIx xs.length 0 lo)).take (HT.sIx xs.length xs.length hi-HT.sIx xs.length 0 lo)
theorem yQ(xs:List V)(lo hi:Option Int):(E3 xs lo hi).length<=xs.length:=by
 unfold E3;rw[bI,fH];omega
def aG2(K:aG):V->Option Int->Option Int->Hp->VK->Prop:=λx lo hi H Q=>∃a xs,x=.ref a/\qE K H a xs /\
 ¬(HT.sIx xs.length 0 lo=0/\HT.sIx xs.length xs.length hi=xs.length)/\∀p,H p=none->Q (.ref p) (gK H p (.tup (E3 xs lo hi)))
theorem Z8:T3 X (aG2 X.K):=by
 intro pins s σ H x v vl vu lo hi sl Q I rx hs pl pu h;obtain⟨a,xs,rfl,hx,hw,q⟩:=h;cases rx;obtain⟨its,r,ht,hz⟩:=I.tuple hx;have hlen:its.toArray.size=xs.length:=by rw[bH];exact r.length.symm
 refine⟨"tuple",_,PyProof.Rows.slot_tuple_getitem.lookup,ht.typeIs,?_⟩;refine HT.getItem_tuple_cut ht hs pl pu (by rw[hlen];exact hw) ?_ (by rw[hlen];exact hz);rw[hlen];refine⟨.ref s.heap.objs.size,_,I.laid (t':=s.toks) (o:=.tup (E3 xs lo hi)) (λb ob q=>aI _ q) (aN _) ?_,rfl,q _ (I.hok.fresh (aN _))⟩;exact⟨cP (yQ xs lo hi) hz,_,(r.drop (HT.sIx xs.length 0 lo)).take (HT.sIx xs.length xs.length hi-HT.sIx xs.length 0 lo),CB.new _ _⟩
def aDo(K:aG):R2:=λx y H Q=>∃a b xs ys,x=.ref a/\y=.ref b/\qE K H a xs/\qE K H b ys/\xs≠[]/\xs.length+ys.length<=bU /\
 (ys=[]->Q (.ref a) H)/\(ys≠[]->∀p,H p=none->Q (.ref p) (gK H p (.tup (xs++ys))))
theorem gX.nil_iff{xs:List V}{us:List Value}(r:gX xs us):us=[]↔xs=[]:=by
 cases r with
 |nil=>simp
 |cons _ _=>simp
theorem V0:qV X (binaryOp .Add) (aDo X.K):=by
 intro pins s σ H x y v u Q I rx ry h;obtain⟨a,b,xs,ys,rfl,rfl,ha,hb,hx,hz,q1,q2⟩:=h;cases rx;cases ry;obtain⟨its,r1,p1,_⟩:=I.tuple ha;obtain⟨its2,r2,p2,_⟩:=I.tuple hb;refine HT.cat_tup p1 p2 (λz=>hx (r1.nil_iff.mp z)) (λz=>⟨.ref a,H,I,rfl,q1 (r2.nil_iff.mp z)⟩) (λz=>?_) (by rw[<- r1.length,<- r2.length];exact hz);refine⟨.ref s.heap.objs.size,_,I.laid (t':=s.toks) (o:=.tup (xs++ys)) (λb ob q=>aI _ q) (aN _) ?_,rfl,q2 (λw=>z (r2.nil_iff.mpr w)) _ (I.hok.fresh (aN _))⟩;exact⟨by rw[aZ];exact hz,_,r1.append r2,CB.new _ _⟩
end
def SE(n:Nat)(i:Int):Option Nat:=if 0<=i then(if i<n then some i.toNat else none)else if -(n:Int)<=i then some (i+n).toNat else none
def atI{α:Type}(xs:List α)(i:Int):Option α:=(SE xs.length i).bind λj=>xs[j]?
theorem LV{n:Nat}{i:Int}{j:Nat}(h:SE n i=some j):seqIndex? i n=some j/\j<n/\-(n:Int)<=i/\i<n:=by
 unfold SE at h;by_cases h0:0<=i
 ·rw[if_pos h0]at h;by_cases h1:i<n
  ·rw[if_pos h1]at h;have e:i.toNat=j:=Option.some.inj h;exact⟨by rw[seqIndex_of h0 h1,e],by omega,by omega,h1⟩
  ·rw[if_neg h1]at h;cases h
 ·rw[if_neg h0]at h;by_cases h1:-(n:Int)<=i
  ·rw[if_pos h1]at h;have e:(i+n).toNat=j:=Option.some.inj h;exact⟨by rw[seqIndex_neg (by omega) h1,e],by omega,h1,by omega⟩
  ·rw[if_neg h1]at h;cases h
theorem FA{α:Type}{xs:List α}{i:Int}{v:α}(h:atI xs i=some v):∃j,seqIndex? i xs.length=some j/\xs[j]?=some v/\j<xs.length/\-(xs.length:Int)<=i/\i<xs.length:=by
 unfold atI at h
 cases e:SE xs.length i with
 |none=>rw[e]at h;cases h
 |some j=>
  rw[e]at h;obtain⟨h1,h2,h3,h4⟩:=LV e;exact⟨j,h1,h,h2,h3,h4⟩
theorem eD{α:Type}{xs:List α}{j:Nat}{v:α}(h:xs[j]?=some v):atI xs (j:Int)=some v:=by
 have hj:j<xs.length:=(aD.mp h).1
 have e:SE xs.length (j:Int)=some j:=by
  unfold SE;rw[if_pos (by omega),if_pos (by omega)];simp
 unfold atI;rw[e];exact h
def FD(b:Expr):Prop:=∀o i,subscripted b false o i=operate [o,i] (getItem o i)
def UK(X:Cx)(r:R2):Prop:=
 ∀(value slice:Expr)(pins:List (Addr×Obj))(s:Shared)(σ:St)(H:Hp)(x y:V)(v u:Value)(Q:VK),dM X pins σ H s->iO x v->iO y u->r x y H Q ->
  subscripted slice false v u=operate [v,u] (getItem v u)->wpAny (model X.prog X.w) X.A (subscriptTail value slice v u) (EP X pins σ Q) X.xe s
def MtR(X:Cx)(id:String)(r:V->List V->Hp->VK->Prop):Prop:=
 ∀(pins:List (Addr×Obj))(s:Shared)(σ:St)(H:Hp)(x:V)(xs:List V)(v:Value)(us:List Value)(Q:VK),dM X pins σ H s->iO x v->gX xs us->r x xs H Q ->
  wpAny (model X.prog X.w) X.A (call (.builtin id) (v::us)) (EP X pins σ Q) X.xe s
section
variable{X:Cx}{a b:Expr}{ta tb:TE}{pos:Pos}
theorem UK.or{r r':R2}(h:UK X r)(h':UK X r'):UK X (λx y H Q=>r x y H Q\/r' x y H Q):=by
 intro value slice pins s σ H x y v u Q I rx ry q hs;rcases q with q | q
 ·exact h value slice pins s σ H x y v u Q I rx ry q hs
 ·exact h' value slice pins s σ H x y v u Q I rx ry q hs
theorem AO{r:R2}(hr:UK X r)(ha:PE X a ta)(hb:PE X b tb)(hs:FD b):PE X (.Subscript a b pos) (tOp r ta tb):=by
 intro pins s σ H Q I h;exact Subscript_ (aB4 ha hb I h λv u s2 x y H2 I2 rx ry q=>hr a b pins s2 σ H2 x y v u Q I2 rx ry q (hs _ _))
def aDl(K:aG):R2:=λx y H Q=>∃p xs i v,x=.ref p/\y=.int i/\oM K H p xs/\atI xs i=some v/\Q v H
def aDj(K:aG):R2:=λx y H Q=>∃p xs i v,x=.ref p/\y=.int i/\qE K H p xs/\atI xs i=some v/\Q v H
def aDk:R2:=λx y H Q=>∃z i c,x=.str z/\y=.int i/\z.length<=bU/\atI z.cps.toList i=some c/\Q (.str ⟨#[c]⟩) H
theorem WD:UK X (aDl X.K):=by
 intro value slice pins s σ H x y v u Q I rx ry h hs;obtain⟨p,xs,i,z,rfl,rfl,hq,he,q⟩:=h;cases rx;obtain⟨t,rfl⟩:=ry;obtain⟨its,r,pl,hz⟩:=I.list hq;obtain⟨j,h1,h2,h3,h4,h5⟩:=FA he;obtain⟨w,ew,rw'⟩:=r.get h2;have hl:=r.length;have hn:=xS;have fin:EP X pins σ Q w s:=⟨z,H,I,rw',q⟩;by_cases h0:0<=i
 ·have hj:i.toNat=j:=by
   rw[seqIndex_of h0 h5]at h1;exact Option.some.inj h1
  exact item_listR pl.isList h0 (by omega) (by rw[hj];simpa using ew) fin hs
 ·have hj:(i+(its.toArray.size:Int)).toNat=j:=by
   rw[seqIndex_neg (by omega) h4]at h1;rw[bH,<- hl];exact Option.some.inj h1
  exact subscriptTail_builtinR (x:=w) pl.isList.typeIs slot_list_getitem.lookup
   (wpAny_getItem_list_neg (Q:=λr s'=>r=w/\EP X pins σ Q r s') pl.isList (by omega) (by rw[bH]<;>omega) (by omega) (by rw[hj];simpa using ew) ⟨rfl,fin⟩) hs
theorem aA8:UK X (aDj X.K):=by
 intro value slice pins s σ H x y v u Q I rx ry h hs;obtain⟨p,xs,i,z,rfl,rfl,hq,he,q⟩:=h;cases rx;obtain⟨t,rfl⟩:=ry;obtain⟨its,r,pl,hz⟩:=I.tuple hq;obtain⟨j,h1,h2,h3,h4,h5⟩:=FA he;obtain⟨w,ew,rw'⟩:=r.get h2;have hl:=r.length;have hn:=xS;have fin:EP X pins σ Q w s:=⟨z,H,I,rw',q⟩
 exact subscriptTail_builtinR (x:=w) pl.typeIs slot_tuple_getitem.lookup
  (getItem_tuple (j:=j) (Q:=λr s'=>r=w/\EP X pins σ Q r s') pl (by omega) (by omega) (by rw[bH,<- hl];exact h1) (by simpa using ew) ⟨rfl,fin⟩) hs
theorem aA9:UK X aDk:=by
 intro value slice pins s σ H x y v u Q I rx ry h hs;obtain⟨z,i,c,rfl,rfl,hz,he,q⟩:=h;obtain⟨t,rfl⟩:=rx;obtain⟨t',rfl⟩:=ry;obtain⟨j,h1,h2,h3,h4,h5⟩:=FA he;have hl:z.cps.toList.length=z.length:=by simp[Str.length]
 rw[hl]at h1 h4 h5;have hn:=xS
 exact tail_any (typeIs_str s z t) slot_str_getitem.lookup (getItem_str (c:=c) (by
  have e1:decide (i < -(2^63:Int))=false:=decide_eq_false (by omega);have e2:decide (i>=2^63)=false:=decide_eq_false (by omega);rw[e1,e2,qY]) (by rw[h1];simpa using h2) ⟨.str ⟨#[c]⟩,H,I.tok _,⟨_,rfl⟩,q⟩) hs
def rIx(K:aG):R2:=λx y H Q=>aDl K x y H Q\/aDj K x y H Q\/aDk x y H Q
theorem bR:UK X (rIx X.K):=WD.or (aA8.or aA9)
theorem JO(its:List Value)(n j:Nat)(u:Value):Obj.mapSeq (·.setIfInBounds j u) { cls:=.type "list",data:=.seq its.toArray n }={ cls:=.type "list",data:=.seq (its.set j u).toArray n }:=by
 simp[Obj.mapSeq]
theorem dM.lst{pins:List (Addr×Obj)}{σ:St}{H:Hp}{s:Shared}{p:Addr}{xs:List V}(I:dM X pins σ H s)(h:H p=some (.lst xs)) :
  ∃(its:List Value)(n:Nat),gX xs its/\s.heap.get? p=some { cls:=.type "list",data:=.seq its.toArray n }/\xs.length<=bU:=by
 obtain⟨z,its,n,r,e⟩:=I.hok p _ h;exact⟨its,n,r,e,z⟩
theorem dM.lstUpd{pins:List (Addr×Obj)}{σ:St}{H:Hp}{s:Shared}{p:Addr}{xs ys:List V}{its its':List Value}{n n':Nat}{f:Obj->Obj}(I:dM X pins σ H s)(h:H p=some (.lst xs))
  (ho:s.heap.get? p=some { cls:=.type "list",data:=.seq its.toArray n }) (hf:f { cls:=.type "list",data:=.seq its.toArray n }={ cls:=.type "list",data:=.seq its'.toArray n' }) (r:gX ys its') (hz:ys.length<=bU) (t:Nat) :
  dM X pins σ (gK H p (.lst ys)) { s with heap:=s.heap.update p f,toks:=t }:=by
 have e:(s.heap.update p f).get? p=some { cls:=.type "list",data:=.seq its'.toArray n' }:=by
  rw[dR f ho (by rw[hf]<;>rfl),hf]
 refine I.write (x:=p) (e:=p) (by rw[h];trivial) (.inl rfl) (λb u hb q=>(cZ _ _ (Ne.symm hb)).trans q) ⟨_,e⟩ ?_;exact⟨hz,its',n',r,e⟩
def QU:V->V->V->Hp->(Hp->Prop)->Prop:=λo i v H Q=>∃p xs k j,o=.ref p/\i=.int k/\H p=some (.lst xs)/\SE xs.length k=some j/\Q (gK H p (.lst (xs.set j v)))
theorem wE:aF1 X QU:=by
 intro pins s σ H o i v ov iv u Q I ro ri rv h;obtain⟨p,xs,k,j,rfl,rfl,hp,hj,q⟩:=h;cases ro;obtain⟨t,rfl⟩:=ri;obtain⟨its,n,r,ho,hz⟩:=I.lst hp;obtain⟨h1,h2,h3,h4⟩:=LV hj;have hl:=r.length;have hn:=xS
 have I':dM X pins σ (gK H p (.lst (xs.set j v))) { s with heap:=s.heap.update p (Obj.mapSeq (·.setIfInBounds j u)) }:=
  I.lstUpd hp ho (JO its n j u) (r.set rv j) (by rw[XC];exact hz) s.toks
 by_cases h0:0<=k
 ·have hk:k.toNat=j:=by
   rw[seqIndex_of h0 h4]at h1;exact Option.some.inj h1
  exact PySem.W.ki_setAt ho h0 (by omega) (by rw[bH,<- hl];exact h4) (by rw[hk];exact⟨_,I',q⟩)
 ·have hk:(k+(its.toArray.size:Int)).toNat=j:=by
   rw[seqIndex_neg (by omega) h3]at h1;rw[bH,<- hl];exact Option.some.inj h1
  exact PySem.W.ki_setBack ho (by omega) (by rw[bH,<- hl];exact h3) (by omega) (by rw[hk];exact⟨_,I',q⟩)
theorem D4(lo hi:Option Int)(n:Nat):(sliceBounds lo hi none n).1=((HT.sIx n 0 lo:Nat):Int)/\(sliceBounds lo hi none n).2.1=((HT.sIx n n hi:Nat):Int)/\(sliceBounds lo hi none n).2.2=1:=by
 refine⟨?_,?_,rfl⟩
 ·cases lo with
  |none=>simp[sliceBounds,HT.sIx]
  |some i=>
   simp only[sliceBounds,HT.sIx,O4,show(1:Int)>0 by decide,if_true];by_cases h:i<0
   ·simp only[h,if_true]<;>omega
   ·simp only[h,if_false]<;>omega
 ·cases hi with
  |none=>simp[sliceBounds,HT.sIx]
  |some i=>
   simp only[sliceBounds,HT.sIx,O4,show(1:Int)>0 by decide,if_true];by_cases h:i<0
   ·simp only[h,if_true]<;>omega
   ·simp only[h,if_false]<;>omega
theorem B4(its:List Value)(lo hi:Option Int):slicePick its.toArray lo hi none=((its.drop (HT.sIx its.length 0 lo)).take (HT.sIx its.length its.length hi-HT.sIx its.length 0 lo)).toArray:=by
 obtain⟨h1,h2,h3⟩:=D4 lo hi its.toArray.size;unfold slicePick;rw[h1,h2,h3];simp only[sliceRange_one,pick_run,bH]<;>rfl
def aDi(K:aG):V->Option Int->Option Int->Hp->VK->Prop:=λx lo hi H Q=>∃a xs,x=.ref a/\oM K H a xs/\∀p,H p=none->Q (.ref p) (gK H p (.lst (E3 xs lo hi)))
theorem U9:T3 X (aDi X.K):=by
 intro pins s σ H x v vl vu lo hi sl Q I rx hs pl pu h;obtain⟨a,xs,rfl,hx,q⟩:=h;cases rx;obtain⟨its,r,ht,hz⟩:=I.list hx;have hlen:=r.length;refine⟨"list",_,slot_list_getitem.lookup,ht.isList.typeIs,?_⟩;refine wpAny_getItem_list_slice ht.isList hs pl pu .none (by simp) ?_ (by rw[bH]<;>omega);rw[B4,<- hlen];refine⟨.ref s.heap.objs.size,_,I.laid (t':=s.toks) (o:=.lst (E3 xs lo hi)) (λb ob q=>aI _ q) (aN _) ?_,rfl,q _ (I.hok.fresh (aN _))⟩;exact⟨cP (yQ xs lo hi) hz,_,0,(r.drop (HT.sIx xs.length 0 lo)).take (HT.sIx xs.length xs.length hi-HT.sIx xs.length 0 lo),bB _ rfl⟩
theorem E8:lH X (.builtin "len") (λxs H Q=>∃p ys,xs=[.ref p]/\(oM X.K H p ys\/qE X.K H p ys)/\Q (.int ys.length) H):=by
 intro pins s σ H xs us Q I r h;obtain⟨p,ys,rfl,hq,q⟩:=h;obtain⟨u,rfl,rx⟩:=rY r;cases rx;have hn:=xS;rcases hq with hq | hq
 ·obtain⟨its,r',pl,hz⟩:=I.list hq;have hlen:=r'.length;exact Calls.call_len_list pl.isList (by simp only[bH]<;>omega) ⟨.int ys.length,H,I.tok _,⟨s.toks+1,by rw[bH,hlen]⟩,q⟩
 ·obtain⟨its,r',pl,hz⟩:=I.tuple hq;have hlen:=r'.length;exact len_tuple pl (by simp only[bH]<;>omega) ⟨.int ys.length,H,I.tok _,⟨s.toks+1,by rw[bH,hlen]⟩,q⟩
theorem E7:lH X (.builtin "len") (λxs H Q=>∃z,xs=[.str z]/\z.length<=bU/\Q (.int z.length) H):=by
 intro pins s σ H xs us Q I r h;obtain⟨z,rfl,hz,q⟩:=h;obtain⟨u,rfl,t,rfl⟩:=rY r;have hn:=xS;exact len_str (by omega) ⟨.int z.length,H,I.tok _,⟨_,rfl⟩,q⟩
theorem lH.or{f:Value}{r r':List V->Hp->VK->Prop}(h:lH X f r)(h':lH X f r'):lH X f (λxs H Q=>r xs H Q\/r' xs H Q):=by
 intro pins s σ H xs us Q I rs q;rcases q with q | q
 ·exact h pins s σ H xs us Q I rs q
 ·exact h' pins s σ H xs us Q I rs q
theorem rR:lH X (.type "list") (λxs H Q=>∃p ys,xs=[.ref p]/\(oM X.K H p ys\/qE X.K H p ys)/\∀l,H l=none->Q (.ref l) (gK H l (.lst ys))):=by
 intro pins s σ H xs us Q I r h;obtain⟨p,ys,rfl,hq,q⟩:=h;obtain⟨u,rfl,rx⟩:=rY r;cases rx
 have fin:∀(its:List Value),gX ys its->ys.length<=bU->∀(h':Heap)(c':Nat),(∀b o',s.heap.get? b=some o'->h'.get? b=some o') ->
   h'.get? s.heap.objs.size=some { cls:=.type "list",dict:=none,data:=.seq its.toArray c',slots:=#[] }->EP X pins σ Q (.ref s.heap.objs.size) { s with heap:=h' }:=λits r' hz h' c' kp e=>
  ⟨.ref s.heap.objs.size,_,I.laid (t':=s.toks) kp (aN _) (show lG X.prog X.w _ h' _ (.lst ys)from⟨hz,its,c',r',e⟩),rfl,q _ (I.hok.fresh (aN _))⟩
 rcases hq with hq | hq
 ·obtain⟨its,r',pl,hz⟩:=I.list hq;have hlen:=r'.length;obtain⟨o,ho,hc,n,hd⟩:=pl.isList;exact call_list_seq p (.inl rfl) ho hc hd (λh' c' kp e=>fin its r' hz h' c' kp e) (by simp only[bH]<;>omega)
 ·obtain⟨its,r',pl,hz⟩:=I.tuple hq;have hlen:=r'.length;obtain⟨o,ho,hc,n,hd⟩:=pl;exact call_list_seq p (.inr rfl) ho hc hd (λh' c' kp e=>fin its r' hz h' c' kp e) (by simp only[bH]<;>omega)
theorem eQ:lH X (.type "tuple") (λxs H Q=>∃p ys,xs=[.ref p]/\((oM X.K H p ys/\∀l,H l=none->Q (.ref l) (gK H l (.tup ys)))\/(qE X.K H p ys/\Q (.ref p) H))):=by
 intro pins s σ H xs us Q I r h;obtain⟨p,ys,rfl,h⟩:=h;obtain⟨u,rfl,rx⟩:=rY r;cases rx;rcases h with⟨hq,q⟩ | ⟨hq,q⟩
 ·obtain⟨its,r',pl,hz⟩:=I.list hq;have hlen:=r'.length;refine call_tuple_list pl.isList (λh' kp=>?_) (by simp only[bH]<;>omega);have I1:dM X pins σ H { s with heap:=h' }:=I.kept (t':=s.toks) kp
  have I2:dM X pins σ (gK H h'.objs.size (.tup ys)) { s with heap:=h'.push { cls:=.type "tuple",data:=.seq its.toArray } }:=
   I1.laid (t':=s.toks) (λb o e=>aI _ e) (aN _) (show lG X.prog X.w _ _ _ (.tup ys)from⟨hz,its,r',CB.new _ _⟩)
  exact⟨.ref h'.objs.size,_,I2,rfl,q _ (I1.hok.fresh (aN _))⟩
 ·obtain⟨its,r',pl,hz⟩:=I.tuple hq;exact call_tuple_same pl ⟨.ref p,H,I,rfl,q⟩
def tyV(K:aG)(T:String)(x:V)(H:Hp):Prop:=match x with
|.str _=>T="str"
|.int _=>T="int"
|.ref p=>(T="list"/\∃xs,oM K H p xs)\/(T="tuple"/\((∃o,K.lookup p=some o/\o.cls=.type "tuple"/\o.dict=none)\/∃xs,qE K H p xs)) \/
  (T="dict"/\((∃kvs,H p=some (.dK kvs))\/∃kvs,H p=some (.dT kvs)))\/(T="set"/\∃S n,H p=some (.set S n))
|_=>False
theorem ZV{pins:List (Addr×Obj)}{σ:St}{H:Hp}{s:Shared}{T:String}{x:V}{v:Value}(I:dM X pins σ H s)(r:iO x v)(ty:tyV X.K T x H) :
  s.TypeIs v T/\∀a,v=.ref a->∃ob,s.heap.get? a=some ob/\ob.dict=none:=by
 cases x with
 |str z=>
  obtain⟨t,rfl⟩:=r;cases (show T="str" from ty);exact⟨typeIs_str s z t,λ_ e=>nomatch e⟩
 |int i=>
  obtain⟨t,rfl⟩:=r;cases (show T="int" from ty);exact⟨typeIs_int s i t,λ_ e=>nomatch e⟩
 |ref p=>
  cases r;rcases ty with⟨rfl,xs,hq⟩ | ⟨rfl,⟨o,hk,hc,hd⟩ | ⟨xs,hq⟩⟩ | ⟨rfl,hk⟩ | ⟨rfl,S,n,hk⟩
  ·obtain⟨its,_,pl,_⟩:=I.list hq;refine⟨pl.isList.typeIs,λa e=>?_⟩;cases e;obtain⟨o,n,e,c,hd,_⟩:=pl;exact⟨o,e,hd⟩
  ·refine⟨⟨o,I.kIn p o hk,hc⟩,λa e=>?_⟩;cases e;exact⟨o,I.kIn _ o hk,hd⟩
  ·obtain⟨o,e,hc,hd⟩:=I.tupleN hq;refine⟨⟨o,e,hc⟩,λa e2=>?_⟩;cases e2;exact⟨o,e,hd⟩
  ·have z:∃o,s.heap.get? p=some o/\o.ExactDict:=by
    rcases hk with⟨kvs,hk⟩ | ⟨kvs,hk⟩
    ·obtain⟨_,_,_,_,o,_,_,e,ex,_⟩:=I.hok p _ hk;exact⟨o,e,ex⟩
    ·obtain⟨_,_,_,_,o,_,_,e,ex,_⟩:=I.hok p _ hk;exact⟨o,e,ex⟩
   obtain⟨o,e,ex⟩:=z;refine⟨⟨o,e,ex.1⟩,λa e2=>?_⟩;cases e2;exact⟨o,e,ex.2.1⟩
  ·obtain⟨o,_,_,_,e,ex,_⟩:=I.hok p _ hk;refine⟨⟨o,e,ex.1⟩,λa e2=>?_⟩;cases e2;exact⟨o,e,ex.2.1⟩
 |_=>exact False.elim ty
def Z0(K:aG)(T:String)(r:V->List V->Hp->VK->Prop)(to:TE)(t:TA):TE:=λσ H Q=>to σ H λx H1=>tyV K T x H1/\t σ H1 λxs H2=>r x xs H2 Q
variable{o e:Expr}{es:List Expr}{to:TE}{t:TA}{name:Str}{apos cpos:Pos}{T id:String}{r:V->List V->Hp->VK->Prop}
theorem sB(pa:PlainAttrs T)(slot:Slot T name id)(hty:typeOf (.builtin id)=pure (.type "method_descriptor"))(hm:MtR X id r)(ho:PE X o to)(ha:PA X (e::es) t)
  (hbase:attributeBase o name X.env (eval o X.env)=eval o X.env:=by rfl)
  (hfew:((backTo cpos (bV (e::es) X.env)).all (λx=>!x.1)&&(backToKw cpos (keywordEach [] X.env)).all (λx=>x.1.isSome)
  &&decide ((e::es).length+([]:List Keyword).length+(if([]:List Keyword).isEmpty then 0 else 1)<30))=true:=by rfl)
  (hline:(apos.endLine==cpos.line)=true:=by rfl) (hs:bV (e::es) X.env=(false,eval e X.env)::bV es X.env:=by rfl) (hplain:(backTo cpos (bV es X.env)).any (·.1)=false:=by rfl) :
  PE X (.Call (.Attribute o name apos) (e::es) [] cpos) (Z0 X.K T r to t):=by
 intro pins s σ H Q I h;refine wpAny_Call_method_late hbase hfew hline rfl (kJ (ho pins s σ H _ I h) λv s1 ⟨x,H1,I1,r1,ty,q1⟩=>?_);obtain⟨h1,h2⟩:=ZV I1 r1 ty;refine⟨T,id,pa,slot,hty,h1,h2,?_⟩;have hA:=ha cpos pins s1 σ H1 _ I1 q1;rw[hs]at hA |-
 refine Calls.callWith_builtin (by show(false||(backTo cpos (bV es X.env)).any (·.1))=false;rw[hplain]<;>rfl) (Calls.evalArgs_plain ?_);exact kJ hA λus s2 ⟨vs,H2,I2,r2,q2⟩=>hm pins s2 σ H2 x vs v us Q I2 r1 r2 q2
end
end L2
namespace L2
open PySem PySem.Spec PyProof.Rows
def MtM(X:Cx)(id:String)(r:V->List V->Hp->VK->Prop):Prop:=
 ∀(pins:List (Addr×Obj))(s:Shared)(σ:St)(H:Hp)(x:V)(xs:List V)(v:Value)(us:List Value)(Q:VK),dM X pins σ H s->iO x v->gX xs us->r x xs H Q ->
  wpAny (model X.prog X.w) X.A (call (.builtin id) (v::us)) (EP X pins σ Q) X.xe s
theorem gX.one:∀{x:V}{us:List Value},gX [x] us->∃u,us=[u]/\iO x u
|_,_,.cons r .nil=>⟨_,rfl,r⟩
section
variable{X:Cx}{pins:List (Addr×Obj)}{σ:St}{H:Hp}{s:Shared}{l:Addr}{xs ys:List V}
theorem dM.lset{its its':List Value}{n:Nat}{f:Array Value->Array Value}{t':Nat}(I:dM X pins σ H s)(hH:H l=some (.lst xs))
  (e:s.heap.get? l=some { cls:=.type "list",data:=.seq its.toArray n }) (hf:f its.toArray=its'.toArray) (hv:gX ys its') (hz:ys.length<=bU) :
  dM X pins σ (gK H l (.lst ys)) { s with heap:=s.heap.update l (Obj.mapSeq f),toks:=t' }:=by
 have q:=PySem.IsL.update e f;rw[hf]at q;refine I.write (x:=l) (e:=l) (by rw[hH];exact trivial) (.inl rfl) (λb' u hb hu=>(cZ s.heap (Obj.mapSeq f) (Ne.symm hb)).trans hu) ⟨_,q⟩ ?_;exact⟨hz,its',_,hv,q⟩
theorem dM.lnew{its:List Value}{t':Nat}(I:dM X pins σ H s)(hv:gX ys its)(hz:ys.length<=bU) :
  dM X pins σ (gK H s.heap.objs.size (.lst ys)) { s with heap:=s.heap.push { cls:=.type "list",data:=.seq its.toArray },toks:=t' }:=
 I.laid (λ_ _ q=>aI _ q) (aN _) ⟨hz,its,0,hv,bB _ rfl⟩
theorem dM.fresh(I:dM X pins σ H s):H s.heap.objs.size=none:=I.hok.fresh (aN _)
theorem dM.lstM(I:dM X pins σ H s)(hH:H l=some (.lst xs)):xs.length<=bU/\∃(its:List Value)(n:Nat),gX xs its/\xs.length=its.length/\s.heap.get? l=some { cls:=.type "list",data:=.seq its.toArray n }:=by
 obtain⟨z,its,n,r,e⟩:=I.hok l _ hH;exact⟨z,its,n,r,r.length,e⟩
theorem RL{n:Nat}(h:n<=bU):Builtin.List.listTooLong n=false:=by
 unfold Builtin.List.listTooLong;exact decide_eq_false (by omega)
end
section
variable{X:Cx}
def LF:V->List V->Hp->VK->Prop:=λx vs H Q=>∃l xs y,x=.ref l/\vs=[y]/\H l=some (.lst xs)/\xs.length<bU/\Q .non (gK H l (.lst (xs++[y])))
theorem nM:MtM X "list.append" LF:=by
 intro pins s σ H x vs v us Q I rx rv h;obtain⟨l,xs,y,rfl,rfl,hH,hz,q⟩:=h;cases rx;obtain⟨u,rfl,ru⟩:=rv.one;obtain⟨z,its,n,r,hl,e⟩:=I.lstM hH;refine call_meets F.slot_list_append ⟨_,e,rfl⟩ F.entry_list_append (F.args_list_append_2 _ _) (PySem.list_append l its.toArray n u (by rw[bH];omega)) ⟨e,?_⟩;refine⟨.non,_,I.lset (its':=its++[u]) hH e (by simp) (r.append (.cons ru .nil)) ?_,rfl,q⟩;rw[aZ,oA];omega
end
end L2
namespace Att
open PySem PySem.W PySem.Calls PyProof.Rows
theorem yZ{P:Params}{h:Heap}:∀(ns:List Int)(vs:List Value),WellAll P h vs (ns.map WData.int)->IntsAre vs ns:=by
 intro ns
 induction ns with
 |nil=>
  intro vs w;rw[pM]at w;cases w;exact .nil
 |cons n ns ih=>
  intro vs w;rw[bM]at w
  cases w with
  |cons a b=>
   cases a;exact .cons _ _ (ih _ b)
theorem M6{l:OpenLaw}{n:Nat}(hn:l.most=some n){P:Params}{h:Heap}{args:List WData}{vals:List Value}
  (hpre:l.row.toRowW.claim.pre args=true) (hwl:WellAll P h vals args) :
  ∃a vs ns,vals=[Value.ref a]/\args=[WData.list (ns.map WData.int)]/\h.get? a=some { cls:=.type "list",data:=.seq vs.toArray }/\IntsAre vs ns/\ns.length<=n:=by
 have hsh:WShape.hasAll [] args [.list .int]=true:=(pre_splitW hpre).1;have hc:l.pre.holds [] { args:=args }=true:=(pre_splitW hpre).2;obtain⟨d,r,rfl,h1,h2⟩:=hasAllW_cons hsh;obtain rfl:=hasAllW_nil h2;obtain⟨xs,rfl,h3⟩:=hasW_list h1;obtain⟨ns,rfl⟩:=items_int h3
 have hlen:ns.length<=n:=by
  unfold OpenLaw.pre at hc
  have h4:(WTm.not (.lt (.lit (.int (n:Int))) (.len (.arg 0)))).holds [] { args:=[.list (ns.map .int)] }=true:=by
   have h4:=(holds_andW hc).1;rw[hn]at h4;exact h4
  have h5:=condW_of h4 (w_not (w_lt w_lit (w_len_list (w_arg rfl))));rw[aE]at h5;refine Nat.le_of_not_lt λq=>?_;have q':(n:Int)<((ns.length:Nat):Int):=by omega
  first
   | (rw[decide_eq_true q']at h5;exact absurd h5 (by decide))
   | (simp at h5;omega)
 cases hwl with
 |cons w1 w2=>
  cases w2
  cases w1 with
  |list ho hall=>exact⟨_,_,ns,rfl,rfl,ho,yZ ns _ hall,hlen⟩
theorem ND(l:OpenLaw)(args:List WData):l.row.toRowW.claim.post args (.bool true) args=true:=
 postW_of (r:=l.row.toRowW) (X:=(true==true))
  (show WShape.has [] (.bool true) .bool=true by first | rfl | decide | simp[WShape.has,WShape.arms,WShape.armsAll])
  (show(WTm.eq .res (.lit (.bool true))).value [] { args:=args,res:=some (.bool true),after:=args }=some (.bool (true==true))from w_eq_bool (w_res rfl) w_lit) rfl
theorem attach_call{l:OpenLaw}{n:Nat}{q:bE}{loose:List Str}{XP:(Str->Option Value)->Heap->Prop}{YP:World->Heap->Prop}{d:DefRec}
  (hn:l.most=some n) (hdf:d.params.defaults=[])
  (call:∀(w:World)(s₀ s₁:Shared)(mg mb:Str->Option Value)(fa:Addr)(o:Obj)(pm cd doc:Value)(a:Addr)(vs:List Value)(ns:List Int),
   Ground q loose [] XP w s₀ mg mb s₁.heap->YP w s₁.heap ->
   s₁.heap.get? fa=some o->o.data=.func (docDef d.name d.params d.body d.scope pm cd doc)->s₁.heap.CodeRec cd d.name->mg d.name=some (.ref fa) ->
   s₁.heap.get? a=some { cls:=.type "list",data:=.seq vs.toArray }->IntsAre vs ns->ns.length<=n->s₁.gens=#[] ->
   codeAny (model l.prog w) callerA (.call (.ref fa) ⟨[.ref a],[]⟩) (λr s'=>r=.ok (.ret (.bool true))/\OldK s₁.heap s'.heap/\s'.os=s₁.os/\AllBare s'.gens) s₁) :
  WalkO q loose XP YP l.row.toRowW d [] (λf vs=>PySem.call f vs):=by
 intro w s₀ s₁ mg mb G Y fa o pm cd doc dV kV ho hd hcd hD hmg hg args vals as hpre hlay hrd hwl hlo;obtain rfl:dV=.none:=Dflts.none hD hdf;obtain rfl:kV=.none:=Dflts.noKw hD;obtain⟨a,vs,ns,rfl,rfl,hobj,hints,hlen⟩:=M6 hn hpre hwl;refine enter_call (codeAny_mono (call w s₀ s₁ mg mb fa o pm cd doc a vs ns G Y ho (fd_plain hd) hcd hmg hobj hints hlen hg) λr s' hq=>?_);obtain⟨rfl,h2,h3,h4⟩:=hq;exact⟨.inl ⟨.bool true,.bool true,[],rfl,λ_=>rfl,.bool true,ND l _,λ_=>⟨qX.nil,λ_ hm=>(nomatch hm)⟩⟩,h2,h3,h4⟩
end Att
namespace L2
open PySem PySem.Spec PyProof.Rows
theorem CJ:∀{vs:List Value}{ns:List Int},IntsAre vs ns->gX (ns.map V.int) vs
|_,_,.nil=>.nil
|_,_,.cons n t h=>.cons ⟨t,rfl⟩ (CJ h)
def aCc(H:Hp):Prop:=∀b,H b=none\/(∃o xs,H b=some (.frz o (.lst xs)))\/(tabA=some b/\∃ps,H b=some (.tbl ps))
theorem R7{P:bE}{w:World}{K:aG}{mg mb:Str->Option Value}{CX:MK}{k:Nat}{fa a:Addr}{fd:eI}{x:Str}{sp:Sp}{s₁:Shared}{vs:List Value}{ns:List Int}
  (KX:K.In s₁.heap) (hns:s₁.heap.Ns fA mg) (hb:s₁.heap.Ns builtinsNs mb) (hbb:∀x:Str,x≠"__name__"->mb x=bootBuiltins x) (hlim:s₁.heap.NoLimit) (hg:s₁.gens=#[])
  (ha:s₁.heap.get? a=some { cls:=.type "list",data:=.seq vs.toArray }) (hi:IntsAre vs ns) (hl:ns.length<=bU) (hr:Room k callerA)
  (hbm:∃bm o,mg "__builtins__"=some (.ref bm)/\bm≠builtinsNs/\s₁.heap.get? bm=some o/\o.cls=.type "module"/\o.dict=some builtinsNs/\o.data=.plain)
  (hT:∀P,tabA=some P->s₁.heap.get? P=some { cls:=.none,data:=.fields #[] }/\K.lookup P=none/\isCodeTable s₁.heap P)
  (F:∀base:Heap,K.In base->base.Ns fA mg->bX P w K mg base CX k fa fd [x] sp) (hbind:∀(s:Shared)(u:Value),BindsTo s fd ⟨[u],[]⟩ [(x,u)])
  (hsp:∀H:Hp,aCc H->oM K H a (ns.map V.int)->sp [.ref a] H (λv _=>v=.bl true) λ_ _ _=>False)
  (hCX:∀H e s',CX [] H s₁ (λ_ _ _=>False) e s'->False) :
  codeAny (model P w) callerA (.call (.ref fa) ⟨[.ref a],[]⟩) (λr s'=>r=.ok (.ret (.bool true))/\OldK s₁.heap s'.heap/\s'.os=s₁.os/\AllBare s'.gens) s₁:=by
 have rv:=CJ hi;have lenV:=hi.length
 have aT:∀P,tabA=some P->P≠a:=λP e z=>by
  have h1:=(hT P e).1;rw[z,ha]at h1;cases h1
 have core:∀H:Hp,aCc H->oM K H a (ns.map V.int)->rV P w H s₁.heap->(∀b,H b≠none->b=a\/tabA=some b)->(H a≠none->K.lookup a=none)->Tb H ->
   codeAny (model P w) callerA (.call (.ref fa) ⟨[.ref a],[]⟩) (λr s'=>r=.ok (.ret (.bool true))/\OldK s₁.heap s'.heap/\s'.os=s₁.os/\AllBare s'.gens) s₁:=by
  intro H hO hS hok hA hK hTb;have base_of:∀{b:Addr}{o:Obj},s₁.heap.get? b=some o->H b=none->(EU s₁.heap H).get? b=some o:=λe n=>SL e n
  have noA:∀{b:Addr}{o:Obj}{es:Array DictEntry}{ep:Nat},s₁.heap.get? b=some o->o.data=.dict es ep->H b=none:=λ{b o es ep} e d=>by
   cases q:H b with
   |none=>rfl
   |some u=>
    rcases hA b (by rw[q];simp)with e' | e'
    ·subst e';rw[ha]at e;cases e;have d':Data.seq vs.toArray _=Data.dict es ep:=d;cases d'
    ·rw[(hT b e').1]at e;cases e;have d':Data.fields #[]=Data.dict es ep:=d;cases d'
  have noP:∀{b:Addr}{o:Obj},s₁.heap.get? b=some o->o.data=.plain->H b=none:=λ{b o} e d=>by
   cases q:H b with
   |none=>rfl
   |some u=>
    rcases hA b (by rw[q];simp)with e' | e'
    ·subst e';rw[ha]at e;cases e;have d':Data.seq vs.toArray _=Data.plain:=d;cases d'
    ·rw[(hT b e').1]at e;cases e;have d':Data.fields #[]=Data.plain:=d;cases d'
  have nsK:∀{b:Addr}{m:Str->Option Value},s₁.heap.Ns b m->(EU s₁.heap H).Ns b m:=λ{b m} ⟨o,es,ep,e,d,r⟩=>⟨o,es,ep,base_of e (noA e d),d,r⟩
  have hKb:K.In (EU s₁.heap H):=λb o e=>base_of (KX b o e) (by
   cases q:H b with
   |none=>rfl
   |some u=>
    rcases hA b (by rw[q];simp)with e' | e'
    ·subst e';rw[hK (by rw[q];simp)]at e;cases e
    ·rw[(hT b e').2.1]at e;cases e)
  have hM:Mod K mg (EU s₁.heap H):=⟨hKb,nsK hns,⟨mb,nsK hb,hbb⟩,let ⟨mc,h1,h2⟩:=hlim;⟨mc,nsK h1,h2⟩,let ⟨bm,o,b1,b2,b3,b4,b5,b6⟩:=hbm;⟨bm,o,b1,b2,base_of b3 (noP b3 b6),b4,b5,b6⟩⟩;have e0:KI P w K mg (EU s₁.heap H) callerA [] s₁ H:=⟨rfl,hM,λb o e=>V3 e,nP (N3 _ _),trivial,λb hb=>absurd (show b∈([]:List Addr)from hb) (by simp),hok,.of_eq hg,hTb⟩;refine codeAny_mono ((F _ hKb (nsK hns)).run callerA [] s₁ H ⟨[.ref a],[]⟩ [.ref a] [.ref a] _ _ hr e0 (hbind s₁ (.ref a)) (.cons rfl .nil) (hsp H hO hS)) λr s' h=>?_
  cases r with
  |error e=>exact(hCX H e s' h).elim
  |ok fl=>
   cases fl with
   |next=>exact False.elim h
   |brk=>exact False.elim h
   |cont=>exact False.elim h
   |ret u=>
    obtain⟨v,H',os,bare,un,hok',r',q⟩:=h;have q':v=.bl true:=q;subst q';obtain rfl:u=Value.bool true:=r'
    have old:∀b o,s₁.heap.get? b=some o->s'.heap.get? b=some o\/(isCodeTable s₁.heap b/\o={ cls:=.none,data:=.fields #[] }/\∃qs:Array Value,s'.heap.get? b=some { cls:=.none,data:=.fields qs }):=λb o e=>by
     cases q:H b with
     |none=>exact .inl (un.keep b o e q (by intro z;exact absurd (show b∈([]:List Addr)from z) (by simp)) (by simp))
     |some u=>
      rcases hO b with z | ⟨ob,xs,z⟩ | ⟨t,ps,z⟩
      ·rw[q]at z;cases z
      ·have z2:=un.frzs b ob _ z;obtain⟨e1,_⟩:=hok b _ z;obtain⟨e2,_⟩:=hok' b _ z2;rw[e]at e1;cases e1;exact .inl e2
      ·obtain⟨h1,h2,h3⟩:=hT b t;obtain⟨m,z2⟩:=un.tbls b ps z;obtain⟨qs,e2,_⟩:=hok' b _ z2;rw[e]at h1;cases h1;exact .inr ⟨h3,rfl,qs,e2⟩
    refine⟨rfl,⟨λb o e=>?_,λb o e=>?_⟩,os,bare⟩
    ·rcases old b o e with h1 | ⟨h1,rfl,qs,h2⟩
     ·exact .inl h1
     ·exact .inr (.inl ⟨h1,rfl,#[],qs,rfl,by rw[h2];simp⟩)
    ·rcases old b o e with h1 | ⟨h1,rfl,qs,h2⟩
     ·exact⟨_,h1⟩
     ·exact⟨_,h2⟩
 have dT:∀b,Decidable (tabA=some b):=λb=>inferInstance
 cases hk:K.lookup a with
 |some o=>
  have e:=KX a o hk;rw[ha]at e;cases e;refine core (λb=>if tabA=some b then some (.tbl #[])else none) (λb=>?_) (.inr ⟨_,vs.toArray,_,hk,rfl,rfl,rfl,by rw[bH,lenV];exact hl,by simpa using rv⟩) (λb u z=>?_) (λb z=>?_) (λz=>?_) λP e=>⟨#[],if_pos e⟩
  ·by_cases hb:tabA=some b
   ·exact .inr (.inr ⟨hb,#[],if_pos hb⟩)
   ·exact .inl (if_neg hb)
  ·by_cases hb:tabA=some b
   ·have z':=(if_pos hb).symm.trans z;cases z';exact⟨#[],(hT b hb).1,trivial,λp c q=>by cases q⟩
   ·have z':=(if_neg hb).symm.trans z;cases z'
  ·by_cases hb:tabA=some b
   ·exact .inr hb
   ·exact absurd (if_neg hb) z
  ·exact absurd (if_neg λe=>aT a e rfl) z
 |none=>
  refine core (λb=>if tabA=some b then some (.tbl #[])else if b=a then some (.frz { cls:=.type "list",data:=.seq vs.toArray } (.lst (ns.map V.int)))else none) (λb=>?_) (.inl (.inr ⟨{ cls:=.type "list",data:=.seq vs.toArray },(if_neg λe=>aT a e rfl).trans (if_pos rfl)⟩)) (λb u z=>?_) (λb z=>?_) (λ_=>hk) λP e=>⟨#[],if_pos e⟩
  ·by_cases hT':tabA=some b
   ·exact .inr (.inr ⟨hT',#[],if_pos hT'⟩)
   ·by_cases hb:b=a
    ·exact .inr (.inl ⟨_,_,(if_neg hT').trans (if_pos hb)⟩)
    ·exact .inl ((if_neg hT').trans (if_neg hb))
  ·by_cases hT':tabA=some b
   ·have z':=(if_pos hT').symm.trans z;cases z';exact⟨#[],(hT b hT').1,trivial,λp c q=>by cases q⟩
   ·by_cases hb:b=a
    ·have z':=((if_neg hT').trans (if_pos hb)).symm.trans z;cases z';subst hb;exact⟨ha,by rw[aE];exact hl,vs,_,rv,ha⟩
    ·have z':=((if_neg hT').trans (if_neg hb)).symm.trans z;cases z'
  ·by_cases hT':tabA=some b
   ·exact .inr hT'
   ·by_cases hb:b=a
    ·exact .inl hb
    ·exact absurd ((if_neg hT').trans (if_neg hb)) z
theorem UT{l:PySem.W.OpenLaw}{n k:Nat}{q:bE}{loose:List Str}{XP:(Str->Option Value)->Heap->Prop}{YP:World->Heap->Prop}{d:DefRec}{K:Params->aG}{CX:World->MK}{sp:World->Sp}{x:Str}
  (hn:l.most=some n) (hn2:n<=bU) (hdf:d.params.defaults=[]) (hr:Room k callerA)
  (hY:∀(w:World)(h:Heap),YP w h->(K w.params).In h) (hT:∀(w:World)(h:Heap),YP w h->∀P,tabA=some P->h.get? P=some { cls:=.none,data:=.fields #[] }/\(K w.params).lookup P=none/\isCodeTable h P)
  (F:∀(w:World)(mg:Str->Option Value)(fa:Addr)(h:Heap),(K w.params).In h->h.Ns fA mg->mg d.name=some (.ref fa) ->
   ∃fd:eI,(∀(s:Shared)(u:Value),BindsTo s fd ⟨[u],[]⟩ [(x,u)]) /\
    ∀base:Heap,(K w.params).In base->base.Ns fA mg->bX l.prog w (K w.params) mg base (CX w) k fa fd [x] (sp w))
  (hsp:∀(w:World)(H:Hp)(a:Addr)(ns:List Int),ns.length<=n->aCc H->oM (K w.params) H a (ns.map V.int)->sp w [.ref a] H (λv _=>v=.bl true) λ_ _ _=>False)
  (hCX:∀(w:World)(H:Hp)(s:Shared)(e:Value)(s':Shared),CX w [] H s (λ_ _ _=>False) e s'->False) :
  UM q loose XP YP l.row.toRowW d [] (λf vs=>PySem.call f vs):=by
 refine Att.attach_call hn hdf λw s₀ s₁ mg mb fa o pm cd doc a vs ns G Y ho hd hcd hmg hobj hints hlen hg=>?_;have KX:=hY w _ Y;obtain⟨fd,hb,hF⟩:=F w mg fa _ KX G.T.g hmg;exact R7 KX G.T.g G.T.b G.T.builtins G.T.nolimit hg hobj hints (cP hlen hn2) hr G.T.bmain (hT w _ Y) hF hb (λH hO hS=>hsp w H a ns hlen hO hS) λH e s'=>hCX w H s₁ e s'
end L2
namespace L2
open PySem PySem.Spec PyProof.Rows
def rP(s:Stmt):Arguments:=match s with
|.FunctionDef _ a _ _ _ _ _ _ _ _=>a
|_=>{ posonlyargs:=[],args:=[],vararg:=none,kwonlyargs:=[],kw_defaults:=[],kwarg:=none,defaults:=[] }
def mE(s:Stmt):List Stmt:=match s with
|.FunctionDef _ _ b _ _ _ _ _ _ _=>b
|_=>[]
def bJ(s:Stmt):Scope:=match s with
|.FunctionDef _ _ _ _ _ _ sc _ _ _=>sc
|_=>{ kind:=.function,names:=[],isGenerator:=false,isCoroutine:=false }
abbrev eR:MK:=λ_ _ _ _ _ _=>False
abbrev E0:XK:=λ_ _ _=>False
theorem Y7{X:Cx}:FE eR X E0:=λ_ _ _ _ _ _ _ h=>h.elim
structure T7(K:aG)(x qual:Str)(st:Stmt)(f:Addr)(fd:eI):Prop where
 ex:∃(oc:Value)(od:Option Addr)(kV doc pm:Value)(an:Option Addr)(cdv ct:Value)(osl:Array (Option Value)),
  fd=kN x qual (rP st) (mE st) (bJ st) .none kV doc pm an cdv ct/\K.lookup f=some ⟨oc,od,.func fd,osl⟩/\nD K cdv qual=true
 kp:iU K (.ref f)=true
section
variable{P:bE}{w:World}{K:aG}{mg:Str->Option Value}{base:Heap}
theorem T7.ok{x qual:Str}{st:Stmt}{f:Addr}{fd:eI}{N ps:List Str}{k:Nat}{sp:Sp}(F:T7 K x qual st f fd)(S:cQ N ps (bJ st))(len:∀vs H Q E,sp vs H Q E->vs.length=ps.length)
  (hbody:∀(cdv:Value)(A:Around)(outer:List Env)(s:Shared)(H:Hp)(vs:List V)(Q:VK)(E:XK),Room k (A.deeper (envOfC qual (bJ st) s.heap.objs.size f cdv))->sp vs H Q E ->
   ∃t,zE (vL eR P w K mg base N qual (bJ st) f cdv A outer s H E).nox (mE st) t/\t { nx:=λ_ H'=>Q .non H',rt:=Q } (sM N vs) H):bX P w K mg base eR (k+1) f fd ps sp:=by
 obtain⟨oc,od,kV,doc,pm,an,cdv,ct,osl,rfl,lk,hcd⟩:=F.ex;refine ZC lk hcd S len λA outer s H vs Q E hr hsp=>?_;obtain⟨t,h,q⟩:=hbody cdv A outer s H vs Q E hr hsp;exact⟨t,h.nox,q⟩
theorem T7.binds{x qual:Str}{st:Stmt}{f:Addr}{fd:eI}{ps:List Str}(F:T7 K x qual st f fd)
  (h:∀(kV doc pm:Value)(an:Option Addr)(cdv ct:Value)(us:List Value),us.length=ps.length->bindArgs (kN x qual (rP st) (mE st) (bJ st) .none kV doc pm an cdv ct) ⟨us,[]⟩=pure (ps.zip us)):tU K fd ps []:=by
 obtain⟨oc,od,kV,doc,pm,an,cdv,ct,osl,rfl,lk,hcd⟩:=F.ex;exact .all (h kV doc pm an cdv ct)
theorem EV{x qual:Str}{st:Stmt}{f:Addr}{oc:Value}{od an:Option Addr}{osl:Array (Option Value)}{kV doc pm cdv ct:Value}(l:K.lookup f=some ⟨oc,od,.func (kN x qual (rP st) (mE st) (bJ st) .none kV doc pm an cdv ct),osl⟩)
  (c:nD K cdv qual=true) (k:iU K (.ref f)=true):T7 K x qual st f (kN x qual (rP st) (mE st) (bJ st) .none kV doc pm an cdv ct):=⟨⟨oc,od,kV,doc,pm,an,cdv,ct,osl,rfl,l,c⟩,k⟩
end
theorem MY{n:Nat}(h:n<=1000):n<bU:=UA h (by decide)
section
variable{X:Cx}
theorem pv(i:Nat){x:Str}{pos:Pos}(hN:X.N[i]?=some x:=by rfl)(hv:Vis X.env.scope x:=by first | exact Or.inl rfl | exact Or.inr (Or.inl rfl) | exact Or.inr (Or.inr rfl))(hd:(x==("__debug__":Str))=false:=by decide)
  (hcd:(x==("__classdict__":Str))=false:=by decide):PE X (.Name x pos) (vY i):=Q8 hN hv hd hcd
end
def bL(H H':Hp):Prop:=∀b o,H b=some o->H' b=some o
theorem bL.refl(H:Hp):bL H H:=λ_ _ h=>h
theorem bL.trans{H H1 H2:Hp}(a:bL H H1)(b:bL H1 H2):bL H H2:=λc o h=>b c o (a c o h)
theorem bL.seq{K:aG}{H H':Hp}{a:Addr}{xs:List V}(e:bL H H')(h:oM K H a xs):oM K H' a xs:=by
 rcases h with(h | ⟨o,h⟩) | h
 ·exact .inl (.inl (e _ _ h))
 ·exact .inl (.inr ⟨o,e _ _ h⟩)
 ·exact .inr h
theorem WK{M:Model}{A:Around}{E:Value->Shared->Prop}{s:Shared}{tg:Expr}{it:Value}{z:Str}{t:Tok}{Q:Unit->Shared->Prop}(hQ:Q () s) :
  wpAny M A (letOwnedTupleGo tg it (.str z t)) Q E s:=by
 unfold letOwnedTupleGo
 cases tg<;>first
  |exact aJ hQ
  | (cases it<;>exact aJ hQ)
def Its(z:Str):It:=⟨λi _=>i<z.cps.size,λi H x H'=>H'=H/\∃c,z.cps[i]?=some c/\x=.str ⟨#[c]⟩,λi _=>z.cps.size<=i⟩
theorem MR{P:bE}{w:World}{K:aG}{tg:Expr}{ty:String}(it:Addr)(z:Str)(t:Tok)
  (W:∀A:Around,A.handled=none->Walks P w A it [it] [it] z.cps.size (SignAt z) (λi h=>h.IsStrIter it ty z t i))
  (S:∀(A:Around)(i:Nat)(s:Shared)(Q:Value->Shared->Prop)(E:Value->Shared->Prop),s.heap.IsStrIter it ty z t i->Q (.ref it) s->wpAny (model P w) A (pyIter (.ref it)) Q E s) :
  BS P w K tg (Its z) [it] it (λi h=>i<=z.cps.size/\h.IsStrIter it ty z t i) where
 mem:=by simp
 obj:=λi h st b hb=>by
  obtain rfl:b=it:=by simpa using hb
  obtain⟨_,o,e,c,d⟩:=st;exact⟨o,e,λv q=>by rw[d]at q;cases q⟩
 keep:=λi h h' st k=>by
  obtain⟨l,o,e,r⟩:=st;exact⟨l,o,k it (by simp) o e,r⟩
 item:=by
  intro X hP hw hK hc i pins s σ H E I hf st hg;subst hP hw hK;obtain⟨f0,f1,f2,f3,f4,f5⟩:=hf it (by simp);refine(W X.A (I.ok.hd hc)).item i s _ _ hg st.2 λv h' tk hv st' kk=>?_;obtain⟨c,u,hx,rfl⟩:=hv;have I1:dM X pins σ H { s with heap:=h',toks:=tk }:=I.turned (λb o hb e=>kk b o (by simpa using hb) e) f0 f1 f3 f4 f5;exact⟨_,rfl,WK ⟨.str ⟨#[c]⟩,H,I1,⟨u,rfl⟩,⟨rfl,c,hx,rfl⟩,⟨hg,st'⟩,λb hb=>(hf b hb).1⟩⟩
 done:=by
  intro X hP hw hK hc i pins s σ H E I hf st hg;subst hP hw hK;obtain⟨f0,f1,f2,f3,f4,f5⟩:=hf it (by simp);have e:i=z.cps.size:=Nat.le_antisymm st.1 hg;subst e;exact(W X.A (I.ok.hd hc)).done s _ _ st.2 λh' tk kk=>⟨rfl,I.turned (λb o hb e=>kk b o (by simpa using hb) e) f0 f1 f3 f4 f5⟩
 self:=λA i s Q E st h=>S A i s Q E st.2 h
def aHm(K:aG)(tl:TE):TI:=λσ H R=>tl σ H λx H1=>(∃a,x=.ref a/\(∃xs,oM K H1 a xs)/\R (Itl K a) H1)\/(∃a,x=.ref a/\(∃xs,qE K H1 a xs)/\R (Itt K a) H1)\/∃z,x=.str z/\R (Its z) H1
theorem aAn{X:Cx}{tg l:Expr}{tl:TE}(hl:PE X l tl):PI X tg l (aHm X.K tl):=by
 intro pins s σ H R I h;refine kJ (hl pins s σ H _ I h) λv s1 ⟨x,H1,I1,r1,q1⟩=>?_;rcases q1 with⟨a,rfl,⟨xs,hq⟩,q⟩ | ⟨a,rfl,⟨xs,hq⟩,q⟩ | ⟨z,rfl,q⟩
 ·cases r1;obtain⟨its,rv,p,hz⟩:=I1.list hq;refine wpAny_pyIter_list p.isList ⟨s1.heap.objs.size,[s1.heap.objs.size],_,_,H1,rfl,I1.kept (t':=s1.toks) λb o e=>aI _ e,MS a _,⟨_,bB _ rfl,rfl,rfl⟩,λb hb=>?_,q⟩;obtain rfl:b=s1.heap.objs.size:=by simpa using hb
  exact I1.fpOk (aN _) (I1.hok.fresh (aN _))
 ·cases r1;obtain⟨its,rv,p,hz⟩:=I1.tuple hq;refine wpAny_pyIter_tuple (show s1.heap.IsTuple a its.toArray from p) ⟨s1.heap.objs.size,[s1.heap.objs.size],_,_,H1,rfl,I1.kept (t':=s1.toks) λb o e=>aI _ e,IP a _,⟨_,bB _ rfl,rfl,rfl⟩,λb hb=>?_,q⟩;obtain rfl:b=s1.heap.objs.size:=by simpa using hb
  exact I1.fpOk (aN _) (I1.hok.fresh (aN _))
 ·obtain⟨t,rfl⟩:=r1
  have fin:∀(o:Obj)(ty:String),(∀A:Around,A.handled=none->Walks X.prog X.w A s1.heap.objs.size [s1.heap.objs.size] [s1.heap.objs.size] z.cps.size (SignAt z) (λi h=>h.IsStrIter s1.heap.objs.size ty z t i)) ->
    (∀(A:Around)(i:Nat)(s:Shared)(Q:Value->Shared->Prop)(E:Value->Shared->Prop),s.heap.IsStrIter s1.heap.objs.size ty z t i->Q (.ref s1.heap.objs.size) s->wpAny (model X.prog X.w) A (pyIter (.ref s1.heap.objs.size)) Q E s) ->
    (s1.heap.push o).IsStrIter s1.heap.objs.size ty z t 0->PIE X pins σ tg R (.ref s1.heap.objs.size) { s1 with heap:=s1.heap.push o }:=λo ty W S st=>by
   refine⟨s1.heap.objs.size,[s1.heap.objs.size],_,Its z,H1,rfl,I1.kept (t':=s1.toks) λb o e=>aI _ e,MR _ z t W S,⟨dS _,st⟩,λb hb=>?_,q⟩;obtain rfl:b=s1.heap.objs.size:=by simpa using hb
   exact I1.fpOk (aN _) (I1.hok.fresh (aN _))
  cases ha:z.cps.all (·<128)
  ·exact wpAny_pyIter_wide ha (fin _ "str_iterator" (λA hA=>Walks.strWide hA _ z t) (λ_ _ _ _ _ st h=>wpAny_pyIter_striter_wide st h) ⟨_,bB _ rfl,rfl,rfl⟩)
  ·exact wpAny_pyIter_ascii ha (fin _ "str_ascii_iterator" (λA hA=>Walks.strAscii hA _ z t) (λ_ _ _ _ _ st h=>wpAny_pyIter_striter_ascii st h) ⟨_,bB _ rfl,rfl,rfl⟩)
structure BP where
 cl:List (Str×Addr)
 C:Addr
 s3:Shared
 H3:Hp
 ex:List Addr
 pn:List (Addr×Obj)
def blk(X:Cx)(scope:Scope)(N':List Str)(b:BP):Cx where
 prog:=X.prog
 w:=X.w
 K:=X.K
 mg:=X.mg
 base:=X.base
 A:=X.A
 N:=N'
 s₀:=b.s3
 H₀:=b.H3
 env:=compEnvC scope b.cl b.C X.env
 outer:=X.stack
 stack:=X.stack
 ex:=b.ex
 fn:=λx=>scope.names.lookup x==some .cell
 calm:=X.calm
 pn:=b.pn
 xe:=λ_ _=>False
theorem vM{env:Env}:∀(names:List (Str×NameKind))(acc:List (Str×Addr)),(∀x∈names,x.2=.free->∃c,env.cells.lookup x.1=some c) ->
 (∀n c,acc.lookup n=some c->env.cells.lookup n=some c) ->
 ∃cl:List (Str×Addr),(forIn names acc (λx cs=>match x with | (name,kind)=>if kind==.free then do let a <- cellOf env name;pure (ForInStep.yield ((name,a)::cs))else pure (ForInStep.yield cs)):Sem (List (Str×Addr)))=pure cl /\
  (∀n c,cl.lookup n=some c->env.cells.lookup n=some c)/\(∀n,((∃c,acc.lookup n=some c)\/(n,NameKind.free)∈names)->∃c,cl.lookup n=some c)
|[],acc,_,ha=>⟨acc,rfl,ha,λn h=>h.elim id λz=>absurd z (by simp)⟩
| (n,k)::r,acc,h,ha=>by
 by_cases hk:k=.free
 ·subst hk;obtain⟨c,hc⟩:=h (n,.free) (aS ..) rfl
  obtain⟨cl,e,h1,h2⟩:=vM r ((n,c)::acc) (λx hx=>h x (aO _ hx)) (λm d hm=>by
   rw[gY]at hm
   cases hb:m==n with
   |true=>
    rw[hb]at hm;obtain rfl:m=n:=by simpa using hb
    cases hm;exact hc
   |false=>rw[hb]at hm;exact ha m d hm)
  refine⟨cl,?_,h1,λm hm=>h2 m ?_⟩
  ·rw[tX];have ec:cellOf env n=pure c:=by unfold cellOf;rw[hc]
   simp only[beq_self_eq_true,if_true,ec];exact e
  ·rcases hm with⟨d,hd⟩ | hm
   ·left
    rw[gY]
    cases hb:m==n with
    |true=>exact⟨c,rfl⟩
    |false=>exact⟨d,hd⟩
   ·rcases aY.mp hm with z | z
    ·left
     cases z;exact⟨c,by simp[gY]⟩
    ·exact .inr z
 ·obtain⟨cl,e,h1,h2⟩:=vM r acc (λx hx=>h x (aO _ hx)) ha;refine⟨cl,?_,h1,λm hm=>h2 m (hm.imp id λz=>?_)⟩
  ·rw[tX];have eb:(k==NameKind.free)=false:=by simpa using hk
   simp only[eb,gG,if_false];exact e
  ·rcases aY.mp z with z | z
   ·cases z;exact absurd rfl hk
   ·exact z
theorem BL{env:Env}{scope:Scope}(h:∀x∈scope.names,x.2=.free->∃c,env.cells.lookup x.1=some c) :
  ∃cl,closureFor scope env=pure cl/\(∀n c,cl.lookup n=some c->env.cells.lookup n=some c)/\∀n,(n,NameKind.free)∈scope.names->∃c,cl.lookup n=some c:=by
 obtain⟨cl,e,h1,h2⟩:=vM (env:=env) scope.names [] h (λn c z=>by simp at z);refine⟨cl,?_,h1,λn z=>h2 n (.inr z)⟩;unfold closureFor;refine Eq.trans ?_ (congrArg (λm=>m >>= λr=>(pure r:Sem (List (Str×Addr)))) e)
 rfl
theorem rF{env:Env}{x:Str}{k:NameKind}:∀{names:List (Str×NameKind)},
 (names.map λ(n,k)=>if(k==NameKind.free&&env.scope.kind==.function&&env.kindOf n==some .cell)then(n,NameKind.cell)else(n,k)).lookup x=some k ->
 ∃k0,(x,k0)∈names/\(k0=k\/(k0=.free/\k=.cell))
|[],h=>by simp at h
| (n,j)::r,h=>by
 rw[bM,gY]at h;dsimp only at h;by_cases hc:(j==NameKind.free&&env.scope.kind==.function&&env.kindOf n==some .cell)=true
 ·rw[if_pos hc]at h;dsimp only at h
  cases hb:x==n with
  |true=>
   rw[hb]at h;obtain rfl:x=n:=by simpa using hb
   cases h;have hj:j=.free:=by simp only[dA,beq_iff_eq]at hc;exact hc.1.1
   exact⟨j,aS ..,.inr ⟨hj,rfl⟩⟩
  |false=>
   rw[hb]at h;obtain⟨k0,h1,h2⟩:=rF (names:=r) h;exact⟨k0,aO _ h1,h2⟩
 ·rw[if_neg hc]at h;dsimp only at h
  cases hb:x==n with
  |true=>
   rw[hb]at h;obtain rfl:x=n:=by simpa using hb
   cases h;exact⟨_,aS ..,.inl rfl⟩
  |false=>
   rw[hb]at h;obtain⟨k0,h1,h2⟩:=rF (names:=r) h;exact⟨k0,aO _ h1,h2⟩
theorem wJ{env:Env}{x:Str}:∀{names:List (Str×NameKind)},names.lookup x=some .free ->
 (names.map λ(n,k)=>if(k==NameKind.free&&env.scope.kind==.function&&env.kindOf n==some .cell)then(n,NameKind.cell)else(n,k)).lookup x=some .cell \/
 (names.map λ(n,k)=>if(k==NameKind.free&&env.scope.kind==.function&&env.kindOf n==some .cell)then(n,NameKind.cell)else(n,k)).lookup x=some .free
|[],h=>by simp at h
| (n,j)::r,h=>by
 rw[gY]at h;rw[bM,gY];dsimp only
 cases hb:x==n with
 |true=>
  rw[hb]at h;cases h;by_cases hc:(NameKind.free==NameKind.free&&env.scope.kind==.function&&env.kindOf n==some .cell)=true
  ·rw[if_pos hc];dsimp only;rw[hb];exact .inl rfl
  ·rw[if_neg hc];dsimp only;rw[hb];exact .inr rfl
 |false=>
  rw[hb]at h;have ih:=wJ (env:=env) (names:=r) h;by_cases hc:(j==NameKind.free&&env.scope.kind==.function&&env.kindOf n==some .cell)=true
  ·rw[if_pos hc];dsimp only;rw[hb];exact ih
  ·rw[if_neg hc];dsimp only;rw[hb];exact ih
def tH(names outer:List (Str×NameKind))(Nx:List Str):List Str->List (Option Nat)->Bool
|[],[]=>true
|x::r,none::f=>tH names outer Nx r f
|x::r,some j::f=>(names.lookup x==some .free)&&(Nx[j]?==some x)&&(outer.lookup x==some .cell)&&tH names outer Nx r f
|_,_=>false
theorem xU{names outer:List (Str×NameKind)}{Nx:List Str}:∀{N':List Str}{fr:List (Option Nat)},tH names outer Nx N' fr=true ->
 N'.length=fr.length/\∀(i:Nat)(x:Str)(j:Nat),N'[i]?=some x->fr[i]?=some (some j)->names.lookup x=some .free/\Nx[j]?=some x/\outer.lookup x=some .cell
|[],[],_=>⟨rfl,λi x j h=>by simp at h⟩
|x::r,none::f,h=>by
 obtain⟨h1,h2⟩:=xU (N':=r) (fr:=f) h;refine⟨by simp[h1],λi y j e1 e2=>?_⟩
 cases i with
 |zero=>simp at e2
 |succ i=>exact h2 i y j (by simpa using e1) (by simpa using e2)
|x::r,some k::f,h=>by
 simp only[tH,dA,beq_iff_eq]at h;obtain⟨⟨⟨a1,a2⟩,a3⟩,h⟩:=h;obtain⟨h1,h2⟩:=xU (N':=r) (fr:=f) h;refine⟨by simp[h1],λi y j e1 e2=>?_⟩
 cases i with
 |zero=>
  simp at e1 e2;subst e1;subst e2;exact⟨a1,a2,a3⟩
 |succ i=>exact h2 i y j (by simpa using e1) (by simpa using e2)
|[],_::_,h=>by simp[tH]at h
|_::_,[],h=>by simp[tH]at h
def wN(fr:List (Option Nat))(σ:St):St:=fr.map λo=>o.bind λj=>(σ[j]?).join
def OS(X:Cx)(ifs:List Expr)(tt:TT):Prop:=
 ∀(pins:List (Addr×Obj))(s:Shared)(σ:St)(H:Hp)(Q:Bool->Hp->Prop),dM X pins σ H s->tt σ H Q ->
  wpAny (model X.prog X.w) X.A (forIn ifs true λc r=>if r=true then do let ok <- isTrue c X.env (eval c X.env);pure (ForInStep.yield ok)else pure (ForInStep.yield r)) (TP X pins σ Q) X.xe s
def UV:TT:=λ_ H Q=>Q true H
theorem VT{X:Cx}:OS X [] UV:=λ_ _ _ H _ I h=>wpAny_tests_nil ⟨H,I,h⟩
theorem VS{X:Cx}{c:Expr}{tt:TT}(h:PT X c tt):OS X [c] tt:=λpins s σ H Q I q=>wpAny_tests_one (h pins s σ H Q I q)
def PY(fr:List (Option Nat))(wi:TI)(g:BP->TG)(tt:BP->TT)(te:BP->TE):TE:=λσ H Q=>wi σ H λJ H1=>∀(bp:BP)(acc:Addr),H1 acc=none->∃W:Nat->Nat->St->Hp->Prop,
 (∃m,W 0 m (wN fr σ) (gK H1 acc (.lst [])))/\∀i m σ' H',W i m σ' H' ->
  (J.stop i H'/\Q (.ref acc) H')\/(J.go i H'/\∀x H2,J.yld i H' x H2->g bp x σ' H2 λσ2 H3=>tt bp σ2 H3 λb H4=>
   if b=true then te bp σ2 H4 λy H5=>∃ys,H5 acc=some (.lst ys)/\ys.length<bU/\∃m',m'<m/\W (i+1) m' σ2 (gK H5 acc (.lst (ys++[y])))
   else∃m',m'<m/\W (i+1) m' σ2 H4)
theorem rQ:∀{names:List (Str×NameKind)},names.filter (λy=>y.2==NameKind.cell)=[]->∀(n:Nat)(acc:List (Str×Addr))(h:Heap),cellsFrom n names acc=acc/\pushCells h names=h
|[],_,_,_,_=>⟨rfl,rfl⟩
| (x,k)::r,e,n,acc,h=>by
 rw[eW]at e
 cases hk:(k==NameKind.cell)with
 |true=>dsimp only at e;rw[hk,if_pos rfl]at e;cases e
 |false=>
  dsimp only at e;rw[hk,if_neg bW]at e;unfold cellsFrom pushCells;rw[hk,if_neg bW,if_neg bW];exact rQ e n acc h
theorem xY{z:Str}:∀{names:List (Str×NameKind)},names.filter (λy=>y.2==NameKind.cell)=[(z,.cell)]->∀(n:Nat)(acc:List (Str×Addr))(h:Heap),cellsFrom n names acc=(z,n)::acc/\pushCells h names=h.push { cls:=.type "cell",data:=.cell none }
|[],e,_,_,_=>by cases e
| (x,k)::r,e,n,acc,h=>by
 rw[eW]at e
 cases hk:(k==NameKind.cell)with
 |true=>
  dsimp only at e;rw[hk,if_pos rfl]at e;injection e with e1 e2
  injection e1 with e1 _
  subst e1;unfold cellsFrom pushCells;rw[hk,if_pos rfl,if_pos rfl];exact rQ e2 (n+1) ((x,n)::acc) _
 |false=>
  dsimp only at e;rw[hk,if_neg bW]at e;unfold cellsFrom pushCells;rw[hk,if_neg bW,if_neg bW];exact xY e n acc h
def uH(names:List (Str×NameKind)):Prop:=names.filter (λy=>y.2==NameKind.cell)=[]\/∃z,names.filter (λy=>y.2==NameKind.cell)=[(z,.cell)]/\names.lookup z=some .cell
structure aH2(names:List (Str×NameKind))(cl cl':List (Str×Addr))(h:Heap)(C:Addr):Prop where
 get:∀x c,cl'.lookup x=some c->(C<c/\(x,NameKind.cell)∈names/\h.IsCell c none)\/(cl.lookup x=some c/\(x,NameKind.cell)∉names)
 old:∀x c,names.lookup x=some .free->cl.lookup x=some c->cl'.lookup x=some c
 has:∀x,(x,NameKind.cell)∈names->∃c,cl'.lookup x=some c
 keep:∀x c,cl.lookup x=some c->∃c',cl'.lookup x=some c'
 inj:∀x y c,cl'.lookup x=some c->cl'.lookup y=some c->C<c->x=y
theorem V7{M:Model}{A:Around}{E:Value->Shared->Prop}{s:Shared}{scope:Scope}{globals:Addr}{closure:List (Str×Addr)}{qual:Str}{outer:Env}{Q:Env->Shared->Prop}(hz:uH scope.names)(hlt:∀x c,closure.lookup x=some c->c<s.heap.objs.size)
  (hQ:∀h' cl',h'.Ns s.heap.objs.size (λ_=>none)->(∀b o,s.heap.get? b=some o->h'.get? b=some o)->aH2 scope.names closure cl' h' s.heap.objs.size->Q (newEnv scope s.heap.objs.size globals cl' qual none .none (some outer) builtinsNs) { s with heap:=h' }) :
  wpAny M A (newFunctionEnv scope globals closure [] qual none .none (some outer)) Q E s:=by
 simp only[newFunctionEnv,Option.isSome_some,if_true];refine aB (wpAny_alloc ?_);refine aB (wpAny_layCells _ (λname kind cells=>by cases hkc:kind==NameKind.cell<;>simp[hkc]) _ _ _ _ ?_);have mem:∀x,(x,NameKind.cell)∈scope.names->(x,NameKind.cell)∈scope.names.filter (λy=>y.2==NameKind.cell):=λx hx=>bO.mpr ⟨hx,rfl⟩;rcases hz with hz | ⟨z,hz,hzl⟩
 ·rw[(rQ hz _ _ s.heap).1,(rQ hz 0 [] _).2]
  have no:∀x,(x,NameKind.cell)∉scope.names:=λx hx=>by
   have:=mem x hx;rw[hz]at this;cases this
  exact aB (aJ (aJ (hQ _ _ (CH.new s.heap (.type "dict")) (λb o e=>aI _ e) ⟨λx c h=>.inr ⟨h,no x⟩,λx c _ h=>h,λx h=>absurd h (no x),λx c h=>⟨c,h⟩,λx y c h _ l=>absurd (hlt x c h) (tW l)⟩)))
 ·rw[(xY hz _ _ s.heap).1,(xY hz 0 [] _).2,show({ s with heap:=s.heap.push { cls:=.type "dict",data:=.dict #[] } }:Shared).heap.objs.size=s.heap.objs.size+1 from eA ..]
  have isz:∀x,(x,NameKind.cell)∈scope.names->x=z:=λx hx=>by
   have:=mem x hx;rw[hz]at this;exact congrArg Prod.fst (aW.mp this)
  have lk:∀x c,((z,s.heap.objs.size+1)::closure).lookup x=some c->(x=z/\c=s.heap.objs.size+1)\/(x≠z/\closure.lookup x=some c):=λx c h=>by
   rw[gY]at h
   cases hb:x==z with
   |true=>rw[hb]at h;cases h;exact .inl ⟨eq_of_beq hb,rfl⟩
   |false=>rw[hb]at h;exact .inr ⟨ne_of_beq_false hb,h⟩
  have lko:∀x c,x≠z->closure.lookup x=some c->((z,s.heap.objs.size+1)::closure).lookup x=some c:=λx c hx h=>by
   rw[gY,beq_eq_false_iff_ne.mpr hx];exact h
  have g:((s.heap.push { cls:=.type "dict",data:=.dict #[] }).push { cls:=.type "cell",data:=.cell none }).get? (s.heap.objs.size+1)=some { cls:=.type "cell",data:=.cell none }:=by
   have:=bB (s.heap.push { cls:=.type "dict",data:=.dict #[] }) (o:={ cls:=.type "cell",data:=.cell none }) rfl
   rwa [eA]at this
  refine aB (aJ (aJ (hQ _ _ ((CH.new s.heap (.type "dict")).keeps λb o e=>aI _ e) (λb o e=>aI _ (aI _ e)) ⟨λx c h=>?_,λx c hx h=>lko x c (λe=>by rw[e,hzl]at hx;cases hx) h,λx hx=>⟨s.heap.objs.size+1,by rw[isz x hx];simp⟩,λx c h=>?_,λx y c h1 h2 l=>?_⟩)))
  ·rcases lk x c h with⟨rfl,rfl⟩ | ⟨n,h⟩
   ·exact .inl ⟨sE _,PySem.mem_of_lookup hzl,_,g,rfl⟩
   ·exact .inr ⟨h,λhx=>n (isz x hx)⟩
  ·by_cases e:x=z
   ·exact⟨s.heap.objs.size+1,by rw[e];simp⟩
   ·exact⟨c,lko x c e h⟩
  ·rcases lk x c h1 with⟨e1,_⟩ | ⟨_,g1⟩
   ·rcases lk y c h2 with⟨e2,_⟩ | ⟨_,g2⟩
    ·exact e1.trans e2.symm
    ·exact absurd (hlt y c g2) (tW l)
   ·exact absurd (hlt x c g1) (tW l)
section
variable{X:Cx}
theorem OG{prog:bE}{w:World}{A:Around}{R:Result->Shared->Prop}{s:Shared}{elt target iter:Expr}{ifs:List Expr}{scope:Scope}{pos:Pos}{it acc:Value}{env:Env}(I:Nat->Shared->Prop)
  (turn:∀n s,I n s->wpAny (model prog w) A (pyNext it) (λr s₁=>match r with
   |none=>R (.ok .next) s₁
   |some v=>wpAny (model prog w) A (letOwnedTupleGo target it v) (λ_ s1=>wpAny (model prog w) A (assign target env v) (λ_ s₂=>
     wpAny (model prog w) A (forIn ifs true λc r=>if r=true then do let ok <- isTrue c env (eval c env);pure (ForInStep.yield ok)else pure (ForInStep.yield r)) (λok s₃=>
      if ok=true then wpAny (model prog w) A (eval elt env) (λx s₄=>wpAny (model prog w) A (call (.builtin "list.append") [acc,x]) (λ_ s₅=>∃m,m<n/\I m s₅) (λ_ _=>False) s₄) (λ_ _=>False) s₃
      else∃m,m<n/\I m s₃) (λ_ _=>False) s₂) (λ_ _=>False) s1) (λ_ _=>False) s₁) (λ_ _=>False) s)
  (n:Nat) (h:I n s):codeAny (model prog w) A (.compLoop (.ListComp elt [⟨target,iter,ifs,0⟩] scope pos) 0 it acc env) R s:=by
 refine codeAny_loop rfl I (λn s hI=>?_) n h;show wpAny _ A ((compTurn (.ListComp elt [⟨target,iter,ifs,0⟩] scope pos) 0 it acc env).onRaise (λx=>do noteFrame x env;theTreesLotGoes x)) _ _ s;refine wpAny_noted ?_;rw[compTurn_list];have no:∀{E:Value->Shared->Prop}(e:Value)(s:Shared),False->E e s:=λ_ _ z=>z.elim;refine aB (wpAny_standAt (aB (dW (turn n s hI) (λr s₁ h₁=>?_) no)))
 cases r with
 |none=>exact aJ h₁
 |some v=>
  refine aB (dW h₁ (λ_ s1 h1=>aB (dW h1 (λ_ s₂ h₂=>aB (dW h₂ (λok s₃ h₃=>?_) no)) no)) no)
  cases ok with
  |false=>exact aJ ⟨rfl,h₃⟩
  |true=>exact aB (aB (dW h₃ (λx s₄ h₄=>aB (dW h₄ (λ_ s₅ h₅=>aJ (aJ ⟨rfl,h₅⟩)) no)) no))
variable{elt iter tg:Expr}{ifs:List Expr}{scope:Scope}{pos:Pos}{N':List Str}{fr:List (Option Nat)}{wi:TI}{g:BP->TG}{tt:BP->TT}{te:BP->TE}
theorem GV{pins:List (Addr×Obj)}{σ:St}{H2:Hp}{s2:Shared}{it:Addr}{fp:List Addr}{tn:Nat->Heap->Prop}{J:It}{Q:VK}{RR:Value->Addr->Result->Shared->Prop}{cl:List (Str×Addr)}{E:Value->Shared->Prop}
  (hcalm:X.calm=true) (hkind:scope.kind=.function) (hz:uH scope.names) (hfr:tH scope.names X.env.scope.names X.N N' fr=true)
  (hcl1:∀n c,cl.lookup n=some c->X.env.cells.lookup n=some c) (hcl2:∀n,(n,NameKind.free)∈scope.names->∃c,cl.lookup n=some c)
  (hY:∀b:BP,PG (blk X scope N' b) tg (g b)/\OS (blk X scope N' b) ifs (tt b)/\PE (blk X scope N' b) elt (te b))
  (I2:dM X pins σ H2 s2) (T:BS X.prog X.w X.K tg J fp it tn) (st2:tn 0 s2.heap) (f2:∀b∈fp,zF X pins H2 b)
  (q:∀(bp:BP)(acc:Addr),H2 acc=none->∃W:Nat->Nat->St->Hp->Prop,(∃m,W 0 m (wN fr σ) (gK H2 acc (.lst [])))/\∀i m σ' H',W i m σ' H' ->
   (J.stop i H'/\Q (.ref acc) H')\/(J.go i H'/\∀x H2,J.yld i H' x H2->g bp x σ' H2 λσ2 H3=>tt bp σ2 H3 λb H4=>
    if b=true then te bp σ2 H4 λy H5=>∃ys,H5 acc=some (.lst ys)/\ys.length<bU/\∃m',m'<m/\W (i+1) m' σ2 (gK H5 acc (.lst (ys++[y])))
    else∃m',m'<m/\W (i+1) m' σ2 H4))
  (hRR:∀acc C s' HY m,dM X pins σ HY s'->zF X pins HY C->s'.heap.Ns C m->Q (.ref acc) HY->RR (.ref acc) C (.ok .next) s') :
  wpAny (model X.prog X.w) X.A (newList []) (λacc s₃=>wpAny (model X.prog X.w) X.A (newFunctionEnv scope X.env.globals cl [] X.env.qual none .none (some X.env)) (λcenv s₄=>
   codeAny (model X.prog X.w) X.A (.compStart (.ListComp elt [⟨tg,iter,ifs,0⟩] scope pos) 0 (.ref it) acc { cenv with scope:=relabel scope X.env }) (RR acc cenv.locals) s₄) E s₃) E s2:=by
 obtain⟨hfl,hfg⟩:=xU hfr;have hacc:H2 s2.heap.objs.size=none:=I2.hok.fresh (aN _);refine eH ?_ (by show 0<=bU;exact dS _)
 generalize hs3:({ s2 with heap:=s2.heap.push { cls:=.type "list",dict:=none,data:=.seq ([]:List Value).toArray } }:Shared)=s3
 have I3:dM X pins σ (gK H2 s2.heap.objs.size (.lst [])) s3:=by
  rw[<- hs3];exact I2.laid (t':=s2.toks) (λb u e=>aI _ e) (aN _) ⟨dS _,[],0,.nil,bB _ rfl⟩
 have hfp:∀b∈fp,b<s3.heap.objs.size:=λb hb=>by
  obtain⟨o,e,_⟩:=T.obj 0 _ st2 b hb;rw[<- hs3];exact bC (aI _ e)
 have st3:tn 0 s3.heap:=T.keep 0 _ _ st2 λb _ o e=>by rw[<- hs3];exact aI _ e
 have f3:∀b∈fp,zF X pins (gK H2 s2.heap.objs.size (.lst [])) b:=λb hb=>⟨by
  obtain⟨o,e,_⟩:=T.obj 0 _ st2 b hb;rw[cJ (bP (bC e))];exact(f2 b hb).1,(f2 b hb).2⟩
 refine V7 hz (λx c e=>by obtain⟨v,o,ho,_⟩:=I3.cell x c (hcl1 x c e);exact bC ho) λh₁ cl' hns keep hnw=>?_
 generalize hH3:gK H2 s2.heap.objs.size (.lst [])=H3 at *
 generalize hac:s2.heap.objs.size=ac at *
 generalize hC:s3.heap.objs.size=C at *
 obtain⟨W,⟨m0,w0⟩,turn⟩:=q ⟨cl',C,s3,H3,fp,X.pn++pins⟩ ac hacc;rw[hH3]at w0
 have cellLt:∀x c,X.env.cells.lookup x=some c->c<C:=λx c e=>by
  obtain⟨v,o,ho,_⟩:=I3.cell x c e;rw[<- hC];exact bC ho
 have hCfp:∀b∈fp,b≠C:=λb hb=>by exact bP (hfp b hb)
 have hCl:X.env.locals<C:=by rw[<- hC];exact I3.lt
 have hstk:∀b∈pL X.stack,b≠C/\H3 b=none:=λb hb=>⟨by
  rintro rfl;rcases aY.mp (I3.stkSub b hb)with z | z
  ·rw[z]at hCl;exact absurd hCl (fX _)
  ·exact I3.nofs (by rw[hC];exact aN _) z,I3.stkFree b hb⟩
 have cellNe:∀x c,X.env.cells.lookup x=some c->c≠C:=λx c e z=>by
  obtain⟨v,o,ho,_⟩:=I3.cell x c e;have:=bC ho;rw[z,hC]at this;exact absurd this (fX _)
 -- the block's context
 have okY:(blk X scope N' ⟨cl',C,s3,H3,fp,X.pn++pins⟩).Ok:=by
  refine⟨I3.ok.mod,hkind,I3.ok.glob,I3.ok.blt,nP hC,λx y c h1 h2=>by
   rcases hnw.get x c h1 with⟨l1,_⟩ | ⟨g1,_⟩<;>rcases hnw.get y c h2 with⟨l2,_⟩ | ⟨g2,_⟩
   ·exact hnw.inj x y c h1 h2 l1
   ·exact absurd (cellLt y _ (hcl1 y _ g2)) (tW l1)
   ·exact absurd (cellLt x _ (hcl1 x _ g1)) (tW l2)
   ·exact I3.ok.inj x y c (hcl1 x c g1) (hcl1 y c g2),λx hx=>?_,λx c hf h=>by
   rcases hnw.get x c h with⟨l,_⟩ | ⟨_,n⟩
   ·exact cP (nP hC) (mB l)
   ·exact absurd (PySem.mem_of_lookup (beq_iff_eq.mp hf)) n,λ_=>I3.ok.hd hcalm,I3.ok.frames,.inl rfl,
   λb hb=>⟨hCfp b hb,λx c h=>by
    rcases hnw.get x c h with⟨l,_⟩ | ⟨h,_⟩
    ·exact eZ (KM (hfp b hb) l)
    ·exact(f3 b hb).2.2.2.2.1 x c (hcl1 x c h)⟩,λb o e=>I3.bs b o e,?_,λb o e hb=>?_,λb hb hs=>?_,I3.stack,λb hb=>(hstk b hb).2,I3.env0.tab⟩
  ·have back:∀k,(relabel scope X.env).names.lookup x=some k->(k=.cell\/k=.free)->∃c,(cl').lookup x=some c:=λk h hk=>by
    obtain⟨k0,h1,h2⟩:=rF h;rcases(show k0=.cell\/k0=.free from h2.elim (λe=>by rw[e];exact hk) λe=>.inr e.1)with rfl | rfl
    ·exact hnw.has x h1
    ·obtain⟨c,hc⟩:=hcl2 x h1;exact hnw.keep x c hc
   rcases hx with hx | hx
   ·exact back _ hx (.inl rfl)
   ·exact back _ hx (.inr rfl)
  ·exact cP I3.ok.bsz (cP I3.sz (aN _))
  ·rcases(f3 b hb).2.2.2.1 with z | z
   ·exact I3.ok.noex b o e z
   ·exact absurd (cK (bC (I3.ok.bs b o e).1) z) (fX _)
  ·rcases aY.mp (I3.stkSub b hs)with z | z
   ·exact(f3 b hb).2.1 z
   ·exact(f3 b hb).2.2.1 z
 have hH3C:H3 C=none:=I3.hok.fresh (nP hC)
 have IY:dM (blk X scope N' ⟨cl',C,s3,H3,fp,X.pn++pins⟩) [] (wN fr σ) H3 { s3 with heap:=h₁ }:=by
  refine⟨okY,rfl,I3.bare,Un.kept keep,⟨_,hns,λi x v h1 h2 _=>?_⟩,λx c e=>?_,hH3C,λx c e=>(by
   rcases hnw.get x c e with⟨l,_⟩ | ⟨e,_⟩
   ·exact I3.hok.fresh (by rw[hC];exact mB l)
   ·exact I3.freeC x c (hcl1 x c e)),λp hp=>?_,I3.hok.kept keep,?_⟩
  ·have e:∃j,fr[i]?=some (some j)/\σ[j]?=some (some v):=by
    unfold wN at h2;rw[aH]at h2
    cases hf:fr[i]? with
    |none=>rw[hf]at h2;cases h2
    |some o=>
     rw[hf]at h2
     cases o with
     |none=>cases h2
     |some j=>
      refine⟨j,rfl,?_⟩;have h2':(σ[j]?).join=some v:=by simpa using h2
      cases hj:σ[j]? with
      |none=>rw[hj]at h2';cases h2'
      |some o=>rw[hj]at h2';rw[show o=some v from h2']
   obtain⟨j,e1,e2⟩:=e;obtain⟨a1,a2,a3⟩:=hfg i x j h1 e1;obtain⟨m,hn,hl⟩:=I3.loc;obtain⟨u,r,l⟩:=hl j x v a2 e2 (.inr (.inl a3));refine⟨u,r,.inr ⟨wJ a1,?_⟩⟩;rcases l with⟨k,_⟩ | ⟨_,c,hc,o,ho,hd⟩
   ·have k':X.env.scope.names.lookup x=some .local:=k;rw[a3]at k';cases k'
   ·obtain⟨c',hc'⟩:=hcl2 x (PySem.mem_of_lookup a1);have z:=hcl1 x c' hc';rw[hc]at z;cases z;exact⟨c,hnw.old x c a1 hc',o,keep c o ho,hd⟩
  ·rcases hnw.get x c e with⟨_,_,hnc⟩ | ⟨e,_⟩
   ·exact⟨none,hnc⟩
   ·obtain⟨v,o,ho,hd⟩:=I3.cell x c (hcl1 x c e);exact⟨v,o,keep c o ho,hd⟩
  ·obtain⟨e,n,ne,nf,d⟩:=I3.pin p (by have hp':p∈(X.pn++pins)++[]:=hp;simpa using hp');refine⟨keep _ _ e,n,?_,λz=>?_,d⟩
   ·have:=bC e;rw[hC]at this;exact bP this
   ·rcases aY.mp (I3.stkSub p.1 z)with z | z
    ·exact ne z
    ·exact nf z
  ·unfold wN;rw[aE];exact hfl.symm
 have stat:∀{H':Hp},(∀b∈fp,H' b=none)->∀b∈fp,zF (blk X scope N' ⟨cl',C,s3,H3,fp,X.pn++pins⟩) [] H' b:=λ{H'} hn b hb=>
  ⟨hn b hb,hCfp b hb,λz=>by
   rcases aY.mp (I3.stkSub b z)with z | z
   ·exact(f3 b hb).2.1 z
   ·exact(f3 b hb).2.2.1 z,  .inl hb,λx c e=>(by
   rcases hnw.get x c e with⟨l,_⟩ | ⟨e,_⟩
   ·exact eZ (KM (hfp b hb) l)
   ·exact(f3 b hb).2.2.2.2.1 x c (hcl1 x c e)),λp hp=>(f3 b hb).2.2.2.2.2 p (by have hp':p∈(X.pn++pins)++[]:=hp;simpa using hp')⟩
 obtain⟨hg,ht,he⟩:=hY ⟨cl',C,s3,H3,fp,X.pn++pins⟩
 have loop:codeAny (model X.prog X.w) X.A (.compLoop (.ListComp elt [⟨tg,iter,ifs,0⟩] scope pos) 0 (.ref it) (.ref ac) (compEnvC scope cl' C X.env)) (RR (.ref ac) C) { s3 with heap:=h₁ }:=by
  refine OG (λn s'=>∃i σ' H',dM (blk X scope N' ⟨cl',C,s3,H3,fp,X.pn++pins⟩) [] σ' H' s'/\tn i s'.heap/\(∀b∈fp,H' b=none)/\W i n σ' H') ?_ m0
   ⟨0,wN fr σ,H3,IY,T.keep 0 _ _ st3 λb _ o e=>keep b o e,λb hb=>(f3 b hb).1,w0⟩
  rintro n s4 ⟨i,σ4,H4,I4,st4,fr4,w4⟩;rcases turn i n σ4 H4 w4 with⟨stop,qn⟩ | ⟨go,step⟩
  ·refine kJ (T.done (blk X scope N' ⟨cl',C,s3,H3,fp,X.pn++pins⟩) rfl rfl rfl hcalm i [] s4 σ4 H4 _ I4 (stat fr4) st4 stop) λr s5 ⟨hr,I5⟩=>?_;subst hr;obtain⟨m,hn,_⟩:=I5.loc;have IX:dM X pins σ H4 s5:=I3.call' I5.os I5.base I5.hok I5.bare λb hb=>⟨(f3 b hb).2.2.2.1,(f3 b hb).2.1,(f3 b hb).2.2.2.2.1,(f3 b hb).2.2.2.2.2⟩;exact hRR ac C s5 H4 m IX (I3.fpOk (nP hC) I5.free) hn qn
  ·refine kJ (T.item (blk X scope N' ⟨cl',C,s3,H3,fp,X.pn++pins⟩) rfl rfl rfl hcalm i [] s4 σ4 H4 (λ_ _=>False) I4 (stat fr4) st4 go) λr s5 ⟨u,hr,h5⟩=>?_;subst hr;refine kJ h5 λ_ s6 ⟨x,H6,I6,r6,y6,st6,fr6⟩=>?_;have I6':=I6.pinned (stat fr6) (T.obj _ _ st6);refine kJ (hg _ s6 σ4 H6 x u _ I6' r6 (step x H6 y6)) λ_ s7 ⟨σ7,H7,I7,q7⟩=>?_;refine kJ (ht _ s7 σ7 H7 _ I7 q7) λok s8 ⟨H8,I8,q8⟩=>?_
   have again:∀{s9:Shared}{σ9:St}{H9:Hp}{m':Nat},dM (blk X scope N' ⟨cl',C,s3,H3,fp,X.pn++pins⟩) ([]++AN fp s6.heap) σ9 H9 s9->m'<n->W (i+1) m' σ9 H9 ->
     ∃m,m<n/\∃i σ' H',dM (blk X scope N' ⟨cl',C,s3,H3,fp,X.pn++pins⟩) [] σ' H' s9/\tn i s9.heap/\(∀b∈fp,H' b=none)/\W i m σ' H':=λ{s9 σ9 H9 m'} I9 hm w9=>by
    refine⟨m',hm,i+1,σ9,H9,I9.unpinned,T.keep _ _ _ st6 λb hb o e=>(I9.pin (b,o) (fE _ (fE _ (rK hb e)))).1,λb hb=>?_,w9⟩;obtain⟨o,e,d⟩:=T.obj _ _ st6 b hb;exact(I9.pin (b,o) (fE _ (fE _ (rK hb e)))).2.1
   cases ok with
   |false=>
    obtain⟨m',hm,w8⟩:=q8;exact again I8 hm w8
   |true=>
    refine kJ (he _ s8 σ7 H8 _ I8 q8) λy s9 ⟨yv,H9,I9,r9,ys,hys,hz,m',hm,w9⟩=>?_;refine kJ (nM (X:=blk X scope N' ⟨cl',C,s3,H3,fp,X.pn++pins⟩) _ s9 σ7 H9 (.ref ac) [yv] (.ref ac) [y] (λ_ H'=>H'=gK H9 ac (.lst (ys++[yv]))) I9 rfl (.cons r9 .nil) ⟨ac,ys,yv,rfl,rfl,hys,hz,rfl⟩) λ_ s10 ⟨_,H10,I10,_,e10⟩=>?_;subst e10;exact again I10 hm w9
 exact codeAny_compStart_list loop (T.self _ 0 _ _ _ (T.keep 0 _ _ st3 λb _ o e=>keep b o e) loop)
theorem aDt(hcalm:X.calm=true)(hkind:scope.kind=.function)(hz:uH scope.names)(hfr:tH scope.names X.env.scope.names X.N N' fr=true)
  (hfree:∀y∈scope.names,y.2=.free->X.env.scope.names.lookup y.1=some .cell) (hnames:∀x∈scope.names,x.2=.local->scope.names.lookup x.1=some .local) (hi:PI X tg iter wi)
  (hY:∀b:BP,PG (blk X scope N' b) tg (g b)/\OS (blk X scope N' b) ifs (tt b)/\PE (blk X scope N' b) elt (te b))
  (hs:∀x,foldedSetIterable iter X.env x=pure x:=by intro _;rfl):PE X (.ListComp elt [⟨tg,iter,ifs,0⟩] scope pos) (PY fr wi g tt te):=by
 intro pins s σ H Q I h;obtain⟨cl,hclos,hcl1,hcl2⟩:=BL (env:=X.env) (scope:=scope) λy hy hk=>I.ok.has y.1 (.inl (hfree y hy hk));rw[eval_ListComp];refine wpAny_comprehension_free (use:=none) rfl hs hclos hkind hnames (kJ (hi pins s σ H _ I h) λv s1 h1=>kJ h1 λitv s2 h2=>?_);obtain⟨it,fp,tn,J,H2,rfl,I2,T,st2,f2,q⟩:=h2;refine GV (RR:=λacc C=>compPost (model X.prog X.w) X.A X.xe none (EP X pins σ Q) acc C) hcalm hkind hz hfr hcl1 hcl2 hY I2 T st2 f2 q λacc C s' HY m I' f' hn q'=>?_;exact⟨m,hn,λh' sb=>⟨.ref acc,HY,I'.turned (t':=s'.toks) (λb o hb e=>(sb.2 b hb).trans e) f'.1 f'.2.1 f'.2.2.2.1 f'.2.2.2.2.1 f'.2.2.2.2.2,rfl,q'⟩⟩
theorem Q1{i:Nat}{x:Str}{px spos:Pos}(hN:X.N.Nodup)(hix:X.N[i]?=some x)(hx:MH X.env.scope x)(hcalm:X.calm=true)(hkind:scope.kind=.function)(hz:uH scope.names)(hfr:tH scope.names X.env.scope.names X.N N' fr=true)
  (hfree:∀y∈scope.names,y.2=.free->X.env.scope.names.lookup y.1=some .cell) (hnames:∀x∈scope.names,x.2=.local->scope.names.lookup x.1=some .local) (hi:PI X tg iter wi)
  (hY:∀b:BP,PG (blk X scope N' b) tg (g b)/\OS (blk X scope N' b) ifs (tt b)/\PE (blk X scope N' b) elt (te b))
  (hsw:lA (.ListComp elt [⟨tg,iter,ifs,0⟩] scope pos) (some (.Name x px)) spos.line X.env=pure true)
  (hs:∀x,foldedSetIterable iter X.env x=pure x:=by intro _;rfl) (hf:X.fn x=true\/X.env.scope.names.lookup x=some .local:=by first | exact .inl rfl | exact .inr rfl | assumption) :
  PS X (.Assign [.Name x px] (.ListComp elt [⟨tg,iter,ifs,0⟩] scope pos) spos) (vZ (PY fr wi g tt te) (nF i)):=by
 intro pins s σ H D I h;obtain⟨cl,hclos,hcl1,hcl2⟩:=BL (env:=X.env) (scope:=scope) λy hy hk=>I.ok.has y.1 (.inl (hfree y hy hk));rw[exec_Assign_Name_used _ _ _ _ hsw];refine aB (wpAny_standAt (aB ?_));show wpAny _ _ (do let _ <- comprehension (.ListComp elt [⟨tg,iter,ifs,0⟩] scope pos) scope X.env _ (newList []) false (eval iter X.env) (some (assign (.Name x px) X.env))) _ _ s
 refine aB (dW (wpAny_comprehension_free (use:=some (assign (.Name x px) X.env)) (Q:=λ_ s'=>SP X pins D .next s') rfl hs hclos hkind hnames
  (kJ (hi pins s σ H _ I h) λv s1 h1=>kJ h1 λitv s2 h2=>?_)) (λ_ s' hq=>aJ (aJ hq)) λ_ _ e=>e)
 obtain⟨it,fp,tn,J,H2,rfl,I2,T,st2,f2,q⟩:=h2;refine GV (RR:=λacc C=>compPost (model X.prog X.w) X.A X.xe (some (assign (.Name x px) X.env)) (λ_ s'=>SP X pins D .next s') acc C) (Q:=λx H1=>nF i x σ H1 D.nx) hcalm hkind hz hfr hcl1 hcl2 hY I2 T st2 f2 q λacc C s' HY m I' f' hn q'=>?_;show wpAny _ _ (assign (.Name x px) X.env (.ref acc)) _ _ _;refine wpAny_assign_Name (CK I' hN hix hx (v:=.ref acc) rfl (λs2' I2' hch=>?_) hf);obtain⟨a,sb,ha⟩:=hch
 have hCa:C≠a:=by
  rcases ha with z | z
  ·rw[z];exact f'.2.1
  ·exactλe=>f'.2.2.2.2.1 x a z e.symm
 exact⟨m,hn.sameBut sb hCa,λh' sb'=>⟨_,HY,I2'.turned (t':=s2'.toks) (λb o hb e=>(sb'.2 b hb).trans e) f'.1 f'.2.1 f'.2.2.2.1 f'.2.2.2.2.1 f'.2.2.2.2.2,q'⟩⟩
end
end L2
namespace L2
open PySem PySem.Spec PyProof.Rows
section
variable{prog:bE}{w:World}{A:Around}{E:Value->Shared->Prop}{h:Heap}{g:Array GenState}{d:Drawn}{t:Nat}{os:OsState}{a C:Addr}{ox:Obj}{od:Option Obj}{K:aG}
structure yC(K:aG)(C:Addr):Prop where
 ga:fD K (.ref C) "__getattribute__"=some (some (.builtin "BaseException.__getattribute__"))
 gt:fD K (.ref C) "__getattr__"=some none
 cl:fD K (.ref C) "__class__"=some (some (.builtin "object.__class__"))
 ob:bF K C (.type "object")=some true
 be:bF K C (.type "BaseException")=some true
def UI(K:aG)(C:Addr):Prop:=yC K C/\∀T∈["int","str","list","tuple","bool"],cT K (.ref C) (.type T)=some false
theorem DA{M:Model}{nameV:Value}{Q:Unit->Shared->Prop}(X:K.In h)(c:yC K C)(I:iA h a ox C od)(hq:Q () ⟨h,g,d,t,os⟩):wpAny M A (checkBuiltinCall "BaseException.__getattribute__" ⟨[.ref a,nameV],[]⟩) Q E ⟨h,g,d,t,os⟩:=by
 have hk:builtinKind "BaseException.__getattribute__"=some .slot:=by decide +kernel
 have hsplit:splitId "BaseException.__getattribute__"=some ("BaseException","__getattribute__"):=by decide +kernel
 have ha:=F.args_bexc_ga (.ref a) nameV;have L0:=I.type (M:=M);have L1:=IG (M:=M) X c.be;simp only[checkBuiltinCall,hk,hsplit];refine aB ?_;unfold isInstance;refine aB (L0.at (L1.at ?_))
 repeat (first | exact hq | wp_step)
theorem E5{tk:Tok}{Q:Fin->Shared->Prop}(X:K.In h)(c:yC K C)(I:iA h a ox C od)(hq:Q (.done (.ret (.ref C))) ⟨h,g,d,t,os⟩) :
  wpAny (model prog w) A (Builtin.«object.__getattribute__» ⟨[.ref a,.str "__class__" tk],[]⟩) Q E ⟨h,g,d,t,os⟩:=by
 have hT5:(⟨h,g,d,t,os⟩:Shared).TypeIs (.builtin "object.__class__") "getset_descriptor":=F.typeOf_object_class;have f5:=F.typeOf_object_class;have f6:=F.slot_gs_get.lookup;have f7:=F.slot_gs_set.lookup;have L0:=I.type (M:=model prog w);have L1:=jQ (M:=model prog w) X c.cl
 repeat (any_goals (first | assumption | with_reducible refine L0.at ?_ | with_reducible refine L1.at ?_ | wp_step))
 refine PySem.W.class_get (s:=⟨h,g,d,t,os⟩) X I c.ob ?_
 repeat (any_goals (first | assumption | wp_step))
theorem HH{tk:Tok}{R:Result->Shared->Prop}(X:K.In h)(c:yC K C)(I:iA h a ox C od)(hq:R (.ok (.ret (.ref C))) ⟨h,g,d,t,os⟩) :
  codeAny (model prog w) A (.call (.builtin "BaseException.__getattribute__") ⟨[.ref a,.str "__class__" tk],[]⟩) R ⟨h,g,d,t,os⟩:=
 codeAny_call_builtin F.excAttr_ValueError.ga.plain F.entry_bexc_ga (DA X c I (E5 X c I hq))
theorem OH{tk:Tok}{Q:Value->Shared->Prop}(X:K.In h)(c:yC K C)(I:iA h a ox C od)(hq:Q (.ref C) ⟨h,g,d,t,os⟩):wpAny (model prog w) A (getAttrBy (.ref a) (.str "__class__" tk) false) Q E ⟨h,g,d,t,os⟩:=by
 have f3:=F.excAttr_ValueError.ga.bind (.ref a);have hx2:(Value.builtin "BaseException.__getattribute__"==Value.builtin "object.__getattribute__")=false:=by decide +kernel
 have hx1:(onTheHeap (Value.ref C)&&Value.builtin "BaseException.__getattribute__"==Value.builtin "object.__getattribute__")=false:=by rw[hx2];rfl
 have L0:=I.type (M:=model prog w);have L1:=jQ (M:=model prog w) X c.ga;have L2':=jQ (M:=model prog w) X c.gt
 repeat (any_goals (first | assumption | with_reducible refine L0.at ?_ | with_reducible refine L1.at ?_ | with_reducible refine L2'.at ?_ | wp_step))
 refine HH X c I ?_
 repeat (any_goals (first | assumption | wp_step))
theorem HI{Q:Option Value->Shared->Prop}(X:K.In h)(c:yC K C)(I:iA h a ox C od)(hq:Q (some (.ref C)) ⟨h,g,d,t+1,os⟩):wpAny (model prog w) A (getAttr? (.ref a) "__class__") Q E ⟨h,g,d,t,os⟩:=by
 unfold getAttr? getAttrBy?
 repeat (any_goals (first | assumption | with_reducible apply OH X c I | wp_step))
theorem GX(c:yC K C):PySem.W.KitX K (.ref a) (.ref C) (λh=>∃ox od,iA h a ox C od) where
 ty:=λ_ _ _ ⟨_,_,I⟩=>I.type
 it:=λ_ _ X _=>by
  obtain⟨cd,hc,_⟩:=FN.mp c.ob;unfold fG at hc;split at hc
  ·rename_i c' d' cd' sl' ho;intro A' Q' E' s' k q;unfold isType loadHead;exact aB (wpAny_loadPart (k _ _ (X _ _ ho)) (aJ q))
  ·cases hc
 ne:=λh tp dd its n sl X htp=>by
  obtain⟨cd,hc,_⟩:=FN.mp c.ob;refine Bool.eq_false_iff.mpr λq=>?_;have e:C=tp:=Value.ref.inj (beq_iff_eq.mp q);subst e;unfold fG at hc;split at hc
  ·rename_i c' d' cd' sl' ho;have z:=(X _ _ ho).symm.trans htp;cases z
  ·cases hc
 ca:=λ{_ _ _ _ _ s} X ⟨_,_,I⟩ k=>by
  obtain⟨hh,g,d,t,os⟩:=s;exact HI X c I k
end
end L2
namespace TL
open PySem PySem.Spec PyProof.Rows L2
abbrev D:=PySem.PyData
def aA0(p:Addr)(h:Heap):Prop:=∃(its:List Value)(n:Nat),h.get? p=some { cls:=.type "list",data:=.seq its.toArray n }/\its.length<=1000/\∀v∈its,∃(i:Int)(t:Tok),v=.int i t/\0<=i/\i<4096
def lY(p C:Addr)(dx:Option Addr)(h:Heap):Prop:=∃o vs,h.get? p=some o/\o.cls=.ref C/\o.dict=dx/\o.data=.fields vs
def rC(p q:Addr)(h:Heap):Prop:=∃(a b c:Int)(ta tb tc:Tok)(n:Nat),h.get? p=some { cls:=.type "list",data:=.seq [Value.ref q,.int a ta,.int b tb,.int c tc].toArray n }/\0<=a/\(c=0\/c=1)
def KJ(e:Int×Addr×V)(x:DictEntry):Prop:=x.hash=e.1/\x.key=.ref e.2.1/\iO e.2.2 x.val
def MJ(p:Addr)(es:List (Int×Addr×V))(h:Heap):Prop:=(p==sysModules)=false/\es.length<=bU/\∃o xs ep,h.get? p=some o/\o.ExactDict/\o.data=.dict xs ep/\Paired KJ es xs.toList
def xX(p:Addr)(es:List (Int×Addr×V)):HO:=.ext (MJ p es)
def aCf(p:Addr)(es:List (Int×Addr×V))(ep:Nat)(h:Heap):Prop:=(p==sysModules)=false/\es.length<=bU/\∃o xs,h.get? p=some o/\o.ExactDict/\o.data=.dict xs ep/\Paired KJ es xs.toList
def zA(p:Addr)(es:List (Int×Addr×V))(ep:Nat):HO:=.ext (aCf p es ep)
def WX(hs:List Int)(kvs:List (D×D)):D:=.dict ((.str "{}",.list (hs.map bS))::kvs)
mutual
inductive jF(K:aG)(H:Hp):D->V->Prop
|none:jF K H .none .non
|bool (b:Bool):jF K H (.bool b) (.bl b)
|int (i:Int):jF K H (.int i) (.int i)
|str (x:Str):jF K H (.str x) (.str x)
|list {p:Addr} {xs:List V} {ts:List D}:oM K H p xs->Reps K H ts xs->jF K H (.list ts) (.ref p)
|tuple {p:Addr} {xs:List V} {ts:List D}:qE K H p xs->Reps K H ts xs->jF K H (.tuple ts) (.ref p)
|wild {p:Addr}:H p=some (.ext (aA0 p))->jF K H (.dict []) (.ref p)
|exc {p C:Addr}:UI K C->H p=some (.ext (lY p C Option.none))->jF K H (.dict [(.int (C:Nat),.none)]) (.ref p)
|excA {p C dx:Addr} {n:Int}:UI K C->H p=some (.ext (lY p C (some dx)))->H dx=some (.xd [("at",.int n)])->jF K H (.dict [(.int (C:Nat),.int n)]) (.ref p)
|excD {p C dx:Addr} {v:V} {cs:List D}:UI K C->H p=some (.ext (lY p C (some dx)))->H dx=some (.xd [("case",v)])->jF K H (.tuple cs) v->jF K H (.dict [(.int (C:Nat),.tuple cs)]) (.ref p)
|tape {p q:Addr} {ns:List Int}:H p=some (.ext (rC p q))->oM K H q (ns.map V.int)->jF K H (.dict [(.none,.list (ns.map bS))]) (.ref p)
|dct {p:Addr} {es:List (Int×Addr×V)} {ep:Nat} {kvs:List (D×D)}:H p=some (zA p es ep)->(kvs.map (·.1)).Nodup->Reps K H (kvs.map (·.1)) (es.map λe=>.ref e.2.1)->Reps K H (kvs.map (·.2)) (es.map λe=>e.2.2)->jF K H (.dict ((.str "{}",.list ((es.map (·.1)).map bS))::kvs)) (.ref p)
|addr {p:Addr} (z:List D):jF K H (.dict [(.str "@",.list (.int (p:Nat)::z))]) (.ref p)
|ins {p C dx:Addr} {fs:List (Str×V)} {ds:List D}:H p=some (.ins C dx fs)->Reps K H ds (fs.map (·.2))->jF K H (.dict [(.str "obj",.tuple [.int (C:Nat),.list ((fs.map (·.1)).map aV),.list ds])]) (.ref p)
inductive Reps(K:aG)(H:Hp):List D->List V->Prop
|nil:Reps K H [] []
|cons {t:D} {ts:List D} {x:V} {xs:List V}:jF K H t x->Reps K H ts xs->Reps K H (t::ts) (x::xs)
end
variable{K:aG}{H H' H1 H2:Hp}
theorem bL.seqT{a:Addr}{xs:List V}(e:bL H H')(h:qE K H a xs):qE K H' a xs:=by
 rcases h with(h | ⟨o,h⟩) | h
 ·exact .inl (.inl (e _ _ h))
 ·exact .inl (.inr ⟨o,e _ _ h⟩)
 ·exact .inr h
mutual
theorem jF.same(e:bL H H'):∀{d:D}{v:V},jF K H d v->jF K H' d v
|_,_,.none=>.none
|_,_,.bool b=>.bool b
|_,_,.int i=>.int i
|_,_,.str x=>.str x
|_,_,.list q r=>.list (L2.bL.seq e q) (Reps.same e r)
|_,_,.tuple q r=>.tuple (bL.seqT e q) (Reps.same e r)
|_,_,.wild h=>.wild (e _ _ h)
|_,_,.exc x h=>.exc x (e _ _ h)
|_,_,.excA x h g=>.excA x (e _ _ h) (e _ _ g)
|_,_,.excD x h g r=>.excD x (e _ _ h) (e _ _ g) (jF.same e r)
|_,_,.tape h g=>.tape (e _ _ h) (L2.bL.seq e g)
|_,_,.dct h n r t=>.dct (e _ _ h) n (Reps.same e r) (Reps.same e t)
|_,_,.addr z=>.addr z
|_,_,.ins h r=>.ins (e _ _ h) (Reps.same e r)
theorem Reps.same(e:bL H H'):∀{ds:List D}{vs:List V},Reps K H ds vs->Reps K H' ds vs
|_,_,.nil=>.nil
|_,_,.cons r s=>.cons (jF.same e r) (Reps.same e s)
end
theorem Reps.length:∀{ds:List D}{vs:List V},Reps K H ds vs->ds.length=vs.length
|_,_,.nil=>rfl
|_,_,.cons _ s=>by simp[Reps.length s]
theorem Reps.get:∀{ds:List D}{vs:List V}{i:Nat}{d:D},Reps K H ds vs->ds[i]?=some d->∃v,vs[i]?=some v/\jF K H d v
|_,_,_,_,.nil,e=>by simp at e
|_,_,0,_,.cons r _,e=>by simp at e;subst e;exact⟨_,rfl,r⟩
|_,_,i+1,d,.cons _ s,e=>by
 obtain⟨v,h1,h2⟩:=Reps.get (i:=i) (d:=d) s (by simpa using e);exact⟨v,by simpa using h1,h2⟩
theorem Reps.get':∀{ds:List D}{vs:List V}{i:Nat}{v:V},Reps K H ds vs->vs[i]?=some v->∃d,ds[i]?=some d/\jF K H d v
|_,_,_,_,.nil,e=>by simp at e
|_,_,0,_,.cons r _,e=>by simp at e;subst e;exact⟨_,rfl,r⟩
|_,_,i+1,d,.cons _ s,e=>by
 obtain⟨v,h1,h2⟩:=Reps.get' (i:=i) (v:=d) s (by simpa using e);exact⟨v,by simpa using h1,h2⟩
theorem Reps.append:∀{ds es:List D}{vs us:List V},Reps K H ds vs->Reps K H es us->Reps K H (ds++es) (vs++us)
|_,_,_,_,.nil,s=>s
|_,_,_,_,.cons r t,s=>.cons r (Reps.append t s)
theorem Reps.take:∀{ds:List D}{vs:List V}(n:Nat),Reps K H ds vs->Reps K H (ds.take n) (vs.take n)
|_,_,0,_=>.nil
|_,_,_+1,.nil=>.nil
|_,_,n+1,.cons r t=>.cons r (Reps.take n t)
theorem Reps.drop:∀{ds:List D}{vs:List V}(n:Nat),Reps K H ds vs->Reps K H (ds.drop n) (vs.drop n)
|_,_,0,r=>r
|_,_,_+1,.nil=>.nil
|_,_,n+1,.cons _ t=>Reps.drop n t
def dB(H:Hp)(ps:List Addr):Hp:=λb=>if b∈ps then none else H b
theorem cA{ps:List Addr}(e:bL H H'):bL (dB H ps) (dB H' ps):=λb o h=>by
 unfold dB at h |-
 by_cases hb:b∈ps
 ·rw[if_pos hb]at h;cases h
 ·rw[if_neg hb]at h |-;exact e b o h
theorem qK{ps ps':List Addr}(h:∀p∈ps',p∈ps):bL (dB H ps) (dB H ps'):=λb o e=>by
 unfold dB at e |-
 by_cases hb:b∈ps
 ·rw[if_pos hb]at e;cases e
 ·rw[if_neg hb]at e;rw[if_neg λz=>hb (h b z)];exact e
theorem bZ{ps:List Addr}:bL (dB H ps) H:=λb o e=>by
 unfold dB at e;by_cases hb:b∈ps
 ·rw[if_pos hb]at e;cases e
 ·rw[if_neg hb]at e;exact e
theorem lW{ps:List Addr}{p:Addr}{o:HO}(h:H p=none):dB (gK H p o) (p::ps)=dB H ps:=by
 funext b;unfold dB;by_cases hb:b=p
 ·subst hb;rw[if_pos (aS ..),h];by_cases z:b∈ps<;>simp[z]
 ·rw[cJ hb];by_cases z:b∈ps
  ·rw[if_pos (aO _ z),if_pos z]
  ·rw[if_neg (λq=>(aY.mp q).elim hb z),if_neg z]
theorem lV{ps:List Addr}{p:Addr}{o:HO}(h:p∈ps):dB (gK H p o) ps=dB H ps:=by
 funext b;unfold dB;by_cases hb:b=p
 ·subst hb;rw[if_pos h,if_pos h]
 ·rw[cJ hb]
theorem dU{p:Addr}{o:HO}(h:H p=none):bL H (gK H p o):=λb u q=>by rw[cJ (dC q h)];exact q
theorem iN{ps:List Addr}{p:Addr}{o:HO}(h:p∉ps)(e:H p=some o):dB H ps p=some o:=by
 unfold dB;rw[if_neg h];exact e
def WH:HO->Bool
|.tup _=>true
|.frz _ (.tup _)=>true
|_=>false
def FS(u:Option HO):Prop:=∃v,u=some v/\WH v=false
theorem FS.ne{u:Option HO}(h:FS u):u≠none:=λz=>by obtain⟨v,e,_⟩:=h;rw[z]at e;cases e
theorem FS.lst{xs:List V}:FS (some (.lst xs)):=⟨_,rfl,rfl⟩
theorem eS{ps:List Addr}{p:Addr}(live:∀q∈ps,FS (H q))(h:H p=none):p∉ps:=λz=>(live p z).ne h
inductive Sl where
|un | val (d:D) | own (ts:List D) | dic (hs:List Int) (kvs:List (D×D))
def pU(K:aG)(B:Hp)(p0:List Addr)(H:Hp)(ps:List Addr)(σT:List Sl)(σ:L2.St):Prop:=∀(i:Nat)(hs:List Int)(kvs:List (D×D)),σT[i]?=some (.dic hs kvs) ->
 (∃(p:Addr)(es:List (Int×Addr×V)),σ[i]?=some (some (.ref p))/\p∈ps/\B p=none/\p∉p0/\H p=some (xX p es)/\hs=es.map (·.1)/\(kvs.map (·.1)).Nodup/\Reps K (dB H ps) (kvs.map (·.1)) (es.map λe=>.ref e.2.1)/\Reps K (dB H ps) (kvs.map (·.2)) (es.map λe=>e.2.2)) /\
 ∀(j:Nat)(hs':List Int)(kws:List (D×D)),σT[j]?=some (.dic hs' kws)->i=j
theorem pU.to{B B':Hp}{p0 p0' ps ps':List Addr}{σT σT':List Sl}{σ σ':L2.St}(o:pU K B p0 H ps σT σ)(hσ:∀(i:Nat)(hs:List Int)(kvs:List (D×D)),σT'[i]?=some (.dic hs kvs)->σT[i]?=some (.dic hs kvs)/\σ'[i]?=σ[i]?)
  (hp:∀(p:Addr)(φ:Heap->Prop),p∈ps->H p=some (.ext φ)->p∉p0->p∈ps'/\H' p=H p) (hB:∀(p:Addr)(φ:Heap->Prop),p∈ps->H p=some (.ext φ)->B p=none->p∉p0->B' p=none/\p∉p0') (hm:bL (dB H ps) (dB H' ps')):pU K B' p0' H' ps' σT' σ':=λi hs kvs h=>by
 obtain⟨h1,h2⟩:=hσ i hs kvs h;obtain⟨⟨p,es,a1,a2,a3,a4,a5,a6,a7,a8,a9⟩,u⟩:=o i hs kvs h1;obtain⟨b1,b2⟩:=hp p _ a2 a5 a4;obtain⟨c1,c2⟩:=hB p _ a2 a5 a3 a4;exact⟨⟨p,es,h2.trans a1,b1,c1,c2,b2.trans a5,a6,a7,a8.same hm,a9.same hm⟩,λj hs' kws hj=>u j hs' kws (hσ j hs' kws hj).1⟩
theorem zW{σT:List Sl}{i j:Nat}{s:Sl}{hs:List Int}{kvs:List (D×D)}(hn:∀hs kvs,s≠.dic hs kvs)(h:(σT.set i s)[j]?=some (.dic hs kvs)):i≠j/\σT[j]?=some (.dic hs kvs):=by
 by_cases e:i=j
 ·subst e;have hi:i<σT.length:=by simpa using(aD.mp h).1
  rw[bA hi]at h;exact absurd (Option.some.inj h) (hn hs kvs)
 ·rw[aU e]at h;exact⟨e,h⟩
theorem pU.setS{B:Hp}{p0 ps:List Addr}{σT:List Sl}{σ:L2.St}(o:pU K B p0 H ps σT σ){i:Nat}{s:Sl}{v:Option V}(hn:∀hs kvs,s≠.dic hs kvs):pU K B p0 H ps (σT.set i s) (σ.set i v):=
 o.to (λj hs kvs h=>let ⟨e,h'⟩:=zW hn h;⟨h',aU e⟩) (λp φ a b _=>⟨a,rfl⟩) (λp φ _ _ a b=>⟨a,b⟩) (L2.bL.refl _)
theorem pU.setT{B:Hp}{p0 ps:List Addr}{σT:List Sl}{σ:L2.St}(o:pU K B p0 H ps σT σ){i:Nat}{s:Sl}(hn:∀hs kvs,s≠.dic hs kvs):pU K B p0 H ps (σT.set i s) σ:=
 o.to (λj hs kvs h=>⟨(zW hn h).2,rfl⟩) (λp φ a b _=>⟨a,rfl⟩) (λp φ _ _ a b=>⟨a,b⟩) (L2.bL.refl _)
theorem pU.grow{B:Hp}{p0 ps:List Addr}{σT:List Sl}{σ:L2.St}(o:pU K B p0 H ps σT σ)(e:bL H H'):pU K B p0 H' ps σT σ:=
 o.to (λj hs kvs h=>⟨h,rfl⟩) (λp φ a b _=>⟨a,(e p _ b).trans b.symm⟩) (λp φ _ _ a b=>⟨a,b⟩) (cA e)
structure Ok(K:aG)(B:Hp)(p0:List Addr)(H:Hp)(ps:List Addr)(σT:List Sl)(σ:L2.St):Prop where
 base:bL B H
 sub:∀p∈p0,p∈ps
 live:∀p∈ps,FS (H p)
 len:σT.length=σ.length
 val:∀(i:Nat)(d:D),σT[i]?=some (.val d)->∃v,σ[i]?=some (some v)/\jF K (dB H ps) d v
 own:∀(i:Nat)(ts:List D),σT[i]?=some (.own ts)->∃p xs,σ[i]?=some (some (.ref p))/\p∈ps/\B p=none/\p∉p0/\H p=some (.lst xs)/\Reps K (dB H ps) ts xs
 dis:∀(i j:Nat)(ts us:List D)(p:Addr),σT[i]?=some (.own ts)->σT[j]?=some (.own us)->σ[i]?=some (some (.ref p))->σ[j]?=some (some (.ref p))->i=j
 dc:pU K B p0 H ps σT σ
variable{B:Hp}{p0 ps:List Addr}{σT:List Sl}{σ:L2.St}
theorem Ok.grow(o:Ok K B p0 H ps σT σ)(e:bL H H'):Ok K B p0 H' ps σT σ where
 base:=o.base.trans e
 sub:=o.sub
 live:=λp hp=>let ⟨u,h1,h2⟩:=o.live p hp;⟨u,e p u h1,h2⟩
 len:=o.len
 val:=λi d h=>let ⟨v,h1,h2⟩:=o.val i d h;⟨v,h1,h2.same (cA e)⟩
 own:=λi ts h=>let ⟨p,xs,h1,h2,h3,h4,h5,h6⟩:=o.own i ts h;⟨p,xs,h1,h2,h3,h4,e _ _ h5,h6.same (cA e)⟩
 dis:=o.dis
 dc:=o.dc.grow e
theorem Ok.set(o:Ok K B p0 H ps σT σ){i:Nat}{d:D}{v:V}(r:jF K (dB H ps) d v):Ok K B p0 H ps (σT.set i (.val d)) (σ.set i (some v)) where
 base:=o.base
 sub:=o.sub
 live:=o.live
 len:=by simpa using o.len
 val:=λj d' h=>by
  by_cases e:i=j
  ·subst e
   have hi:i<σT.length:=by
    have:=(aD.mp h).1;simpa using this
   rw[bA hi]at h;cases h;exact⟨v,by rw[bA (by rw[<- o.len];exact hi)],r⟩
  ·rw[aU e]at h |-
   exact o.val j d' h
 own:=λj ts h=>by
  by_cases e:i=j
  ·subst e
   have hi:i<σT.length:=by
    have:=(aD.mp h).1;simpa using this
   rw[bA hi]at h;cases h
  ·rw[aU e]at h |-
   exact o.own j ts h
 dis:=λj k ts us p h1 h2 h3 h4=>by
  have ne:∀{l:Nat}{ts:List D},(σT.set i (.val d))[l]?=some (.own ts)->i≠l:=λ{l ts} h e=>by
   subst e
   have hi:i<σT.length:=by
    have:=(aD.mp h).1;simpa using this
   rw[bA hi]at h;cases h
  have e1:=ne h1;have e2:=ne h2;rw[aU e1]at h1 h3;rw[aU e2]at h2 h4;exact o.dis j k ts us p h1 h2 h3 h4
 dc:=o.dc.setS λ_ _ z=>nomatch z
theorem Ok.setOwn(o:Ok K B p0 H ps σT σ){i:Nat}{ts:List D}{xs:List V}{p:Addr}(hp:H p=none)(r:Reps K (dB H ps) ts xs):Ok K B p0 (gK H p (.lst xs)) (p::ps) (σT.set i (.own ts)) (σ.set i (some (.ref p))):=by
 have hm:dB (gK H p (.lst xs)) (p::ps)=dB H ps:=lW hp;have hps:p∉ps:=eS o.live hp
 have hn:∀{l:Nat}{us:List D},i≠l->σT[l]?=some (.own us)->σ[l]?≠some (some (.ref p)):=λ{l us} _ h z=>by
  obtain⟨q,_,h1,h2,_⟩:=o.own l us h;rw[z]at h1;cases h1;exact hps h2
 refine⟨o.base.trans (dU hp),λq hq=>aO _ (o.sub q hq),λq hq=>?_,by simpa using o.len,λj d h=>?_,λj us h=>?_,λj k us ws q h1 h2 h3 h4=>?_,?_⟩
 ·by_cases e:q=p
  ·subst e;rw[cO];exact .lst
  ·rw[cJ e];rcases aY.mp hq with z | z
   ·exact absurd z e
   ·exact o.live q z
 ·rw[hm];by_cases e:i=j
  ·subst e;have hi:i<σT.length:=by simpa using(aD.mp h).1
   rw[bA hi]at h;cases h
  ·rw[aU e]at h |-
   exact o.val j d h
 ·rw[hm];by_cases e:i=j
  ·subst e;have hi:i<σT.length:=by simpa using(aD.mp h).1
   rw[bA hi]at h;cases h;refine⟨p,xs,by rw[bA (by rw[<- o.len];exact hi)],aS ..,?_,λz=>hps (o.sub p z),cO,r⟩
   cases q:B p with
   |none=>rfl
   |some u=>rw[o.base p u q]at hp;cases hp
  ·rw[aU e]at h |-
   obtain⟨q,ys,h1,h2,h3,h4,h5,h6⟩:=o.own j us h;refine⟨q,ys,h1,aO _ h2,h3,h4,?_,h6⟩;rw[cJ (λz:q=p=>hps (z▸h2))];exact h5
 ·by_cases e1:i=j
  ·by_cases e2:i=k
   ·exact e1.symm.trans e2
   ·subst e1;have hi:i<σT.length:=by simpa using(aD.mp h1).1
    rw[bA (by rw[<- o.len];exact hi)]at h3;cases h3;rw[aU e2]at h2 h4;exact absurd h4 (hn e2 h2)
  ·by_cases e2:i=k
   ·subst e2;have hi:i<σT.length:=by simpa using(aD.mp h2).1
    rw[bA (by rw[<- o.len];exact hi)]at h4;cases h4;rw[aU e1]at h1 h3;exact absurd h3 (hn e1 h1)
   ·rw[aU e1]at h1 h3;rw[aU e2]at h2 h4;exact o.dis j k us ws q h1 h2 h3 h4
 ·exact(o.dc.setS (i:=i) (s:=.own ts) (v:=some (.ref p)) λ_ _ z=>nomatch z).to (λj hs kvs h=>⟨h,rfl⟩) (λq φ a b _=>⟨aO _ a,cJ λz=>by rw[z,hp]at b;cases b⟩) (λq φ _ _ a b=>⟨a,b⟩) (by rw[hm];exact L2.bL.refl _)
theorem Ok.write(o:Ok K B p0 H ps σT σ){i:Nat}{ts us:List D}{ys:List V}{p:Addr}(hi:σT[i]?=some (.own ts))(hσ:σ[i]?=some (some (.ref p)))(r:Reps K (dB H ps) us ys) :
  Ok K B p0 (gK H p (.lst ys)) ps (σT.set i (.own us)) σ:=by
 obtain⟨q,zs,h1,h2,h3,h4,h5,h6⟩:=o.own i ts hi;rw[hσ]at h1;cases h1;have hm:dB (gK H p (.lst ys)) ps=dB H ps:=lV h2;have hil:i<σT.length:=(aD.mp hi).1;refine⟨λb u e=>?_,o.sub,λq hq=>?_,by simpa using o.len,λj d h=>?_,λj ws h=>?_,λj k vs ws q k1 k2 k3 k4=>?_,?_⟩
 ·have ne:b≠p:=λz=>by rw[z,h3]at e;cases e
  rw[cJ ne];exact o.base b u e
 ·by_cases e:q=p
  ·subst e;rw[cO];exact .lst
  ·rw[cJ e];exact o.live q hq
 ·rw[hm];by_cases e:i=j
  ·subst e;rw[bA hil]at h;cases h
  ·rw[aU e]at h;exact o.val j d h
 ·rw[hm];by_cases e:i=j
  ·subst e;rw[bA hil]at h;cases h;exact⟨p,ys,hσ,h2,h3,h4,cO,r⟩
  ·rw[aU e]at h;obtain⟨q,vs,k1,k2,k3,k4,k5,k6⟩:=o.own j ws h;refine⟨q,vs,k1,k2,k3,k4,?_,k6⟩;rw[cJ (λz:q=p=>e (o.dis i j ts ws p hi h hσ (z▸k1)))];exact k5
 ·have back:∀{l:Nat}{vs:List D},(σT.set i (.own us))[l]?=some (.own vs)->∃vs',σT[l]?=some (.own vs'):=λ{l vs} h=>by
   by_cases e:i=l
   ·subst e;exact⟨ts,hi⟩
   ·rw[aU e]at h;exact⟨vs,h⟩
  obtain⟨vs',k1⟩:=back k1;obtain⟨ws',k2⟩:=back k2;exact o.dis j k vs' ws' q k1 k2 k3 k4
 ·exact(o.dc.setT (i:=i) (s:=.own us) λ_ _ z=>nomatch z).to (λj hs kvs h=>⟨h,rfl⟩) (λq φ a b _=>⟨a,cJ λz=>by rw[z,h5]at b;cases b⟩) (λq φ _ _ a b=>⟨a,b⟩) (by rw[hm];exact L2.bL.refl _)
theorem Ok.share(o:Ok K B p0 H ps σT σ){i:Nat}{ts:List D}(hi:σT[i]?=some (.own ts)):∃ps',Ok K B p0 H ps' (σT.set i (.val (.list ts))) σ/\bL (dB H ps) (dB H ps'):=by
 obtain⟨p,xs,h1,h2,h3,h4,h5,h6⟩:=o.own i ts hi;have hil:i<σT.length:=(aD.mp hi).1;have hsub:bL (dB H ps) (dB H (ps.filter λq=>decide (q≠p))):=qK λq hq=>(bO.mp hq).1;have hpn:p∉ps.filter λq=>decide (q≠p):=λz=>(of_decide_eq_true (bO.mp z).2) rfl;refine⟨ps.filter λq=>decide (q≠p),⟨o.base,λq hq=>bO.mpr ⟨o.sub q hq,decide_eq_true λz=>h4 (z▸hq)⟩,λq hq=>o.live q (bO.mp hq).1,by simpa using o.len,λj d h=>?_,λj us h=>?_,λj k us ws q k1 k2 k3 k4=>?_,?_⟩,hsub⟩
 ·by_cases e:i=j
  ·subst e;rw[bA hil]at h;cases h;exact⟨_,h1,.list (oM.of (iN hpn h5)) (h6.same hsub)⟩
  ·rw[aU e]at h;obtain⟨v,k1,k2⟩:=o.val j d h;exact⟨v,k1,k2.same hsub⟩
 ·by_cases e:i=j
  ·subst e;rw[bA hil]at h;cases h
  ·rw[aU e]at h;obtain⟨q,ys,k1,k2,k3,k4,k5,k6⟩:=o.own j us h;exact⟨q,ys,k1,bO.mpr ⟨k2,decide_eq_true λz=>e (o.dis i j ts us p hi h h1 (z▸k1))⟩,k3,k4,k5,k6.same hsub⟩
 ·have back:∀{l:Nat}{vs:List D},(σT.set i (.val (.list ts)))[l]?=some (.own vs)->σT[l]?=some (.own vs):=λ{l vs} h=>by
   by_cases e:i=l
   ·subst e;rw[bA hil]at h;cases h
   ·rw[aU e]at h;exact h
  exact o.dis j k us ws q (back k1) (back k2) k3 k4
 ·exact(o.dc.setT (i:=i) (s:=.val (.list ts)) λ_ _ z=>nomatch z).to (λj hs kvs h=>⟨h,rfl⟩) (λq φ a b _=>⟨bO.mpr ⟨a,decide_eq_true λz=>by rw[z,h5]at b;cases b⟩,rfl⟩) (λq φ _ _ a b=>⟨a,b⟩) hsub
abbrev ET:=List Sl->(D->Prop)->Prop
abbrev qA:=List Sl->(Bool->Prop)->Prop
abbrev AT:=List Sl->(List D->Prop)->Prop
def jD(X:Cx)(e:Expr)(t:ET):Prop:=∃te:TE,PE X e te/\∀(B:Hp)(p0:List Addr)(H:Hp)(ps:List Addr)(σT:List Sl)(σ:L2.St)(Q:D->Prop)(QV:VK),Ok X.K B p0 H ps σT σ->t σT Q ->
 (∀d v H',bL H H'->jF X.K (dB H' ps) d v->Q d->QV v H')->te σ H QV
def ID(X:Cx)(e:Expr)(t:qA):Prop:=∃tt:TT,PT X e tt/\∀(B:Hp)(p0:List Addr)(H:Hp)(ps:List Addr)(σT:List Sl)(σ:L2.St)(Q:Bool->Prop)(QV:Bool->Hp->Prop),Ok X.K B p0 H ps σT σ->t σT Q ->
 (∀b H',bL H H'->Q b->QV b H')->tt σ H QV
def PWt(X:Cx)(e:Expr)(t:qA):Prop:=∃tt:TT,PW X e tt/\∀(B:Hp)(p0:List Addr)(H:Hp)(ps:List Addr)(σT:List Sl)(σ:L2.St)(Q:Bool->Prop)(QV:Bool->Hp->Prop),Ok X.K B p0 H ps σT σ->t σT Q ->
 (∀b H',bL H H'->Q b->QV b H')->tt σ H QV
def wT(X:Cx)(es:List Expr)(t:AT):Prop:=∃ta:TA,PA X es ta/\∀(B:Hp)(p0:List Addr)(H:Hp)(ps:List Addr)(σT:List Sl)(σ:L2.St)(Q:List D->Prop)(QV:List V->Hp->Prop),Ok X.K B p0 H ps σT σ->t σT Q ->
 (∀ds vs H',bL H H'->Reps X.K (dB H' ps) ds vs->Q ds->QV vs H')->ta σ H QV
structure lZ where
 nx:List Sl->Prop
 rt:D->Prop
 bk:List Sl->Prop:=λ_=>False
 ct:List Sl->Prop:=λ_=>False
 ro:List D->Prop:=λ_=>False
 rp:List D->List D->Prop:=λ_ _=>False
 rq:D->List D->Prop:=λ_ _=>False
 xB:Hp->Prop:=λ_=>True
abbrev nI:=lZ->List Sl->Prop
structure HU(K:aG)(B:Hp)(p0:List Addr)(H:Hp)(ps:List Addr)(DT:lZ)(DV:CD):Prop where
 nx:∀H' ps' σT' σ',Ok K B p0 H' ps' σT' σ'->bL (dB H ps) (dB H' ps')->DT.nx σT'->DV.nx σ' H'
 bk:∀H' ps' σT' σ',Ok K B p0 H' ps' σT' σ'->bL (dB H ps) (dB H' ps')->DT.bk σT'->DV.bk σ' H'
 ct:∀H' ps' σT' σ',Ok K B p0 H' ps' σT' σ'->bL (dB H ps) (dB H' ps')->DT.ct σT'->DV.ct σ' H'
 rt:∀d v H',bL B H'->jF K (dB H' p0) d v->DT.rt d->DV.rt v H'
 ro:∀ts p xs H',bL B H'->B p=none->p∉p0->H' p=some (.lst xs)->Reps K (dB H' (p::p0)) ts xs->DT.ro ts->DV.rt (.ref p) H'
 rp:∀as bs r p q xs ys H',bL B H'->B r=none->B p=none->B q=none->p≠q->H' r=some (.tup [.ref p,.ref q])->H' p=some (.lst xs)->H' q=some (.lst ys)->Reps K (dB H' (p::q::p0)) as xs->Reps K (dB H' (p::q::p0)) bs ys->DT.rp as bs->DV.rt (.ref r) H'
 rq:∀a ts r p x xs H',bL B H'->B r=none->B p=none->H' r=some (.tup [x,.ref p])->H' p=some (.lst xs)->jF K (dB H' (p::p0)) a x->Reps K (dB H' (p::p0)) ts xs->DT.rq a ts->DV.rt (.ref r) H'
 xb:DT.xB B
theorem HU.later{DT:lZ}{DV:CD}{ps':List Addr}(f:HU K B p0 H ps DT DV)(e:bL (dB H ps) (dB H' ps')):HU K B p0 H' ps' DT DV:=
 ⟨λ_ _ _ _ o s q=>f.nx _ _ _ _ o (e.trans s) q,λ_ _ _ _ o s q=>f.bk _ _ _ _ o (e.trans s) q,λ_ _ _ _ o s q=>f.ct _ _ _ _ o (e.trans s) q,f.rt,f.ro,f.rp,f.rq,f.xb⟩
def qU(X:Cx)(st:Stmt)(t:nI):Prop:=∃ts:TS,PS X st ts/\∀(B:Hp)(p0:List Addr)(H:Hp)(ps:List Addr)(σT:List Sl)(σ:L2.St)(DT:lZ)(DV:CD),Ok X.K B p0 H ps σT σ->t DT σT->HU X.K B p0 H ps DT DV->ts DV σ H
def qO(X:Cx)(st:List Stmt)(t:nI):Prop:=∃ts:TS,zE X st ts/\∀(B:Hp)(p0:List Addr)(H:Hp)(ps:List Addr)(σT:List Sl)(σ:L2.St)(DT:lZ)(DV:CD),Ok X.K B p0 H ps σT σ->t DT σT->HU X.K B p0 H ps DT DV->ts DV σ H
def IF(X:Cx)(r:R2)(f:D->D->(D->Prop)->Prop):Prop:=∀(H:Hp)(ps:List Addr)(d1 d2:D)(x y:V)(Q:D->Prop)(QV:VK),(∀p∈ps,FS (H p))->jF X.K (dB H ps) d1 x->jF X.K (dB H ps) d2 y->f d1 d2 Q ->
 (∀d v H',bL H H'->jF X.K (dB H' ps) d v->Q d->QV v H')->r x y H QV
def tT(X:Cx)(r:List V->Hp->VK->Prop)(f:List D->(D->Prop)->Prop):Prop:=∀(H:Hp)(ps:List Addr)(ds:List D)(xs:List V)(Q:D->Prop)(QV:VK),(∀p∈ps,FS (H p))->Reps X.K (dB H ps) ds xs->f ds Q ->
 (∀d v H',bL H H'->jF X.K (dB H' ps) d v->Q d->QV v H')->r xs H QV
section
variable{X:Cx}{a b e:Expr}{es:List Expr}{ta tb te:ET}{pos:Pos}
inductive ZN(σ:List Sl)(i:Nat)(Q:D->Prop):Prop
|mk (d:D) (h:σ[i]?=some (.val d)) (k:Q d):ZN σ i Q
def B8(i:Nat):ET:=λσ Q=>ZN σ i Q
def eC(d:D):ET:=λ_ Q=>Q d
theorem aL(i:Nat){x:Str}{pos:Pos}(hN:X.N[i]?=some x:=by rfl)(hv:Vis X.env.scope x:=by first | exact Or.inl rfl | exact Or.inr (Or.inl rfl) | exact Or.inr (Or.inr rfl))(hd:(x==("__debug__":Str))=false:=by decide)
  (hcd:(x==("__classdict__":Str))=false:=by decide):jD X (.Name x pos) (B8 i):=
 ⟨_,Q8 hN hv hd hcd,λB p0 H ps σT σ Q QV o h k=>by
  obtain⟨d,e,q⟩:=h;obtain⟨v,e1,r⟩:=o.val i d e;exact⟨v,e1,k d v H (L2.bL.refl H) r q⟩⟩
theorem aP{i j pos}:jD X (.Constant (.int i) j pos) (eC (.int i)):=⟨_,rG,λ_ _ H _ _ _ _ _ _ h k=>k _ _ H (L2.bL.refl H) (.int i) h⟩
theorem C4{b j pos}:jD X (.Constant (.bool b) j pos) (eC (.bool b)):=⟨_,aDu,λ_ _ H _ _ _ _ _ _ h k=>k _ _ H (L2.bL.refl H) (.bool b) h⟩
theorem jH{j pos}:jD X (.Constant .none j pos) (eC .none):=⟨_,aAo,λ_ _ H _ _ _ _ _ _ h k=>k _ _ H (L2.bL.refl H) .none h⟩
theorem eU{x j pos}:jD X (.Constant (.str x) j pos) (eC (.str x)):=⟨_,JD,λ_ _ H _ _ _ _ _ _ h k=>k _ _ H (L2.bL.refl H) (.str x) h⟩
theorem rN{x:Str}{i:Int}{t:Tok}{pos:Pos}(hg:Gl X x)(hm:X.mg x=some (.int i t))(hd:(x==("__debug__":Str))=false:=by decide):jD X (.Name x pos) (eC (.int i)):=⟨_,lM (v:=.int i) hg hm ⟨t,rfl⟩ hd,λ_ _ H _ _ _ _ _ _ h k=>k _ _ H (L2.bL.refl H) (.int i) h⟩
def UH(f:D->D->(D->Prop)->Prop)(ta tb:ET):ET:=λσ Q=>ta σ λx=>tb σ λy=>f x y Q
theorem zP{r:R2}{f:D->D->(D->Prop)->Prop}(h2:IF X r f){va vb:TE}
  (ha:∀(B:Hp)(p0:List Addr)(H:Hp)(ps:List Addr)(σT:List Sl)(σ:L2.St)(Q:D->Prop)(QV:VK),Ok X.K B p0 H ps σT σ->ta σT Q->(∀d v H',bL H H'->jF X.K (dB H' ps) d v->Q d->QV v H')->va σ H QV)
  (hb:∀(B:Hp)(p0:List Addr)(H:Hp)(ps:List Addr)(σT:List Sl)(σ:L2.St)(Q:D->Prop)(QV:VK),Ok X.K B p0 H ps σT σ->tb σT Q->(∀d v H',bL H H'->jF X.K (dB H' ps) d v->Q d->QV v H')->vb σ H QV)
  (B:Hp) (p0:List Addr) (H:Hp) (ps:List Addr) (σT:List Sl) (σ:L2.St) (Q:D->Prop) (QV:VK) (o:Ok X.K B p0 H ps σT σ) (h:UH f ta tb σT Q) (k:∀d v H',bL H H'->jF X.K (dB H' ps) d v->Q d->QV v H'):tOp r va vb σ H QV:=by
 refine ha B p0 H ps σT σ _ _ o h λd1 x H1 s1 r1 q1=>?_;refine hb B p0 H1 ps σT σ _ _ (o.grow s1) q1 λd2 y H2 s2 r2 q2=>?_;exact h2 H2 ps d1 d2 x y Q QV ((o.grow s1).grow s2).live (r1.same (cA s2)) r2 q2 λd v H' s' r' q'=>k d v H' (s1.trans (s2.trans s')) r' q'
theorem dN{op:Operator}{r:R2}{f:D->D->(D->Prop)->Prop}(ho:qV X (binaryOp op) r)(h2:IF X r f)(ha:jD X a ta)(hb:jD X b tb):jD X (.BinOp a op b pos) (UH f ta tb):=by
 obtain⟨va,pa,ra⟩:=ha;obtain⟨vb,pb,rb⟩:=hb;exact⟨_,Y6 ho pa pb,zP h2 ra rb⟩
theorem rO{op:CmpOp}{r:R2}{f:D->D->(D->Prop)->Prop}(ho:qV X (compareOp op) r)(h2:IF X r f)(ha:jD X a ta)(hb:jD X b tb)(hm:behindInMarks op b=false:=by first | exact RM _ | rfl):jD X (.Compare a [op] [b] pos) (UH f ta tb):=by
 obtain⟨va,pa,ra⟩:=ha;obtain⟨vb,pb,rb⟩:=hb;exact⟨_,VY ho pa pb hm,zP h2 ra rb⟩
theorem cS{r:R2}{f:D->D->(D->Prop)->Prop}(ho:UK X r)(h2:IF X r f)(ha:jD X a ta)(hb:jD X b tb)(hs:FD b:=by intro _ _;rfl):jD X (.Subscript a b pos) (UH f ta tb):=by
 obtain⟨va,pa,ra⟩:=ha;obtain⟨vb,pb,rb⟩:=hb;exact⟨_,AO ho pa pb hs,zP h2 ra rb⟩
def aHt(ta:ET):ET:=λσ Q=>ta σ λx=>match x with | .int i=>Q (.int (-i)) | _=>False
theorem J8(ha:jD X a ta):jD X (.UnaryOp .USub a pos) (aHt ta):=by
 obtain⟨va,pa,ra⟩:=ha;refine⟨_,aDs ZU pa,λB p0 H ps σT σ Q QV o h k=>ra B p0 H ps σT σ _ _ o h λd x H1 s1 r1 q1=>?_⟩
 cases r1 with
 |int i=>exact⟨i,rfl,k _ _ H1 s1 (.int _) q1⟩
 |_=>exact q1.elim
def vP:AT:=λ_ Q=>Q []
def nY(t:ET)(r:AT):AT:=λσ Q=>t σ λx=>r σ λxs=>Q (x::xs)
theorem aK:wT X [] vP:=⟨_,mS,λ_ _ H _ _ _ _ _ _ h k=>k _ _ H (L2.bL.refl H) .nil h⟩
theorem aA{tr:AT}(ha:jD X e te)(hr:wT X es tr)(hs:bV (e::es) X.env=(false,eval e X.env)::bV es X.env:=by rfl):wT X (e::es) (nY te tr):=by
 obtain⟨va,pa,ra⟩:=ha;obtain⟨vr,pr,rr⟩:=hr;refine⟨_,fW pa pr hs,λB p0 H ps σT σ Q QV o h k=>ra B p0 H ps σT σ _ _ o h λd x H1 s1 r1 q1=>?_⟩;refine rr B p0 H1 ps σT σ _ _ (o.grow s1) q1 λds xs H2 s2 r2 q2=>?_;exact k _ _ H2 (s1.trans s2) (.cons (r1.same (cA s2)) r2) q2
def S5(t:AT):ET:=λσ Q=>t σ λds=>ds.length<=1000/\Q (.tuple ds)
def aHu(t:AT):ET:=λσ Q=>t σ λds=>ds.length<=1000/\Q (.list ds)
theorem rE{ps:List Addr}{p:Addr}{ds:List D}{xs:List V}(live:∀q∈ps,FS (H q))(hp:H p=none)(r:Reps K (dB H ps) ds xs):jF K (dB (gK H p (.tup xs)) ps) (.tuple ds) (.ref p):=
 .tuple (qE.of (iN (eS live hp) cO)) (r.same (cA (dU hp)))
theorem uA{ps:List Addr}{p:Addr}{ds:List D}{xs:List V}(live:∀q∈ps,FS (H q))(hp:H p=none)(r:Reps K (dB H ps) ds xs):jF K (dB (gK H p (.lst xs)) ps) (.list ds) (.ref p):=
 .list (oM.of (iN (eS live hp) cO)) (r.same (cA (dU hp)))
theorem uC{n:Nat}(h:n<=1000):n<=bU:=mB (MY h)
theorem dI{x1}{t:AT}(h:wT X es t):jD X (.Tuple es x1 pos) (S5 t):=by
 obtain⟨v,p,r⟩:=h;refine⟨_,JC p,λB p0 H ps σT σ Q QV o h k=>r B p0 H ps σT σ _ _ o h λds xs H1 s1 r1 q1=>⟨uC (by rw[<- r1.length];exact q1.1),λq hq=>?_⟩⟩;exact k _ _ _ (s1.trans (dU hq)) (rE (o.grow s1).live hq r1) q1.2
theorem jM{t:AT}(h:wT X es t):jD X (.List es pos) (aHu t):=by
 obtain⟨v,p,r⟩:=h;refine⟨_,JE p,λB p0 H ps σT σ Q QV o h k=>r B p0 H ps σT σ _ _ o h λds xs H1 s1 r1 q1=>⟨uC (by rw[<- r1.length];exact q1.1),λq hq=>?_⟩⟩;exact k _ _ _ (s1.trans (dU hq)) (uA (o.grow s1).live hq r1) q1.2
def jP(f:List D->(D->Prop)->Prop)(t:AT):ET:=λσ Q=>t σ λds=>f ds Q
abbrev mX:=List D->(D->Prop)->Prop
def bD(K:aG)(sp:mX):Sp:=λvs H Q _=>∃(ps:List Addr)(ds:List D)(QD:D->Prop),(∀p∈ps,FS (H p))/\Reps K (dB H ps) ds vs/\sp ds QD/\∀d v H',bL H H'->jF K (dB H' ps) d v->QD d->Q v H'
theorem WU{k:Nat}{f:Addr}{fd:eI}{pn:List Str}{sp:mX}{x:Str}{p:Pos}{t:AT}(F:bX X.prog X.w X.K X.mg X.base eR k f fd pn (bD X.K sp))(hm:X.mg x=some (.ref f))(hk:iU X.K (.ref f)=true)(hb:tU X.K fd pn [])
  (hr:Room k X.A) (ha:wT X (e::es) t) (pc:∀{ta:TA},PA X (e::es) ta->PE X (.Call (.Name x p) (e::es) [] pos) (KR (bD X.K sp) [] E0 ta)):jD X (.Call (.Name x p) (e::es) [] pos) (jP sp t):=by
 obtain⟨v,pa,ra⟩:=ha;refine⟨_,pc pa,λB p0 H ps σT σ Q QV o h k=>ra B p0 H ps σT σ _ _ o h λds xs H1 s1 r1 q1=>?_⟩;show bD X.K sp (xs++[]) H1 QV E0;rw[dG];exact⟨ps,ds,Q,(o.grow s1).live,r1,q1,λd v H' s' r' q'=>k d v H' (s1.trans s') r' q'⟩
def ME(t:ET):qA:=λσ Q=>t σ λx=>match x with | .bool b=>Q b | _=>False
theorem ZW(h:jD X e te)(pt:∀{t:TE},PE X e t->PT X e (tB t)):ID X e (ME te):=by
 obtain⟨v,p,r⟩:=h;refine⟨_,pt p,λB p0 H ps σT σ Q QV o h k=>r B p0 H ps σT σ _ _ o h λd x H1 s1 r1 q1=>?_⟩
 cases r1 with
 |bool c=>exact⟨c,rfl,k c H1 s1 q1⟩
 |_=>exact q1.elim
theorem dE{op:CmpOp}{r:R2}{f:D->D->(D->Prop)->Prop}(ho:qV X (compareOp op) r)(h2:IF X r f)(ha:jD X a ta)(hb:jD X b tb)(hm:behindInMarks op b=false:=by first | exact RM _ | rfl):ID X (.Compare a [op] [b] pos) (ME (UH f ta tb)):=by
 obtain⟨va,pa,ra⟩:=ha;obtain⟨vb,pb,rb⟩:=hb;refine⟨_,VM ho pa pb hm,λB p0 H ps σT σ Q QV o h k=>?_⟩;refine zP h2 ra rb B p0 H ps σT σ (λx=>match x with | .bool b=>Q b | _=>False) _ o h λd v H' s' r' q'=>?_
 cases r' with
 |bool c=>exact⟨c,rfl,k c H' s' q'⟩
 |_=>exact q'.elim
def aHv(t:qA):qA:=λσ Q=>t σ λb=>Q (!b)
def aHw(t u:qA):qA:=λσ Q=>t σ λb=>if b=true then u σ Q else Q false
def cOr(t u:qA):qA:=λσ Q=>t σ λb=>if b=true then Q true else u σ Q
variable{tA tB':qA}{rest:List Expr}
theorem AC(h:ID X a tA):ID X (.UnaryOp .Not a pos) (aHv tA):=by
 obtain⟨v,p,r⟩:=h;exact⟨_,aAl p,λB p0 H ps σT σ Q QV o h k=>r B p0 H ps σT σ _ _ o h λb H' s' q'=>k _ H' s' q'⟩
theorem oN(h:PWt X e tA):ID X e tA:=by
 obtain⟨v,p,r⟩:=h;exact⟨_,p.pt,r⟩
theorem tZ(h:ID X a tA):PWt X (.BoolOp .And [a] pos) tA:=by
 obtain⟨v,p,r⟩:=h;exact⟨_,VL p,r⟩
theorem pW(h:ID X a tA):PWt X (.BoolOp .Or [a] pos) tA:=by
 obtain⟨v,p,r⟩:=h;exact⟨_,aAi p,r⟩
theorem xD(ha:ID X a tA)(hb:PWt X (.BoolOp .And (b::rest) pos) tB'):PWt X (.BoolOp .And (a::b::rest) pos) (aHw tA tB'):=by
 obtain⟨va,pa,ra⟩:=ha;obtain⟨vb,pb,rb⟩:=hb;refine⟨_,aAj pa pb,λB p0 H ps σT σ Q QV o h k=>ra B p0 H ps σT σ _ _ o h λc H1 s1 q1=>?_⟩
 cases c with
 |true=>exact rb B p0 H1 ps σT σ Q _ (o.grow s1) q1 λb H' s' q'=>k b H' (s1.trans s') q'
 |false=>exact k _ H1 s1 q1
theorem uO(ha:ID X a tA)(hb:PWt X (.BoolOp .Or (b::rest) pos) tB'):PWt X (.BoolOp .Or (a::b::rest) pos) (cOr tA tB'):=by
 obtain⟨va,pa,ra⟩:=ha;obtain⟨vb,pb,rb⟩:=hb;refine⟨_,aDp pa pb,λB p0 H ps σT σ Q QV o h k=>ra B p0 H ps σT σ _ _ o h λc H1 s1 q1=>?_⟩
 cases c with
 |true=>exact k _ H1 s1 q1
 |false=>exact rb B p0 H1 ps σT σ Q _ (o.grow s1) q1 λb H' s' q'=>k b H' (s1.trans s') q'
end
end TL
namespace TL
open PySem PySem.Spec PyProof.Rows L2
variable{K:aG}{H H' H1 H2:Hp}{B:Hp}{p0 ps:List Addr}{σT:List Sl}{σ:L2.St}
section
variable{X:Cx}{a b c e:Expr}{es:List Expr}{ta tb tc te:ET}{pos:Pos}
abbrev OT:=List Sl->(Option Int->Prop)->Prop
def POt(X:Cx)(e:Option Expr)(t:OT):Prop:=∃to:TO,PO X e to/\∀(B:Hp)(p0:List Addr)(H:Hp)(ps:List Addr)(σT:List Sl)(σ:L2.St)(Q:Option Int->Prop)(QV:Option Int->Hp->Prop),Ok X.K B p0 H ps σT σ->t σT Q ->
 (∀i H',bL H H'->Q i->QV i H')->to σ H QV
def aE6:OT:=λ_ Q=>Q none
def aE5(t:ET):OT:=λσ Q=>t σ λx=>match x with | .int i=>Q (some i) | _=>False
theorem gM:POt X none aE6:=⟨_,VR,λ_ _ H _ _ _ _ _ _ h k=>k _ H (L2.bL.refl H) h⟩
theorem gD(h:jD X e te):POt X (some e) (aE5 te):=by
 obtain⟨v,p,r⟩:=h;refine⟨_,VQ p,λB p0 H ps σT σ Q QV o h k=>r B p0 H ps σT σ _ _ o h λd x H1 s1 r1 q1=>?_⟩
 cases r1 with
 |int i=>exact⟨i,rfl,k _ H1 s1 q1⟩
 |_=>exact q1.elim
def SlT(X:Cx)(r:V->Option Int->Option Int->Hp->VK->Prop)(f:D->Option Int->Option Int->(D->Prop)->Prop):Prop:=∀(H:Hp)(ps:List Addr)(d:D)(x:V)(lo hi:Option Int)(Q:D->Prop)(QV:VK),(∀p∈ps,FS (H p))->jF X.K (dB H ps) d x->f d lo hi Q ->
 (∀d v H',bL H H'->jF X.K (dB H' ps) d v->Q d->QV v H')->r x lo hi H QV
def eSl(f:D->Option Int->Option Int->(D->Prop)->Prop)(t:ET)(tl th:OT):ET:=λσ Q=>t σ λx=>tl σ λl=>th σ λu=>f x l u Q
theorem fC{r:V->Option Int->Option Int->Hp->VK->Prop}{f:D->Option Int->Option Int->(D->Prop)->Prop}{lo hi:Option Expr}{tl th:OT}{p2:Pos}(hr:T3 X r)(h2:SlT X r f)(he:jD X e te)(hl:POt X lo tl)(hu:POt X hi th) :
  jD X (.Subscript e (.Slice lo hi none p2) pos) (eSl f te tl th):=by
 obtain⟨ve,pe,re⟩:=he;obtain⟨vl,pl,rl⟩:=hl;obtain⟨vu,pu,ru⟩:=hu;refine⟨_,Q9 hr pe pl pu,λB p0 H ps σT σ Q QV o h k=>re B p0 H ps σT σ _ _ o h λd x H1 s1 r1 q1=>?_⟩;refine rl B p0 H1 ps σT σ _ _ (o.grow s1) q1 λl H2 s2 q2=>?_;refine ru B p0 H2 ps σT σ _ _ ((o.grow s1).grow s2) q2 λu H3 s3 q3=>?_;exact h2 H3 ps d x l u Q QV (((o.grow s1).grow s2).grow s3).live ((r1.same (cA s2)).same (cA s3)) q3 λd v H' s' r' q'=>k d v H' (s1.trans (s2.trans (s3.trans s'))) r' q'
variable{st:Stmt}{rest:List Stmt}{t u:nI}
def kC:nI:=λDT σ=>DT.nx σ
def iM(t u:nI):nI:=λDT σ=>t { DT with nx:=u DT } σ
theorem eY:qO X [] kC:=⟨_,VN,λB p0 H ps σT σ DT DV o h f=>f.nx H ps σT σ o (L2.bL.refl _) h⟩
theorem aQ(h1:qU X st t)(h2:qO X rest u):qO X (st::rest) (iM t u):=by
 obtain⟨v1,p1,r1⟩:=h1;obtain⟨v2,p2,r2⟩:=h2;refine⟨_,QY p1 p2,λB p0 H ps σT σ DT DV o h f=>r1 B p0 H ps σT σ { DT with nx:=u DT } { DV with nx:=v2 DV } o h ⟨λH' ps' σT' σ' o' s' q'=>?_,f.bk,f.ct,f.rt,f.ro,f.rp,f.rq,f.xb⟩⟩;exact r2 B p0 H' ps' σT' σ' DT DV o' q' (f.later s')
theorem bG(h1:qU X st t):qO X [st] t:=by
 obtain⟨v1,p1,r1⟩:=h1;exact⟨_,LH p1,r1⟩
def aAc(i:Nat)(t:nI):nI:=λDT σ=>∃ts,σ[i]?=some (.own ts)/\t DT (σ.set i (.val (.list ts)))
theorem lE{sts:List Stmt}(i:Nat)(h:qO X sts t):qO X sts (aAc i t):=by
 obtain⟨v,p,r⟩:=h;refine⟨_,p,λB p0 H ps σT σ DT DV o h f=>?_⟩;obtain⟨ts,e,h⟩:=h;obtain⟨ps',o',s'⟩:=o.share e;exact r B p0 H ps' _ σ DT DV o' h (f.later s')
def aDf(te:ET):nI:=λDT σ=>te σ DT.rt
theorem dL(h:jD X e te):qU X (.Return (some e) pos) (aDf te):=by
 obtain⟨v,p,r⟩:=h;refine⟨_,EB p,λB p0 H ps σT σ DT DV o h f=>r B p0 H ps σT σ _ _ o h λd x H' s' r' q'=>?_⟩;exact f.rt d x H' (o.base.trans s') (r'.same (qK o.sub)) q'
def sIf(c:qA)(t u:nI):nI:=λDT σ=>c σ λb=>if b=true then t DT σ else u DT σ
theorem gT{c:Expr}{a b:List Stmt}{tc:qA}(hc:ID X c tc)(ha:qO X a t)(hb:qO X b u):qU X (.If c a b pos) (sIf tc t u):=by
 obtain⟨vc,pc,rc⟩:=hc;obtain⟨va,pa,ra⟩:=ha;obtain⟨vb,pb,rb⟩:=hb;refine⟨_,aDq pc pa pb,λB p0 H ps σT σ DT DV o h f=>rc B p0 H ps σT σ _ _ o h λd H1 s1 q1=>?_⟩
 cases d with
 |true=>exact ra B p0 H1 ps σT σ DT DV (o.grow s1) q1 (f.later (cA s1))
 |false=>exact rb B p0 H1 ps σT σ DT DV (o.grow s1) q1 (f.later (cA s1))
def D7(i:Nat)(te:ET):nI:=λDT σ=>te σ λd=>DT.nx (σ.set i (.val d))
theorem P5{i:Nat}{x:Str}{pos':Pos}(h:jD X e te)(ps':∀{v:TE},PE X e v->PS X (.Assign [.Name x pos'] e pos) (vZ v (nF i))):qU X (.Assign [.Name x pos'] e pos) (D7 i te):=by
 obtain⟨v,p,r⟩:=h;refine⟨_,ps' p,λB p0 H ps σT σ DT DV o h f=>r B p0 H ps σT σ _ _ o h λd x H' s' r' q'=>?_⟩;exact f.nx H' ps _ _ ((o.grow s').set r') (cA s') q'
def aAd(i:Nat)(t:AT):nI:=λDT σ=>t σ λds=>ds.length<=1000/\DT.nx (σ.set i (.own ds))
theorem Z2{i:Nat}{x:Str}{pos' p2:Pos}{t:AT}(h:wT X es t)(ps':∀{v:TE},PE X (.List es p2) v->PS X (.Assign [.Name x pos'] (.List es p2) pos) (vZ v (nF i))):qU X (.Assign [.Name x pos'] (.List es p2) pos) (aAd i t):=by
 obtain⟨v,p,r⟩:=h;refine⟨_,ps' (JE p),λB p0 H ps σT σ DT DV o h f=>r B p0 H ps σT σ _ _ o h λds xs H1 s1 r1 q1=>⟨uC (by rw[<- r1.length];exact q1.1),λq hq=>?_⟩⟩;exact f.nx _ (q::ps) _ _ ((o.grow s1).setOwn hq r1) ((cA s1).trans (by rw[lW hq];exact L2.bL.refl _)) q1.2
def aAf(i:Nat)(te:ET):nI:=λDT σ=>∃ts,σ[i]?=some (.own ts)/\te σ λd=>ts.length<=100000/\DT.nx (σ.set i (.own (ts++[d])))
theorem xG{i:Nat}{n e:Expr}{te:ET}{ap cp:Pos}(hn:PE X n (vY i))(he:jD X e te)(hs:bV [e] X.env=(false,eval e X.env)::bV [] X.env:=by rfl)
  (pb:∀{ta:TA},PA X [e] ta->PS X (.Expr (.Call (.Attribute n "append" ap) [e] [] cp) pos) (PZ (Z0 X.K "list" LF (vY i) ta))):qU X (.Expr (.Call (.Attribute n "append" ap) [e] [] cp) pos) (aAf i te):=by
 obtain⟨v,p,r⟩:=he;refine⟨_,pb (fW p mS hs),λB p0 H ps σT σ DT DV o h f=>?_⟩;obtain⟨ts,e,h⟩:=h;obtain⟨q,xs,h1,h2,h3,h4,h5,h6⟩:=o.own i ts e;refine⟨.ref q,h1,.inl ⟨rfl,xs,oM.of h5⟩,r B p0 H ps σT σ _ _ o h λd x H1 s1 r1 q1=>?_⟩;refine⟨q,xs,x,rfl,rfl,s1 _ _ h5,?_,?_⟩
 ·rw[<- h6.length];have:bU=2^24:=rfl;omega
 ·have o1:=o.grow s1;have hr:Reps X.K (dB H1 ps) (ts++[d]) (xs++[x]):=(h6.same (cA s1)).append (.cons r1 .nil);exact f.nx _ ps _ σ (o1.write (ys:=xs++[x]) e h1 hr) ((cA s1).trans (by rw[lV h2];exact L2.bL.refl _)) q1.2
def F5(x:Str):List D:=x.cps.toList.map λc=>.str ⟨#[c]⟩
def LW:D->Option (List D)
|.list ts=>some ts
|.tuple ts=>some ts
|.str x=>some (F5 x)
|_=>none
def oO(σ:List Sl):Prop:=∀(i:Nat)(s:Sl),(∀d,s≠.val d)->s≠.un->σ[i]?≠some s
theorem xQ{σ:List Sl}(h:oO σ)(i:Nat)(d:D):oO (σ.set i (.val d)):=λj s hv hu e=>by
 by_cases z:i=j
 ·subst z;have hi:i<σ.length:=by simpa using(aD.mp e).1
  rw[bA hi]at e;exact hv d (Option.some.inj e).symm
 ·rw[aU z]at e;exact h j s hv hu e
theorem oO.own{σ:List Sl}(h:oO σ)(i:Nat)(ts:List D):σ[i]?≠some (.own ts):=h i _ (λ_ z=>nomatch z) λz=>nomatch z
theorem oO.dic{σ:List Sl}(h:oO σ)(i:Nat)(hs:List Int)(kvs:List (D×D)):σ[i]?≠some (.dic hs kvs):=h i _ (λ_ z=>nomatch z) λz=>nomatch z
abbrev GT:=D->List Sl->(List Sl->Prop)->Prop
def T5(X:Cx)(tg:Expr)(g:GT):Prop:=∃gv:TG,PG X tg gv/\∀(B:Hp)(p0:List Addr)(H:Hp)(ps:List Addr)(σT:List Sl)(σ:L2.St)(d:D)(v:V)(Q:List Sl->Prop)(QV:L2.St->Hp->Prop),Ok X.K B p0 H ps σT σ->jF X.K (dB H ps) d v->g d σT Q ->
 (∀σT' σ',Ok X.K B p0 H ps σT' σ'->(oO σT->oO σT')->Q σT'->QV σ' H)->gv v σ H QV
def gN(i:Nat):GT:=λd σ Q=>Q (σ.set i (.val d))
theorem dH{i:Nat}{x:Str}{p:Pos}(h:PG X (.Name x p) (nF i)):T5 X (.Name x p) (gN i):=
 ⟨_,h,λB p0 H ps σT σ d v Q QV o r h k=>k _ _ (o.set r) (λn=>xQ n _ _) h⟩
def gP(i j:Nat):GT:=λd σ Q=>∃a b,d=.tuple [a,b]/\Q ((σ.set i (.val a)).set j (.val b))
theorem pS{i j:Nat}{t:Expr}(h:PG X t (aFg X.K 2 (SQ (nF i) (SQ (nF j) aFh)))):T5 X t (gP i j):=
 ⟨_,h,λB p0 H ps σT σ d v Q QV o r h k=>by
  obtain⟨a,b,rfl,h⟩:=h
  cases r with
  |@tuple p xs _ hq r=>
   cases r with
   |cons ra r=>
    cases r with
    |cons rb r=>
     cases r;exact⟨_,_,rfl,bL.seqT bZ hq,rfl,_,_,rfl,_,_,rfl,rfl,k _ _ ((o.set ra).set rb) (λn=>xQ (xQ n _ _) _ _) h⟩⟩
structure W9(K:aG)(Hs:Hp)(ts:List D)(J:It):Prop where
 stop:∀(i:Nat)(H:Hp),bL Hs H->ts.length<=i->J.stop i H
 go:∀(i:Nat)(H:Hp),bL Hs H->i<ts.length->J.go i H
 yld:∀(i:Nat)(H:Hp)(ps:List Addr)(y:V)(H':Hp),(∀p∈ps,FS (H p))->bL Hs (dB H ps)->i<ts.length->J.yld i H y H'->bL H H'/\∃dx,ts[i]?=some dx/\jF K (dB H' ps) dx y
abbrev IT:=List Sl->(List D->Prop)->Prop
def IE(X:Cx)(tg iter:Expr)(t:IT):Prop:=∃wi:TI,PI X tg iter wi/\∀(B:Hp)(p0:List Addr)(H:Hp)(ps:List Addr)(σT:List Sl)(σ:L2.St)(Q:List D->Prop)(R:It->Hp->Prop),Ok X.K B p0 H ps σT σ->t σT Q ->
 (∀ts J H',bL H H'->W9 X.K (dB H' ps) ts J->Q ts->R J H')->wi σ H R
def aHk(te:ET):IT:=λσ Q=>te σ λd=>∃ts,LW d=some ts/\Q ts
theorem VH{x:V}{d:D}{ts:List D}{Hs:Hp}(r:jF K Hs d x)(hi:LW d=some ts){R:It->Hp->Prop}(hs:bL Hs H1)(h:∀J:It,W9 K Hs ts J->R J H1) :
  (∃a,x=.ref a/\(∃xs,oM K H1 a xs)/\R (Itl K a) H1)\/(∃a,x=.ref a/\(∃xs,qE K H1 a xs)/\R (Itt K a) H1)\/∃z,x=.str z/\R (Its z) H1:=by
 cases r with
 |@list p xs us q rs=>
  obtain rfl:us=ts:=Option.some.inj hi;refine .inl ⟨p,rfl,⟨xs,L2.bL.seq hs q⟩,h _ ⟨λi H e hl=>⟨xs,L2.bL.seq e q,by rw[<- rs.length];exact hl⟩,λi H e hl=>?_,λi H ps y H' _ e hl hy=>?_⟩⟩
  ·obtain⟨v,hv,_⟩:=rs.get (aF hl);exact⟨xs,v,L2.bL.seq e q,hv⟩
  ·obtain⟨rfl,hy⟩:=hy;obtain⟨dx,h1,h2⟩:=rs.get' (hy xs (L2.bL.seq (e.trans bZ) q));exact⟨L2.bL.refl _,dx,h1,h2.same e⟩
 |@tuple p xs us q rs=>
  obtain rfl:us=ts:=Option.some.inj hi;refine .inr (.inl ⟨p,rfl,⟨xs,bL.seqT hs q⟩,h _ ⟨λi H e hl=>⟨xs,bL.seqT e q,by rw[<- rs.length];exact hl⟩,λi H e hl=>?_,λi H ps y H' _ e hl hy=>?_⟩⟩)
  ·obtain⟨v,hv,_⟩:=rs.get (aF hl);exact⟨xs,v,bL.seqT e q,hv⟩
  ·obtain⟨rfl,hy⟩:=hy;obtain⟨dx,h1,h2⟩:=rs.get' (hy xs (bL.seqT (e.trans bZ) q));exact⟨L2.bL.refl _,dx,h1,h2.same e⟩
 |str z=>
  obtain rfl:F5 z=ts:=Option.some.inj hi;have hl:(F5 z).length=z.cps.size:=by unfold F5;simp
  refine .inr (.inr ⟨z,rfl,h _ ⟨λi H _ e=>by rw[hl]at e;exact e,λi H _ e=>by rw[hl]at e;exact e,λi H ps y H' _ _ e hy=>?_⟩⟩);obtain⟨rfl,c,h2,rfl⟩:=hy;refine⟨L2.bL.refl _,.str ⟨#[c]⟩,?_,.str _⟩;unfold F5;rw[aH];have:z.cps.toList[i]?=some c:=by simpa using h2
  rw[this];rfl
 |_=>cases hi
theorem fU{tg:Expr}(he:jD X e te):IE X tg e (aHk te):=by
 obtain⟨ve,pe,re⟩:=he;refine⟨_,aAn pe,λB p0 H ps σT σ Q R o h k=>re B p0 H ps σT σ _ _ o h λd x H1 s1 r1 q1=>?_⟩;obtain⟨ts,hi,q⟩:=q1;exact VH r1 hi bZ λJ rj=>k ts J H1 s1 rj q
def fV(n:Nat):List D:=(fN n).map λ(k:Nat)=>bS (k:Int)
def aBe(t:AT):IT:=λσ Q=>t σ λds=>∃n:Int,ds=[.int n]/\-(2^62)<=n/\n<2^62/\Q (fV n.toNat)
theorem lF{tg e:Expr}{t:AT}{p p':Pos}(ha:wT X [e] t)(pr:∀{ta:TA},PA X [e] ta->PI X tg (.Call (.Name "range" p) [e] [] p') (Y9 ta)):IE X tg (.Call (.Name "range" p) [e] [] p') (aBe t):=by
 obtain⟨va,pa,ra⟩:=ha;refine⟨_,pr pa,λB p0 H ps σT σ Q R o h k=>ra B p0 H ps σT σ _ _ o h λds xs H1 s1 r1 q1=>?_⟩;obtain⟨n,rfl,h1,h2,q⟩:=q1
 cases r1 with
 |cons r1 r2=>
  cases r2;cases r1;refine⟨n,rfl,h1,h2,k (fV n.toNat) _ H1 s1 ?_ q⟩;have hl:(fV n.toNat).length=n.toNat:=by unfold fV;simp
  refine⟨λi H _ e=>by rw[hl]at e;exact e,λi H _ e=>by rw[hl]at e;exact e,λi H ps y H' _ _ e hy=>?_⟩;obtain⟨rfl,rfl⟩:=hy;have ei:(0:Int)+(i:Int)=(i:Int):=by omega
  rw[ei];rw[hl]at e;refine⟨L2.bL.refl _,.int i,?_,.int _⟩;unfold fV;rw[aH,iE e];rfl
def VG(ti:IT)(g:GT)(tb:nI):nI:=λDT σ=>ti σ λts=>∃P:Nat->List Sl->Prop,P 0 σ /\
 (∀(k:Nat)(x:D)(σ':List Sl),ts[k]?=some x->P k σ'->g x σ' λσ2=>tb { DT with nx:=P (k+1),ct:=P (k+1),bk:=DT.nx } σ2)/\∀σ',P ts.length σ'->DT.nx σ'
theorem P6{tg iter:Expr}{body:List Stmt}{g:GT}{tb:nI}{ti:IT}(he:IE X tg iter ti)(hg:T5 X tg g)(hb:qO X body tb)
  (pf:∀{wi:TI}{gv:TG}{bv:TS},PI X tg iter wi->PG X tg gv->zE X body bv->PS X (.For tg iter body [] pos) (aCy wi gv bv)):qU X (.For tg iter body [] pos) (VG ti g tb):=by
 obtain⟨ve,pe,re⟩:=he;obtain⟨gv,pg,rg⟩:=hg;obtain⟨vb,pb,rb⟩:=hb;refine⟨_,pf pe pg pb,λB p0 H ps σT σ DT DV o h f=>re B p0 H ps σT σ _ _ o h λts J H1 s1 rj q1=>?_⟩;obtain⟨P,h0,hs,hd⟩:=q1;refine⟨λi m σ' H'=>m=ts.length-i/\i<=ts.length/\∃ps' σT',Ok X.K B p0 H' ps' σT' σ'/\bL (dB H1 ps) (dB H' ps')/\P i σT',⟨_,rfl,dS _,ps,σT,o.grow s1,L2.bL.refl _,h0⟩,?_⟩;rintro i m σ' H' ⟨rfl,hle,ps',σT',o',s',p'⟩;have sH:bL (dB H1 ps) H':=s'.trans bZ;have f':HU X.K B p0 H' ps' DT DV:=f.later ((cA s1).trans s');by_cases hlt:i<ts.length
 ·refine .inr ⟨rj.go i H' sH hlt,λσ2 H2=>∃ps2 σT2,Ok X.K B p0 H2 ps2 σT2 σ2/\bL (dB H1 ps) (dB H2 ps2)/\P (i+1) σT2,λσ2 H2 z=>⟨ts.length-(i+1),by omega,rfl,hlt,z⟩,λy H2 hy'=>?_⟩;obtain⟨s2,dx,hx,rx⟩:=rj.yld i H' ps' y H2 o'.live s' hlt hy';have f2:=f'.later (cA (ps:=ps') s2);have s'':bL (dB H1 ps) (dB H2 ps'):=s'.trans (cA s2);refine rg B p0 H2 ps' σT' σ' dx y _ _ (o'.grow s2) rx (hs i dx σT' hx p') λσT3 σ3 o3 _ q3=>?_;exact rb B p0 H2 ps' σT3 σ3 _ _ o3 q3 ⟨λH4 ps4 σT4 σ4 o4 s4 q4=>⟨ps4,σT4,o4,s''.trans s4,q4⟩,λH4 ps4 σT4 σ4 o4 s4 q4=>f2.nx H4 ps4 σT4 σ4 o4 s4 q4,λH4 ps4 σT4 σ4 o4 s4 q4=>⟨ps4,σT4,o4,s''.trans s4,q4⟩,f2.rt,f2.ro,f2.rp,f2.rq,f2.xb⟩
 ·obtain rfl:i=ts.length:=by omega
  exact .inl ⟨rj.stop _ H' sH (aN _),f'.nx H' ps' σT' σ' o' (L2.bL.refl _) (hd σT' p')⟩
def HP(σ:List Sl):Option Nat->Sl
|none=>.un
|some j=>match σ[j]? with | some (.val d)=>.val d | _=>.un
def jT(fr:List (Option Nat))(σ:List Sl):List Sl:=fr.map (HP σ)
theorem OL{σ:List Sl}{q:Option Nat}{d:D}(h:HP σ q=.val d):∃j,q=some j/\σ[j]?=some (.val d):=by
 cases q with
 |none=>cases h
 |some j=>
  refine⟨j,rfl,?_⟩;unfold HP at h;dsimp only at h;split at h
  ·next e=>cases h;exact e
  ·cases h
theorem OM{σ:List Sl}{q:Option Nat}{s:Sl}(hv:∀d,s≠.val d)(hu:s≠.un):HP σ q≠s:=λh=>by
 cases q with
 |none=>exact hu h.symm
 |some j=>
  unfold HP at h;dsimp only at h;split at h
  ·exact hv _ h.symm
  ·exact hu h.symm
theorem qJ(fr:List (Option Nat))(σ:List Sl):oO (jT fr σ):=λi s hv hu h=>by
 unfold jT at h;rw[aH]at h
 cases hf:fr[i]? with
 |none=>rw[hf]at h;cases h
 |some q=>
  rw[hf]at h;exact OM hv hu (Option.some.inj h)
theorem Ok.blk(o:Ok K B p0 H ps σT σ)(fr:List (Option Nat)):Ok K B p0 H ps (jT fr σT) (wN fr σ) where
 base:=o.base
 sub:=o.sub
 live:=o.live
 len:=by unfold jT wN;simp
 val:=λi d h=>by
  unfold jT at h;rw[aH]at h
  cases hf:fr[i]? with
  |none=>rw[hf]at h;cases h
  |some q=>
   rw[hf]at h;obtain⟨j,rfl,e⟩:=OL (Option.some.inj h);obtain⟨v,h1,h2⟩:=o.val j d e;refine⟨v,?_,h2⟩;unfold wN;rw[aH,hf];simp[h1]
 own:=λi ts h=>absurd h ((qJ fr σT).own i ts)
 dis:=λi j ts us p h=>absurd h ((qJ fr σT).own i ts)
 dc:=λi hs kvs h=>absurd h ((qJ fr σT).dic i hs kvs)
theorem Ok.adopt(o:Ok K B p0 H ps σT σ){p:Addr}{u:HO}(hp:H p=none)(hu:WH u=false:=by rfl):Ok K B p0 (gK H p u) (p::ps) σT σ:=by
 have hm:dB (gK H p u) (p::ps)=dB H ps:=lW hp;refine⟨o.base.trans (dU hp),λq hq=>aO _ (o.sub q hq),λq hq=>?_,o.len,λi d h=>by rw[hm];exact o.val i d h,λi ts h=>?_,o.dis,o.dc.to (λj hs kvs h=>⟨h,rfl⟩) (λq φ a b _=>⟨aO _ a,cJ λz=>by rw[z,hp]at b;cases b⟩) (λq φ _ _ a b=>⟨a,b⟩) (by rw[hm];exact L2.bL.refl _)⟩
 ·by_cases e:q=p
  ·subst e;rw[cO];exact⟨_,rfl,hu⟩
  ·rw[cJ e];rcases aY.mp hq with z | z
   ·exact absurd z e
   ·exact o.live q z
 ·rw[hm];obtain⟨q,xs,h1,h2,h3,h4,h5,h6⟩:=o.own i ts h;exact⟨q,xs,h1,aO _ h2,h3,h4,by rw[cJ λz=>by rw[z,hp]at h5;cases h5];exact h5,h6⟩
theorem Ok.aside(o:Ok K B p0 H ps σT σ){q:Addr}{u:HO}(hp:q∈ps)(hB:B q=none)(hn:oO σT)(hu:WH u=false:=by rfl):Ok K B p0 (gK H q u) ps σT σ where
 base:=λb w e=>by
  rw[cJ λz=>by rw[z,hB]at e;cases e];exact o.base b w e
 sub:=o.sub
 live:=λp hp'=>by
  by_cases e:p=q
  ·subst e;rw[cO];exact⟨_,rfl,hu⟩
  ·rw[cJ e];exact o.live p hp'
 len:=o.len
 val:=λi d h=>by rw[lV hp];exact o.val i d h
 own:=λi ts h=>absurd h (hn.own i ts)
 dis:=λi j ts us p h=>absurd h (hn.own i ts)
 dc:=λi hs kvs h=>absurd h (hn.dic i hs kvs)
def FF(X:Cx)(ifs:List Expr)(t:qA):Prop:=∃tt:TT,OS X ifs tt/\∀(B:Hp)(p0:List Addr)(H:Hp)(ps:List Addr)(σT:List Sl)(σ:L2.St)(Q:Bool->Prop)(QV:Bool->Hp->Prop),Ok X.K B p0 H ps σT σ->t σT Q ->
 (∀b H',bL H H'->Q b->QV b H')->tt σ H QV
def BO:qA:=λ_ Q=>Q true
theorem kX:FF X [] BO:=⟨_,VT,λ_ _ H _ _ _ _ _ _ h k=>k _ H (L2.bL.refl H) h⟩
theorem oJ{t:qA}(h:ID X e t):FF X [e] t:=by
 obtain⟨v,p,r⟩:=h;exact⟨_,VS p,r⟩
def OD(fr:List (Option Nat))(ti:IT)(g:GT)(tt:qA)(te:ET):ET:=λσ Q=>ti σ λts=>ts.length<=100000/\∃P:Nat->List Sl->List D->Prop,P 0 (jT fr σ) [] /\
 (∀(k:Nat)(x:D)(σ':List Sl)(ds:List D),ts[k]?=some x->P k σ' ds->g x σ' λσ2=>tt σ2 λb=>if b=true then te σ2 λy=>P (k+1) σ2 (ds++[y])else P (k+1) σ2 ds)/\∀σ' ds,P ts.length σ' ds->Q (.list ds)
theorem WA{fr:List (Option Nat)}{ti:IT}{g:GT}{tt:qA}{te:ET}{wi:TI}{gv:BP->TG}{vt:BP->TT}{ve:BP->TE}
  (ri:∀(B:Hp)(p0:List Addr)(H:Hp)(ps:List Addr)(σT:List Sl)(σ:L2.St)(Q:List D->Prop)(R:It->Hp->Prop),Ok X.K B p0 H ps σT σ->ti σT Q->(∀ts J H',bL H H'->W9 X.K (dB H' ps) ts J->Q ts->R J H')->wi σ H R)
  (rg:∀(bp:BP)(B:Hp)(p0:List Addr)(H:Hp)(ps:List Addr)(σT:List Sl)(σ:L2.St)(d:D)(v:V)(Q:List Sl->Prop)(QV:L2.St->Hp->Prop),Ok X.K B p0 H ps σT σ->jF X.K (dB H ps) d v->g d σT Q->(∀σT' σ',Ok X.K B p0 H ps σT' σ'->(oO σT->oO σT')->Q σT'->QV σ' H)->gv bp v σ H QV)
  (rt:∀(bp:BP)(B:Hp)(p0:List Addr)(H:Hp)(ps:List Addr)(σT:List Sl)(σ:L2.St)(Q:Bool->Prop)(QV:Bool->Hp->Prop),Ok X.K B p0 H ps σT σ->tt σT Q->(∀b H',bL H H'->Q b->QV b H')->vt bp σ H QV)
  (re:∀(bp:BP)(B:Hp)(p0:List Addr)(H:Hp)(ps:List Addr)(σT:List Sl)(σ:L2.St)(Q:D->Prop)(QV:VK),Ok X.K B p0 H ps σT σ->te σT Q->(∀d v H',bL H H'->jF X.K (dB H' ps) d v->Q d->QV v H')->ve bp σ H QV)
  (B:Hp) (p0:List Addr) (H:Hp) (ps:List Addr) (σT:List Sl) (σ:L2.St) (Q:D->Prop) (QV:VK) (o:Ok X.K B p0 H ps σT σ) (h:OD fr ti g tt te σT Q) (k:∀d v H',bL H H'->jF X.K (dB H' ps) d v->Q d->QV v H'):PY fr wi gv vt ve σ H QV:=by
 refine ri B p0 H ps σT σ _ _ o h λts J H1 s1 rj q1=>?_;obtain⟨hz,P,h0,hs,hd⟩:=q1;intro bp acc hacc
 have hBacc:B acc=none:=by
  cases q:B acc with
  |none=>rfl
  |some u=>rw[(o.grow s1).base acc u q]at hacc;cases hacc
 have hnps:acc∉ps:=eS (o.grow s1).live hacc
 refine⟨λi m σ' H'=>m=ts.length-i/\i<=ts.length/\∃σT' ds ys,Ok X.K B p0 H' (acc::ps) σT' σ'/\oO σT'/\H' acc=some (.lst ys)/\ds.length<=i/\Reps X.K (dB H' (acc::ps)) ds ys/\bL (dB H1 ps) (dB H' (acc::ps))/\bL H1 H'/\P i σT' ds,
  ⟨_,rfl,dS _,jT fr σT,[],[],((o.grow s1).blk fr).adopt hacc,qJ fr σT,cO,aN _,.nil,by rw[lW hacc];exact L2.bL.refl _,dU hacc,h0⟩,?_⟩
 rintro i m σ' H' ⟨rfl,hle,σT',ds,ys,o',n',ha,hl,hr,s',sF,p'⟩;have hL:bU=2^24:=rfl;by_cases hlt:i<ts.length
 ·refine .inr ⟨rj.go i H' (s'.trans bZ) hlt,λy H2 hy=>?_⟩;obtain⟨s2,dx,hx,rx⟩:=rj.yld i H' (acc::ps) y H2 o'.live s' hlt hy;refine rg bp B p0 H2 (acc::ps) σT' σ' dx y _ _ (o'.grow s2) rx (hs i dx σT' ds hx p') λσT3 σ3 o3 n3 q3=>?_;refine rt bp B p0 H2 (acc::ps) σT3 σ3 _ _ o3 q3 λb H4 s4 q4=>?_;have s24:=s2.trans s4
  cases b with
  |false=>
   exact⟨ts.length-(i+1),by omega,rfl,hlt,σT3,ds,ys,o3.grow s4,n3 n',s24 _ _ ha,by omega,hr.same (cA s24),s'.trans (cA s24),sF.trans s24,q4⟩
  |true=>
   refine re bp B p0 H4 (acc::ps) σT3 σ3 _ _ (o3.grow s4) q4 λd v H5 s5 r5 q5=>?_;have s25:=s24.trans s5;have hm:dB (gK H5 acc (.lst (ys++[v]))) (acc::ps)=dB H5 (acc::ps):=lV (aS ..);refine⟨ys,s25 _ _ ha,by rw[<- hr.length];omega,ts.length-(i+1),by omega,rfl,hlt,σT3,ds++[d],ys++[v],((o3.grow s4).grow s5).aside (aS ..) hBacc (n3 n'),n3 n',cO,by rw[aZ,oA];omega,?_,?_,?_,q5⟩
   ·rw[hm];exact(hr.same (cA s25)).append (.cons r5 .nil)
   ·rw[hm];exact s'.trans (cA s25)
   ·intro b u e;have ne:b≠acc:=λz=>by rw[z,hacc]at e;cases e
    rw[cJ ne];exact(sF.trans s25) b u e
 ·obtain rfl:i=ts.length:=by omega
  refine .inl ⟨rj.stop _ H' (s'.trans bZ) (aN _),k (.list ds) _ H' (s1.trans sF) (.list (oM.of (iN hnps ha)) (hr.same (qK λp hp=>aO _ hp))) (hd σT' ds p')⟩
theorem R6{elt iter tg:Expr}{ifs:List Expr}{scope:Scope}{fr:List (Option Nat)}{N':List Str}{ti:IT}{g:GT}{tt:qA}{te:ET}(hi:IE X tg iter ti)
  (hY:∀b:BP,T5 (blk X scope N' b) tg g/\FF (blk X scope N' b) ifs tt/\jD (blk X scope N' b) elt te) {M:(TE)->Prop}
  (fin:∀{wi:TI}{gv:BP->TG}{vt:BP->TT}{ve:BP->TE},PI X tg iter wi->(∀b:BP,PG (blk X scope N' b) tg (gv b)/\OS (blk X scope N' b) ifs (vt b)/\PE (blk X scope N' b) elt (ve b))->M (PY fr wi gv vt ve)) :
  ∃v:TE,M v/\∀(B:Hp)(p0:List Addr)(H:Hp)(ps:List Addr)(σT:List Sl)(σ:L2.St)(Q:D->Prop)(QV:VK),Ok X.K B p0 H ps σT σ->OD fr ti g tt te σT Q ->
   (∀d v H',bL H H'->jF X.K (dB H' ps) d v->Q d->QV v H')->v σ H QV:=by
 obtain⟨wi,pi,ri⟩:=hi;refine⟨_,fin (gv:=λb=>Classical.choose (hY b).1) (vt:=λb=>Classical.choose (hY b).2.1) (ve:=λb=>Classical.choose (hY b).2.2) pi λb=>⟨(Classical.choose_spec (hY b).1).1,(Classical.choose_spec (hY b).2.1).1,(Classical.choose_spec (hY b).2.2).1⟩,?_⟩;exact WA ri (λb=>(Classical.choose_spec (hY b).1).2) (λb=>(Classical.choose_spec (hY b).2.1).2) λb=>(Classical.choose_spec (hY b).2.2).2
theorem aFu{elt iter tg:Expr}{ifs:List Expr}{scope:Scope}{fr:List (Option Nat)}{N':List Str}{ti:IT}{g:GT}{tt:qA}{te:ET}(hi:IE X tg iter ti)
  (hY:∀b:BP,T5 (blk X scope N' b) tg g/\FF (blk X scope N' b) ifs tt/\jD (blk X scope N' b) elt te)
  (pl:∀{wi:TI}{gv:BP->TG}{vt:BP->TT}{ve:BP->TE},PI X tg iter wi->(∀b:BP,PG (blk X scope N' b) tg (gv b)/\OS (blk X scope N' b) ifs (vt b)/\PE (blk X scope N' b) elt (ve b))->PE X (.ListComp elt [⟨tg,iter,ifs,0⟩] scope pos) (PY fr wi gv vt ve)) :
  jD X (.ListComp elt [⟨tg,iter,ifs,0⟩] scope pos) (OD fr ti g tt te):=R6 hi hY pl
theorem sO{i:Nat}{x:Str}{px spos:Pos}{elt iter tg:Expr}{ifs:List Expr}{scope:Scope}{fr:List (Option Nat)}{N':List Str}{ti:IT}{g:GT}{tt:qA}{te:ET}(hi:IE X tg iter ti)
  (hY:∀b:BP,T5 (blk X scope N' b) tg g/\FF (blk X scope N' b) ifs tt/\jD (blk X scope N' b) elt te)
  (pl:∀{wi:TI}{gv:BP->TG}{vt:BP->TT}{ve:BP->TE},PI X tg iter wi->(∀b:BP,PG (blk X scope N' b) tg (gv b)/\OS (blk X scope N' b) ifs (vt b)/\PE (blk X scope N' b) elt (ve b)) ->
   PS X (.Assign [.Name x px] (.ListComp elt [⟨tg,iter,ifs,0⟩] scope pos) spos) (vZ (PY fr wi gv vt ve) (nF i))) :
  qU X (.Assign [.Name x px] (.ListComp elt [⟨tg,iter,ifs,0⟩] scope pos) spos) (D7 i (OD fr ti g tt te)):=by
 obtain⟨v,p,r⟩:=R6 (M:=λv=>PS X (.Assign [.Name x px] (.ListComp elt [⟨tg,iter,ifs,0⟩] scope pos) spos) (vZ v (nF i))) (fr:=fr) hi hY pl;refine⟨_,p,λB p0 H ps σT σ DT DV o h f=>r B p0 H ps σT σ _ _ o h λd x H' s' r' q'=>?_⟩;exact f.nx H' ps _ _ ((o.grow s').set r') (cA s') q'
def rD(N:List Str)(ds:List D):List Sl:=ds.map Sl.val++DS (N.length-ds.length) .un
theorem AR{N:List Str}{ds:List D}{vs:List V}(live:∀p∈ps,FS (H p))(r:Reps K (dB H ps) ds vs):Ok K H ps H ps (rD N ds) (L2.sM N vs):=by
 have hl:=r.length;refine⟨L2.bL.refl _,λ_ h=>h,live,?_,λi d h=>?_,λi ts h=>?_,λi j ts us p h=>?_,λi hs kvs h=>?_⟩
 ·unfold rD L2.sM;simp[hl]
 ·unfold rD at h;by_cases hi:i<ds.length
  ·rw[dP (by simpa using hi),aH]at h
   cases hd:ds[i]? with
   |none=>rw[hd]at h;cases h
   |some d'=>
    rw[hd]at h;cases h;obtain⟨v,h1,h2⟩:=r.get hd;refine⟨v,?_,h2⟩;unfold L2.sM;rw[dP (by rw[aE,<- hl];exact hi),aH,h1];rfl
  ·rw[dZ (by simpa using hi),kK]at h;split at h<;>cases h
 ·unfold rD at h;by_cases hi:i<ds.length
  ·rw[dP (by simpa using hi),aH]at h
   cases hd:ds[i]? with
   |none=>rw[hd]at h;cases h
   |some d'=>rw[hd]at h;cases h
  ·rw[dZ (by simpa using hi),kK]at h;split at h<;>cases h
 ·unfold rD at h;by_cases hi:i<ds.length
  ·rw[dP (by simpa using hi),aH]at h
   cases hd:ds[i]? with
   |none=>rw[hd]at h;cases h
   |some d'=>rw[hd]at h;cases h
  ·rw[dZ (by simpa using hi),kK]at h;split at h<;>cases h
 ·unfold rD at h;by_cases hi:i<ds.length
  ·rw[dP (by simpa using hi),aH]at h
   cases hd:ds[i]? with
   |none=>rw[hd]at h;cases h
   |some d'=>rw[hd]at h;cases h
  ·rw[dZ (by simpa using hi),kK]at h;split at h<;>cases h
theorem pZ{P:bE}{w:World}{mg:Str->Option Value}{base:Heap}{x qual:Str}{st:Stmt}{f:Addr}{fd:eI}{N pn:List Str}{k:Nat}{sp:mX}(F:T7 K x qual st f fd)(S:cQ N pn (bJ st))(len:∀ds Q,sp ds Q->ds.length=pn.length)
  (hbody:∀(cdv:Value)(A:Around)(outer:List Env)(s:Shared)(H:Hp)(E:XK),Room k (A.deeper (envOfC qual (bJ st) s.heap.objs.size f cdv))->∀(ds:List D)(Q:D->Prop),sp ds Q ->
   ∃t,qO (vL eR P w K mg base N qual (bJ st) f cdv A outer s H E).nox (mE st) t/\t { nx:=λ_=>Q .none,rt:=Q } (rD N ds)):bX P w K mg base eR (k+1) f fd pn (bD K sp):=by
 refine F.ok S (λvs H Q E h=>?_) λcdv A outer s H vs Q E hr h=>?_
 ·obtain⟨ps,ds,QD,_,r,q,_⟩:=h;rw[<- r.length];exact len ds QD q
 ·obtain⟨ps,ds,QD,live,r,q,k⟩:=h;obtain⟨t,⟨ts,p,rd⟩,h⟩:=hbody cdv A outer s H E hr ds QD q;refine⟨ts,p,rd H ps H ps _ _ _ _ (AR live r) h ⟨λH' ps' σT' σ' o' s' q'=>?_,λ_ _ _ _ _ _ q'=>q'.elim,λ_ _ _ _ _ _ q'=>q'.elim,λd v H' s' r' q'=>k d v H' s' r' q',λ_ _ _ _ _ _ _ _ _ q'=>q'.elim,λ_ _ _ _ _ _ _ _ _ _ _ _ _ _ _ _ _ _ q'=>q'.elim,λ_ _ _ _ _ _ _ _ _ _ _ _ _ _ q'=>q'.elim,True.intro⟩⟩;exact k _ _ H' o'.base .none q'
end
end TL
namespace HT
open PySem PySem.Spec PyProof.Rows
section
variable{prog:bE}{w:World}{A:Around}{E:Value->Shared->Prop}{s:Shared}
theorem getItem_tuple_all{t sl:Addr}{items:Array Value}{vl vu:Value}{lo hi:Option Int}{Q:Value->Shared->Prop}(ht:IsTup s.heap t items)(hs:s.heap.IsSliceOf sl vl vu .none)(pl:IsPart vl lo)(pu:IsPart vu hi)
  (hw:sIx items.size 0 lo=0/\sIx items.size items.size hi=items.size) (h:Q (.ref t) s):wpAny (model prog w) A (getItem (.ref t) (.ref sl)) Q E s:=by
 obtain⟨os,hos,hcs,hds⟩:=id hs;have hTs:s.TypeIs (.ref sl) "slice":=⟨os,hos,hcs⟩;unfold getItem
 try with_reducible refine wpAny_holding ?_
 first | refine aB (aJ ?_) | skip
 refine aB (wpAny_sequenceKey ht.typeIs (by decide) ?_)
 refine aB (wpAny_callSpecial?_slot (name:=Str.ofString "__getitem__") ht.typeIs PyProof.Rows.slot_tuple_getitem
  (eP PyProof.Rows.slot_tuple_getitem ht.typeIs entry_tuple_getitem ?_ (args_tuple_getitem _ _)))
 show wpAny _ _ (Builtin.Tuple.tupleItemsOf (.ref t) >>= _) _ _ s;refine aB (tupleItemsOf_ ht ?_);refine aB (wpAny_typeOf hTs ?_);rw[if_pos (by decide)];refine aB (qG hs pl pu ?_)
 have hyes:(((sIx items.size 0 lo:Nat):Int)==0&&(1:Int)==1&&(sIx items.size items.size hi-sIx items.size 0 lo)==items.size)=true:=by
  rw[hw.1,hw.2];simp
 show wpAny _ _ (if(((sIx items.size 0 lo:Nat):Int)==0&&(1:Int)==1&&(sIx items.size items.size hi-sIx items.size 0 lo)==items.size)=true then _ else _) _ _ s;rw[if_pos hyes];unfold Builtin.Tuple.tupleIsExact;refine aB (aB (wpAny_typeOf ht.typeIs (aJ ?_)));rw[if_pos (by decide)]
 first
  |exact aB (wpAny_rule (aB (aJ (aJ ⟨_,rfl,aJ h⟩))))
  |exact aB (wpAny_rule (aJ ⟨_,rfl,aJ h⟩))
  |exact aB (wpAny_rule (aB (aJ ⟨_,rfl,aJ h⟩)))
end
end HT
namespace L2
open PySem PySem.Spec PyProof.Rows
section
variable{X:Cx}
def aDh:V->Option Int->Option Int->Hp->VK->Prop:=λx lo hi H Q=>∃z,x=.str z/\z.length<=bU/\Q (.str (Txt.slice z lo hi)) H
theorem Z9:T3 X aDh:=by
 intro pins s σ H x v vl vu lo hi sl Q I rx hs pl pu h;obtain⟨z,rfl,hz,q⟩:=h;obtain⟨t,rfl⟩:=rx;refine⟨"str",_,PySem.F.slot_str_getitem.lookup,typeIs_str _ _ _,?_⟩
 have fin:∀lo hi:Option Int,Q (.str (Txt.slice z lo hi)) H->(Txt.slice z lo hi).length<=bU/\∀(t':Tok)(k:Nat),EP X pins σ Q (.str (Txt.slice z lo hi) t') { s with toks:=k }:=λlo hi q=>
  ⟨cP (Txt.slice_le z _ _) hz,λt' k=>⟨.str _,H,I.tok k,⟨t',rfl⟩,q⟩⟩
 cases pl with
 |none=>
  cases pu with
  |none=>exact wpAny_getItem_str_slice (l:=none) (u:=none) (st:=none) hs rfl (post_val_or_str (fin none none q))
  |int j uj=>exact wpAny_getItem_str_slice (l:=none) (u:=some (j,uj)) (st:=none) hs rfl (post_val_or_str (fin none (some j) q))
 |int i ui=>
  cases pu with
  |none=>exact wpAny_getItem_str_slice (l:=some (i,ui)) (u:=none) (st:=none) hs rfl (post_val_or_str (fin (some i) none q))
  |int j uj=>exact wpAny_getItem_str_slice (l:=some (i,ui)) (u:=some (j,uj)) (st:=none) hs rfl (post_val_or_str (fin (some i) (some j) q))
def Y2(K:aG):V->Option Int->Option Int->Hp->VK->Prop:=λx lo hi H Q=>∃a xs,x=.ref a/\qE K H a xs /\
 ((HT.sIx xs.length 0 lo=0/\HT.sIx xs.length xs.length hi=xs.length)->Q (.ref a) H)/\(¬(HT.sIx xs.length 0 lo=0/\HT.sIx xs.length xs.length hi=xs.length)->∀p,H p=none->Q (.ref p) (gK H p (.tup (E3 xs lo hi))))
theorem U8:T3 X (Y2 X.K):=by
 intro pins s σ H x v vl vu lo hi sl Q I rx hs pl pu h;obtain⟨a,xs,rfl,hx,q1,q2⟩:=h;by_cases hw:HT.sIx xs.length 0 lo=0/\HT.sIx xs.length xs.length hi=xs.length
 ·cases rx;obtain⟨its,r,ht,hz⟩:=I.tuple hx;have hlen:its.toArray.size=xs.length:=by rw[bH];exact r.length.symm
  exact⟨"tuple",_,PyProof.Rows.slot_tuple_getitem.lookup,ht.typeIs,HT.getItem_tuple_all ht hs pl pu (by rw[hlen];exact hw) ⟨.ref a,H,I,rfl,q1 hw⟩⟩
 ·exact Z8 pins s σ H (.ref a) v vl vu lo hi sl Q I rx hs pl pu ⟨a,xs,rfl,hx,hw,q2 hw⟩
def QT(K:aG):V->Option Int->Option Int->Hp->VK->Prop:=λx lo hi H Q=>aDi K x lo hi H Q\/Y2 K x lo hi H Q\/aDh x lo hi H Q
theorem iK:T3 X (QT X.K):=U9.or (U8.or Z9)
def QW(K:aG):R2:=λx y H Q=>∃a b xs ys,x=.ref a/\y=.ref b/\qE K H a xs/\qE K H b ys/\xs.length+ys.length<=bU /\
 (xs=[]->Q (.ref b) H)/\(xs≠[]->ys=[]->Q (.ref a) H)/\(xs≠[]->ys≠[]->∀p,H p=none->Q (.ref p) (gK H p (.tup (xs++ys))))
theorem RG:qV X (binaryOp .Add) (QW X.K):=by
 intro pins s σ H x y v u Q I rx ry h;obtain⟨a,b,xs,ys,rfl,rfl,ha,hb,hz,q0,q1,q2⟩:=h;by_cases hx:xs=[]
 ·cases rx;cases ry;obtain⟨its,r1,p1,_⟩:=I.tuple ha;obtain⟨its2,r2,p2,_⟩:=I.tuple hb;obtain⟨⟨cls,dd,data,sl⟩,ho,hc,n,hd⟩:=id p1;obtain⟨⟨cls2,dd2,data2,sl2⟩,ho2,hc2,n2,hd2⟩:=id p2;simp only at hc hd hc2 hd2;subst hc hd hc2 hd2;have he:its=[]:=r1.nil_iff.mpr hx;exact concat_meets ⟨_,ho,rfl⟩ ⟨_,ho2,rfl⟩ noFill_tuple_add seq_tuple_add rX qQ (qD _ _) (tuple_addW0 a b its.toArray its2.toArray n n2 dd dd2 sl sl2 (by simp[he])) ⟨ho,ho2,⟨.ref b,H,I,rfl,q0 hx⟩⟩
 ·exact V0 pins s σ H (.ref a) (.ref b) v u Q I rx ry ⟨a,b,xs,ys,rfl,rfl,ha,hb,hx,hz,q1 hx,q2 hx⟩
def Y5(K:aG):R2:=λx y H Q=>∃l b xs zs,x=.ref l/\y=.ref b/\oM K H l xs/\oM K H b zs/\xs.length+zs.length<=bU/\∀p,H p=none->Q (.ref p) (gK H p (.lst (xs++zs)))
theorem LM:qV X (binaryOp .Add) (Y5 X.K):=by
 intro pins s σ H x y v u Q I rx ry h;obtain⟨l,b,xs,zs,rfl,rfl,ha,hb,hz,q⟩:=h;cases rx;cases ry;obtain⟨its,r1,⟨⟨cls,dd,data,sl⟩,n,ho,hc,hdd,hd⟩,_⟩:=I.list ha;obtain⟨its2,r2,⟨⟨cls2,dd2,data2,sl2⟩,n2,ho2,hc2,hdd2,hd2⟩,_⟩:=I.list hb;simp only at hc hd hc2 hd2;subst hc hd hc2 hd2;have hz':its.toArray.size+its2.toArray.size<=bU:=by rw[bH,bH,<- r1.length,<- r2.length];exact hz
 refine concat_meets ⟨_,ho,rfl⟩ ⟨_,ho2,rfl⟩ noFill_list_add seq_list_add PySem.F.slot_list_add PySem.F.entry_list_add (PySem.F.args_list_add_2 _ _) (list_addW l b its.toArray its2.toArray n n2 dd dd2 sl sl2 hz') ⟨ho,ho2,?_⟩;have ea:its.toArray++its2.toArray=(its++its2).toArray:=by simp
 rw[ea];exact⟨.ref _,_,I.lnew (t':=s.toks) (r1.append r2) (by rw[aZ];exact hz),rfl,q _ I.fresh⟩
def LG(K:aG):R2:=λx y H Q=>(VJ λi j=>.int (i+j)) x y H Q\/(∃i j,x=.str i/\y=.str j/\i.length+j.length<=bU/\Q (.str (i++j)) H)\/QW K x y H Q\/Y5 K x y H Q
theorem cG:qV X (binaryOp .Add) (LG X.K):=aAs.or (JG.or (RG.or LM))
def LE:R2:=λx y H Q=>(rI T8 λi j=>.int (i*j)) x y H Q\/∃z n,x=.str z/\y=.int n/\z.length<=1000/\0<=n/\n<=1000/\Q (.str (Txt.mul z n)) H
theorem JF:qV X (binaryOp .Mult) (λx y H Q=>∃z n,x=.str z/\y=.int n/\z.length<=1000/\0<=n/\n<=1000/\Q (.str (Txt.mul z n)) H):=by
 intro pins s σ H x y v u Q I rx ry h;obtain⟨z,n,rfl,rfl,hz,h0,h1,q⟩:=h;obtain⟨t,rfl⟩:=rx;obtain⟨t',rfl⟩:=ry;refine SB.mul ⟨by simp;omega,λa _=>?_,λ_ _=>?_⟩ λt'' k=>⟨.str _,H,I.tok k,⟨t'',rfl⟩,q⟩
 ·have hn:1<=n:=by omega
  have:(1000:Int)<=(2^63-1) / n:=by
   rw[Int.le_ediv_iff_mul_le (by omega)];omega
  omega
 ·have:z.length*n.toNat<=1000*1000:=nO hz (by omega);unfold Builtin.Str.tooLong;have hL:bU=2^24:=rfl;simp only[decide_eq_false_iff_not];omega
theorem mJ:qV X (binaryOp .Mult) LE:=aAp.or JF
theorem wR(hc:X.calm=true):lH X (.builtin "all") (λxs H Q=>∃(p:Addr)(bs:List Bool),xs=[.ref p]/\oM X.K H p (bs.map V.bl)/\Q (.bl (bs.all id)) H):=by
 intro pins s σ H xs us Q I r h;obtain⟨p,bs,rfl,hq,q⟩:=h;obtain⟨u,rfl,rx⟩:=rY r;cases rx;obtain⟨its,rv,pl,hz⟩:=I.list hq
 have hne:p≠s.heap.objs.size:=by
  obtain⟨o,ho,_⟩:=pl.isList;exact bP (bC ho)
 have hl1:=pl.isList;refine call_all_walk (wpAny_pyIter_list hl1 ?_);refine⟨_,_,_,_,_,_,λi=>(bs[i]?).getD true,rfl,Walks.list (A:=X.A.in1) (I.ok.hd hc) _ p hne its.toArray,⟨⟨_,bB _ rfl,rfl,rfl⟩,hl1.push _⟩,λi v s' Q' E' hP hq'=>?_,λh' tk hk=>?_⟩
 ·have hv:its[i]?=some v:=by simpa using hP
  have hlen:=rv.length;have hi:i<its.length:=(aD.mp hv).1;have hb:i<bs.length:=by rw[aE]at hlen;omega
  obtain⟨w',h1,h2⟩:=rv.get (i:=i) (x:=.bl bs[i]) (by rw[aH,aF hb];rfl);rw[hv]at h1;cases h1;cases h2;refine wpAny_truthy_bool ?_;dsimp only at hq';rw[aF hb]at hq';exact hq'
 ·have e:(fN its.toArray.size).all (λi=>(bs[i]?).getD true)=bs.all id:=by
   have hlen:=rv.length;rw[aE]at hlen;rw[bH,<- hlen];rw[eE,gI,gI];constructor
   ·intro h b hb;obtain⟨i,hi,rfl⟩:=MO.mp hb;have:=h i (lQ.mpr hi);rw[aF hi]at this;exact this
   ·intro h i hi;have hi':=lQ.mp hi;rw[aF hi'];exact h _ (eV hi')
  rw[e];have I1:dM X pins σ H { s with heap:=s.heap.push { cls:=.type "list_iterator",data:=.fields #[.ref p,.int 0 0] } }:=I.kept (t':=s.toks) λb o e=>aI _ e;refine⟨.bl _,H,I.kept λb o e=>hk b o ?_ (aI _ e),rfl,q⟩;intro z;have:b=s.heap.objs.size:=by simpa using z
  exact absurd (bC e) (by rw[this];exact fX _)
def aAh:R2:=λx y H Q=>∃b,y=.bl b/\Q (.bl (decide (x=.bl b))) H
def EA:R2:=λx y H Q=>∃b,y=.bl b/\Q (.bl (!decide (x=.bl b))) H
theorem Y8{x:V}{v:Value}{b:Bool}(r:iO x v):plainIs v (.bool b)=true/\(v==Value.bool b)=decide (x=.bl b):=by
 cases x with
 |non=>cases r;exact⟨rfl,rfl⟩
 |bl c=>cases r;cases b<;>cases c<;>exact⟨rfl,rfl⟩
 |int _=>obtain⟨t,rfl⟩:=r;exact⟨rfl,rfl⟩
 |str _=>obtain⟨t,rfl⟩:=r;exact⟨rfl,rfl⟩
 |byt _=>obtain⟨t,rfl⟩:=r;exact⟨rfl,rfl⟩
 |flt _=>obtain⟨t,rfl⟩:=r;exact⟨rfl,rfl⟩
 |ref _=>cases r;exact⟨rfl,rfl⟩
 |ty _=>cases r;exact⟨rfl,rfl⟩
theorem NG:qV X (compareOp .IsNot) EA:=by
 intro pins s σ H x y v u Q I rx ry h;obtain⟨b,rfl,q⟩:=h;cases ry;obtain⟨h1,h2⟩:=Y8 (b:=b) rx;refine wpAny_isNot_plain h1 ?_;rw[h2];exact⟨.bl _,H,I,rfl,q⟩
theorem aAr:qV X (compareOp .Is) aAh:=by
 intro pins s σ H x y v u Q I rx ry h;obtain⟨b,rfl,q⟩:=h;cases ry;obtain⟨h1,h2⟩:=Y8 (b:=b) rx;refine wpAny_is_plain h1 ?_;rw[h2];exact⟨.bl _,H,I,rfl,q⟩
theorem D1:∀{ys:List Str}{us:List Value},gX (ys.map V.str) us->StrsAre us ys
|[],_,r=>by rw[pM]at r;cases r;exact .nil
|y::ys,us,r=>by
 rw[bM]at r
 cases r with
 |cons r1 r2=>
  obtain⟨t,rfl⟩:=r1;exact .cons y t (D1 r2)
theorem V8:MtR X "str.join" (λx xs H Q=>∃z p ys,x=.str z/\xs=[.ref p]/\oM X.K H p (ys.map V.str)/\(ys.map (·.length)).sum+ys.length*z.length<=16777216/\Q (.str (Txt.join z ys)) H):=by
 intro pins s σ H x xs v us Q I rx r h;obtain⟨z,p,ys,rfl,rfl,hq,hz,q⟩:=h;obtain⟨t,rfl⟩:=rx;obtain⟨u,rfl,ru⟩:=rY r;cases ru;obtain⟨its,rv,pl,_⟩:=I.list hq;exact PyProof.Rows.join_list pl.isList (by simpa using D1 rv) hz λt' k=>⟨.str _,H,I.tok k,⟨t',rfl⟩,q⟩
end
def mW(l:List Str)(y:Str):List Str:=if y∈l then l else l++[y]
def dd(ys:List Str):List Str:=ys.foldl mW []
theorem C6(l:List Str)(y z:Str):z∈mW l y↔z∈l\/z=y:=by
 unfold mW;by_cases h:y∈l
 ·rw[if_pos h];exact⟨.inl,λq=>q.elim id λe=>e▸h⟩
 ·rw[if_neg h];simp
theorem C9:∀(ys l:List Str),(ys.foldl mW l).length<=l.length+ys.length
|[],l=>by simp
|y::ys,l=>by
 have ih:=C9 ys (mW l y)
 have h1:(mW l y).length<=l.length+1:=by
  unfold mW;split<;>simp
 rw[mP,cE];omega
theorem aBy(ys:List Str):(dd ys).length<=ys.length:=by
 unfold dd;have:=C9 ys [];simpa using this
theorem E2(ys:List Str)(i:Nat)(y:Str)(h:ys[i]?=some y):dd (ys.take (i+1))=mW (dd (ys.take i)) y:=by
 unfold dd;rw[cN,h,lL]
 rfl
theorem yF:∀{its:List Value}{ys:List Str},StrsAre its ys->∀(i:Nat)(v:Value),its[i]?=some v->∃y t,ys[i]?=some y/\v=.str y t
|_,_,.nil,i,v,h=>by simp at h
|_,_,.cons y t _,0,v,h=>by simp at h;exact⟨y,t,rfl,h.symm⟩
|_,_,.cons y t r,i+1,v,h=>by
 obtain⟨z,u,h1,h2⟩:=yF r i v (by simpa using h);exact⟨z,u,by simpa using h1,h2⟩
theorem QK{P:bE}{w:World}{h:Heap}{a:Addr}{S S':CC->Bool}{n n':Nat}(hS:h.SetOf (oU P w) a S n)(e:∀k,S k=S' k)(en:n=n'):h.SetOf (oU P w) a S' n':=by
 have z:S=S':=funext e;subst z;subst en;exact hS
section
variable{prog:bE}{w:World}
def DO(prog:bE)(w:World)(h:Heap)(S:Addr)(l:List Str):Prop:=h.SetOf (oU prog w) S (λk=>match k with | .inr z=>decide (z∈l) | .inl _=>false) l.length
end
def T4(P:bE)(w:World)(q:Addr)(n:Nat):HO:=.ext λh=>∃S,h.SetOf (oU P w) q S n
section
variable{X:Cx}
theorem CA:lH X (.builtin "len") (λxs H Q=>∃(q:Addr)(n:Nat),xs=[.ref q]/\H q=some (T4 X.prog X.w q n)/\Q (.int n) H):=by
 intro pins s σ H xs us Q I r h;obtain⟨q,n,rfl,hq,hQ⟩:=h;obtain⟨u,rfl,rx⟩:=rY r;cases rx;obtain⟨⟨S,o,es,ep,t,ho,hex,hd,_,_,hbd,hf,hn⟩,_⟩:=I.hok q _ hq;subst hn;refine call_len_set ho hex hd hf ?_ ⟨.int _,H,I.tok _,⟨_,rfl⟩,hQ⟩;unfold scanBound at hbd;omega
end
end L2
namespace TL
open PySem PySem.Spec PyProof.Rows L2
variable{K:aG}{H H' H1 H2:Hp}{B:Hp}{p0 ps:List Addr}{σT:List Sl}{σ:L2.St}
section
variable{X:Cx}{b c e:Expr}{es:List Expr}{ta te:ET}{pos p:Pos}
def fI(C:Int->Int->Prop)(g:Int->Int->Int):D->D->(D->Prop)->Prop
|.int i,.int j,Q=>C i j/\Q (.int (g i j))
|_,_,_=>False
def fI0(g:Int->Int->Int):D->D->(D->Prop)->Prop
|.int i,.int j,Q=>Q (.int (g i j))
|_,_,_=>False
def fB0(g:Int->Int->Bool):D->D->(D->Prop)->Prop
|.int i,.int j,Q=>Q (.bool (g i j))
|_,_,_=>False
theorem LN{C:Int->Int->Prop}{g:Int->Int->Int}:IF X (rI C λi j=>.int (g i j)) (fI C g):=by
 intro H ps d1 d2 x y Q QV live r1 r2 h k
 cases r1 with
 |int i=>
  cases r2 with
  |int j=>exact⟨i,j,rfl,rfl,h.1,k _ _ H (L2.bL.refl H) (.int _) h.2⟩
  |_=>exact h.elim
 |_=>exact h.elim
theorem JJ{g:Int->Int->Int}:IF X (VJ λi j=>.int (g i j)) (fI0 g):=by
 intro H ps d1 d2 x y Q QV live r1 r2 h k
 cases r1 with
 |int i=>
  cases r2 with
  |int j=>exact⟨i,j,rfl,rfl,k _ _ H (L2.bL.refl H) (.int _) h⟩
  |_=>exact h.elim
 |_=>exact h.elim
theorem sD{g:Int->Int->Bool}:IF X (VJ λi j=>.bl (g i j)) (fB0 g):=by
 intro H ps d1 d2 x y Q QV live r1 r2 h k
 cases r1 with
 |int i=>
  cases r2 with
  |int j=>exact⟨i,j,rfl,rfl,k _ _ H (L2.bL.refl H) (.bool _) h⟩
  |_=>exact h.elim
 |_=>exact h.elim
def aBm:D->D->(D->Prop)->Prop
|.int i,.int j,Q=>Q (.int (i+j))
|.str x,.str y,Q=>x.length+y.length<=100000/\Q (.str (x++y))
|.tuple x,.tuple y,Q=>x.length+y.length<=100000/\Q (.tuple (x++y))
|.list x,.list y,Q=>x.length+y.length<=100000/\Q (.list (x++y))
|_,_,_=>False
theorem yM{n:Nat}(h:n<=100000):n<=bU:=by have:bU=2^24:=rfl;omega
theorem fY:IF X (LG X.K) aBm:=by
 intro H ps d1 d2 x y Q QV live r1 r2 h k
 cases r1 with
 |int i=>
  cases r2 with
  |int j=>exact .inl ⟨i,j,rfl,rfl,k _ _ H (L2.bL.refl H) (.int _) h⟩
  |_=>exact h.elim
 |str i=>
  cases r2 with
  |str j=>exact .inr (.inl ⟨i,j,rfl,rfl,yM h.1,k _ _ H (L2.bL.refl H) (.str _) h.2⟩)
  |_=>exact h.elim
 |tuple q1 s1=>
  cases r2 with
  |tuple q2 s2=>
   refine .inr (.inr (.inl ⟨_,_,_,_,rfl,rfl,bL.seqT bZ q1,bL.seqT bZ q2,yM (by rw[<- s1.length,<- s2.length];exact h.1),λz=>?_,λz1 z2=>?_,λz1 z2 p hp=>?_⟩))
   ·subst z;cases s1;exact k _ _ H (L2.bL.refl H) (.tuple q2 s2) h.2
   ·subst z2;cases s2;have e:=h.2;rw[dG]at e;exact k _ _ H (L2.bL.refl H) (.tuple q1 s1) e
   ·exact k _ _ _ (dU hp) (rE live hp (s1.append s2)) h.2
  |_=>exact h.elim
 |list q1 s1=>
  cases r2 with
  |list q2 s2=>
   exact .inr (.inr (.inr ⟨_,_,_,_,rfl,rfl,L2.bL.seq bZ q1,L2.bL.seq bZ q2,yM (by rw[<- s1.length,<- s2.length];exact h.1),λp hp=>k _ _ _ (dU hp) (uA live hp (s1.append s2)) h.2⟩))
  |_=>exact h.elim
 |_=>exact h.elim
def aHp:D->D->(D->Prop)->Prop
|.int i,.int j,Q=>T8 i j/\Q (.int (i*j))
|.str z,.int n,Q=>z.length<=1000/\0<=n/\n<=1000/\Q (.str (Txt.mul z n))
|_,_,_=>False
theorem yK:IF X LE aHp:=by
 intro H ps d1 d2 x y Q QV live r1 r2 h k
 cases r1 with
 |int i=>
  cases r2 with
  |int j=>exact .inl ⟨i,j,rfl,rfl,h.1,k _ _ H (L2.bL.refl H) (.int _) h.2⟩
  |_=>exact h.elim
 |str z=>
  cases r2 with
  |int n=>exact .inr ⟨z,n,rfl,rfl,h.1,h.2.1,h.2.2.1,k _ _ H (L2.bL.refl H) (.str _) h.2.2.2⟩
  |_=>exact h.elim
 |_=>exact h.elim
def eqF:D->D->Option Bool
|.none,.none=>some true
|.bool x,.bool y=>some (decide (x=y))
|.int x,.int y=>some (decide (x=y))
|.str x,.str y=>some (decide (x=y))
|.str _,.none | .none,.str _=>some false
|_,_=>none
def fEq(x y:D)(Q:D->Prop):Prop:=match eqF x y with | some c=>Q (.bool c) | none=>False
theorem S3{x y:D}{u v:V}{c:Bool}(r1:jF K H x u)(r2:jF K H y v)(h:eqF x y=some c):aC3 u v=true/\decide (u=v)=c:=by
 cases r1<;>cases r2<;>simp[eqF]at h<;>subst h<;>exact⟨rfl,by simp⟩
theorem sZ:IF X rEq fEq:=by
 intro H ps d1 d2 x y Q QV live r1 r2 h k;unfold fEq at h
 cases e:eqF d1 d2 with
 |none=>rw[e]at h;exact h.elim
 |some c=>
  rw[e]at h;obtain⟨h1,h2⟩:=S3 r1 r2 e;refine⟨h1,?_⟩;rw[h2];exact k _ _ H (L2.bL.refl H) (.bool c) h
def uD(b:Bool):D->Bool
|.bool c=>decide (c=b)
|_=>false
theorem Reps.atI{ds:List D}{vs:List V}{i:Int}{d:D}(r:Reps K H ds vs)(h:atI ds i=some d):∃v,atI vs i=some v/\jF K H d v:=by
 unfold L2.atI at h |-
 rw[<- r.length]
 cases e:SE ds.length i with
 |none=>rw[e]at h;cases h
 |some j=>
  rw[e]at h;exact r.get h
inductive FJ(ts:List D)(i:Int)(Q:D->Prop):Prop
|mk (d:D) (h:atI ts i=some d) (k:Q d):FJ ts i Q
def fIx(x y:D)(Q:D->Prop):Prop:=match x,y with
|.list ts,.int i=>FJ ts i Q
|.tuple ts,.int i=>FJ ts i Q
|.str z,.int i=>z.length<=100000/\∃c,atI z.cps.toList i=some c/\Q (.str ⟨#[c]⟩)
|_,_=>False
theorem eG:IF X (rIx X.K) fIx:=by
 intro H ps d1 d2 x y Q QV live r1 r2 h k
 cases r2 with
 |int i=>
  cases r1 with
  |list q s=>
   obtain⟨d,e,h⟩:=h;obtain⟨v,e',r⟩:=s.atI e;exact .inl ⟨_,_,i,v,rfl,rfl,L2.bL.seq bZ q,e',k _ _ H (L2.bL.refl H) r h⟩
  |tuple q s=>
   obtain⟨d,e,h⟩:=h;obtain⟨v,e',r⟩:=s.atI e;exact .inr (.inl ⟨_,_,i,v,rfl,rfl,bL.seqT bZ q,e',k _ _ H (L2.bL.refl H) r h⟩)
  |str z=>
   obtain⟨hz,c,e,h⟩:=h;exact .inr (.inr ⟨z,i,c,rfl,rfl,yM hz,e,k _ _ H (L2.bL.refl H) (.str _) h⟩)
  |_=>exact h.elim
 |_=>cases d1<;>exact h.elim
def jZ{α:Type}(xs:List α)(lo hi:Option Int):List α:=(xs.drop (HT.sIx xs.length 0 lo)).take (HT.sIx xs.length xs.length hi-HT.sIx xs.length 0 lo)
def fSl(x:D)(lo hi:Option Int)(Q:D->Prop):Prop:=match x with
|.list ts=>Q (.list (jZ ts lo hi))
|.tuple ts=>Q (.tuple (jZ ts lo hi))
|.str z=>z.length<=100000/\Q (.str (Txt.slice z lo hi))
|_=>False
theorem Reps.cut{ds:List D}{vs:List V}(r:Reps K H ds vs)(lo hi:Option Int):Reps K H (jZ ds lo hi) (E3 vs lo hi):=by
 unfold jZ E3;rw[r.length];exact(r.drop _).take _
theorem nL:SlT X (QT X.K) fSl:=by
 intro H ps d x lo hi Q QV live r h k
 cases r with
 |list q s=>exact .inl ⟨_,_,rfl,L2.bL.seq bZ q,λp hp=>k _ _ _ (dU hp) (uA live hp (s.cut lo hi)) h⟩
 |@tuple p xs ts q s=>
  refine .inr (.inl ⟨_,_,rfl,bL.seqT bZ q,λz=>?_,λ_ p hp=>k _ _ _ (dU hp) (rE live hp (s.cut lo hi)) h⟩)
  have e:jZ ts lo hi=ts:=by
   unfold jZ;rw[s.length,z.1,z.2,zK,vB,<- s.length,cX]
  have h':Q (.tuple (jZ ts lo hi)):=h;rw[e]at h';exact k _ _ H (L2.bL.refl H) (.tuple q s) h'
 |str z=>exact .inr (.inr ⟨z,rfl,yM h.1,k _ _ H (L2.bL.refl H) (.str _) h.2⟩)
 |_=>exact h.elim
theorem xI:∀{ys:List Str}{vs:List V},Reps K H (ys.map aV) vs->vs=ys.map V.str
|[],_,r=>by rw[pM]at r;cases r;rfl
|y::ys,vs,r=>by
 rw[bM]at r
 cases r with
 |cons r1 r2=>
  cases r1;rw[bM,xI r2]
theorem ZI{r:List V->Hp->VK->Prop}{f:List D->(D->Prop)->Prop}{t:AT}{g:Expr}(hf:tT X r f)(ha:wT X (e::es) t)(pc:∀{ta:TA},PA X (e::es) ta->PE X (.Call g (e::es) [] pos) (P0 r ta)):jD X (.Call g (e::es) [] pos) (jP f t):=by
 obtain⟨v,pa,ra⟩:=ha;refine⟨_,pc pa,λB p0 H ps σT σ Q QV o h k=>ra B p0 H ps σT σ _ _ o h λds xs H1 s1 r1 q1=>?_⟩;exact hf H1 ps ds xs Q QV (o.grow s1).live r1 q1 λd v H' s' r' q'=>k d v H' (s1.trans s') r' q'
def f1(f:D->(D->Prop)->Prop):List D->(D->Prop)->Prop
|[d],Q=>f d Q
|_,_=>False
theorem c1{r:List V->Hp->VK->Prop}{f:D->(D->Prop)->Prop}(h:∀(H:Hp)(ps:List Addr)(d:D)(x:V)(Q:D->Prop)(QV:VK),(∀p∈ps,FS (H p))->jF X.K (dB H ps) d x->f d Q ->
  (∀d v H',bL H H'->jF X.K (dB H' ps) d v->Q d->QV v H')->r [x] H QV):tT X r (f1 f):=by
 intro H ps ds xs Q QV live rs hf k
 cases rs with
 |nil=>exact hf.elim
 |cons r1 r2=>
  cases r2 with
  |nil=>exact h H ps _ _ Q QV live r1 hf k
  |cons _ _=>exact hf.elim
def aHn(d:D)(Q:D->Prop):Prop:=match d with
|.list ts=>Q (.int ts.length)
|.tuple ts=>Q (.int ts.length)
|.str z=>z.length<=100000/\Q (.int z.length)
|_=>False
theorem cW:lH X (.builtin "len") (λxs H Q=>(∃p ys,xs=[.ref p]/\(oM X.K H p ys\/qE X.K H p ys)/\Q (.int ys.length) H)\/∃z,xs=[.str z]/\z.length<=bU/\Q (.int z.length) H):=E8.or E7
theorem kF:tT X (λxs H Q=>(∃p ys,xs=[.ref p]/\(oM X.K H p ys\/qE X.K H p ys)/\Q (.int ys.length) H)\/∃z,xs=[.str z]/\z.length<=bU/\Q (.int z.length) H) (f1 aHn):=c1 λH ps d x Q QV live r h k=>by
 cases r with
 |list q s=>
  refine .inl ⟨_,_,rfl,.inl (L2.bL.seq bZ q),?_⟩;rw[<- s.length];exact k _ _ H (L2.bL.refl H) (.int _) h
 |tuple q s=>
  refine .inl ⟨_,_,rfl,.inr (bL.seqT bZ q),?_⟩;rw[<- s.length];exact k _ _ H (L2.bL.refl H) (.int _) h
 |str z=>exact .inr ⟨z,rfl,yM h.1,k _ _ H (L2.bL.refl H) (.int _) h.2⟩
 |_=>exact h.elim
def tG(d:D)(Q:D->Prop):Prop:=match d with
|.list ts=>Q (.tuple ts)
|.tuple ts=>Q (.tuple ts)
|_=>False
theorem kB:tT X (λxs H Q=>∃p ys,xs=[.ref p]/\((oM X.K H p ys/\∀l,H l=none->Q (.ref l) (gK H l (.tup ys)))\/(qE X.K H p ys/\Q (.ref p) H))) (f1 tG):=c1 λH ps d x Q QV live r h k=>by
 cases r with
 |list q s=>exact⟨_,_,rfl,.inl ⟨L2.bL.seq bZ q,λl hl=>k _ _ _ (dU hl) (rE live hl s) h⟩⟩
 |tuple q s=>exact⟨_,_,rfl,.inr ⟨bL.seqT bZ q,k _ _ H (L2.bL.refl H) (.tuple q s) h⟩⟩
 |_=>exact h.elim
def aFk(d:D)(Q:D->Prop):Prop:=match d with
|.list ts=>Q (.list ts)
|.tuple ts=>Q (.list ts)
|_=>False
theorem TJ:tT X (λxs H Q=>∃p ys,xs=[.ref p]/\(oM X.K H p ys\/qE X.K H p ys)/\∀l,H l=none->Q (.ref l) (gK H l (.lst ys))) (f1 aFk):=c1 λH ps d x Q QV live r h k=>by
 cases r with
 |list q s=>exact⟨_,_,rfl,.inl (L2.bL.seq bZ q),λl hl=>k _ _ _ (dU hl) (uA live hl s) h⟩
 |tuple q s=>exact⟨_,_,rfl,.inr (bL.seqT bZ q),λl hl=>k _ _ _ (dU hl) (uA live hl s) h⟩
 |_=>exact h.elim
theorem GD:∀{ys:List Bool}{vs:List V},Reps K H (ys.map aCh) vs->vs=ys.map V.bl
|[],_,r=>by rw[pM]at r;cases r;rfl
|y::ys,vs,r=>by
 rw[bM]at r
 cases r with
 |cons r1 r2=>
  cases r1;rw[bM,GD r2]
theorem CO:∀{ys:List Int}{vs:List V},Reps K H (ys.map bS) vs->vs=ys.map V.int
|[],_,r=>by rw[pM]at r;cases r;rfl
|y::ys,vs,r=>by
 rw[bM]at r
 cases r with
 |cons r1 r2=>
  cases r1;rw[bM,CO r2]
def aBi(d:D)(Q:D->Prop):Prop:=∃bs:List Bool,d=.list (bs.map aCh)/\Q (.bool (bs.all id))
theorem ZM:tT X (λxs H Q=>∃(p:Addr)(bs:List Bool),xs=[.ref p]/\oM X.K H p (bs.map V.bl)/\Q (.bl (bs.all id)) H) (f1 aBi):=c1 λH ps d x Q QV live r h k=>by
 obtain⟨bs,rfl,h⟩:=h
 cases r with
 |list q s=>
  have e:=GD s;subst e;exact⟨_,bs,rfl,L2.bL.seq bZ q,k _ _ H (L2.bL.refl H) (.bool _) h⟩
def f2(f:D->D->(D->Prop)->Prop):List D->(D->Prop)->Prop
|[d,d'],Q=>f d d' Q
|_,_=>False
def aFi(x y:D)(Q:D->Prop):Prop:=match x,y with | .int i,.int j=>Q (.int (if j<i then j else i)) | _,_=>False
theorem TF:tT X (λxs H Q=>∃i j,xs=[.int i,.int j]/\Q (.int (if j<i then j else i)) H) (f2 aFi):=by
 intro H ps ds xs Q QV live rs hf k
 cases rs with
 |nil=>exact hf.elim
 |cons r1 r2=>
  cases r2 with
  |nil=>exact hf.elim
  |cons r3 r4=>
   cases r4 with
   |cons _ _=>exact hf.elim
   |nil=>
    cases r1 with
    |int i=>
     cases r3 with
     |int j=>exact⟨i,j,rfl,k _ _ H (L2.bL.refl H) (.int _) hf⟩
     |_=>exact hf.elim
    |_=>exact hf.elim
theorem J3{pins:List (Addr×Obj)}{s:Shared}{σ:L2.St}{H:Hp}{A:Around}{E:Value->Shared->Prop}{Q:Value->Shared->Prop}{p C:Addr}{dx:Option Addr}{c:Value}{b:Bool}(I:dM X pins σ H s)(hp:H p=some (.ext (lY p C dx)))(hd:∀d,dx=some d->∃fs,H d=some (.xd fs))(x:yC X.K C)
  (e:cT X.K (.ref C) c=some b) (h:∀tk,Q (.bool b) { s with toks:=tk }):wpAny (model X.prog X.w) A (call (.builtin "isinstance") [.ref p,c]) Q E s:=by
 refine PySem.W.kia_one (GX x) I.kIn ?_ e (λz=>nomatch z) h;obtain⟨⟨o,vs,h1,h2,h3,h4⟩,_⟩:=I.hok p _ hp;have hn:pI o=true:=by unfold pI;rw[h4]
 cases dx with
 |none=>exact⟨o,none,h1,h2,hn,by rw[h3];trivial⟩
 |some d=>
  obtain⟨fs,hf⟩:=hd d rfl;obtain⟨mA,⟨od,es,ep,he,_⟩,_⟩:=I.hok d _ hf;exact⟨o,some od,h1,h2,hn,by rw[h3];exact he⟩
def ZJ(f:Str->List D->(D->Prop)->Prop)(te:ET)(t:AT):ET:=λσ Q=>te σ λd=>∃z,d=.str z/\t σ λds=>f z ds Q
def aFl(z:Str)(ds:List D)(Q:D->Prop):Prop:=match ds with | [.list ts]=>∃ys:List Str,ts=ys.map aV/\(ys.map (·.length)).sum+ys.length*z.length<=16777216/\Q (.str (Txt.join z ys)) | _=>False
theorem NS{f:Str->List D->(D->Prop)->Prop}{r:V->List V->Hp->VK->Prop}{n g:Expr}{t:AT}(hn:jD X n te)(ha:wT X (e::es) t)
  (hf:∀(H:Hp)(ps:List Addr)(z:Str)(ds:List D)(xs:List V)(Q:D->Prop)(QV:VK),Reps X.K (dB H ps) ds xs->f z ds Q->(∀d v H',bL H H'->jF X.K (dB H' ps) d v->Q d->QV v H')->r (.str z) xs H QV)
  (pc:∀{v:TE}{ta:TA},PE X n v->PA X (e::es) ta->PE X (.Call g (e::es) [] pos) (Z0 X.K "str" r v ta)):jD X (.Call g (e::es) [] pos) (ZJ f te t):=by
 obtain⟨v,pe,re⟩:=hn;obtain⟨va,pa,ra⟩:=ha;refine⟨_,pc pe pa,λB p0 H ps σT σ Q QV o h k=>re B p0 H ps σT σ _ _ o h λd x H1 s1 r1 q1=>?_⟩;obtain⟨z,rfl,q1⟩:=q1;cases r1;refine⟨rfl,ra B p0 H1 ps σT σ _ _ (o.grow s1) q1 λds xs H2 s2 r2 q2=>?_⟩;exact hf H2 ps z ds xs Q QV r2 q2 λd v H' s' r' q'=>k d v H' (s1.trans (s2.trans s')) r' q'
theorem WR{n:Expr}{ap:Pos}{t:AT}(hn:jD X n te)(ha:wT X (e::es) t)
  (pc:∀{v:TE}{ta:TA},PE X n v->PA X (e::es) ta->PE X (.Call (.Attribute n "join" ap) (e::es) [] pos) (Z0 X.K "str" (λx xs H Q=>∃z p ys,x=.str z/\xs=[.ref p]/\oM X.K H p (ys.map V.str)/\(ys.map (·.length)).sum+ys.length*z.length<=16777216/\Q (.str (Txt.join z ys)) H) v ta)):jD X (.Call (.Attribute n "join" ap) (e::es) [] pos) (ZJ aFl te t):=
 NS hn ha (λH ps z ds xs Q QV r h k=>by
  cases r with
  |nil=>exact h.elim
  |cons r1 r2=>
   cases r2 with
   |cons _ _=>cases r1<;>exact h.elim
   |nil=>
    cases r1 with
    |list q s=>
     obtain⟨ys,rfl,hz,h⟩:=h;have e:=xI s;subst e;exact⟨z,_,ys,rfl,rfl,L2.bL.seq bZ q,hz,k _ _ H (L2.bL.refl H) (.str _) h⟩
    |_=>exact h.elim) pc
mutual
theorem jF.reads{pins:List (Addr×Obj)}{s:Shared}{σ:L2.St}(I:dM X pins σ H s):∀{d:D}{x:V}{u:Value},d.hasDict=false->jF X.K H d x->iO x u->∃as,Reads s.heap u d as
|_,_,_,_,.none,r=>by cases r;exact⟨_,.none⟩
|_,_,_,_,.bool b,r=>by cases r;exact⟨_,.bool b⟩
|_,_,_,_,.int i,r=>by obtain⟨t,rfl⟩:=r;exact⟨_,.int i t⟩
|_,_,_,_,.str z,r=>by obtain⟨t,rfl⟩:=r;exact⟨_,.str z t⟩
|_,_,_,hd,.list q rs,r=>by
 cases r;obtain⟨its,rv,⟨o,n,h1,h2,_,h3⟩,_⟩:=I.list q;obtain⟨as,h4⟩:=Reps.reads I hd rs rv;exact⟨_,.list h1 h2 h3 (by simpa using h4)⟩
|_,_,_,hd,.tuple q rs,r=>by
 cases r;obtain⟨its,rv,⟨o,h1,h2,n,h3⟩,_⟩:=I.tuple q;obtain⟨as,h4⟩:=Reps.reads I hd rs rv;exact⟨_,.tuple h1 h2 h3 (by simpa using h4)⟩
|_,_,_,hd,.wild _,_=>by cases hd
|_,_,_,hd,.exc _ _,_=>by cases hd
|_,_,_,hd,.excA _ _ _,_=>by cases hd
|_,_,_,hd,.excD _ _ _ _,_=>by cases hd
|_,_,_,hd,.tape _ _,_=>by cases hd
|_,_,_,hd,.addr _,_=>by cases hd
theorem Reps.reads{pins:List (Addr×Obj)}{s:Shared}{σ:L2.St}(I:dM X pins σ H s):∀{ds:List D}{xs:List V}{us:List Value},lD ds=false->Reps X.K H ds xs->gX xs us->∃as,ReadsAll s.heap us ds as
|_,_,_,_,.nil,r=>by cases r;exact⟨_,.nil⟩
|d::ds,_,_,hd,.cons r1 r2,r=>by
 have hd':(d.hasDict||lD ds)=false:=hd;rw[oP]at hd'
 cases r with
 |cons v1 v2=>
  obtain⟨as,h1⟩:=jF.reads I hd'.1 r1 v1;obtain⟨bs,h2⟩:=Reps.reads I hd'.2 r2 v2;exact⟨_,.cons h1 h2⟩
end
end
end TL
namespace TL
open PySem PySem.Spec PyProof.Rows L2
def aAt(names:List (Str×NameKind)):Bool:=match names.filter (λy=>y.2==NameKind.cell)with
|[]=>true
|[x]=>names.lookup x.1==some .cell
|_=>false
theorem V1{names:List (Str×NameKind)}(h:aAt names=true):uH names:=by
 unfold aAt at h;split at h
 ·rename_i e;exact .inl e
 ·rename_i x e;have hx:x∈names.filter (λy=>y.2==NameKind.cell):=by rw[e];exact aW.mpr rfl
  have hk:x.2=.cell:=eq_of_beq (bO.mp hx).2;exact .inr ⟨x.1,by rw[e,<- hk],beq_iff_eq.mp h⟩
 ·cases h
def tF(sc out:Scope)(Nx N':List Str)(fr:List (Option Nat)):Bool:=
 decide (sc.kind=.function)&&aAt sc.names&&sc.names.all (λy=>decide (y.2≠.free)||decide (out.names.lookup y.1=some .cell))&&sc.names.all (λy=>decide (y.2≠.local)||decide (sc.names.lookup y.1=some .local))&&tH sc.names out.names Nx N' fr
section
variable{X:Cx}{elt iter tg:Expr}{ifs:List Expr}{scope:Scope}{pos:Pos}{N':List Str}{fr:List (Option Nat)}{wi:TI}{g:BP->TG}{tt:BP->TT}{te:BP->TE}
theorem CZ{out:Scope}{Nx:List Str}(h:tF scope out Nx N' fr=true):scope.kind=.function/\uH scope.names/\(∀y∈scope.names,y.2=.free->out.names.lookup y.1=some .cell)/\(∀y∈scope.names,y.2=.local->scope.names.lookup y.1=some .local)/\tH scope.names out.names Nx N' fr=true:=by
 unfold tF at h;simp only[dA,gI,jV,decide_eq_true_eq]at h;obtain⟨⟨⟨⟨h1,h2⟩,h3⟩,h4⟩,h5⟩:=h;exact⟨h1,V1 h2,λy hy e=>(h3 y hy).elim (λz=>absurd e z) id,λy hy e=>(h4 y hy).elim (λz=>absurd e z) id,h5⟩
theorem RA(h:tF scope X.env.scope X.N N' fr=true)(hcalm:X.calm=true)(hi:PI X tg iter wi)
  (hY:∀b:BP,PG (blk X scope N' b) tg (g b)/\OS (blk X scope N' b) ifs (tt b)/\PE (blk X scope N' b) elt (te b)) (hs:∀x,foldedSetIterable iter X.env x=pure x:=by intro _;rfl):PE X (.ListComp elt [⟨tg,iter,ifs,0⟩] scope pos) (PY fr wi g tt te):=by
 obtain⟨h1,h2,h3,h4,h5⟩:=CZ h;exact aDt hcalm h1 h2 h5 h3 h4 hi hY hs
theorem qH{i:Nat}{x:Str}{px spos:Pos}(h:tF scope X.env.scope X.N N' fr=true)(hN:X.N.Nodup)(hix:X.N[i]?=some x)(hx:MH X.env.scope x)(hcalm:X.calm=true)(hi:PI X tg iter wi)
  (hY:∀b:BP,PG (blk X scope N' b) tg (g b)/\OS (blk X scope N' b) ifs (tt b)/\PE (blk X scope N' b) elt (te b))
  (hsw:lA (.ListComp elt [⟨tg,iter,ifs,0⟩] scope pos) (some (.Name x px)) spos.line X.env=pure true) (hs:∀x,foldedSetIterable iter X.env x=pure x:=by intro _;rfl) (hf:X.fn x=true\/X.env.scope.names.lookup x=some .local:=by first | exact .inl rfl | exact .inr rfl) :
  PS X (.Assign [.Name x px] (.ListComp elt [⟨tg,iter,ifs,0⟩] scope pos) spos) (vZ (PY fr wi g tt te) (nF i)):=by
 obtain⟨h1,h2,h3,h4,h5⟩:=CZ h;exact Q1 hN hix hx hcalm h1 h2 h5 h3 h4 hi hY hsw hs hf
end
theorem TV:bootBuiltins "all"=some (.builtin "all"):=by decide +kernel
theorem TR:bootBuiltins "min"=some (.builtin "min"):=by decide +kernel
theorem TU:bootBuiltins "max"=some (.builtin "max"):=by decide +kernel
theorem nR:bootBuiltins "isinstance"=some (.builtin "isinstance"):=by decide +kernel
theorem gU:bootBuiltins "len"=some (.builtin "len"):=by decide +kernel
theorem aB3:bootBuiltins "set"=some (.type "set"):=by decide +kernel
theorem iZ:bootBuiltins "tuple"=some (.type "tuple"):=by decide +kernel
theorem uF:bootBuiltins "list"=some (.type "list"):=by decide +kernel
theorem KC:bootBuiltins "int"=some (.type "int"):=by decide +kernel
theorem set_set{α:Type}(l:List α)(i:Nat)(a b:α):(l.set i a).set i b=l.set i b:=by
 apply gB;intro j;by_cases h:i=j
 ·subst h;by_cases hl:i<l.length
  ·rw[bA (by simpa using hl),bA hl]
  ·rw[dD (by simpa using hl),dD (by simpa using hl)]
 ·rw[aU h,aU h,aU h]
theorem R5{ts:List D}{σb:List Sl}{te:ET}{Q:D->Prop}(R:Nat->D->D->Prop)(hz:ts.length<=100000)
  (ht:∀(k:Nat)(x:D)(q:D->Prop),ts[k]?=some x->(∀y,R k x y->q y)->te (σb.set 0 (.val x)) q)
  (hq:∀ys:List D,ys.length=ts.length->(∀(k:Nat)(x y:D),ts[k]?=some x->ys[k]?=some y->R k x y)->Q (.list ys)) :
  ts.length<=100000/\∃P:Nat->List Sl->List D->Prop,P 0 σb [] /\
   (∀(k:Nat)(x:D)(σ':List Sl)(ds:List D),ts[k]?=some x->P k σ' ds->gN 0 x σ' λσ2=>BO σ2 λb=>if b=true then te σ2 λy=>P (k+1) σ2 (ds++[y])else P (k+1) σ2 ds)/\∀σ' ds,P ts.length σ' ds->Q (.list ds):=by
 refine⟨hz,λk σ' ds=>(∀x,σ'.set 0 (.val x)=σb.set 0 (.val x))/\ds.length=k/\∀(j:Nat)(x y:D),ts[j]?=some x->ds[j]?=some y->R j x y,⟨λ_=>rfl,rfl,λj x y _ h=>by simp at h⟩,λk x σ' ds hx h=>?_,λσ' ds h=>hq ds h.2.1 h.2.2⟩;obtain⟨h1,h2,h3⟩:=h;show te (σ'.set 0 (.val x)) _;rw[h1 x];refine ht k x _ hx λy hy=>⟨λz=>set_set _ _ _ _,by simp[h2],λj x' y' e1 e2=>?_⟩;by_cases hj:j<k
 ·rw[dP (by omega)]at e2;exact h3 j x' y' e1 e2
 ·rw[dZ (by omega)]at e2
  have:j=k:=by
   by_cases e:j=k
   ·exact e
   ·have:j-ds.length≠0:=by omega
    cases q:j-ds.length with
    |zero=>exact absurd q this
    |succ n=>rw[q]at e2;simp at e2
  subst this;rw[hx]at e1;cases e1;simp[h2]at e2;subst e2;exact hy
theorem aA5{ts:List D}{σb:List Sl}{te:ET}{Q:D->Prop}(f:D->D)(hz:ts.length<=100000)(ht:∀(x:D)(q:D->Prop),x∈ts->q (f x)->te (σb.set 0 (.val x)) q)(hq:Q (.list (ts.map f))) :
  ts.length<=100000/\∃P:Nat->List Sl->List D->Prop,P 0 σb [] /\
   (∀(k:Nat)(x:D)(σ':List Sl)(ds:List D),ts[k]?=some x->P k σ' ds->gN 0 x σ' λσ2=>BO σ2 λb=>if b=true then te σ2 λy=>P (k+1) σ2 (ds++[y])else P (k+1) σ2 ds)/\∀σ' ds,P ts.length σ' ds->Q (.list ds):=by
 refine R5 (λk x y=>y=f x) hz (λk x q hx h=>ht x q (aR hx) (h _ rfl)) λys hl h=>?_
 have e:ys=ts.map f:=by
  apply gB;intro i;rw[aH]
  cases hx:ts[i]? with
  |none=>
   rw[dD (by rw[hl];exact FQ.mp hx)];rfl
  |some x=>
   have hi:i<ys.length:=by rw[hl];exact(aD.mp hx).1
   have:=h i x ys[i] hx (aF hi);rw[aF hi,this];rfl
 rw[e];exact hq
theorem WB{ts:List D}{σb:List Sl}{tt:qA}{te:ET}{Q:D->Prop}(p:D->Bool)(f:D->D)(hz:ts.length<=100000)(hp:∀(x:D)(q:Bool->Prop),x∈ts->q (p x)->tt (σb.set 0 (.val x)) q)
  (ht:∀(x:D)(q:D->Prop),x∈ts->q (f x)->te (σb.set 0 (.val x)) q) (hq:Q (.list ((ts.filter p).map f))) :
  ts.length<=100000/\∃P:Nat->List Sl->List D->Prop,P 0 σb [] /\
   (∀(k:Nat)(x:D)(σ':List Sl)(ds:List D),ts[k]?=some x->P k σ' ds->gN 0 x σ' λσ2=>tt σ2 λb=>if b=true then te σ2 λy=>P (k+1) σ2 (ds++[y])else P (k+1) σ2 ds)/\∀σ' ds,P ts.length σ' ds->Q (.list ds):=by
 refine⟨hz,λk σ' ds=>(∀x,σ'.set 0 (.val x)=σb.set 0 (.val x))/\ds=((ts.take k).filter p).map f,⟨λ_=>rfl,rfl⟩,λk x σ' ds hx h=>?_,λσ' ds h=>?_⟩
 ·obtain⟨h1,rfl⟩:=h;have hm:x∈ts:=aR hx;show tt (σ'.set 0 (.val x)) _;rw[h1 x];refine hp x _ hm ?_;have e:ts.take (k+1)=ts.take k++[x]:=by rw[cN,hx];rfl
  cases hb:p x with
  |true=>
   rw[if_pos rfl];refine ht x _ hm ⟨λz=>set_set _ _ _ _,?_⟩;rw[e,fQ,bY];simp[hb]
  |false=>
   rw[if_neg (by decide)];refine⟨λz=>set_set _ _ _ _,?_⟩;rw[e,fQ,bY];simp[hb]
 ·obtain⟨_,rfl⟩:=h;rw[cX];exact hq
section
variable{fr:List (Option Nat)}{ti:IT}{tt:qA}{te:ET}{σ:List Sl}{Q:D->Prop}{ts:List D}
abbrev tR(ti:IT)(σ:List Sl)(ts:List D):Prop:=∀R:List D->Prop,R ts->ti σ R
theorem mU(hti:tR ti σ ts)(f:D->D)(hz:ts.length<=100000)(ht:∀(x:D)(q:D->Prop),x∈ts->q (f x)->te ((jT fr σ).set 0 (.val x)) q)(hq:Q (.list (ts.map f))):OD fr ti (gN 0) BO te σ Q:=
 hti _ (aA5 (te:=te) (Q:=Q) f hz ht hq)
theorem JV(hti:tR ti σ ts)(R:Nat->D->D->Prop)(hz:ts.length<=100000)
  (ht:∀(k:Nat)(x:D)(q:D->Prop),ts[k]?=some x->(∀y,R k x y->q y)->te ((jT fr σ).set 0 (.val x)) q)
  (hq:∀ys:List D,ys.length=ts.length->(∀(k:Nat)(x y:D),ts[k]?=some x->ys[k]?=some y->R k x y)->Q (.list ys)):OD fr ti (gN 0) BO te σ Q:=
 hti _ (R5 (te:=te) (Q:=Q) R hz ht hq)
theorem lX(hti:tR ti σ ts)(p:D->Bool)(f:D->D)(hz:ts.length<=100000)(hp:∀(x:D)(q:Bool->Prop),x∈ts->q (p x)->tt ((jT fr σ).set 0 (.val x)) q)
  (ht:∀(x:D)(q:D->Prop),x∈ts->q (f x)->te ((jT fr σ).set 0 (.val x)) q) (hq:Q (.list ((ts.filter p).map f))):OD fr ti (gN 0) tt te σ Q:=
 hti _ (WB (tt:=tt) (te:=te) (Q:=Q) p f hz hp ht hq)
theorem aFn{g:GT}{tb:nI}{DT:lZ}(hti:tR ti σ ts)(P:Nat->List Sl->Prop)(h0:P 0 σ)
  (hs:∀(k:Nat)(x:D)(σ':List Sl),ts[k]?=some x->P k σ'->g x σ' λσ2=>tb { DT with nx:=P (k+1),ct:=P (k+1),bk:=DT.nx } σ2) (hd:∀σ',P ts.length σ'->DT.nx σ'):VG ti g tb DT σ:=hti _ ⟨P,h0,hs,hd⟩
end
theorem uG(x y:Str):(x++y).cps.toList=x.cps.toList++y.cps.toList:=by
 show(x.cps++y.cps).toList=_;simp
theorem JA(xs:Array Nat)(a k:Nat):(fN k).filterMap (λm=>xs[a+m]?)=(xs.toList.drop a).take k:=by
 induction k with
 |zero=>simp
 |succ k ih=>
  rw[B0,List.filterMap_append,ih,cN,xA];congr 1;simp only[kI,List.filterMap_nil];rw[tY];cases xs[a+k]?<;>rfl
theorem MB(v:Option Int)(n d:Nat)(hd:d<=n):(match v with | none=>(d:Int) | some i=>max 0 (min (if i<0 then i+(n:Int)else i) (n:Int)))=((HT.sIx n d v:Nat):Int):=by
 cases v with
 |none=>rfl
 |some i=>
  have:=HT.clip_eq i n d;rw[<- this];dsimp only;split<;>omega
theorem S9(v:Option Int)(n:Nat):(match v with | none=>(0:Int) | some i=>max 0 (min (if i<0 then i+(n:Int)else i) (n:Int)))=((HT.sIx n 0 v:Nat):Int):=MB v n 0 (dS _)
theorem P7{a a' b b':Int}(h1:a=a')(h2:b=b'):sliceRange a b 1=sliceRange a' b' 1:=by rw[h1,h2]
theorem sS(z:Str)(lo hi:Option Int):(Txt.slice z lo hi).cps.toList=jZ z.cps.toList lo hi:=by
 have hn:z.cps.toList.length=z.length:=by simp[Str.length]
 have ha:=HT.sIx_le z.length 0 (dS _) lo;have hb:=HT.sIx_le z.length z.length (aN _) hi
 have hI:Builtin.Str.strSliceIndices lo hi 1 z.length=(fN (HT.sIx z.length z.length hi-HT.sIx z.length 0 lo)).map (λk=>HT.sIx z.length 0 lo+k):=by
  unfold Builtin.Str.strSliceIndices;simp only[show(1:Int)>0 by decide,if_true];refine(P7 (S9 lo z.length) (MB hi z.length z.length (aN _))).trans ?_;unfold sliceRange;simp only[show(1:Int)>0 by decide,if_true]
  generalize HT.sIx z.length 0 lo=a
  generalize HT.sIx z.length z.length hi=b
  have ec:(if(a:Int)<(b:Int)then((b:Int)-a+1-1) / 1 else 0).toNat=b-a:=by split<;>omega
  rw[ec];apply mF;intro k _;omega
 unfold Txt.slice jZ;rw[hn,hI]
 generalize HT.sIx z.length 0 lo=a at *
 generalize HT.sIx z.length z.length hi=b at *
 split
 ·next h=>
  simp only[beq_self_eq_true,aCj,beq_iff_eq,aE,qS]at h;have h1:a=0:=by omega
  have h2:b-a=z.cps.toList.length:=by rw[hn];exact h
  rw[h2,h1,vB,cX]
 ·rw[O8];exact JA z.cps a (b-a)
theorem JX:∀ys:List Str,(Txt.join ⟨#[]⟩ ys).cps.toList=(ys.map (·.cps.toList)).flatten:=by
 intro ys;show(Builtin.Str.glued ⟨#[]⟩ ys).cps.toList=_;rw[StrLaws.glued_eq_join]
 induction ys with
 |nil=>rfl
 |cons x ys ih=>
  cases ys with
  |nil=>simp[Str.join]
  |cons y r=>
   show(x++⟨#[]⟩++Str.join ⟨#[]⟩ (y::r)).cps.toList=_;rw[uG,uG,ih];simp
theorem SJ(x:Str)(c:Nat):Txt.contains x ⟨#[c]⟩=decide (c∈x.cps.toList):=StrLaws.found_one x c
section
variable{te:ET}{u t e:nI}{c:qA}{DT:lZ}{σ:List Sl}{i:Nat}
theorem cV(v:D)(h:∀q:D->Prop,q v->te σ q)(k:u DT (σ.set i (.val v))):iM (D7 i te) u DT σ:=h _ k
theorem dF(R:D->Prop)(h:∀q:D->Prop,(∀v,R v->q v)->te σ q)(k:∀v,R v->u DT (σ.set i (.val v))):iM (D7 i te) u DT σ:=h _ k
theorem gL(R:Bool->Prop)(h:∀q:Bool->Prop,(∀b,R b->q b)->c σ q)(k1:R true->t { DT with nx:=u DT } σ)(k0:R false->e { DT with nx:=u DT } σ):iM (sIf c t e) u DT σ:=by
 refine h _ λb hb=>?_
 cases b with
 |true=>rw[if_pos rfl];exact k1 hb
 |false=>rw[if_neg (by decide)];exact k0 hb
theorem jL(R:Bool->Prop)(h:∀q:Bool->Prop,(∀b,R b->q b)->c σ q)(k1:R true->t DT σ)(k0:R false->e DT σ):sIf c t e DT σ:=by
 refine h _ λb hb=>?_
 cases b with
 |true=>rw[if_pos rfl];exact k1 hb
 |false=>rw[if_neg (by decide)];exact k0 hb
theorem hJ{ti:IT}{ts:List D}{g:GT}{tb:nI}(hti:tR ti σ ts)(P:Nat->List Sl->Prop)(h0:P 0 σ)
  (hs:∀(k:Nat)(x:D)(σ':List Sl),ts[k]?=some x->P k σ'->g x σ' λσ2=>tb { DT with nx:=P (k+1),ct:=P (k+1),bk:=u DT } σ2) (hd:∀σ',P ts.length σ'->u DT σ'):iM (VG ti g tb) u DT σ:=
 aFn (DT:={ DT with nx:=u DT }) hti P h0 hs hd
theorem mQ{t:AT}(ds:List D)(hz:ds.length<=1000)(h:∀q:List D->Prop,q ds->t σ q)(k:u DT (σ.set i (.own ds))):iM (aAd i t) u DT σ:=h _ ⟨hz,k⟩
theorem VB{ts:List D}(v:D)(ho:σ[i]?=some (.own ts))(hz:ts.length<=100000)(h:∀q:D->Prop,q v->te σ q)(k:u DT (σ.set i (.own (ts++[v])))):iM (aAf i te) u DT σ:=⟨ts,ho,h _ ⟨hz,k⟩⟩
theorem zQ{ts:List D}(v:D)(ho:σ[i]?=some (.own ts))(hz:ts.length<=100000)(h:∀q:D->Prop,q v->te σ q)(k:DT.nx (σ.set i (.own (ts++[v])))):aAf i te DT σ:=⟨ts,ho,h _ ⟨hz,k⟩⟩
theorem mT(v:D)(h:∀q:D->Prop,q v->te σ q)(k:DT.nx (σ.set i (.val v))):D7 i te DT σ:=h _ k
end
end TL
namespace TL
open PySem PySem.Spec PyProof.Rows L2
mutual
theorem oF:∀{d:D},d.canLay0=true->d.hasDict=false
|.none,_=>rfl
|.bool _,_=>rfl
|.int _,_=>rfl
|.str _,_=>rfl
|.list _,h=>noDictAll h
|.tuple _,h=>noDictAll h
|.dict _,h=>by cases h
theorem noDictAll:∀{ds:List D},fL ds=true->lD ds=false
|[],_=>rfl
|d::ds,h=>by
 have h':(d.canLay0&&fL ds)=true:=h;rw[dA]at h';show(d.hasDict||lD ds)=false;rw[oF h'.1,noDictAll h'.2];rfl
end
section
variable{X:Cx}{b e:Expr}
def yI(K:aG)(ok:D->D->Prop)(f:D->D->Bool):R2:=λx y H Q=>∃d1 d2,jF K H d1 x/\jF K H d2 y/\ok d1 d2/\Q (.bl (f d1 d2)) H
def aFs(ok:D->D->Prop)(f:D->D->Bool)(x y:D)(Q:D->Prop):Prop:=ok x y/\Q (.bool (f x y))
theorem jC{ok:D->D->Prop}{f:D->D->Bool}:IF X (yI X.K ok f) (aFs ok f):=by
 intro H ps d1 d2 x y Q QV live r1 r2 h k;exact⟨d1,d2,r1.same bZ,r2.same bZ,h.1,k _ _ H (L2.bL.refl H) (.bool _) h.2⟩
def RJ(d1 d2:D):Prop:=d1.canLay0=true/\d2.canLay0=true/\min d1.depth d2.depth<=60
theorem oE{k:Nat}(hr:Room k X.A):qV X (compareOp .Eq) (yI X.K RJ cC):=by
 intro pins s σ H x y v u Q I rx ry h;obtain⟨d1,d2,r1,r2,⟨c1,c2,hm⟩,q⟩:=h;obtain⟨as,h1⟩:=jF.reads I (oF c1) r1 rx;obtain⟨bs,h2⟩:=jF.reads I (oF c2) r2 ry;exact SeqAt.compareEq_reads h1 h2 c1 c2 (by have:=hr.un;omega) ⟨.bl _,H,I,rfl,q⟩
theorem sY{k:Nat}(hr:Room k X.A):qV X (compareOp .NotEq) (yI X.K RJ λx y=>!cC x y):=by
 intro pins s σ H x y v u Q I rx ry h;obtain⟨d1,d2,r1,r2,⟨c1,c2,hm⟩,q⟩:=h;obtain⟨as,h1⟩:=jF.reads I (oF c1) r1 rx;obtain⟨bs,h2⟩:=jF.reads I (oF c2) r2 ry;exact SeqAt.compareNe_reads h1 h2 c1 c2 (by have:=hr.un;omega) ⟨.bl _,H,I,rfl,q⟩
def wM(x y:D):Prop:=match y with
|.list ts=>fL ts=true/\x.canLay0=true/\min (eK ts) x.depth<=60
|.tuple ts=>fL ts=true/\x.canLay0=true/\min (eK ts) x.depth<=60
|_=>False
def ER(x y:D):Bool:=match y with
|.list ts=>ts.any λz=>cC z x
|.tuple ts=>ts.any λz=>cC z x
|_=>false
theorem NJ{k:Nat}(hr:Room k X.A):qV X (compareOp .In) (yI X.K wM ER):=by
 intro pins s σ H x y v u Q I rx ry h;obtain⟨d1,d2,r1,r2,ho,q⟩:=h
 have hd:d1.hasDict=false/\d2.hasDict=false:=by
  cases d2 with
  |list ts=>exact⟨oF ho.2.1,noDictAll ho.1⟩
  |tuple ts=>exact⟨oF ho.2.1,noDictAll ho.1⟩
  |_=>exact ho.elim
 obtain⟨as,h1⟩:=jF.reads I hd.1 r1 rx;obtain⟨bs,h2⟩:=jF.reads I hd.2 r2 ry
 cases d2 with
 |list ts=>exact SeqAt.in_list_reads h2 h1 ho.1 ho.2.1 (by have:=hr.un;have:=ho.2.2;omega) ⟨.bl _,H,I,rfl,q⟩
 |tuple ts=>exact SeqAt.in_tuple_reads h2 h1 ho.1 ho.2.1 (by have:=hr.un;have:=ho.2.2;omega) ⟨.bl _,H,I,rfl,q⟩
 |_=>exact ho.elim
theorem oS{k:Nat}(hr:Room k X.A):qV X (compareOp .NotIn) (yI X.K wM λx y=>!ER x y):=by
 intro pins s σ H x y v u Q I rx ry h;obtain⟨d1,d2,r1,r2,ho,q⟩:=h
 have hd:d1.hasDict=false/\d2.hasDict=false:=by
  cases d2 with
  |list ts=>exact⟨oF ho.2.1,noDictAll ho.1⟩
  |tuple ts=>exact⟨oF ho.2.1,noDictAll ho.1⟩
  |_=>exact ho.elim
 obtain⟨as,h1⟩:=jF.reads I hd.1 r1 rx;obtain⟨bs,h2⟩:=jF.reads I hd.2 r2 ry
 cases d2 with
 |list ts=>exact SeqAt.notIn_list_reads h2 h1 ho.1 ho.2.1 (by have:=hr.un;have:=ho.2.2;omega) ⟨.bl _,H,I,rfl,q⟩
 |tuple ts=>exact SeqAt.notIn_tuple_reads h2 h1 ho.1 ho.2.1 (by have:=hr.un;have:=ho.2.2;omega) ⟨.bl _,H,I,rfl,q⟩
 |_=>exact ho.elim
def aFr(x y:D)(Q:D->Prop):Prop:=match x,y with
|.str z,.str y=>Q (.bool (Txt.contains y z))
|x,y=>wM x y/\Q (.bool (ER x y))
theorem xO{k:Nat}(hr:Room k X.A):qV X (compareOp .In) (λx y H Q=>(∃i j,x=.str i/\y=.str j/\Q (.bl (!(Builtin.Str.occurrences j i 0 j.length 1).isEmpty)) H)\/yI X.K wM ER x y H Q):=NI.or (NJ hr)
theorem CW:IF X (λx y H Q=>(∃i j,x=.str i/\y=.str j/\Q (.bl (!(Builtin.Str.occurrences j i 0 j.length 1).isEmpty)) H)\/yI X.K wM ER x y H Q) aFr:=by
 intro H ps d1 d2 x y Q QV live r1 r2 h k;have gen:wM d1 d2/\Q (.bool (ER d1 d2))->_:=λh=>(.inr ⟨d1,d2,r1.same bZ,r2.same bZ,h.1,k _ _ H (L2.bL.refl H) (.bool _) h.2⟩:(∃i j,x=.str i/\y=.str j/\QV (.bl (!(Builtin.Str.occurrences j i 0 j.length 1).isEmpty)) H)\/yI X.K wM ER x y H QV)
 cases r1 with
 |str z=>
  cases r2 with
  |str w=>exact .inl ⟨z,w,rfl,rfl,k _ _ H (L2.bL.refl H) (.bool _) h⟩
  |_=>exact gen h
 |_=>exact gen h
def gE:D->Bool
|.none=>true
|_=>false
def fIs(x y:D)(Q:D->Prop):Prop:=match y with | .bool b=>Q (.bool (uD b x)) | .none=>Q (.bool (gE x)) | _=>False
def WQ(x y:D)(Q:D->Prop):Prop:=match y with | .bool b=>Q (.bool (!uD b x)) | .none=>Q (.bool (!gE x)) | _=>False
theorem AQ:qV X (compareOp .Is) (λx y H Q=>aAh x y H Q\/(y=.non/\Q (.bl (decide (x=.non))) H)):=aAr.or aAq
theorem NH:qV X (compareOp .IsNot) (λx y H Q=>EA x y H Q\/(y=.non/\Q (.bl (!decide (x=.non))) H)):=NG.or VZ
theorem GO:IF X (λx y H Q=>aAh x y H Q\/(y=.non/\Q (.bl (decide (x=.non))) H)) fIs:=by
 intro H ps d1 d2 x y Q QV live r1 r2 h k
 cases r2 with
 |bool b=>
  refine .inl ⟨b,rfl,?_⟩;have e:(decide (x=V.bl b))=uD b d1:=by cases r1<;>simp[uD]
  rw[e];exact k _ _ H (L2.bL.refl H) (.bool _) h
 |none=>
  refine .inr ⟨rfl,?_⟩;have e:(decide (x=V.non))=gE d1:=by cases r1<;>simp[gE]
  rw[e];exact k _ _ H (L2.bL.refl H) (.bool _) h
 |_=>exact h.elim
theorem RK:IF X (λx y H Q=>EA x y H Q\/(y=.non/\Q (.bl (!decide (x=.non))) H)) WQ:=by
 intro H ps d1 d2 x y Q QV live r1 r2 h k
 cases r2 with
 |bool b=>
  refine .inl ⟨b,rfl,?_⟩;have e:(!decide (x=V.bl b))=!uD b d1:=by cases r1<;>simp[uD]
  rw[e];exact k _ _ H (L2.bL.refl H) (.bool _) h
 |none=>
  refine .inr ⟨rfl,?_⟩;have e:(!decide (x=V.non))=!gE d1:=by cases r1<;>simp[gE]
  rw[e];exact k _ _ H (L2.bL.refl H) (.bool _) h
 |_=>exact h.elim
def aFj(x y:D)(Q:D->Prop):Prop:=match x,y with | .int i,.int j=>Q (.int (if j>i then j else i)) | _,_=>False
theorem TH:tT X (λxs H Q=>∃i j,xs=[.int i,.int j]/\Q (.int (if j>i then j else i)) H) (f2 aFj):=by
 intro H ps ds xs Q QV live rs hf k
 cases rs with
 |nil=>exact hf.elim
 |cons r1 r2=>
  cases r2 with
  |nil=>exact hf.elim
  |cons r3 r4=>
   cases r4 with
   |cons _ _=>exact hf.elim
   |nil=>
    cases r1 with
    |int i=>
     cases r3 with
     |int j=>exact⟨i,j,rfl,k _ _ H (L2.bL.refl H) (.int _) hf⟩
     |_=>exact hf.elim
    |_=>exact hf.elim
end
end TL
namespace L2
open PySem PySem.Spec PyProof.Rows
section
variable{P:bE}{w:World}{A:Around}{E:Value->Shared->Prop}{s:Shared}
theorem AW{i t:Addr}{k:Nat}{xs:Array Value}{x:Value}{Q:Value->Shared->Prop}(hit:s.heap.IsTupleIter i t k)(ht:s.heap.IsTuple t xs)(hx:xs[k]?=some x)
  (hQ:∀h',h'.IsTupleIter i t (k+1)->fR i s.heap h'->Q x { s with heap:=h' }):wpAny (model P w) A (Builtin.SmallTypes.nextOf (.ref i)) Q E s:=by
 obtain⟨o,ho,hc,hd⟩:=id hit;obtain⟨ol,hol,_,nl,hdl⟩:=ht;unfold Builtin.SmallTypes.nextOf;refine aB (wpAny_callSpecial?_slot (name:=Str.ofString "__next__") hit.typeIs F.slot_tuple_iterator_next (eP F.slot_tuple_iterator_next hit.typeIs F.entry_tuple_iterator_next ?_ (F.args_tuple_iterator_next_1 _)));show wpAny _ _ (field (.ref i) 0 >>= _) _ _ s;refine aB (wpAny_field ho hd (x:=.ref t) rfl ?_);show wpAny _ _ (if(Value.ref t==Value.none)=true then _ else _) _ _ s;rw[if_neg (show¬((Value.ref t==Value.none)=true)from bW)];show wpAny _ _ (field (.ref i) 1 >>= _) _ _ s;refine aB (wpAny_field ho hd (x:=.int k 0) rfl ?_);show wpAny _ _ (seqItems? (.ref t) >>= _) _ _ s;refine aB (wpAny_seqItems hol hdl ?_);simp only[iF,hx];refine aB (wpAny_setField ho hd (by simp) (aJ ⟨x,rfl,aJ (hQ _ ?_ (fR.update ..))⟩));exact⟨_,dR _ ho (Obj.isFreed_of_fields (Obj.data_mapFields hd _)),(Obj.cls_mapFields ..).trans hc,by rw[Obj.data_mapFields hd];simp[rawInt]⟩
theorem oZ{i t:Addr}{k:Nat}{xs:Array Value}{Q:Value->Shared->Prop}(hh:A.handled=none)(hit:s.heap.IsTupleIter i t k)(ht:s.heap.IsTuple t xs)(hx:xs[k]?=none)
  (hE:∀h' e,BW i s.heap h'->(∃o,h'.get? e=some o/\o.cls=.type "StopIteration")->E (.ref e) { s with heap:=h' }):wpAny (model P w) A (Builtin.SmallTypes.nextOf (.ref i)) Q E s:=by
 obtain⟨o,ho,hc,hd⟩:=id hit;obtain⟨ol,hol,_,nl,hdl⟩:=ht;unfold Builtin.SmallTypes.nextOf;refine aB (wpAny_callSpecial?_slot (name:=Str.ofString "__next__") hit.typeIs F.slot_tuple_iterator_next (eP F.slot_tuple_iterator_next hit.typeIs F.entry_tuple_iterator_next ?_ (F.args_tuple_iterator_next_1 _)));show wpAny _ _ (field (.ref i) 0 >>= _) _ _ s;refine aB (wpAny_field ho hd (x:=.ref t) rfl ?_);show wpAny _ _ (if(Value.ref t==Value.none)=true then _ else _) _ _ s;rw[if_neg (show¬((Value.ref t==Value.none)=true)from bW)];show wpAny _ _ (field (.ref i) 1 >>= _) _ _ s;refine aB (wpAny_field ho hd (x:=.int k 0) rfl ?_);show wpAny _ _ (seqItems? (.ref t) >>= _) _ _ s;refine aB (wpAny_seqItems hol hdl ?_);simp only[iF,hx];refine aB (wpAny_rule (aB (wpAny_setField ho hd (by simp) ?_)));show wpAny _ _ (newExc (.type "StopIteration") [] >>= _) _ _ _;refine aB ?_;simp only[newExc,newTuple];refine aB (eH ?_ (by size_fits));refine aB (m:=firstArgMember _ _) (wpAny_of_eq (a:=Value.none) (by first | rfl | (simp only[firstArgMember];rfl)) ?_);refine eH ?_ (by size_fits);simp only[raiseNew];refine aB (wpAny_handled ?_)
 first | rw[show A.in1.handled=none from hh] | rw[hh]
 refine aB (aJ (wpAny_throw ?_));exact hE _ _ (((fR.update ..).extBut.push _).push _) ⟨_,bB _ rfl,rfl⟩
end
structure pH(P:bE)(w:World)(i l:Addr)(st:Nat->Heap->Prop)(src:Array Value->Heap->Prop):Prop where
 stAt:∀k h h',st k h->(∀o,h.get? i=some o->h'.get? i=some o)->st k h'
 srcAt:∀xs h h',src xs h->(∀o,h.get? l=some o->h'.get? l=some o)->src xs h'
 has:∀k h,st k h->∃o,h.get? i=some o/\∀v,o.data≠.cell v
 item:∀(A:Around)(E:Value->Shared->Prop)(s:Shared)(k:Nat)(xs:Array Value)(x:Value)(Q:Value->Shared->Prop),st k s.heap->src xs s.heap->xs[k]?=some x ->
  (∀h',st (k+1) h'->fR i s.heap h'->Q x { s with heap:=h' })->wpAny (model P w) A (Builtin.SmallTypes.nextOf (.ref i)) Q E s
 fin:∀(A:Around)(E:Value->Shared->Prop)(s:Shared)(k:Nat)(xs:Array Value)(Q:Value->Shared->Prop),A.handled=none->st k s.heap->src xs s.heap->xs[k]?=none ->
  (∀h' e,BW i s.heap h'->(∃o,h'.get? e=some o/\o.cls=.type "StopIteration")->E (.ref e) { s with heap:=h' })->wpAny (model P w) A (Builtin.SmallTypes.nextOf (.ref i)) Q E s
theorem C7{P:bE}{w:World}(i l:Addr):pH P w i l (λk h=>h.IsTupleIter i l k) (λxs h=>h.IsTuple l xs) where
 stAt:=λ_ _ _ x e=>x.at e
 srcAt:=λ_ _ _ x e=>x.at e
 has:=λk h x=>by obtain⟨o,e,c,d⟩:=x;exact⟨o,e,λv q=>by rw[d]at q;cases q⟩
 item:=λ_ _ _ _ _ _ _ h1 h2 hx hQ=>AW h1 h2 hx hQ
 fin:=λ_ _ _ _ _ _ hh h1 h2 hx hE=>oZ hh h1 h2 hx hE
section
variable{P:bE}{w:World}{A:Around}{E:Value->Shared->Prop}{s:Shared}{z TI TO i1 i2 l1 l2:Addr}{st1 st2:Nat->Heap->Prop}{src1 src2:Array Value->Heap->Prop}{k:Nat}{xs ys:Array Value}{a b:Value}
theorem PH{x y:Value}{Q:Value->Shared->Prop}(d1:pH P w i1 l1 st1 src1)(d2:pH P w i2 l2 st2 src2)(D:ZipApart z TI TO i1 i2 l1 l2)(hz:IsZip s.heap z TI TO .none)(hTI:IsPair s.heap TI (.ref i1) (.ref i2))(hTO:IsPair s.heap TO a b)
  (h1:st1 k s.heap) (h2:st2 k s.heap) (hl1:src1 xs s.heap) (hl2:src2 ys s.heap) (hx:xs[k]?=some x) (hy:ys[k]?=some y)
  (hQ:∀h',IsZip h' z TI TO (rawInt s.heap.objs.size)->IsPair h' TO x y->st1 (k+1) h'->st2 (k+1) h'->IsPair h' s.heap.objs.size x y->h'.objs.size=s.heap.objs.size+1 ->
   (∀c o,c≠z->c≠TO->c≠i1->c≠i2->s.heap.get? c=some o->h'.get? c=some o)->Q (.ref s.heap.objs.size) { s with heap:=h' }) :
  wpAny (model P w) A (Builtin.«zip.__next__» ⟨[.ref z],[]⟩) (λfin s'=>∃v,fin=.done (.ret v)/\Q v s') E s:=by
 show wpAny _ _ (field (.ref z) 2 >>= _) _ _ _;refine aB (wpAny_field hz rfl (x:=.bool false) rfl ?_);show wpAny _ _ (field (.ref z) 3 >>= _) _ _ _;refine aB (wpAny_field hz rfl (x:=.ref TI) rfl ?_);refine aB (wpAny_seqItems hTI rfl ?_);show wpAny _ _ (Builtin.SmallTypes.ownedTupleIsFree (.ref z) >>= _) _ _ _;refine aB ?_;unfold Builtin.SmallTypes.ownedTupleIsFree;refine aB (wpAny_field hz rfl (x:=.none) rfl (aJ ?_));simp only[if_true];refine aB (wpAny_rule ?_);refine aB (wpAny_field hz rfl (x:=.ref TO) rfl ?_);refine aB (wpAny_setField_rec hz (by simp) λha hza sa=>?_)
 replace hza:IsZip ha z TI TO .ellipsis:=hza
 refine aB ?_;simp only[UO,XB,tX,ZS];refine aB (aB (wpAny_onRaise ?_));show wpAny _ _ (Builtin.SmallTypes.nextOf (.ref i1) >>= _) _ _ _;refine aB (d1.item _ _ _ k xs x _ (d1.stAt _ _ _ h1 λo e=>sa.extBut _ _ D.i1z e) (d1.srcAt _ _ _ hl1 λo e=>sa.extBut _ _ D.l1z e) hx λhb h1b sb=>aJ ?_);have tob:IsPair hb TO a b:=sb.extBut _ _ D.TOi1 (sa.extBut _ _ D.TOz hTO);refine aB (wpAny_seqItems tob rfl ?_);refine aB (wpAny_updateSeq_pair tob λhc toc sc=>?_)
 replace toc:IsPair hc TO x b:=toc
 refine aB (wpAny_letGo (aJ ?_));refine aB (aB (wpAny_onRaise ?_));show wpAny _ _ (Builtin.SmallTypes.nextOf (.ref i2) >>= _) _ _ _
 refine aB (d2.item _ _ _ k ys y _ (d2.stAt _ _ _ h2 λo e=>sc.extBut _ _ D.TOi2.symm (sb.extBut _ _ D.i12.symm (sa.extBut _ _ D.i2z e)))
  (d2.srcAt _ _ _ hl2 λo e=>sc.extBut _ _ D.l2TO (sb.extBut _ _ D.l2i1 (sa.extBut _ _ D.l2z e))) hy λhd h2d sd=>aJ ?_)
 have tod:IsPair hd TO x b:=sd.extBut _ _ D.TOi2 toc;refine aB (wpAny_seqItems tod rfl ?_);refine aB (wpAny_updateSeq_pair tod λhe toe se=>?_)
 replace toe:IsPair he TO x y:=toe
 refine aB (wpAny_letGo (aJ (aJ ?_)));refine aB (wpAny_seqItems toe rfl ?_);refine aB (wpAny_newTuple ?_);have hsz:he.objs.size=s.heap.objs.size:=by rw[se.1,sd.1,sc.1,sb.1,sa.1]
 have hze:IsZip he z TI TO .ellipsis:=se.extBut _ _ D.TOz.symm (sd.extBut _ _ D.i2z.symm (sc.extBut _ _ D.TOz.symm (sb.extBut _ _ D.i1z.symm hza)))
 have ke:∀c o,c≠z->c≠TO->c≠i1->c≠i2->s.heap.get? c=some o->he.get? c=some o:=λc o c1 c2 c3 c4 e=>
  se.extBut _ _ c2 (sd.extBut _ _ c4 (sc.extBut _ _ c2 (sb.extBut _ _ c3 (sa.extBut _ _ c1 e))))
 have h1e:st1 (k+1) he:=d1.stAt _ _ _ h1b λo e=>se.extBut _ _ D.TOi1.symm (sd.extBut _ _ D.i12 (sc.extBut _ _ D.TOi1.symm e));have h2e:st2 (k+1) he:=d2.stAt _ _ _ h2d λo e=>se.extBut _ _ D.TOi2.symm e;have hzlt:z<he.objs.size:=bC hze;show wpAny _ _ (Builtin.SmallTypes.ownedTupleHandOut (.ref z) (.ref he.objs.size) >>= _) _ _ _;refine aB ?_;unfold Builtin.SmallTypes.ownedTupleHandOut;have hzf:IsZip (he.push { cls:=.type "tuple",data:=.seq #[x,y] }) z TI TO .ellipsis:=aI _ hze;refine aB (wpAny_setField_rec hzf (by simp) λhg hzg sg=>?_)
 replace hzg:IsZip hg z TI TO (rawInt he.objs.size):=hzg
 refine wpAny_setField_rec hzg (by simp) λhi hzi si=>?_
 replace hzi:IsZip hi z TI TO (rawInt he.objs.size):=hzi
 have up:∀c o,c≠z->he.get? c=some o->hi.get? c=some o:=λc o c1 e=>si.extBut _ _ c1 (sg.extBut _ _ c1 (aI _ e));have hT:IsPair hi he.objs.size x y:=si.extBut _ _ (eZ hzlt) (sg.extBut _ _ (eZ hzlt) (bB _ rfl));have hz8:hi.objs.size=he.objs.size+1:=by rw[si.1,sg.1,eA]
 rw[hsz]at hzi hT hz8;refine aJ ⟨_,rfl,?_⟩;show Q (.ref he.objs.size) _;rw[hsz];exact hQ hi hzi (up _ _ D.TOz toe) (d1.stAt _ _ _ h1e λo e=>up _ o D.i1z e) (d2.stAt _ _ _ h2e λo e=>up _ o D.i2z e) hT hz8 λc o c1 c2 c3 c4 e=>up c o c1 (ke c o c1 c2 c3 c4 e)
theorem PD{Q:Fin->Shared->Prop}(hh:A.handled=none)(d1:pH P w i1 l1 st1 src1)(d2:pH P w i2 l2 st2 src2)(D:ZipApart z TI TO i1 i2 l1 l2)(hz:IsZip s.heap z TI TO .none)(hTI:IsPair s.heap TI (.ref i1) (.ref i2))(hTO:IsPair s.heap TO a b)
  (h1:st1 k s.heap) (h2:st2 k s.heap) (hl1:src1 xs s.heap) (hl2:src2 ys s.heap) (hend:xs[k]?=none\/ys[k]?=none)
  (hE:∀h' e,(∀c o,c≠z->c≠TO->c≠i1->c≠i2->s.heap.get? c=some o->h'.get? c=some o)->(∃o,h'.get? e=some o/\o.cls=.type "StopIteration")->E (.ref e) { s with heap:=h' }) :
  wpAny (model P w) A (Builtin.«zip.__next__» ⟨[.ref z],[]⟩) Q E s:=by
 show wpAny _ _ (field (.ref z) 2 >>= _) _ _ _;refine aB (wpAny_field hz rfl (x:=.bool false) rfl ?_);show wpAny _ _ (field (.ref z) 3 >>= _) _ _ _;refine aB (wpAny_field hz rfl (x:=.ref TI) rfl ?_);refine aB (wpAny_seqItems hTI rfl ?_);show wpAny _ _ (Builtin.SmallTypes.ownedTupleIsFree (.ref z) >>= _) _ _ _;refine aB ?_;unfold Builtin.SmallTypes.ownedTupleIsFree;refine aB (wpAny_field hz rfl (x:=.none) rfl (aJ ?_));simp only[if_true];refine aB (wpAny_rule ?_);refine aB (wpAny_field hz rfl (x:=.ref TO) rfl ?_);refine aB (wpAny_setField_rec hz (by simp) λha hza sa=>?_)
 replace hza:IsZip ha z TI TO .ellipsis:=hza
 refine aB ?_;simp only[UO,XB,tX,ZS];refine aB (aB (wpAny_onRaise ?_));show wpAny _ _ (Builtin.SmallTypes.nextOf (.ref i1) >>= _) _ _ _;have g1:st1 k ha:=d1.stAt _ _ _ h1 λo e=>sa.extBut _ _ D.i1z e;have q1:src1 xs ha:=d1.srcAt _ _ _ hl1 λo e=>sa.extBut _ _ D.l1z e
 cases hx:xs[k]? with
 |none=>
  refine aB (d1.fin _ _ _ k xs _ hh g1 q1 hx λhb e sb he=>?_);obtain⟨oe,hoe,hce⟩:=he;have hzb:IsZip hb z TI TO .ellipsis:=sb _ _ D.i1z.symm hza;have hez:e≠z:=λx=>by subst x;rw[hzb]at hoe;cases hoe;simp at hce
  refine wpAny_setField_rec hzb (by simp) λhc _ sc=>hE hc e (λc o c1 _ c3 _ x=>sc.extBut _ _ c1 (sb _ _ c3 (sa.extBut _ _ c1 x))) ⟨oe,sc.extBut _ _ hez hoe,hce⟩
 |some x=>
  have hy:ys[k]?=none:=by rcases hend with h | h;rw[hx]at h;cases h;exact h
  refine aB (d1.item _ _ _ k xs x _ g1 q1 hx λhb h1b sb=>aJ ?_);have tob:IsPair hb TO a b:=sb.extBut _ _ D.TOi1 (sa.extBut _ _ D.TOz hTO);refine aB (wpAny_seqItems tob rfl ?_);refine aB (wpAny_updateSeq_pair tob λhc toc sc=>?_);refine aB (wpAny_letGo (aJ ?_));refine aB (aB (wpAny_onRaise ?_));show wpAny _ _ (Builtin.SmallTypes.nextOf (.ref i2) >>= _) _ _ _
  refine aB (d2.fin _ _ _ k ys _ hh (d2.stAt _ _ _ h2 λo e=>sc.extBut _ _ D.TOi2.symm (sb.extBut _ _ D.i12.symm (sa.extBut _ _ D.i2z e)))
   (d2.srcAt _ _ _ hl2 λo e=>sc.extBut _ _ D.l2TO (sb.extBut _ _ D.l2i1 (sa.extBut _ _ D.l2z e))) hy λhd e sd he=>?_)
  obtain⟨oe,hoe,hce⟩:=he;have hzd:IsZip hd z TI TO .ellipsis:=sd _ _ D.i2z.symm (sc.extBut _ _ D.TOz.symm (sb.extBut _ _ D.i1z.symm hza));have hez:e≠z:=λx=>by subst x;rw[hzd]at hoe;cases hoe;simp at hce
  refine wpAny_setField_rec hzd (by simp) λhf _ sf=>hE hf e (λc o c1 c2 c3 c4 x=>sf.extBut _ _ c1 (sd _ _ c4 (sc.extBut _ _ c2 (sb.extBut _ _ c3 (sa.extBut _ _ c1 x))))) ⟨oe,sf.extBut _ _ hez hoe,hce⟩
theorem PF{x y:Value}{Q:Option Value->Shared->Prop}(d1:pH P w i1 l1 st1 src1)(d2:pH P w i2 l2 st2 src2)(D:ZipApart z TI TO i1 i2 l1 l2)(hz:IsZip s.heap z TI TO .none)(hTI:IsPair s.heap TI (.ref i1) (.ref i2))(hTO:IsPair s.heap TO a b)
  (h1:st1 k s.heap) (h2:st2 k s.heap) (hl1:src1 xs s.heap) (hl2:src2 ys s.heap) (hx:xs[k]?=some x) (hy:ys[k]?=some y)
  (hQ:∀h',IsZip h' z TI TO (rawInt s.heap.objs.size)->IsPair h' TO x y->st1 (k+1) h'->st2 (k+1) h'->IsPair h' s.heap.objs.size x y->h'.objs.size=s.heap.objs.size+1 ->
   (∀c o,c≠z->c≠TO->c≠i1->c≠i2->s.heap.get? c=some o->h'.get? c=some o)->Q (some (.ref s.heap.objs.size)) { s with heap:=h' }):wpAny (model P w) A (pyNext (.ref z)) Q E s:=by
 have hT:s.TypeIs (.ref z) "zip":=⟨_,hz,rfl⟩;unfold pyNext
 exact aB (wpAny_attempt (wpAny_callSpecial?_slot (name:=Str.ofString "__next__") hT F.slot_zip_next (eP F.slot_zip_next hT F.entry_zip_next
  (PH d1 d2 D hz hTI hTO h1 h2 hl1 hl2 hx hy λh' a1 a2 a3 a4 a5 a6 a7=>aJ (hQ h' a1 a2 a3 a4 a5 a6 a7)) (F.args_zip_next_1 _))))
theorem US{Q:Option Value->Shared->Prop}(hh:A.handled=none)(d1:pH P w i1 l1 st1 src1)(d2:pH P w i2 l2 st2 src2)(D:ZipApart z TI TO i1 i2 l1 l2)(hz:IsZip s.heap z TI TO .none)(hTI:IsPair s.heap TI (.ref i1) (.ref i2))(hTO:IsPair s.heap TO a b)
  (h1:st1 k s.heap) (h2:st2 k s.heap) (hl1:src1 xs s.heap) (hl2:src2 ys s.heap) (hend:xs[k]?=none\/ys[k]?=none)
  (hQ:∀h',(∀c o,c≠z->c≠TO->c≠i1->c≠i2->s.heap.get? c=some o->h'.get? c=some o)->Q none { s with heap:=h' }):wpAny (model P w) A (pyNext (.ref z)) Q E s:=by
 have hT:s.TypeIs (.ref z) "zip":=⟨_,hz,rfl⟩;unfold pyNext;refine aB (wpAny_attempt (wpAny_callSpecial?_slot (name:=Str.ofString "__next__") hT F.slot_zip_next (eP F.slot_zip_next hT F.entry_zip_next (PD hh d1 d2 D hz hTI hTO h1 h2 hl1 hl2 hend λh' e hk he=>?_) (F.args_zip_next_1 _))));obtain⟨o,ho,hc⟩:=he;refine aB (wpAny_isInstance (T:="StopIteration") (b:=true) ⟨o,ho,hc⟩ isSubtype_stop ?_);exact aJ (hQ _ hk)
end
section
variable{X:Cx}{pins:List (Addr×Obj)}{σ:St}{H:Hp}{s:Shared}{h':Heap}
theorem dM.turnedL{t':Nat}{ch:List Addr}(I:dM X pins σ H s)(hf:∀b∈ch,zF X pins H b)(k:∀b o,b∉ch->s.heap.get? b=some o->h'.get? b=some o):dM X pins σ H { s with heap:=h',toks:=t' }:=by
 have nit:∀b u,H b=some u->b∉ch:=λb u e z=>by rw[(hf b z).1]at e;cases e
 have hL:X.env.locals∉ch:=λz=>(hf _ z).2.1 rfl
 refine I.step (g':=s.gens) (d':=s.drawn) (ch:=ch) (λb hb=>?_) (λb o _ _ hc e _=>k b o hc e) (λb o _ _ hc e _=>⟨o.slots,k b o hc e⟩) (λ_ _ _ _ n=>n)
  (λb o hc e=>⟨o,k b o hc e⟩) (λ_ _ e=>e) (λ_ _ _ e=>e) (λb ps e=>⟨#[],by rw[e];simp⟩) (λm hm=>?_) (λb u e=>?_) I.bare
 ·obtain⟨f0,f1,f2,f3,f4,f5⟩:=hf b hb;exact⟨f3,f1,f4,f5⟩
 ·obtain⟨o,es,ep,ho,r⟩:=hm;exact⟨o,es,ep,k _ o hL ho,r⟩
 ·refine(I.hok b u e).stay (λc v hc q=>k c v ?_ q) (λ_ q=>q) λ_ _ q=>q;rcases hc with z | z
  ·rw[z];exact nit b u e
  ·exact nit c _ z
theorem dM.turnedNew{t':Nat}{ch:List Addr}{T:Addr}{o:HO}(I:dM X pins σ H s)(hf:∀b∈ch,zF X pins H b)(k:∀b u,b∉ch->s.heap.get? b=some u->h'.get? b=some u)(hp:s.heap.objs.size<=T)(new:lG X.prog X.w (gK H T o) h' T o) :
  dM X pins σ (gK H T o) { s with heap:=h',toks:=t' }:=by
 have nit:∀b u,H b=some u->b∉ch:=λb u e z=>by rw[(hf b z).1]at e;cases e
 have hL:X.env.locals∉ch:=λz=>(hf _ z).2.1 rfl;have hn:H T=none:=I.hok.fresh hp;have ne:∀b u,H b=some u->(gK H T o) b=some u:=λb u e=>by rw[cJ (dC e hn)];exact e
 have ne2:∀b u,s.heap.get? b=some u->b≠T:=λb u e z=>by
  exact absurd (cK (bC e) hp) (by rw[z];exact fX _)
 refine I.step (g':=s.gens) (d':=s.drawn) (ch:=ch) (λb hb=>?_) (λb o _ _ hc e _=>k b o hc e) (λb o _ _ hc e _=>⟨o.slots,k b o hc e⟩) (λb u _ e n=>by rw[cJ (ne2 b u e)];exact n)
  (λb o hc e=>⟨o,k b o hc e⟩) (λb xs e=>ne _ _ e) (λb u v e=>ne _ _ e) (λb ps e=>⟨#[],by rw[ne _ _ e];simp⟩) (λm hm=>?_) (λb u e=>?_) I.bare
 ·obtain⟨f0,f1,f2,f3,f4,f5⟩:=hf b hb;exact⟨f3,f1,f4,f5⟩
 ·obtain⟨o,es,ep,ho,r⟩:=hm;exact⟨o,es,ep,k _ o hL ho,r⟩
 ·by_cases hb:b=T
  ·subst hb;rw[cO]at e;cases e;exact new
  ·rw[cJ hb]at e;refine(I.hok b u e).stay (λc v hc q=>k c v ?_ q) (λc q=>ne _ _ q) (λc xs q=>ne _ _ q) λc ob v q=>ne _ _ q;rcases hc with z | z
   ·rw[z];exact nit b u e
   ·exact nit c _ z
end
def Itz(S1 S2:Hp->List V->Prop):It:=
 ⟨λi H=>∃xs ys x y,S1 H xs/\S2 H ys/\xs[i]?=some x/\ys[i]?=some y,
  λi H v H'=>∃p x y,H p=none/\v=.ref p/\H'=gK H p (.tup [x,y])/\(∀xs,S1 H xs->xs[i]?=some x)/\∀ys,S2 H ys->ys[i]?=some y,
  λi H=>∃xs ys,S1 H xs/\S2 H ys/\(xs.length<=i\/ys.length<=i)⟩
structure Src(P:bE)(w:World)(K:aG)(S:Hp->List V->Prop)(src:Array Value->Heap->Prop):Prop where
 vals:∀(X:Cx),X.prog=P->X.w=w->X.K=K->∀{pins:List (Addr×Obj)}{σ:St}{H:Hp}{s:Shared}{xs:List V},dM X pins σ H s->S H xs->∃its:List Value,gX xs its/\src its.toArray s.heap
 inj:∀(X:Cx),X.prog=P->X.w=w->X.K=K->∀{pins:List (Addr×Obj)}{σ:St}{H:Hp}{s:Shared}{xs ys:List V},dM X pins σ H s->S H xs->S H ys->xs=ys
theorem KU{P:bE}{w:World}{K:aG}(a:Addr):Src P w K (λH xs=>qE K H a xs) (λits h=>h.IsTuple a its) where
 vals:=λX hP hw hK _ _ _ _ _ I h=>by subst hK;obtain⟨its,r,p,_⟩:=I.tuple h;exact⟨its,r,p⟩
 inj:=λX hP hw hK _ _ _ _ _ _ I h h'=>by subst hK;exact I.tuple_inj h h'
theorem PP{P:bE}{w:World}{K:aG}{elts:List Expr}{x1:Nat}{pos:Pos}{z TI TO i1 i2 l1 l2:Addr}{st1 st2:Nat->Heap->Prop}{src1 src2:Array Value->Heap->Prop}{S1 S2:Hp->List V->Prop}
  (d1:pH P w i1 l1 st1 src1) (d2:pH P w i2 l2 st2 src2) (e1:Src P w K S1 src1) (e2:Src P w K S2 src2) (D:ZipApart z TI TO i1 i2 l1 l2) :
  BS P w K (.Tuple elts x1 pos) (Itz S1 S2) [z,TI,TO,i1,i2] z (λi h=>IsZip h z TI TO .none/\IsPair h TI (.ref i1) (.ref i2)/\(∃a b,IsPair h TO a b)/\st1 i h/\st2 i h) where
 mem:=by simp
 obj:=λi h st b hb=>by
  obtain⟨hz,hTI,⟨a,c,hTO⟩,h1,h2⟩:=st;simp only[aY,cD,or_false]at hb;rcases hb with rfl | rfl | rfl | rfl | rfl
  ·exact⟨_,hz,λv q=>by cases q⟩
  ·exact⟨_,hTI,λv q=>by cases q⟩
  ·exact⟨_,hTO,λv q=>by cases q⟩
  ·exact d1.has i h h1
  ·exact d2.has i h h2
 keep:=λi h h' st k=>by
  obtain⟨hz,hTI,⟨a,b,hTO⟩,h1,h2⟩:=st;exact⟨k z (by simp) _ hz,k TI (by simp) _ hTI,⟨a,b,k TO (by simp) _ hTO⟩,d1.stAt _ _ _ h1 λo e=>k i1 (by simp) o e,d2.stAt _ _ _ h2 λo e=>k i2 (by simp) o e⟩
 item:=by
  intro X hP hw hK hc i pins s σ H E I hf st hg;obtain⟨hz,hTI,⟨a,b,hTO⟩,h1,h2⟩:=st;obtain⟨xs,ys,x,y,s1,s2,hx,hy⟩:=hg;obtain⟨us,r1,q1⟩:=e1.vals X hP hw hK I s1;obtain⟨vs,r2,q2⟩:=e2.vals X hP hw hK I s2;obtain⟨u,hu,ru⟩:=r1.get hx;obtain⟨v,hv,rv⟩:=r2.get hy;refine PF d1 d2 D hz hTI hTO h1 h2 q1 q2 (x:=u) (y:=v) (by simpa using hu) (by simpa using hv) λh' a1 a2 a3 a4 a5 a6 a7=>⟨_,rfl,?_⟩;refine wpAny_letOwnedTupleGo_zip (s:={ s with heap:=h' }) a1 λh2' hz2 sb=>?_;have hzlt:=bC hz;have neT:∀c o,s.heap.get? c=some o->c≠s.heap.objs.size:=λc o e=>bP (bC e)
  have kk:∀c o,c∉[z,TI,TO,i1,i2]->s.heap.get? c=some o->h2'.get? c=some o:=λc o hc' e=>by
   simp only[aY,cD,or_false,not_or]at hc';exact sb.extBut _ _ hc'.1 (a7 c o hc'.1 hc'.2.2.1 hc'.2.2.2.1 hc'.2.2.2.2 e)
  have hT:IsPair h2' s.heap.objs.size u v:=sb.extBut _ _ (eZ hzlt) a5;have I1:dM X pins σ (gK H s.heap.objs.size (.tup [x,y])) { s with heap:=h2' }:=I.turnedNew (t':=s.toks) hf kk (aN _) ⟨(by show 2<=bU;decide),[u,v],.cons ru (.cons rv .nil),⟨_,hT,rfl,_,rfl,rfl⟩⟩;refine⟨.ref s.heap.objs.size,_,I1,rfl,⟨_,x,y,I.hok.fresh (aN _),rfl,rfl,λxs' h'=>by rw[e1.inj X hP hw hK I h' s1];exact hx,λys' h'=>by rw[e2.inj X hP hw hK I h' s2];exact hy⟩,?_,λc hc'=>?_⟩
  ·exact⟨hz2,sb.extBut _ _ D.TIz (a7 _ _ D.TIz D.TITO D.TIi1 D.TIi2 hTI),⟨_,_,sb.extBut _ _ D.TOz a2⟩,d1.stAt _ _ _ a3 λo e=>sb.extBut _ _ D.i1z e,d2.stAt _ _ _ a4 λo e=>sb.extBut _ _ D.i2z e⟩
  ·have hne:c≠s.heap.objs.size:=by
    simp only[aY,cD,or_false]at hc';rcases hc' with rfl | rfl | rfl | rfl | rfl
    ·exact neT _ _ hz
    ·exact neT _ _ hTI
    ·exact neT _ _ hTO
    ·obtain⟨o,e,_⟩:=d1.has _ _ h1;exact neT _ _ e
    ·obtain⟨o,e,_⟩:=d2.has _ _ h2;exact neT _ _ e
   rw[cJ hne];exact(hf c hc').1
 done:=by
  intro X hP hw hK hc i pins s σ H E I hf st hg;obtain⟨hz,hTI,⟨a,b,hTO⟩,h1,h2⟩:=st;obtain⟨xs,ys,s1,s2,hle⟩:=hg;obtain⟨us,r1,q1⟩:=e1.vals X hP hw hK I s1;obtain⟨vs,r2,q2⟩:=e2.vals X hP hw hK I s2;have n1:=r1.length;have n2:=r2.length;refine US (I.ok.hd hc) d1 d2 D hz hTI hTO h1 h2 q1 q2 ?_ λh' a7=>⟨rfl,I.turnedL (t':=s.toks) hf λc o hc' e=>?_⟩
  ·rcases hle with q | q
   ·exact .inl (iB (by rw[bH];omega))
   ·exact .inr (iB (by rw[bH];omega))
  ·simp only[aY,cD,or_false,not_or]at hc';exact a7 c o hc'.1 hc'.2.2.1 hc'.2.2.2.1 hc'.2.2.2.2 e
 self:=λA i s Q E st h=>wpAny_pyIter_zip st.1 h
abbrev zH1(c1:String)(h:Heap)(l1:Addr):Heap:=h.push { cls:=.type c1,data:=.fields #[.ref l1,.int 0 0] }
abbrev zH2(c1 c2:String)(h:Heap)(l1 l2:Addr):Heap:=(zH1 c1 h l1).push { cls:=.type c2,data:=.fields #[.ref l2,.int 0 0] }
abbrev zH3(c1 c2:String)(h:Heap)(l1 l2:Addr):Heap:=(zH2 c1 c2 h l1 l2).push { cls:=.type "tuple",data:=.seq #[.ref h.objs.size,.ref (zH1 c1 h l1).objs.size] }
abbrev zH4(c1 c2:String)(h:Heap)(l1 l2:Addr):Heap:=(zH3 c1 c2 h l1 l2).push { cls:=.type "tuple",data:=.seq #[.none,.none] }
abbrev zH5(c1 c2:String)(h:Heap)(l1 l2:Addr):Heap:=(zH4 c1 c2 h l1 l2).push { cls:=.type "zip",data:=.fields #[.none,.bool false,.bool false,.ref (zH2 c1 c2 h l1 l2).objs.size,.ref (zH3 c1 c2 h l1 l2).objs.size] }
theorem IM(l1 l2:Addr)(xs ys:Array Value) :
  Meets (Builtin.«zip.__new__» ⟨[.type "zip",.ref l1,.ref l2],[]⟩) (λ_ R s=>s.heap.IsTuple l1 xs/\s.heap.IsTuple l2 ys /\
   R (.ok (.ret (.ref (zH4 "tuple_iterator" "tuple_iterator" s.heap l1 l2).objs.size))) { s with heap:=zH5 "tuple_iterator" "tuple_iterator" s.heap l1 l2 }):=
 .of_wp λprog w A R s h=>by
  obtain⟨hp,g,d,tk,os⟩:=s;obtain⟨hl1,hl2,h⟩:=h;have hsub:=sub_zip;have hL1:yV (Shared.heap ⟨hp,g,d,tk,os⟩) l1 xs:=hl1;have hL2:yV (Shared.heap ⟨hp.push { cls:=.type "tuple_iterator",data:=.fields #[.ref l1,.int 0 0] },g,d,tk,os⟩) l2 ys:=yV.push hl2 _
  wp_walk using wpAny_pyIter_tuple hL1,wpAny_pyIter_tuple hL2
  exact⟨_,rfl,h⟩
section
variable{P:bE}{w:World}{A:Around}{E:Value->Shared->Prop}{s:Shared}
theorem HL{l1 l2:Addr}{xs ys:Array Value}{Q:Value->Shared->Prop}(hl1:s.heap.IsTuple l1 xs)(hl2:s.heap.IsTuple l2 ys)
  (h:∀h',IsZip h' (s.heap.objs.size+4) (s.heap.objs.size+2) (s.heap.objs.size+3) .none->IsPair h' (s.heap.objs.size+2) (.ref s.heap.objs.size) (.ref (s.heap.objs.size+1)) ->
   IsPair h' (s.heap.objs.size+3) .none .none->h'.IsTupleIter s.heap.objs.size l1 0->h'.IsTupleIter (s.heap.objs.size+1) l2 0 ->
   (∀c o,s.heap.get? c=some o->h'.get? c=some o)->Q (.ref (s.heap.objs.size+4)) { s with heap:=h' }) :
  wpAny (model P w) A (call (.type "zip") [.ref l1,.ref l2]) Q E s:=by
 refine callType_new F.called_zip (by decide) (F.typeCall_zip_2 _ _) (F.newCall_zip_2 _ _) (λobj=>F.args_object_init_3 obj _ _) F.entry_zip_new (IM l1 l2 xs ys) ⟨hl1,hl2,?_⟩;have n1:(zH1 "tuple_iterator" s.heap l1).objs.size=s.heap.objs.size+1:=eA ..;have n2:(zH2 "tuple_iterator" "tuple_iterator" s.heap l1 l2).objs.size=s.heap.objs.size+2:=by rw[eA,n1]
 have n3:(zH3 "tuple_iterator" "tuple_iterator" s.heap l1 l2).objs.size=s.heap.objs.size+3:=by rw[eA,n2]
 have n4:(zH4 "tuple_iterator" "tuple_iterator" s.heap l1 l2).objs.size=s.heap.objs.size+4:=by rw[eA,n3]
 have g5:(zH5 "tuple_iterator" "tuple_iterator" s.heap l1 l2).get? (zH4 "tuple_iterator" "tuple_iterator" s.heap l1 l2).objs.size=some _:=bB _ rfl;have g4:(zH5 "tuple_iterator" "tuple_iterator" s.heap l1 l2).get? (zH3 "tuple_iterator" "tuple_iterator" s.heap l1 l2).objs.size=some _:=aI _ (bB _ rfl);have g3:(zH5 "tuple_iterator" "tuple_iterator" s.heap l1 l2).get? (zH2 "tuple_iterator" "tuple_iterator" s.heap l1 l2).objs.size=some _:=aI _ (aI _ (bB _ rfl));have g2:(zH5 "tuple_iterator" "tuple_iterator" s.heap l1 l2).get? (zH1 "tuple_iterator" s.heap l1).objs.size=some _:=aI _ (aI _ (aI _ (bB _ rfl)));have g1:(zH5 "tuple_iterator" "tuple_iterator" s.heap l1 l2).get? s.heap.objs.size=some _:=aI _ (aI _ (aI _ (aI _ (bB _ rfl))));show _/\_;rw[n2,n3,n4]at g5;rw[n1,n2]at g3;rw[n3]at g4;rw[n1]at g2;rw[n4];exact⟨⟨_,g5,rfl⟩,h _ g5 g3 g4 ⟨_,g1,rfl,rfl⟩ ⟨_,g2,rfl,rfl⟩ λc o x=>aI _ (aI _ (aI _ (aI _ (aI _ x))))⟩
end
theorem TN:bootBuiltins "zip"=some (.type "zip"):=by decide +kernel
def aFe(K:aG)(ta:TA):TI:=λσ H R=>ta σ H λvs H1=>∃l1 l2 xs ys,vs=[.ref l1,.ref l2]/\qE K H1 l1 xs/\qE K H1 l2 ys/\R (Itz (λH xs=>qE K H l1 xs) λH xs=>qE K H l2 xs) H1
section
variable{X:Cx}
theorem Q6{a b:Expr}{ta:TA}{p pos tpos:Pos}{elts:List Expr}{x1:Nat}(hg:Gl X "zip")(hm:X.mg "zip"=none)(ha:PA X [a,b] ta)(hs:bV [a,b] X.env=[(false,eval a X.env),(false,eval b X.env)]:=by rfl)(hs2:bV [b] X.env=[(false,eval b X.env)]:=by rfl) :
  PI X (.Tuple elts x1 tpos) (.Call (.Name "zip" p) [a,b] [] pos) (aFe X.K ta):=by
 intro pins s σ H R I h;refine Call_ (tE I hg hm TN (PyProof.Rows.callWith_type1 (kJ (ha pos pins s σ H _ I h) λus s1 ⟨vs,H1,I1,r1,q1⟩=>?_) (by rw[hs,hs2]) (by rw[hs2];rfl)));obtain⟨l1,l2,xs,ys,rfl,hq1,hq2,q⟩:=q1
 cases r1 with
 |cons r rr=>
  cases rr with
  |cons r' rr=>
   cases rr;cases r;cases r';obtain⟨us1,rv1,p1,hz1⟩:=I1.tuple hq1;obtain⟨us2,rv2,p2,hz2⟩:=I1.tuple hq2;have lt1:l1<s1.heap.objs.size:=p1.lt;have lt2:l2<s1.heap.objs.size:=p2.lt;refine HL (show s1.heap.IsTuple l1 us1.toArray from p1) (show s1.heap.IsTuple l2 us2.toArray from p2) λh' hz hTI hTO hi1 hi2 hk=>wpAny_pyIter_zip (s:={ s1 with heap:=h' }) hz ?_;refine⟨_,[s1.heap.objs.size+4,s1.heap.objs.size+2,s1.heap.objs.size+3,s1.heap.objs.size,s1.heap.objs.size+1],_,_,H1,rfl,I1.kept (t':=s1.toks) hk,PP (C7 _ l1) (C7 _ l2) (KU l1) (KU l2) (zipApart_new lt1 lt2),⟨hz,hTI,⟨_,_,hTO⟩,hi1,hi2⟩,λc hc=>?_,q⟩;simp only[aY,cD,or_false]at hc;have le:s1.heap.objs.size<=c:=by rcases hc with rfl | rfl | rfl | rfl | rfl<;>first | exact aN _ | exact BV _ _
   exact I1.fpOk le (I1.hok.fresh le)
end
end L2
namespace TL
open PySem PySem.Spec PyProof.Rows L2
variable{K:aG}
def qZ(as bs:List D):List D:=(as.zip bs).map λp=>.tuple [p.1,p.2]
theorem sI(as bs:List D):(qZ as bs).length=min as.length bs.length:=by unfold qZ;simp
theorem vR{as bs:List D}{i:Nat}{x:D}(h:(qZ as bs)[i]?=some x):∃a b,as[i]?=some a/\bs[i]?=some b/\x=.tuple [a,b]:=by
 unfold qZ at h;rw[aH]at h
 cases e:(as.zip bs)[i]? with
 |none=>rw[e]at h;cases h
 |some p=>
  rw[e]at h;obtain⟨h1,h2⟩:=jS.mp e;exact⟨p.1,p.2,h1,h2,(Option.some.inj h).symm⟩
def aFd(t:AT):IT:=λσ Q=>t σ λds=>∃as bs,ds=[.tuple as,.tuple bs]/\Q (qZ as bs)
section
variable{X:Cx}{a b:Expr}
theorem SG{t:AT}{p p' tpos:Pos}{elts:List Expr}{x1:Nat}(ha:wT X [a,b] t)(pz:∀{ta:TA},PA X [a,b] ta->PI X (.Tuple elts x1 tpos) (.Call (.Name "zip" p) [a,b] [] p') (aFe X.K ta)):IE X (.Tuple elts x1 tpos) (.Call (.Name "zip" p) [a,b] [] p') (aFd t):=by
 obtain⟨va,pa,ra⟩:=ha;refine⟨_,pz pa,λB p0 H ps σT σ Q R o h k=>ra B p0 H ps σT σ _ _ o h λds xs H1 s1 r1 q1=>?_⟩;obtain⟨as,bs,rfl,q⟩:=q1
 cases r1 with
 |cons r1 r2=>
  cases r2 with
  |cons r3 r4=>
   cases r4
   cases r1 with
   |@tuple p1 us _ hq1 rs1=>
    cases r3 with
    |@tuple p2 vs _ hq2 rs2=>
     have n1:=rs1.length;have n2:=rs2.length;refine⟨p1,p2,us,vs,rfl,bL.seqT bZ hq1,bL.seqT bZ hq2,k _ _ H1 s1 ⟨λi H e hl=>?_,λi H e hl=>?_,λi H ps' y H' live e hl hy=>?_⟩ q⟩
     ·rw[sI]at hl;exact⟨us,vs,bL.seqT e hq1,bL.seqT e hq2,by omega⟩
     ·rw[sI]at hl;exact⟨us,vs,us[i],vs[i],bL.seqT e hq1,bL.seqT e hq2,aF (by omega),aF (by omega)⟩
     ·obtain⟨p,x,y',hp,rfl,rfl,h1,h2⟩:=hy;obtain⟨d1,g1,t1⟩:=rs1.get' (h1 us (bL.seqT (e.trans bZ) hq1));obtain⟨d2,g2,t2⟩:=rs2.get' (h2 vs (bL.seqT (e.trans bZ) hq2));refine⟨dU hp,.tuple [d1,d2],?_,rE live hp (.cons (t1.same e) (.cons (t2.same e) .nil))⟩;unfold qZ;rw[aH,(jS (z:=(d1,d2))).mpr ⟨g1,g2⟩];rfl
end
section
variable{fr:List (Option Nat)}{ti:IT}{te:ET}{σ:List Sl}{Q:D->Prop}{ts:List D}
theorem xH{α:Type}(l:List α)(a b c d:α):(((l.set 0 a).set 1 b).set 0 c).set 1 d=(l.set 0 c).set 1 d:=by
 match l with
 |[]=>rfl
 |[_]=>rfl
 |_::_::_=>rfl
theorem EL(hti:tR ti σ ts)(f:D->D)(hz:ts.length<=100000)(hp:∀x∈ts,∃a b,x=.tuple [a,b])(ht:∀(a b:D)(q:D->Prop),.tuple [a,b]∈ts->q (f (.tuple [a,b]))->te (((jT fr σ).set 0 (.val a)).set 1 (.val b)) q)(hq:Q (.list (ts.map f))):OD fr ti (gP 0 1) BO te σ Q:=by
 refine hti _ ⟨hz,λk σ' ds=>(∀x y,(σ'.set 0 (.val x)).set 1 (.val y)=((jT fr σ).set 0 (.val x)).set 1 (.val y))/\ds=(ts.take k).map f,⟨λ_ _=>rfl,rfl⟩,λk x σ' ds hx h=>?_,λσ' ds h=>?_⟩
 ·obtain⟨h1,rfl⟩:=h;have hm:x∈ts:=aR hx;obtain⟨a,b,rfl⟩:=hp x hm;refine⟨a,b,rfl,?_⟩;show te ((σ'.set 0 (.val a)).set 1 (.val b)) _;rw[h1 a b];refine ht a b _ hm ⟨λx y=>xH _ _ _ _ _,?_⟩;rw[cN,hx,bY];rfl
 ·obtain⟨_,rfl⟩:=h;rw[cX];exact hq
end
end TL
namespace L2
open PySem PySem.Spec PyProof.Rows PySem.SeqAt
open AutoSeq1 (wpAny_loadPart')
theorem B3(l:Addr)(items:Array Value)(n:Nat)(dd:Option Addr)(sl:Array (Option Value))(x:Value)(e:Value->Bool)(j:Nat)(hj:j<items.size)(hit:e items[j]=true)(hno:∀m (hm:m<items.size),m<j->e items[m]=false) :
  Meets (Builtin.«tuple.index» ⟨[.ref l,x],[]⟩)
   (λA R s=>s.heap.get? l=some { cls:=.type "tuple",dict:=dd,data:=.seq items n,slots:=sl }/\(∀y,y∈items->EqAt A.in1 s y x (e y))/\R (.ok (.ret (.int j s.toks))) { s with toks:=s.toks+1 }):=by
 intro prog w A R s h;obtain⟨hp,g,d,tk,os⟩:=s;obtain⟨hl,he,h⟩:=h;unfold Builtin.«tuple.index»;simp only[Std.Legacy.Range.forIn_eq_forIn_range']
 wp_walk using wpAny_loadPart' hl
 have hN:([:min items.size items.size]:Std.Legacy.Range).size=items.size:=by simp[Std.Legacy.Range.size]
 rw[hN];show wpAny _ _ (forIn (aF7 0 items.size) (none,()) _) _ _ _;refine wpAny_forIn_list _ (λrest b s'=>b=(none,())/\s'=⟨hp,g,d,tk,os⟩/\∃k,rest=aF7 k (items.size-k)/\k<=j) _ (λi rest b s' h1=>?_) (λb s' h1=>?_) _ _ ⟨rfl,rfl,0,by simp,dS _⟩
 ·obtain⟨rfl,rfl,k,hr,hk⟩:=h1;have hkN:k<items.size:=by omega
  have e1:items.size-k=(items.size-(k+1))+1:=by omega
  rw[e1,List.range'_succ]at hr;obtain⟨rfl,rfl⟩:=List.cons.inj hr;have hi:items[i]?=some items[i]:=by simp[hkN]
  rw[hi];refine aB (he _ (Array.getElem_mem hkN) prog w _ _ ?_);by_cases hij:i=j
  ·subst hij;rw[hit,if_pos rfl]
   wp_walk
   exact h
  ·have hlt:i<j:=by omega
   rw[hno i hkN hlt,if_neg (by decide)];exact aJ ⟨rfl,rfl,i+1,rfl,hlt⟩
 ·obtain⟨_,_,k,hr,hk⟩:=h1;have:=congrArg kU hr;simp at this;omega
end L2
namespace TL
open PySem PySem.Spec PyProof.Rows L2 PySem.SeqAt
section
variable{X:Cx}{e:Expr}{es:List Expr}{te ta:ET}{pos:Pos}
def RI(ts:List D)(d:D)(j:Nat):Prop:=fL ts=true/\d.canLay0=true/\min (eK ts) d.depth<=60/\(∃t,ts[j]?=some t/\cC t d=true)/\∀(m:Nat) t,m<j->ts[m]?=some t->cC t d=false
def IW(K:aG):V->List V->Hp->VK->Prop:=λx xs H Q=>∃(y:V)(ts:List D)(d:D)(j:Nat),xs=[y]/\jF K H (.tuple ts) x/\jF K H d y/\RI ts d j/\Q (.int j) H
theorem NR(hu:X.A.units+200<cLine):MtR X "tuple.index" (IW X.K):=by
 intro pins s σ H x xs v us Q I rx rv h;obtain⟨y,ts,d,j,rfl,r1,r2,⟨c1,c2,hm,⟨t,ht,he⟩,hno⟩,q⟩:=h;obtain⟨u,rfl,ru⟩:=rv.one;obtain⟨as,h1⟩:=jF.reads I (show(aM ts).hasDict=false from noDictAll c1) r1 rx;obtain⟨bs,h2⟩:=jF.reads I (oF c2) r2 ru
 cases h1 with
 |@tuple l o items n _ as' h3 h4 h5 h6=>
  have hmap:=readsAll_map ts items.toList _ c1 h6;have hlen:items.size=ts.length:=by rw[<- hmap,aE,fF]
  have hjl:j<ts.length:=(aD.mp ht).1;have hj:j<items.size:=by omega
  have rd:∀(m:Nat)(hm:m<items.size),ts[m]?=some (readOf s.heap items[m]):=λm hm=>by
   rw[<- hmap,aH];simp[hm]
  obtain⟨oc,od,odt,osl⟩:=o;cases h4;cases h5;refine call_meets F.slot_tuple_index ⟨_,h3,rfl⟩ F.entry_tuple_index (F.args_tuple_index_2 _ _) (B3 _ items _ od osl u (λy=>cC (readOf s.heap y) d) j hj ?_ ?_) ⟨h3,items_eqAt h6 h2 c1 c2 (by have:=hu;omega),?_⟩
  ·have:=rd j hj;rw[ht]at this;rw[<- Option.some.inj this];exact he
  ·intro m hm' hlt;exact hno m _ hlt (rd m hm')
  ·exact⟨.int j,H,I.tok _,⟨_,rfl⟩,q⟩
theorem RY{k:Nat}(hr:Room k X.A):MtR X "tuple.index" (IW X.K):=NR (by have:=hr.un;omega)
def aBt(te:ET)(t:AT):ET:=λσ Q=>te σ λd=>∃ts,d=.tuple ts/\t σ λds=>∃(x:D)(j:Nat),ds=[x]/\RI ts x j/\Q (.int j)
theorem S0{n:Expr}{ap:Pos}{t:AT}(hn:jD X n te)(ha:wT X (e::es) t)
  (pc:∀{v:TE}{ta:TA},PE X n v->PA X (e::es) ta->PE X (.Call (.Attribute n "index" ap) (e::es) [] pos) (Z0 X.K "tuple" (IW X.K) v ta)):jD X (.Call (.Attribute n "index" ap) (e::es) [] pos) (aBt te t):=by
 obtain⟨v,pe,re⟩:=hn;obtain⟨va,pa,ra⟩:=ha;refine⟨_,pc pe pa,λB p0 H ps σT σ Q QV o h k=>re B p0 H ps σT σ _ _ o h λd x H1 s1 r1 q1=>?_⟩;obtain⟨ts,rfl,q1⟩:=q1
 cases r1 with
 |@tuple p xs _ hq rs=>
  refine⟨.inr (.inl ⟨rfl,.inr ⟨_,bL.seqT bZ hq⟩⟩),ra B p0 H1 ps σT σ _ _ (o.grow s1) q1 λds ys H2 s2 r2 q2=>?_⟩;obtain⟨d,j,rfl,hok,q⟩:=q2
  cases r2 with
  |cons r3 r4=>
   cases r4;exact⟨_,ts,d,j,rfl,(jF.tuple hq rs).same ((cA s2).trans bZ),r3.same bZ,hok,k _ _ H2 (s1.trans s2) (.int _) q⟩
end
end TL
namespace TL
open PySem PySem.Spec PyProof.Rows L2
section
variable{K:aG}{H H':Hp}{B:Hp}{p0 ps:List Addr}{σT:List Sl}{σ:L2.St}
theorem Reps.put:∀{ts:List D}{xs:List V}(n:Nat){d:D}{v:V},Reps K H ts xs->jF K H d v->Reps K H (ts.set n d) (xs.set n v)
|_,_,_,_,_,.nil,_=>.nil
|_,_,0,_,_,.cons _ t,r=>.cons r t
|_,_,n+1,_,_,.cons s t,r=>.cons s (Reps.put n t r)
theorem WE{n j:Nat}(h:j<n):SE n (j:Int)=some j:=by
 unfold SE;rw[if_pos (by omega),if_pos (by omega)];simp
def without(H:Hp)(p:Addr):Hp:=λb=>if b=p then none else H b
theorem vT{p:Addr}:dB (without H p) ps=dB H (p::ps):=by
 funext b;unfold dB without;by_cases h1:b=p
 ·simp[h1]
 ·by_cases h2:b∈ps<;>simp[h1,h2]
theorem vS{p:Addr}(s:bL H H')(hp:H p=none):bL H (without H' p):=λb o e=>by
 unfold without;rw[if_neg λz=>by rw[z,hp]at e;cases e];exact s b o e
theorem FW{p:Addr}{u:HO}(hx:H p=some u):gK (without H p) p u=H:=by
 funext b;by_cases h:b=p
 ·subst h;rw[cO,hx]
 ·rw[cJ h];unfold without;rw[if_neg h]
theorem bL.free'(s:bL H H'){p:Addr}(h:H' p=none):H p=none:=by
 cases q:H p with
 |none=>rfl
 |some u=>rw[s p u q]at h;cases h
theorem Ok.takeOwn(o:Ok K B p0 H ps σT σ){i:Nat}{ts:List D}{xs:List V}{p:Addr}(s:bL H H')(hp:H p=none)(hx:H' p=some (.lst xs))(r:Reps K (dB H' (p::ps)) ts xs) :
  Ok K B p0 H' (p::ps) (σT.set i (.own ts)) (σ.set i (some (.ref p))):=by
 have o1:=o.grow (vS s hp);have hn:without H' p p=none:=by unfold without;rw[if_pos rfl]
 have:=o1.setOwn (i:=i) (ts:=ts) (xs:=xs) hn (by rw[vT];exact r)
 rwa [FW hx]at this
end
section
variable{X:Cx}{a b c e:Expr}{es:List Expr}{ta tb te:ET}{pos:Pos}
def W1(i:Nat)(t:qA):qA:=λσ Q=>∃ts,σ[i]?=some (.own ts)/\t (σ.set i (.val (.list ts))) Q
theorem xE(i:Nat){t:qA}(h:ID X e t):ID X e (W1 i t):=by
 obtain⟨v,p,r⟩:=h;refine⟨_,p,λB p0 H ps σT σ Q QV o h k=>?_⟩;obtain⟨ts,e,h⟩:=h;obtain⟨ps',o',s'⟩:=o.share e;exact r B p0 H ps' _ σ _ _ o' h k
abbrev FT:=List Sl->(List D->Prop)->Prop
def O3(X:Cx)(e:Expr)(t:FT):Prop:=∃te:TE,PE X e te/\∀(B:Hp)(p0:List Addr)(H:Hp)(ps:List Addr)(σT:List Sl)(σ:L2.St)(Q:List D->Prop)(QV:VK),Ok X.K B p0 H ps σT σ->t σT Q ->
 (∀ts p xs H',bL H H'->H p=none->H' p=some (.lst xs)->Reps X.K (dB H' (p::ps)) ts xs->Q ts->QV (.ref p) H')->te σ H QV
def eFr(t:FT):ET:=λσ Q=>t σ λts=>Q (.list ts)
theorem BD{t:FT}(h:O3 X e t):jD X e (eFr t):=by
 obtain⟨v,p,r⟩:=h;refine⟨_,p,λB p0 H ps σT σ Q QV o h k=>r B p0 H ps σT σ _ _ o h λts p xs H' s hp hx rs q=>k _ _ H' s ?_ q⟩;exact .list (oM.of (iN (eS o.live hp) hx)) (rs.same (qK λq hq=>aO _ hq))
def aHq(t:AT):FT:=λσ Q=>t σ λds=>ds.length<=1000/\Q ds
theorem SR{t:AT}(h:wT X es t):O3 X (.List es pos) (aHq t):=by
 obtain⟨v,p,r⟩:=h;refine⟨_,JE p,λB p0 H ps σT σ Q QV o h k=>r B p0 H ps σT σ _ _ o h λds xs H1 s1 r1 q1=>⟨uC (by rw[<- r1.length];exact q1.1),λq hq=>?_⟩⟩;exact k ds q xs _ (s1.trans (dU hq)) (bL.free' s1 hq) cO (by rw[lW hq];exact r1) q1.2
def aFt(ta tb:ET):FT:=λσ Q=>ta σ λx=>tb σ λy=>∃as bs,x=.list as/\y=.list bs/\as.length+bs.length<=100000/\Q (as++bs)
theorem aBj(ha:jD X a ta)(hb:jD X b tb):O3 X (.BinOp a .Add b pos) (aFt ta tb):=by
 obtain⟨va,pa,ra⟩:=ha;obtain⟨vb,pb,rb⟩:=hb;refine⟨_,Y6 LM pa pb,λB p0 H ps σT σ Q QV o h k=>ra B p0 H ps σT σ _ _ o h λd1 x H1 s1 r1 q1=>?_⟩;refine rb B p0 H1 ps σT σ _ _ (o.grow s1) q1 λd2 y H2 s2 r2 q2=>?_;obtain⟨as,bs,rfl,rfl,hz,q⟩:=q2
 cases r1 with
 |list h1 t1=>
  cases r2 with
  |list h2 t2=>
   refine⟨_,_,_,_,rfl,rfl,L2.bL.seq ((cA s2).trans bZ) h1,L2.bL.seq bZ h2,yM (by rw[<- t1.length,<- t2.length];exact hz),λp hp=>?_⟩;exact k _ p _ _ ((s1.trans s2).trans (dU hp)) (bL.free' (s1.trans s2) hp) cO (by rw[lW hp];exact(t1.same (cA s2)).append t2) q
def fLc(fr:List (Option Nat))(ti:IT)(g:GT)(tt:qA)(te:ET):FT:=λσ Q=>ti σ λts=>ts.length<=100000/\∃P:Nat->List Sl->List D->Prop,P 0 (jT fr σ) [] /\
 (∀(k:Nat)(x:D)(σ':List Sl)(ds:List D),ts[k]?=some x->P k σ' ds->g x σ' λσ2=>tt σ2 λb=>if b=true then te σ2 λy=>P (k+1) σ2 (ds++[y])else P (k+1) σ2 ds)/\∀σ' ds,P ts.length σ' ds->Q ds
def asL(Q:List D->Prop)(d:D):Prop:=match d with | .list ds=>Q ds | _=>False
theorem aBl{fr:List (Option Nat)}{ti:IT}{g:GT}{tt:qA}{te:ET}{σ:List Sl}{Q:List D->Prop}(h:OD fr ti g tt te σ (asL Q)):fLc fr ti g tt te σ Q:=h
theorem R4{fr:List (Option Nat)}{ti:IT}{g:GT}{tt:qA}{te:ET}{wi:TI}{gv:BP->TG}{vt:BP->TT}{ve:BP->TE}
  (ri:∀(B:Hp)(p0:List Addr)(H:Hp)(ps:List Addr)(σT:List Sl)(σ:L2.St)(Q:List D->Prop)(R:It->Hp->Prop),Ok X.K B p0 H ps σT σ->ti σT Q->(∀ts J H',bL H H'->W9 X.K (dB H' ps) ts J->Q ts->R J H')->wi σ H R)
  (rg:∀(bp:BP)(B:Hp)(p0:List Addr)(H:Hp)(ps:List Addr)(σT:List Sl)(σ:L2.St)(d:D)(v:V)(Q:List Sl->Prop)(QV:L2.St->Hp->Prop),Ok X.K B p0 H ps σT σ->jF X.K (dB H ps) d v->g d σT Q->(∀σT' σ',Ok X.K B p0 H ps σT' σ'->(oO σT->oO σT')->Q σT'->QV σ' H)->gv bp v σ H QV)
  (rt:∀(bp:BP)(B:Hp)(p0:List Addr)(H:Hp)(ps:List Addr)(σT:List Sl)(σ:L2.St)(Q:Bool->Prop)(QV:Bool->Hp->Prop),Ok X.K B p0 H ps σT σ->tt σT Q->(∀b H',bL H H'->Q b->QV b H')->vt bp σ H QV)
  (re:∀(bp:BP)(B:Hp)(p0:List Addr)(H:Hp)(ps:List Addr)(σT:List Sl)(σ:L2.St)(Q:D->Prop)(QV:VK),Ok X.K B p0 H ps σT σ->te σT Q->(∀d v H',bL H H'->jF X.K (dB H' ps) d v->Q d->QV v H')->ve bp σ H QV)
  (B:Hp) (p0:List Addr) (H:Hp) (ps:List Addr) (σT:List Sl) (σ:L2.St) (Q:List D->Prop) (QV:VK) (o:Ok X.K B p0 H ps σT σ) (h:fLc fr ti g tt te σT Q) (k:∀ts p xs H',bL H H'->H p=none->H' p=some (.lst xs)->Reps X.K (dB H' (p::ps)) ts xs->Q ts->QV (.ref p) H'):PY fr wi gv vt ve σ H QV:=by
 refine ri B p0 H ps σT σ _ _ o h λts J H1 s1 rj q1=>?_;obtain⟨hz,P,h0,hs,hd⟩:=q1;intro bp acc hacc;have hBacc:B acc=none:=bL.free' (o.grow s1).base hacc
 refine⟨λi m σ' H'=>m=ts.length-i/\i<=ts.length/\∃σT' ds ys,Ok X.K B p0 H' (acc::ps) σT' σ'/\oO σT'/\H' acc=some (.lst ys)/\ds.length<=i/\Reps X.K (dB H' (acc::ps)) ds ys/\bL (dB H1 ps) (dB H' (acc::ps))/\bL H1 H'/\P i σT' ds,
  ⟨_,rfl,dS _,jT fr σT,[],[],((o.grow s1).blk fr).adopt hacc,qJ fr σT,cO,aN _,.nil,by rw[lW hacc];exact L2.bL.refl _,dU hacc,h0⟩,?_⟩
 rintro i m σ' H' ⟨rfl,hle,σT',ds,ys,o',n',ha,hl,hr,s',sF,p'⟩;have hL:bU=2^24:=rfl;by_cases hlt:i<ts.length
 ·refine .inr ⟨rj.go i H' (s'.trans bZ) hlt,λy H2 hy=>?_⟩;obtain⟨s2,dx,hx,rx⟩:=rj.yld i H' (acc::ps) y H2 o'.live s' hlt hy;refine rg bp B p0 H2 (acc::ps) σT' σ' dx y _ _ (o'.grow s2) rx (hs i dx σT' ds hx p') λσT3 σ3 o3 n3 q3=>?_;refine rt bp B p0 H2 (acc::ps) σT3 σ3 _ _ o3 q3 λb H4 s4 q4=>?_;have s24:=s2.trans s4
  cases b with
  |false=>
   exact⟨ts.length-(i+1),by omega,rfl,hlt,σT3,ds,ys,o3.grow s4,n3 n',s24 _ _ ha,by omega,hr.same (cA s24),s'.trans (cA s24),sF.trans s24,q4⟩
  |true=>
   refine re bp B p0 H4 (acc::ps) σT3 σ3 _ _ (o3.grow s4) q4 λd v H5 s5 r5 q5=>?_;have s25:=s24.trans s5;have hm:dB (gK H5 acc (.lst (ys++[v]))) (acc::ps)=dB H5 (acc::ps):=lV (aS ..);refine⟨ys,s25 _ _ ha,by rw[<- hr.length];omega,ts.length-(i+1),by omega,rfl,hlt,σT3,ds++[d],ys++[v],((o3.grow s4).grow s5).aside (aS ..) hBacc (n3 n'),n3 n',cO,by rw[aZ,oA];omega,?_,?_,?_,q5⟩
   ·rw[hm];exact(hr.same (cA s25)).append (.cons r5 .nil)
   ·rw[hm];exact s'.trans (cA s25)
   ·intro b u e;have ne:b≠acc:=λz=>by rw[z,hacc]at e;cases e
    rw[cJ ne];exact(sF.trans s25) b u e
 ·obtain rfl:i=ts.length:=by omega
  exact .inl ⟨rj.stop _ H' (s'.trans bZ) (aN _),k ds acc ys H' (s1.trans sF) (bL.free' s1 hacc) ha hr (hd σT' ds p')⟩
theorem WC{elt iter tg:Expr}{ifs:List Expr}{scope:Scope}{fr:List (Option Nat)}{N':List Str}{ti:IT}{g:GT}{tt:qA}{te:ET}(hi:IE X tg iter ti)
  (hY:∀b:BP,T5 (blk X scope N' b) tg g/\FF (blk X scope N' b) ifs tt/\jD (blk X scope N' b) elt te) {M:(TE)->Prop}
  (fin:∀{wi:TI}{gv:BP->TG}{vt:BP->TT}{ve:BP->TE},PI X tg iter wi->(∀b:BP,PG (blk X scope N' b) tg (gv b)/\OS (blk X scope N' b) ifs (vt b)/\PE (blk X scope N' b) elt (ve b))->M (PY fr wi gv vt ve)) :
  ∃v:TE,M v/\∀(B:Hp)(p0:List Addr)(H:Hp)(ps:List Addr)(σT:List Sl)(σ:L2.St)(Q:List D->Prop)(QV:VK),Ok X.K B p0 H ps σT σ->fLc fr ti g tt te σT Q ->
   (∀ts p xs H',bL H H'->H p=none->H' p=some (.lst xs)->Reps X.K (dB H' (p::ps)) ts xs->Q ts->QV (.ref p) H')->v σ H QV:=by
 obtain⟨wi,pi,ri⟩:=hi;refine⟨_,fin (gv:=λb=>Classical.choose (hY b).1) (vt:=λb=>Classical.choose (hY b).2.1) (ve:=λb=>Classical.choose (hY b).2.2) pi λb=>⟨(Classical.choose_spec (hY b).1).1,(Classical.choose_spec (hY b).2.1).1,(Classical.choose_spec (hY b).2.2).1⟩,?_⟩;exact R4 ri (λb=>(Classical.choose_spec (hY b).1).2) (λb=>(Classical.choose_spec (hY b).2.1).2) λb=>(Classical.choose_spec (hY b).2.2).2
theorem aFm{elt iter tg:Expr}{ifs:List Expr}{scope:Scope}{fr:List (Option Nat)}{N':List Str}{ti:IT}{g:GT}{tt:qA}{te:ET}(hi:IE X tg iter ti)
  (hY:∀b:BP,T5 (blk X scope N' b) tg g/\FF (blk X scope N' b) ifs tt/\jD (blk X scope N' b) elt te)
  (pl:∀{wi:TI}{gv:BP->TG}{vt:BP->TT}{ve:BP->TE},PI X tg iter wi->(∀b:BP,PG (blk X scope N' b) tg (gv b)/\OS (blk X scope N' b) ifs (vt b)/\PE (blk X scope N' b) elt (ve b))->PE X (.ListComp elt [⟨tg,iter,ifs,0⟩] scope pos) (PY fr wi gv vt ve)) :
  O3 X (.ListComp elt [⟨tg,iter,ifs,0⟩] scope pos) (fLc fr ti g tt te):=WC hi hY pl
abbrev KF:=List D->(List D->Prop)->Prop
def fT(K:aG)(sp:KF):Sp:=λvs H Q _=>∃(ps:List Addr)(ds:List D)(QD:List D->Prop),(∀p∈ps,FS (H p))/\Reps K (dB H ps) ds vs/\sp ds QD /\
 ∀ts p xs H',bL H H'->H p=none->H' p=some (.lst xs)->Reps K (dB H' (p::ps)) ts xs->QD ts->Q (.ref p) H'
def ZG(sp:KF)(t:AT):FT:=λσ Q=>t σ λds=>sp ds Q
theorem WM{k:Nat}{f:Addr}{fd:eI}{pn:List Str}{sp:KF}{x:Str}{p:Pos}{t:AT}(F:bX X.prog X.w X.K X.mg X.base eR k f fd pn (fT X.K sp))(hm:X.mg x=some (.ref f))(hk:iU X.K (.ref f)=true)(hb:tU X.K fd pn [])
  (hr:Room k X.A) (ha:wT X (e::es) t) (pc:∀{ta:TA},PA X (e::es) ta->PE X (.Call (.Name x p) (e::es) [] pos) (KR (fT X.K sp) [] E0 ta)):O3 X (.Call (.Name x p) (e::es) [] pos) (ZG sp t):=by
 obtain⟨v,pa,ra⟩:=ha;refine⟨_,pc pa,λB p0 H ps σT σ Q QV o h k=>ra B p0 H ps σT σ _ _ o h λds xs H1 s1 r1 q1=>?_⟩;show fT X.K sp (xs++[]) H1 QV E0;rw[dG];exact⟨ps,ds,Q,(o.grow s1).live,r1,q1,λts p xs' H' s' hp hx rs q=>k ts p xs' H' (s1.trans s') (bL.free' s1 hp) hx rs q⟩
theorem ZD{P:bE}{w:World}{K:aG}{mg:Str->Option Value}{base:Heap}{x qual:Str}{st:Stmt}{f:Addr}{fd:eI}{N pn:List Str}{k:Nat}{sp:KF}(F:T7 K x qual st f fd)(S:cQ N pn (bJ st))(len:∀ds Q,sp ds Q->ds.length=pn.length)
  (hbody:∀(cdv:Value)(A:Around)(outer:List Env)(s:Shared)(H:Hp)(E:XK),Room k (A.deeper (envOfC qual (bJ st) s.heap.objs.size f cdv))->∀(ds:List D)(Q:List D->Prop),sp ds Q ->
   ∃t,qO (vL eR P w K mg base N qual (bJ st) f cdv A outer s H E).nox (mE st) t/\t { nx:=λ_=>False,rt:=λ_=>False,ro:=Q } (rD N ds)):bX P w K mg base eR (k+1) f fd pn (fT K sp):=by
 refine F.ok S (λvs H Q E h=>?_) λcdv A outer s H vs Q E hr h=>?_
 ·obtain⟨ps,ds,QD,_,r,q,_⟩:=h;rw[<- r.length];exact len ds QD q
 ·obtain⟨ps,ds,QD,live,r,q,k⟩:=h;obtain⟨t,⟨ts,p,rd⟩,h⟩:=hbody cdv A outer s H E hr ds QD q;exact⟨ts,p,rd H ps H ps _ _ _ _ (AR live r) h ⟨λ_ _ _ _ _ _ q'=>q'.elim,λ_ _ _ _ _ _ q'=>q'.elim,λ_ _ _ _ _ _ q'=>q'.elim,λ_ _ _ _ _ q'=>q'.elim,λts p xs H' s' hB hp hx rs q'=>k ts p xs H' s' hB hx rs q',λ_ _ _ _ _ _ _ _ _ _ _ _ _ _ _ _ _ _ q'=>q'.elim,λ_ _ _ _ _ _ _ _ _ _ _ _ _ _ q'=>q'.elim,True.intro⟩⟩
def F9(i:Nat)(t:FT):nI:=λDT σ=>t σ λts=>DT.nx (σ.set i (.own ts))
theorem M4{i:Nat}{t:FT}{v:TE}(r:∀(B:Hp)(p0:List Addr)(H:Hp)(ps:List Addr)(σT:List Sl)(σ:L2.St)(Q:List D->Prop)(QV:VK),Ok X.K B p0 H ps σT σ->t σT Q ->
   (∀ts p xs H',bL H H'->H p=none->H' p=some (.lst xs)->Reps X.K (dB H' (p::ps)) ts xs->Q ts->QV (.ref p) H')->v σ H QV)
  (B:Hp) (p0:List Addr) (H:Hp) (ps:List Addr) (σT:List Sl) (σ:L2.St) (DT:lZ) (DV:CD) (o:Ok X.K B p0 H ps σT σ) (h:F9 i t DT σT) (f:HU X.K B p0 H ps DT DV):vZ v (nF i) DV σ H:=by
 refine r B p0 H ps σT σ _ _ o h λts p xs H' s hp hx rs q=>?_;exact f.nx H' (p::ps) _ _ (o.takeOwn s hp hx rs) (by rw[<- vT];exact cA (vS s hp)) q
theorem U3{i:Nat}{x:Str}{pos':Pos}{t:FT}(h:O3 X e t)(ps':∀{v:TE},PE X e v->PS X (.Assign [.Name x pos'] e pos) (vZ v (nF i))):qU X (.Assign [.Name x pos'] e pos) (F9 i t):=by
 obtain⟨v,p,r⟩:=h;exact⟨_,ps' p,M4 r⟩
def aDe(t:FT):nI:=λDT σ=>t σ DT.ro
theorem zM{t:FT}(h:O3 X e t):qU X (.Return (some e) pos) (aDe t):=by
 obtain⟨v,p,r⟩:=h;refine⟨_,EB p,λB p0 H ps σT σ DT DV o h f=>r B p0 H ps σT σ _ _ o h λts p xs H' s hp hx rs q=>?_⟩;refine f.ro ts p xs H' (o.base.trans s) (bL.free' o.base hp) (λz=>eS o.live hp (o.sub p z)) hx (rs.same (qK λq hq=>?_)) q;rcases aY.mp hq with rfl | hq
 ·exact aS ..
 ·exact aO _ (o.sub q hq)
def VE(i:Nat):nI:=λDT σ=>∃ts,σ[i]?=some (.own ts)/\DT.ro ts
theorem qF{i:Nat}{n:Expr}(hn:PE X n (vY i)):qU X (.Return (some n) pos) (VE i):=by
 refine⟨_,EB hn,λB p0 H ps σT σ DT DV o h f=>?_⟩;obtain⟨ts,e,h⟩:=h;obtain⟨q,xs,h1,h2,h3,h4,h5,h6⟩:=o.own i ts e;refine⟨.ref q,h1,f.ro ts q xs H o.base h3 h4 h5 (h6.same (qK λz hz=>?_)) h⟩;rcases aY.mp hz with rfl | hz
 ·exact h2
 ·exact o.sub z hz
def QM(c:qA)(tb:nI):nI:=λDT σ=>∃P:Nat->List Sl->Prop,(∃n,P n σ)/\∀n σ',P n σ'->c σ' λb=>if b=true then tb { DT with nx:=λσ2=>∃m,m<n/\P m σ2,ct:=λσ2=>∃m,m<n/\P m σ2,bk:=DT.nx } σ' else DT.nx σ'
theorem P2{c:Expr}{body:List Stmt}{tc:qA}{tb:nI}(hc:ID X c tc)(hb:qO X body tb)(pw:∀{vc:TT}{vb:TS},PT X c vc->zE X body vb->PS X (.While c body [] pos) (PQ vc vb)):qU X (.While c body [] pos) (QM tc tb):=by
 obtain⟨vc,pc,rc⟩:=hc;obtain⟨vb,pb,rb⟩:=hb;refine⟨_,pw pc pb,λB p0 H ps σT σ DT DV o h f=>?_⟩;obtain⟨P,⟨n0,h0⟩,hs⟩:=h;refine⟨λn σ' H'=>∃ps' σT',Ok X.K B p0 H' ps' σT' σ'/\bL (dB H ps) (dB H' ps')/\P n σT',⟨n0,ps,σT,o,L2.bL.refl _,h0⟩,?_⟩;rintro n σ' H' ⟨ps',σT',o',s',p'⟩;refine rc B p0 H' ps' σT' σ' _ _ o' (hs n σT' p') λb H1 s1 q1=>?_;have f':HU X.K B p0 H1 ps' DT DV:=(f.later s').later (cA s1);have s'':bL (dB H ps) (dB H1 ps'):=s'.trans (cA s1)
 cases b with
 |true=>
  rw[if_pos rfl]at q1 |-
  refine⟨λσ2 H2=>∃m,m<n/\∃ps2 σT2,Ok X.K B p0 H2 ps2 σT2 σ2/\bL (dB H ps) (dB H2 ps2)/\P m σT2,λσ2 H2 z=>z,?_⟩;exact rb B p0 H1 ps' σT' σ' _ _ (o'.grow s1) q1 ⟨λH4 ps4 σT4 σ4 o4 s4 ⟨m,hm,q4⟩=>⟨m,hm,ps4,σT4,o4,s''.trans s4,q4⟩,λH4 ps4 σT4 σ4 o4 s4 q4=>f'.nx H4 ps4 σT4 σ4 o4 s4 q4,λH4 ps4 σT4 σ4 o4 s4 ⟨m,hm,q4⟩=>⟨m,hm,ps4,σT4,o4,s''.trans s4,q4⟩,f'.rt,f'.ro,f'.rp,f'.rq,f'.xb⟩
 |false=>
  rw[if_neg (by decide)]at q1 |-
  exact f'.nx H1 ps' σT' σ' (o'.grow s1) (L2.bL.refl _) q1
def aG0(i:Nat)(ti te:ET):nI:=λDT σ=>∃ts,σ[i]?=some (.own ts)/\te σ λd=>ti σ λx=>∃n:Nat,x=.int n/\n<ts.length/\DT.nx (σ.set i (.own (ts.set n d)))
theorem Z1{i:Nat}{n ix e:Expr}{ti te:ET}{p2:Pos}(hn:PE X n (vY i))(hi:jD X ix ti)(he:jD X e te)
  (pa:∀{v vi:TE},PE X e v->PE X ix vi->PS X (.Assign [.Subscript n ix p2] e pos) (vZ v (aBh (vY i) vi QU))):qU X (.Assign [.Subscript n ix p2] e pos) (aG0 i ti te):=by
 obtain⟨v,pe,re⟩:=he;obtain⟨vi,pi,ri⟩:=hi;refine⟨_,pa pe pi,λB p0 H ps σT σ DT DV o h f=>?_⟩;obtain⟨ts,e,h⟩:=h;refine re B p0 H ps σT σ _ _ o h λd x H1 s1 r1 q1=>?_;have o1:=o.grow s1;obtain⟨q,xs,h1,h2,h3,h4,h5,h6⟩:=o1.own i ts e;refine⟨.ref q,h1,ri B p0 H1 ps σT σ _ _ o1 q1 λd2 y H2 s2 r2 q2=>?_⟩;obtain⟨n,rfl,hlt,q2⟩:=q2;cases r2;have o2:=o1.grow s2;have h6':Reps X.K (dB H2 ps) ts xs:=h6.same (cA s2)
 have hj:SE xs.length (n:Int)=some n:=by
  rw[<- h6.length];exact WE hlt
 refine⟨q,xs,n,n,rfl,rfl,s2 _ _ h5,hj,?_⟩;have hr:=h6'.put n (r1.same (cA s2));exact f.nx _ ps _ σ (o2.write (ys:=xs.set n x) e h1 hr) (((cA s1).trans (cA s2)).trans (by rw[lV h2];exact L2.bL.refl _)) q2
def eIf(c:qA)(ta tb:ET):ET:=λσ Q=>c σ λb=>if b=true then ta σ Q else tb σ Q
theorem L8{tc:qA}(hc:ID X c tc)(ha:jD X a ta)(hb:jD X b tb):jD X (.IfExp c a b pos) (eIf tc ta tb):=by
 obtain⟨vc,pc,rc⟩:=hc;obtain⟨va,pa,ra⟩:=ha;obtain⟨vb,pb,rb⟩:=hb;refine⟨_,RB pc pa pb,λB p0 H ps σT σ Q QV o h k=>rc B p0 H ps σT σ _ _ o h λd H1 s1 q1=>?_⟩
 cases d with
 |true=>
  rw[if_pos rfl]at q1 |-
  exact ra B p0 H1 ps σT σ Q _ (o.grow s1) q1 λd v H' s' r' q'=>k d v H' (s1.trans s') r' q'
 |false=>
  rw[if_neg (by decide)]at q1 |-
  exact rb B p0 H1 ps σT σ Q _ (o.grow s1) q1 λd v H' s' r' q'=>k d v H' (s1.trans s') r' q'
def aHo(d:D)(Q:D->Prop):Prop:=match d with
|.int i=>Q (.int i)
|.bool b=>Q (.int (if b then 1 else 0))
|_=>False
theorem TK:tT X (λxs H Q=>(∃i,xs=[.int i]/\Q (.int i) H)\/∃k,xs=[.bl k]/\Q (.int (if k then 1 else 0)) H) (f1 aHo):=c1 λH ps d x Q QV live r h k=>by
 cases r with
 |int i=>exact .inl ⟨i,rfl,k _ _ H (L2.bL.refl H) (.int _) h⟩
 |bool b=>exact .inr ⟨b,rfl,k _ _ H (L2.bL.refl H) (.int _) h⟩
 |_=>exact h.elim
end
end TL
namespace L2
open PySem PySem.Spec PyProof.Rows PySem.SeqAt
open AutoSeq1 (wpAny_loadPart')
section
variable{X:Cx}{pins:List (Addr×Obj)}{σ:St}{H:Hp}{s:Shared}{p:Addr}
theorem dM.retold{u u':HO}(I:dM X pins σ H s)(h:H p=some u)(nt:∀xs,u≠.tup xs)(nf:∀o v,u≠.frz o v)(nb:∀ps,u≠.tbl ps)(no:∀a,u≠.own a)(new:lG X.prog X.w (gK H p u') s.heap p u'):dM X pins σ (gK H p u') s:=by
 have ne:∀b v,H b=some v->v≠u->gK H p u' b=some v:=λb v e hv=>by
  rw[cJ λz=>by rw[z,h]at e;exact hv (Option.some.inj e).symm];exact e
 have fin:=I.step (h':=s.heap) (H':=gK H p u') (g':=s.gens) (t':=s.toks) (d':=s.drawn) (ch:=[]) (λb hb=>by cases hb) (λb o _ _ _ e _=>e) (λb o _ _ _ e _=>⟨o.slots,e⟩)
  (λb o _ e n=>by rw[cJ λz=>by rw[z,h]at n;cases n];exact n) (λb o _ e=>⟨o,e⟩) (λb xs e=>ne _ _ e (λz=>nt xs z.symm)) (λb o v e=>ne _ _ e (λz=>nf o v z.symm))
  (λb ps e=>⟨#[],by rw[ne _ _ e (λz=>nb ps z.symm)];simp⟩) (λm hm=>hm) (λb v e=>?_) I.bare
 ·exact fin
 ·by_cases hb:b=p
  ·subst hb;rw[cO]at e;cases e;exact new
  ·rw[cJ hb]at e;exact(I.hok b v e).stay (λc w _ q=>q) (λc q=>ne _ _ q λz=>no b z.symm) (λc xs q=>ne _ _ q λz=>nt xs z.symm) λc ob y q=>ne _ _ q λz=>nf ob y z.symm
end
theorem J6(l:Addr)(items:Array Value)(n:Nat)(b:Addr)(items2:Array Value)(n2:Nat)(dd:Option Addr)(sl:Array (Option Value))(hc0:¬(!items.isEmpty&&Builtin.List.listTooLong (items.size+items2.size))=true)(hc1:items.size<=bU)(hs2:items.size+items2.size<=bU+1) :
  Meets (Builtin.«list.extend» ⟨[.ref l,.ref b],[]⟩) (λ_ R s=>s.heap.get? l=some { cls:=.type "list",dict:=none,data:=.seq items n,slots:=#[] }/\s.heap.get? b=some { cls:=.type "list",dict:=dd,data:=.seq items2 n2,slots:=sl }/\R (.ok (.ret Value.none)) { s with heap:=s.heap.update l (Obj.mapSeq λx=>x++items2),toks:=s.toks }):=
 .of_wp λprog w A R s h=>by
  obtain⟨hp,g,d,tk,os⟩:=s;obtain⟨hl,hb,h⟩:=h;have f1:=AutoSeq1.idx_int;have f2:=AutoSeq1.sub_tuple_tuple;have f3:=AutoSeq1.sub_list_list;have f4:=AutoSeq1.sub_tuple_list;have f5:=AutoSeq1.sub_list_tuple;have hz':(items++items2).size<=bU+1:=by rw[PC];exact hs2
  wp_walk using(wpAny_updateSeq hl rfl (hz:=hc1) (_hz':=hz')),wpAny_loadPart' hl,wpAny_loadPart' hb
  exact⟨_,rfl,h⟩
section
variable{X:Cx}
def Y4(K:aG):V->List V->Hp->VK->Prop:=λx vs H Q=>∃l b xs zs,x=.ref l/\vs=[.ref b]/\H l=some (.lst xs)/\oM K H b zs/\xs.length+zs.length<=bU/\Q .non (gK H l (.lst (xs++zs)))
theorem EK:MtM X "list.extend" (Y4 X.K):=by
 intro pins s σ H x vs v us Q I rx rv h;obtain⟨l,b,xs,zs,rfl,rfl,hH,hB,hz,q⟩:=h;cases rx;obtain⟨u,rfl,ru⟩:=rv.one;cases ru;obtain⟨z,its,n,r,hl,e⟩:=I.lstM hH;obtain⟨its2,r2,⟨o,n2,e2,hc,hdn,hd⟩,z2⟩:=I.list hB;have hl2:=r2.length;have hsz:its.toArray.size+its2.toArray.size<=bU:=by rw[bH,bH];omega
 have hlong:¬(!its.toArray.isEmpty&&Builtin.List.listTooLong (its.toArray.size+its2.toArray.size))=true:=by
  rw[RL hsz,Bool.and_false];exact bW
 obtain⟨oc,od,odt,osl⟩:=o;cases hc;cases hd;refine call_meets F.slot_list_extend ⟨_,e,rfl⟩ F.entry_list_extend (F.args_list_extend_2 _ _) (J6 l its.toArray n b its2.toArray n2 od osl hlong (by rw[bH];omega) (by omega)) ⟨e,e2,?_⟩;refine⟨.non,_,I.lset (its':=its++its2) hH e (by simp) (r.append r2) ?_,rfl,q⟩;rw[aZ];omega
end
end L2
namespace TL
open PySem PySem.Spec PyProof.Rows L2
section
variable{X:Cx}{e:Expr}{ta te:ET}{pos:Pos}
def Y1(i:Nat)(te:ET):nI:=λDT σ=>∃ts,σ[i]?=some (.own ts)/\te σ λd=>∃us,d=.list us/\ts.length+us.length<=100000/\DT.nx (σ.set i (.own (ts++us)))
theorem D3{i:Nat}{n e:Expr}{te:ET}{ap cp:Pos}(hn:PE X n (vY i))(he:jD X e te)(hs:bV [e] X.env=(false,eval e X.env)::bV [] X.env:=by rfl)
  (pb:∀{ta:TA},PA X [e] ta->PS X (.Expr (.Call (.Attribute n "extend" ap) [e] [] cp) pos) (PZ (Z0 X.K "list" (Y4 X.K) (vY i) ta))):qU X (.Expr (.Call (.Attribute n "extend" ap) [e] [] cp) pos) (Y1 i te):=by
 obtain⟨v,p,r⟩:=he;refine⟨_,pb (fW p mS hs),λB p0 H ps σT σ DT DV o h f=>?_⟩;obtain⟨ts,e,h⟩:=h;obtain⟨q,xs,h1,h2,h3,h4,h5,h6⟩:=o.own i ts e;refine⟨.ref q,h1,.inl ⟨rfl,xs,oM.of h5⟩,r B p0 H ps σT σ _ _ o h λd x H1 s1 r1 q1=>?_⟩;obtain⟨us,rfl,hz,q1⟩:=q1;have o1:=o.grow s1
 cases r1 with
 |@list p2 zs _ hq rs=>
  refine⟨q,p2,xs,zs,rfl,rfl,s1 _ _ h5,L2.bL.seq bZ hq,yM (by rw[<- h6.length,<- rs.length];exact hz),?_⟩;have hr:Reps X.K (dB H1 ps) (ts++us) (xs++zs):=(h6.same (cA s1)).append rs;exact f.nx _ ps _ σ (o1.write (ys:=xs++zs) e h1 hr) ((cA s1).trans (by rw[lV h2];exact L2.bL.refl _)) q1
def aFp(te:ET):FT:=λσ Q=>te σ λx=>∃ts,(x=.list ts\/x=.tuple ts)/\Q ts
theorem WL{g:Expr}(he:jD X e te)(hs:bV [e] X.env=(false,eval e X.env)::bV [] X.env:=by rfl)
  (pc:∀{v:TE},PA X [e] (pO v yX)->PE X (.Call g [e] [] pos) (P0 (λxs H Q=>∃p ys,xs=[.ref p]/\(oM X.K H p ys\/qE X.K H p ys)/\∀l,H l=none->Q (.ref l) (gK H l (.lst ys))) (pO v yX))):O3 X (.Call g [e] [] pos) (aFp te):=by
 obtain⟨v,pe,re⟩:=he;refine⟨_,pc (fW pe mS hs),λB p0 H ps σT σ Q QV o h k=>re B p0 H ps σT σ _ _ o h λd x H1 s1 r1 q1=>?_⟩;obtain⟨ts,hd,q⟩:=q1
 cases r1 with
 |list hq rs=>
  rcases hd with hd | hd
  ·cases hd;exact⟨_,_,rfl,.inl (L2.bL.seq bZ hq),λp hp=>k _ p _ _ (s1.trans (dU hp)) (bL.free' s1 hp) cO (by rw[lW hp];exact rs) q⟩
  ·cases hd
 |tuple hq rs=>
  rcases hd with hd | hd
  ·cases hd
  ·cases hd;exact⟨_,_,rfl,.inr (bL.seqT bZ hq),λp hp=>k _ p _ _ (s1.trans (dU hp)) (bL.free' s1 hp) cO (by rw[lW hp];exact rs) q⟩
 |none=>rcases hd with hd | hd<;>cases hd
 |bool _=>rcases hd with hd | hd<;>cases hd
 |int _=>rcases hd with hd | hd<;>cases hd
 |str _=>rcases hd with hd | hd<;>cases hd
 |wild _=>rcases hd with hd | hd<;>cases hd
 |exc _ _=>rcases hd with hd | hd<;>cases hd
 |excA _ _ _=>rcases hd with hd | hd<;>cases hd
 |excD _ _ _ _=>rcases hd with hd | hd<;>cases hd
 |tape _ _=>rcases hd with hd | hd<;>cases hd
 |dct _ _ _ _=>rcases hd with hd | hd<;>cases hd
 |addr _=>rcases hd with hd | hd<;>cases hd
 |ins _ _=>rcases hd with hd | hd<;>cases hd
theorem G5{P:bE}{w:World}{K:aG}{mg:Str->Option Value}{base:Heap}{k:Nat}{f:Addr}{fd:eI}{pn:List Str}:bX P w K mg base eR k f fd pn (bD K λ_ _=>False):=
 ⟨λvs H Q E ⟨_,_,_,_,_,h,_⟩=>h.elim,λA outer s H args us vs Q E _ _ _ _ ⟨_,_,_,_,_,h,_⟩=>h.elim⟩
theorem N6{P:bE}{w:World}{K:aG}{mg:Str->Option Value}{base:Heap}{k:Nat}{f:Addr}{fd:eI}{pn:List Str}:bX P w K mg base eR k f fd pn (fT K λ_ _=>False):=
 ⟨λvs H Q E ⟨_,_,_,_,_,h,_⟩=>h.elim,λA outer s H args us vs Q E _ _ _ _ ⟨_,_,_,_,_,h,_⟩=>h.elim⟩
theorem SU{P:bE}{w:World}{K:aG}{mg:Str->Option Value}{base:Heap}{k:Nat}{f:Addr}{fd:eI}{pn:List Str}{sp sp':mX}(F:bX P w K mg base eR k f fd pn (bD K sp))(h:∀ds Q,sp' ds Q->sp ds Q):bX P w K mg base eR k f fd pn (bD K sp'):=
 F.imp λvs H Q E ⟨ps,ds,QD,h1,h2,h3,h4⟩=>⟨ps,ds,QD,h1,h2,h ds QD h3,h4⟩
end
end TL
namespace TL
open PySem PySem.Spec PyProof.Rows L2
section
theorem A4{K:aG}{H:Hp}:∀ns:List Int,Reps K H (ns.map bS) (ns.map V.int)
|[]=>.nil
|n::ns=>.cons (.int n) (A4 ns)
end
theorem Ok.setUn{K:aG}{B H:Hp}{p0 ps:List Addr}{σT:List Sl}{σ:L2.St}(o:Ok K B p0 H ps σT σ){i:Nat}{v:V}:Ok K B p0 H ps (σT.set i .un) (σ.set i (some v)) where
 base:=o.base
 sub:=o.sub
 live:=o.live
 len:=by simpa using o.len
 val:=λj d' h=>by
  by_cases e:i=j
  ·subst e
   have hi:i<σT.length:=by
    have:=(aD.mp h).1;simpa using this
   rw[bA hi]at h;cases h
  ·rw[aU e]at h |-
   exact o.val j d' h
 own:=λj ts h=>by
  by_cases e:i=j
  ·subst e
   have hi:i<σT.length:=by
    have:=(aD.mp h).1;simpa using this
   rw[bA hi]at h;cases h
  ·rw[aU e]at h |-
   exact o.own j ts h
 dis:=λj k ts us p h1 h2 h3 h4=>by
  have ne:∀{l:Nat}{ts:List D},(σT.set i .un)[l]?=some (.own ts)->i≠l:=λ{l ts} h e=>by
   subst e
   have hi:i<σT.length:=by
    have:=(aD.mp h).1;simpa using this
   rw[bA hi]at h;cases h
  have e1:=ne h1;have e2:=ne h2;rw[aU e1]at h1 h3;rw[aU e2]at h2 h4;exact o.dis j k ts us p h1 h2 h3 h4
 dc:=o.dc.setS λ_ _ z=>nomatch z
end TL
namespace L2
open PySem PySem.Spec PyProof.Rows PySem.SeqAt
theorem BF(l:Addr)(items:Array Value) :
  Meets (Builtin.«enumerate.__new__» ⟨[.type "enumerate",.ref l],[]⟩) (λ_ R s=>s.heap.IsList l items /\
   R (.ok (.ret (.ref (s.heap.push { cls:=.type "list_iterator",data:=.fields #[.ref l,.int 0 0] }).objs.size)))
    { s with heap:=(s.heap.push { cls:=.type "list_iterator",data:=.fields #[.ref l,.int 0 0] }).push { cls:=.type "enumerate",data:=.fields #[.none,.bool false,.ref s.heap.objs.size,rawInt 0,.none,.none] } }):=
 .of_wp λprog w A R s h=>by
  obtain⟨hp,g,d,tk,os⟩:=s;obtain⟨hl,h⟩:=h;have hsub:=sub_enumerate;have hL:Heap.IsList (Shared.heap ⟨hp,g,d,tk,os⟩) l items:=hl
  wp_walk
  refine wpAny_stack_any λst=>aJ ?_;split
  ·rename_i c _ _ _ _ _;cases (c==Value.type "enumerate")
   ·wp_walk using wpAny_pyIter_list hL
    exact⟨_,rfl,h⟩
   ·wp_walk using wpAny_pyIter_list hL
    exact⟨_,rfl,h⟩
  ·wp_walk using wpAny_pyIter_list hL
   exact⟨_,rfl,h⟩
section
variable{P:bE}{w:World}{A:Around}{E:Value->Shared->Prop}{s:Shared}
theorem zD{l:Addr}{items:Array Value}{Q:Value->Shared->Prop}(hl:s.heap.IsList l items)
  (h:∀h',IsEnum h' (s.heap.objs.size+1) s.heap.objs.size 0 .none->h'.IsListIter s.heap.objs.size l 0->h'.objs.size=s.heap.objs.size+2 ->
   (∀b o,s.heap.get? b=some o->h'.get? b=some o)->Q (.ref (s.heap.objs.size+1)) { s with heap:=h' }) :
  wpAny (model P w) A (call (.type "enumerate") [.ref l]) Q E s:=by
 refine callType_new F.called_enumerate (by decide) (F.typeCall_enumerate_1 _) (F.newCall_enumerate_1 _) (λobj=>F.args_object_init_2 obj _) F.entry_enumerate_new
  (BF l items) ⟨hl,?_⟩
 have hz:(s.heap.push { cls:=.type "list_iterator",data:=.fields #[.ref l,.int 0 0] }).objs.size=s.heap.objs.size+1:=eA ..;show _/\_;rw[hz]
 have he:IsEnum ((s.heap.push { cls:=.type "list_iterator",data:=.fields #[.ref l,.int 0 0] }).push
   { cls:=.type "enumerate",data:=.fields #[.none,.bool false,.ref s.heap.objs.size,rawInt 0,.none,.none] }) (s.heap.objs.size+1) s.heap.objs.size 0 .none:=by
  have:=bB (s.heap.push { cls:=.type "list_iterator",data:=.fields #[.ref l,.int 0 0] })
   (o:={ cls:=.type "enumerate",data:=.fields #[.none,.bool false,.ref s.heap.objs.size,rawInt 0,.none,.none] }) rfl
  rw[hz]at this;exact this
 exact⟨⟨_,he,rfl⟩,h _ he ⟨_,aI _ (bB _ rfl),rfl,rfl⟩ (by rw[eA,hz]) λb o x=>aI _ (aI _ x)⟩
end
def Ite(K:aG)(a:Addr):It:=
 ⟨λi H=>∃xs x,oM K H a xs/\xs[i]?=some x,
  λi H v H'=>∃p x,H p=none/\v=.ref p/\H'=gK H p (.tup [.int (i:Int),x])/\∀xs,oM K H a xs->xs[i]?=some x,
  λi H=>∃xs,oM K H a xs/\xs.length<=i⟩
theorem MT{P:bE}{w:World}{K:aG}{elts:List Expr}{x1:Nat}{pos:Pos}{e it l:Addr}(hei:e≠it) :
  BS P w K (.Tuple elts x1 pos) (Ite K l) [e,it] e (λi h=>(∃old,IsEnum h e it (i:Int) old)/\h.IsListIter it l i) where
 mem:=by simp
 obj:=λi h st b hb=>by
  obtain⟨⟨old,he⟩,hit⟩:=st;simp only[aY,cD,or_false]at hb;rcases hb with rfl | rfl
  ·exact⟨_,he,λv q=>by cases q⟩
  ·obtain⟨o,e,c,d⟩:=hit;exact⟨o,e,λv z=>by rw[d]at z;cases z⟩
 keep:=λi h h' st k=>by
  obtain⟨⟨old,he⟩,hit⟩:=st;exact⟨⟨old,k e (by simp) _ he⟩,hit.at λo x=>k it (by simp) o x⟩
 item:=by
  intro X hP hw hK hc i pins s σ H E I hf st hg;subst hP hw hK;obtain⟨⟨old,he⟩,hit⟩:=st;obtain⟨xs,x,hq,hx⟩:=hg;obtain⟨its,rv,p,hz⟩:=I.list hq;obtain⟨u,hu,ru⟩:=rv.get hx;refine wpAny_pyNext_enum_item he hit p.isList (x:=u) (by simpa using hu) hei λh' a1 a2 a3 a4 a5=>⟨_,rfl,?_⟩;refine wpAny_letOwnedTupleGo_enum (s:={ s with heap:=h',toks:=s.toks+1 }) a1 λh2 b1 sb=>?_;have helt:e<s.heap.objs.size:=bC he
  have kk:∀c o,c∉[e,it]->s.heap.get? c=some o->h2.get? c=some o:=λc o hc' x=>by
   simp only[aY,cD,or_false,not_or]at hc';exact sb.extBut _ _ hc'.1 (a5 c o hc'.1 hc'.2 x)
  have hT:=sb.extBut _ _ (eZ helt) a3;have I1:dM X pins σ (gK H s.heap.objs.size (.tup [.int (i:Int),x])) { s with heap:=h2,toks:=s.toks+1 }:=I.turnedNew (t':=s.toks+1) hf kk (aN _) ⟨(by show 2<=bU;decide),[.int i s.toks,u],.cons ⟨_,rfl⟩ (.cons ru .nil),⟨_,hT,rfl,_,rfl,rfl⟩⟩;refine⟨.ref s.heap.objs.size,_,I1,rfl,⟨_,x,I.hok.fresh (aN _),rfl,rfl,λys hy=>by rw[I.list_inj hy hq];exact hx⟩,?_,λc hc'=>?_⟩
  ·exact⟨⟨_,by rw[ZT];exact b1⟩,a2.at λo x=>sb.extBut _ _ (Ne.symm hei) x⟩
  ·have hne:c≠s.heap.objs.size:=by
    simp only[aY,cD,or_false]at hc';rcases hc' with rfl | rfl
    ·exact bP helt
    ·obtain⟨o,z,_⟩:=hit;exact bP (bC z)
   rw[cJ hne];exact(hf c hc').1
 done:=by
  intro X hP hw hK hc i pins s σ H E I hf st hg;subst hP hw hK;obtain⟨⟨old,he⟩,hit⟩:=st;obtain⟨xs,hq,hx⟩:=hg;obtain⟨its,rv,p,hz⟩:=I.list hq;have hl:=rv.length;refine wpAny_pyNext_enum_end (I.ok.hd hc) he hit p.isList (by simp;omega) λh' eb=>⟨rfl,I.turnedL (t':=s.toks) hf λc o hc' x=>?_⟩;simp only[aY,cD,or_false,not_or]at hc';exact eb c o hc'.2 x
 self:=λA i s Q E st h=>by
  obtain⟨⟨old,he⟩,_⟩:=st;exact wpAny_pyIter_enum he h
theorem tO:bootBuiltins "enumerate"=some (.type "enumerate"):=by decide +kernel
def ZA(K:aG)(ta:TA):TI:=λσ H R=>ta σ H λvs H1=>∃l xs,vs=[.ref l]/\oM K H1 l xs/\R (Ite K l) H1
section
variable{X:Cx}
theorem LJ{a:Expr}{ta:TA}{p pos tpos:Pos}{elts:List Expr}{x1:Nat}(hg:Gl X "enumerate")(hm:X.mg "enumerate"=none)(ha:PA X [a] ta)(hs:bV [a] X.env=[(false,eval a X.env)]:=by rfl) :
  PI X (.Tuple elts x1 tpos) (.Call (.Name "enumerate" p) [a] [] pos) (ZA X.K ta):=by
 intro pins s σ H R I h;refine Call_ (tE I hg hm tO (PyProof.Rows.callWith_type1 (kJ (ha pos pins s σ H _ I h) λus s1 ⟨vs,H1,I1,r1,q1⟩=>?_) (by rw[hs];rfl) (by rfl)));obtain⟨l,xs,rfl,hq,q⟩:=q1
 cases r1 with
 |cons r rr=>
  cases rr;cases r;obtain⟨us1,rv1,p1,hz1⟩:=I1.list hq;refine zD p1.isList λh' he hit hsz hk=>wpAny_pyIter_enum (s:={ s1 with heap:=h' }) he ?_;refine⟨_,[s1.heap.objs.size+1,s1.heap.objs.size],_,_,H1,rfl,I1.kept (t':=s1.toks) hk,MT (e:=s1.heap.objs.size+1) (it:=s1.heap.objs.size) (l:=l) (XA _),⟨⟨_,he⟩,hit⟩,λc hc=>?_,q⟩;simp only[aY,cD,or_false]at hc;have le:s1.heap.objs.size<=c:=by rcases hc with rfl | rfl<;>first | exact aN _ | exact BV _ _
  exact I1.fpOk le (I1.hok.fresh le)
end
end L2
namespace TL
open PySem PySem.Spec PyProof.Rows L2 PySem.SeqAt
variable{K:aG}
def tL(as:List D):List D:=qZ (fV as.length) as
theorem kW(as:List D):(tL as).length=as.length:=by unfold tL;rw[sI];unfold fV;simp
theorem oW{as:List D}{i:Nat}{a:D}(h:as[i]?=some a):(tL as)[i]?=some (.tuple [.int (i:Int),a]):=by
 have hi:=(aD.mp h).1;unfold tL qZ fV;rw[aH,(jS (z:=(bS (i:Int),a))).mpr ⟨by rw[aH,iE hi];rfl,h⟩];rfl
def aBf(t:AT):IT:=λσ Q=>t σ λds=>∃as,ds=[.list as]/\Q (tL as)
section
variable{X:Cx}{a b e:Expr}{es:List Expr}{ta te:ET}{pos:Pos}
theorem LX{t:AT}{p p' tpos:Pos}{elts:List Expr}{x1:Nat}(ha:wT X [a] t)(pz:∀{ta:TA},PA X [a] ta->PI X (.Tuple elts x1 tpos) (.Call (.Name "enumerate" p) [a] [] p') (ZA X.K ta)):IE X (.Tuple elts x1 tpos) (.Call (.Name "enumerate" p) [a] [] p') (aBf t):=by
 obtain⟨va,pa,ra⟩:=ha;refine⟨_,pz pa,λB p0 H ps σT σ Q R o h k=>ra B p0 H ps σT σ _ _ o h λds xs H1 s1 r1 q1=>?_⟩;obtain⟨as,rfl,q⟩:=q1
 cases r1 with
 |cons r1 r2=>
  cases r2
  cases r1 with
  |@list p1 us _ hq1 rs1=>
   have n1:=rs1.length;refine⟨p1,us,rfl,L2.bL.seq bZ hq1,k _ _ H1 s1 ⟨λi H e hl=>?_,λi H e hl=>?_,λi H ps' y H' live e hl hy=>?_⟩ q⟩
   ·rw[kW]at hl;exact⟨us,L2.bL.seq e hq1,by omega⟩
   ·rw[kW]at hl;exact⟨us,us[i],L2.bL.seq e hq1,aF (by omega)⟩
   ·obtain⟨p,x,hp,rfl,rfl,h1⟩:=hy;obtain⟨d1,g1,t1⟩:=rs1.get' (h1 us (L2.bL.seq (e.trans bZ) hq1));exact⟨dU hp,.tuple [.int (i:Int),d1],oW g1,rE live hp (.cons (.int _) (.cons (t1.same e) .nil))⟩
def D9(K:aG):V->List V->Hp->VK->Prop:=λx xs H Q=>∃(y:V)(ts:List D)(d:D)(j:Nat),xs=[y]/\jF K H (.list ts) x/\jF K H d y/\RI ts d j/\j<1000000/\Q (.int j) H
theorem JM(hu:X.A.units+200<cLine):MtR X "list.index" (D9 X.K):=by
 intro pins s σ H x xs v us Q I rx rv h;obtain⟨y,ts,d,j,rfl,r1,r2,⟨c1,c2,hm,⟨t,ht,he⟩,hno⟩,hj0,q⟩:=h;obtain⟨u,rfl,ru⟩:=rv.one;obtain⟨as,h1⟩:=jF.reads I (show(aCg ts).hasDict=false from noDictAll c1) r1 rx;obtain⟨bs,h2⟩:=jF.reads I (oF c2) r2 ru
 cases h1 with
 |@list l o items n _ as' h3 h4 h5 h6=>
  have hmap:=readsAll_map ts items.toList _ c1 h6;have hlen:items.size=ts.length:=by rw[<- hmap,aE,fF]
  have hjl:j<ts.length:=(aD.mp ht).1;have hj:j<items.size:=by omega
  have rd:∀(m:Nat)(hm:m<items.size),ts[m]?=some (readOf s.heap items[m]):=λm hm=>by
   rw[<- hmap,aH];simp[hm]
  obtain⟨oc,od,odt,osl⟩:=o;cases h4;cases h5;refine call_meets F.slot_list_index ⟨_,h3,rfl⟩ F.entry_list_index (F.args_list_index_2 _ _) (list_indexAt _ items _ od osl u (λy=>cC (readOf s.heap y) d) j hj (by omega) ?_ ?_) ⟨h3,items_eqAt h6 h2 c1 c2 (by have:=hu;omega),?_⟩
  ·have:=rd j hj;rw[ht]at this;rw[<- Option.some.inj this];exact he
  ·intro m hm' hlt;exact hno m _ hlt (rd m hm')
  ·exact⟨.int j,H,I.tok _,⟨_,rfl⟩,q⟩
theorem NQ{k:Nat}(hr:Room k X.A):MtR X "list.index" (D9 X.K):=JM (by have:=hr.un;omega)
def E1(te:ET)(t:AT):ET:=λσ Q=>te σ λd=>∃ts,d=.list ts/\t σ λds=>∃(x:D)(j:Nat),ds=[x]/\RI ts x j/\j<1000000/\Q (.int j)
theorem OB{n:Expr}{ap:Pos}{t:AT}(hn:jD X n te)(ha:wT X (e::es) t)
  (pc:∀{v:TE}{ta:TA},PE X n v->PA X (e::es) ta->PE X (.Call (.Attribute n "index" ap) (e::es) [] pos) (Z0 X.K "list" (D9 X.K) v ta)):jD X (.Call (.Attribute n "index" ap) (e::es) [] pos) (E1 te t):=by
 obtain⟨v,pe,re⟩:=hn;obtain⟨va,pa,ra⟩:=ha;refine⟨_,pc pe pa,λB p0 H ps σT σ Q QV o h k=>re B p0 H ps σT σ _ _ o h λd x H1 s1 r1 q1=>?_⟩;obtain⟨ts,rfl,q1⟩:=q1
 cases r1 with
 |@list p xs _ hq rs=>
  refine⟨.inl ⟨rfl,_,L2.bL.seq bZ hq⟩,ra B p0 H1 ps σT σ _ _ (o.grow s1) q1 λds ys H2 s2 r2 q2=>?_⟩;obtain⟨d,j,rfl,hok,hj,q⟩:=q2
  cases r2 with
  |cons r3 r4=>
   cases r4;exact⟨_,ts,d,j,rfl,(jF.list hq rs).same ((cA s2).trans bZ),r3.same bZ,hok,hj,k _ _ H2 (s1.trans s2) (.int _) q⟩
def aG1(i:Nat)(te:ET):nI:=λDT σ=>∃a:Int,σ[i]?=some (.val (.int a))/\te σ λd=>∃b:Int,d=.int b/\DT.nx (σ.set i (.val (.int (a+b))))
theorem Z3{i:Nat}{x:Str}{pos':Pos}(h:jD X e te)(ps':∀{v:TE},PE X e v->PS X (.AugAssign (.Name x pos') .Add e pos) (aCz i v (ipI λi j=>i+j))):qU X (.AugAssign (.Name x pos') .Add e pos) (aG1 i te):=by
 obtain⟨v,p,r⟩:=h;refine⟨_,ps' p,λB p0 H ps σT σ DT DV o h f=>?_⟩;obtain⟨a,ha,h⟩:=h;obtain⟨w,e1,rw'⟩:=o.val i _ ha;cases rw';refine⟨_,e1,r B p0 H ps σT σ _ _ o h λd x H' s' r' q'=>?_⟩;obtain⟨b,rfl,q'⟩:=q';cases r';exact⟨_,_,rfl,rfl,f.nx H' ps _ _ ((o.grow s').set (.int _)) (cA s') q'⟩
end
end TL
namespace TL
open PySem PySem.Spec PyProof.Rows L2
section
variable{fr:List (Option Nat)}{ti:IT}{tt:qA}{te:ET}{σ:List Sl}{Q:D->Prop}{ts:List D}
theorem R3(hti:tR ti σ ts)(p:D->Bool)(f:D->D)(hz:ts.length<=100000)(h2:∀x∈ts,∃a b,x=.tuple [a,b])
  (hp:∀(a b:D)(q:Bool->Prop),.tuple [a,b]∈ts->q (p (.tuple [a,b]))->tt (((jT fr σ).set 0 (.val a)).set 1 (.val b)) q)
  (ht:∀(a b:D)(q:D->Prop),.tuple [a,b]∈ts->q (f (.tuple [a,b]))->te (((jT fr σ).set 0 (.val a)).set 1 (.val b)) q) (hq:Q (.list ((ts.filter p).map f))):OD fr ti (gP 0 1) tt te σ Q:=by
 refine hti _ ⟨hz,λk σ' ds=>(∀x y,(σ'.set 0 (.val x)).set 1 (.val y)=((jT fr σ).set 0 (.val x)).set 1 (.val y))/\ds=((ts.take k).filter p).map f,⟨λ_ _=>rfl,rfl⟩,λk x σ' ds hx h=>?_,λσ' ds h=>?_⟩
 ·obtain⟨h1,rfl⟩:=h;have hm:x∈ts:=aR hx;obtain⟨a,b,rfl⟩:=h2 x hm;refine⟨a,b,rfl,?_⟩;show tt ((σ'.set 0 (.val a)).set 1 (.val b)) _;rw[h1 a b];refine hp a b _ hm ?_;have e:ts.take (k+1)=ts.take k++[.tuple [a,b]]:=by rw[cN,hx];rfl
  cases hb:p (.tuple [a,b])with
  |true=>
   rw[if_pos rfl];refine ht a b _ hm ⟨λx y=>xH _ _ _ _ _,?_⟩;rw[e,fQ,bY];simp[hb]
  |false=>
   rw[if_neg (by decide)];refine⟨λx y=>xH _ _ _ _ _,?_⟩;rw[e,fQ,bY];simp[hb]
 ·obtain⟨_,rfl⟩:=h;rw[cX];exact hq
end
end TL
namespace TL
open PySem PySem.Spec PyProof.Rows L2
section
variable{X:Cx}
theorem wA{s:Stmt}:qU X s (λ_ _=>False):=⟨λ_ _ _=>False,λ_ _ _ _ _ _ h=>h.elim,λ_ _ _ _ _ _ _ _ _ h _=>h.elim⟩
end
end TL
namespace L2
open PySem PySem.Spec PyProof.Rows
section
variable{X:Cx}{pins:List (Addr×Obj)}{σ:St}{H:Hp}{s:Shared}{p q:Addr}
theorem PN{u:HO}(h:H p=some u):gK H p u=H:=by
 funext b;by_cases e:b=p
 ·subst e;rw[cO,h]
 ·rw[cJ e]
theorem FX:∀h1 h2:Heap,TL.rC p q h1->(∀o,h1.get? p=some o->h2.get? p=some o)->TL.rC p q h2:=λh1 h2 ⟨a,b,c,ta,tb,tc,n,e,r⟩ k=>⟨a,b,c,ta,tb,tc,n,k _ e,r⟩
def vX(q:Addr)(a b c:Int):HO:=.lst [.ref q,.int a,.int b,.int c]
theorem dM.openTape(I:dM X pins σ H s)(h:H p=some (.ext (TL.rC p q))):∃a b c:Int,0<=a/\(c=0\/c=1)/\dM X pins σ (gK H p (vX q a b c)) s:=by
 obtain⟨⟨a,b,c,ta,tb,tc,n,e,ha,hc⟩,_⟩:=I.hok p _ h;exact⟨a,b,c,ha,hc,I.retold h (λxs z=>by cases z) (λo v z=>by cases z) (λps z=>by cases z) (λa z=>by cases z) ⟨aC rfl,_,n,.cons rfl (.cons ⟨ta,rfl⟩ (.cons ⟨tb,rfl⟩ (.cons ⟨tc,rfl⟩ .nil))),e⟩⟩
theorem dM.closeTape{a b c:Int}(I:dM X pins σ H s)(h:H p=some (vX q a b c))(ha:0<=a)(hc:c=0\/c=1):dM X pins σ (gK H p (.ext (TL.rC p q))) s:=by
 obtain⟨z,its,n,r,e⟩:=I.hok p _ h
 cases r with
 |cons r0 r=>cases r with
  |cons r1 r=>cases r with
   |cons r2 r=>cases r with
    |cons r3 r=>
     cases r;cases r0;obtain⟨ta,rfl⟩:=r1;obtain⟨tb,rfl⟩:=r2;obtain⟨tc,rfl⟩:=r3;exact I.retold h (λxs z=>by cases z) (λo v z=>by cases z) (λps z=>by cases z) (λa z=>by cases z) ⟨⟨a,b,c,ta,tb,tc,n,e,ha,hc⟩,⟨_,e⟩,FX⟩
theorem VX{e:Expr}{te:TE}(i:Nat)(h:PE X e te):PE X e (λσ H Q=>∃p q:Addr,σ[i]?=some (some (.ref p))/\H p=some (.ext (TL.rC p q))/\∀a b c:Int,0<=a->(c=0\/c=1) ->
  te σ (gK H p (vX q a b c)) λv H'=>H'=gK H p (vX q a b c)/\Q v H):=by
 intro pins s σ H Q I ⟨p,q,_,hp,hq⟩;obtain⟨a,b,c,ha,hc,I1⟩:=I.openTape hp;refine kJ (h pins s σ _ _ I1 (hq a b c ha hc)) λu s' ⟨v,H',I',r,e,q'⟩=>?_;subst e;have I2:=I'.closeTape cO ha hc;rw[zL,PN hp]at I2;exact⟨v,H,I2,r,q'⟩
theorem VW{tg:Expr}{g:TG}(i:Nat)(h:PG X tg g):PG X tg (λv σ H Q=>∃p q:Addr,σ[i]?=some (some (.ref p))/\H p=some (.ext (TL.rC p q))/\∀a b c:Int,0<=a->(c=0\/c=1) ->
  g v σ (gK H p (vX q a b c)) λσ' H'=>(∃a b c:Int,0<=a/\(c=0\/c=1)/\H'=gK H p (vX q a b c))/\Q σ' H):=by
 intro pins s σ H v u Q I rv ⟨p,q,_,hp,hq⟩;obtain⟨a,b,c,ha,hc,I1⟩:=I.openTape hp;refine kJ (h pins s σ _ v u _ I1 rv (hq a b c ha hc)) λ_ s' ⟨σ',H',I',⟨a,b,c,ha,hc,e⟩,q'⟩=>?_;subst e;have I2:=I'.closeTape cO ha hc;rw[zL,PN hp]at I2;exact⟨σ',H,I2,q'⟩
theorem NE{e:Expr}{te:TE}(h:PE X e te):PE X e (λσ H Q=>te σ H λv H'=>∃(p q:Addr)(a b c:Int),v=.ref p/\H' p=some (vX q a b c)/\0<=a/\(c=0\/c=1)/\Q (.ref p) (gK H' p (.ext (TL.rC p q)))):=by
 intro pins s σ H Q I hq;refine kJ (h pins s σ H _ I hq) λu s' ⟨v,H',I',r,q⟩=>?_;obtain⟨p,q,a,b,c,rfl,e,ha,hc,q'⟩:=q;exact⟨.ref p,_,I'.closeTape e ha hc,r,q'⟩
end
end L2
namespace TL
open PySem PySem.Spec PyProof.Rows L2
section
variable{X:Cx}{a b c e:Expr}{te:ET}{pos:Pos}
def iD(ns:List Int):D:=.dict [(.none,.list (ns.map bS))]
theorem GE{K:aG}{H:Hp}{ns:List Int}{v:V}(r:jF K H (iD ns) v):∃p q:Addr,v=.ref p/\H p=some (.ext (rC p q))/\oM K H q (ns.map V.int):=by
 unfold iD at r
 generalize hg:(uJ [(.none,.list (ns.map bS))])=d at r
 cases r with
 |@tape p q ms h g=>
  injection hg with hg;injection hg with hg;injection hg with _ hg;injection hg with hg
  have e:ns=ms:=by
   have:=congrArg (MP λd:D=>match d with | .int i=>i | _=>0) hg;simpa[bT,Function.comp_def]using this
  subst e;exact⟨p,q,rfl,h,g⟩
 |_=>cases hg
def aFv(i k:Nat):ET:=λσ Q=>∃ns,σ[i]?=some (.val (iD ns))/\match k with
|0=>Q (.list (ns.map bS))
|1=>∀a:Int,0<=a->Q (.int a)
|2=>∀b:Int,Q (.int b)
|3=>∀c:Int,(c=0\/c=1)->Q (.int c)
|_=>False
theorem wP{n ix:Expr}{i:Nat}(k:Nat)(hp:PE X (.Subscript n ix pos) (tOp (rIx X.K) (vY i) (tC (.int k)))):jD X (.Subscript n ix pos) (aFv i k):=by
 refine⟨_,VX i hp,λB p0 H ps σT σ Q QV o h kk=>?_⟩;obtain⟨ns,e,h⟩:=h;obtain⟨v,hv,r⟩:=o.val i _ e;obtain⟨p,q,rfl,hH,hq⟩:=GE r;refine⟨p,q,hv,bZ _ _ hH,λa b c ha hc=>⟨.ref p,hv,?_⟩⟩
 have fin:∀(x:V)(d:D),atI [V.ref q,.int a,.int b,.int c] (k:Int)=some x->jF X.K (dB H ps) d x->Q d->rIx X.K (.ref p) (.int (k:Int)) (gK H p (vX q a b c)) (λv H'=>H'=gK H p (vX q a b c)/\QV v H):=λx d hx hr hQ=>
  .inl ⟨p,_,_,x,rfl,rfl,oM.of cO,hx,rfl,kk d x H (L2.bL.refl H) hr hQ⟩
 match k,h with
 |0,h=>exact fin _ _ rfl (.list hq (A4 ns)) h
 |1,h=>exact fin _ _ rfl (.int a) (h a ha)
 |2,h=>exact fin _ _ rfl (.int b) (h b)
 |3,h=>exact fin _ _ rfl (.int c) (h c hc)
def wH(i k:Nat)(te:ET):nI:=λDT σ=>te σ λd=>(∃ns,σ[i]?=some (.val (iD ns)))/\(match k with | 1=>∃a:Int,d=.int a/\0<=a | 2=>∃b:Int,d=.int b | _=>False)/\DT.nx σ
theorem vD{i:Nat}{n ix e:Expr}{p2:Pos}(k:Nat)(he:jD X e te)(hg:PG X (.Subscript n ix p2) (aBh (vY i) (tC (.int k)) QU))
  (pa:∀{v:TE}{g:TG},PE X e v->PG X (.Subscript n ix p2) g->PS X (.Assign [.Subscript n ix p2] e pos) (vZ v g)):qU X (.Assign [.Subscript n ix p2] e pos) (wH i k te):=by
 obtain⟨v,pe,re⟩:=he;refine⟨_,pa pe (VW i hg),λB p0 H ps σT σ DT DV o h f=>?_⟩;refine re B p0 H ps σT σ _ _ o h λd x H1 s1 r1 q1=>?_;have o1:=o.grow s1;obtain⟨⟨ns,e⟩,hd,q1⟩:=q1;obtain⟨v,hv,r⟩:=o1.val i _ e;obtain⟨p,q,rfl,hH,hq⟩:=GE r;refine⟨p,q,hv,bZ _ _ hH,λa b c ha hc=>⟨.ref p,hv,?_⟩⟩;have nx:=f.nx _ ps _ σ o1 (cA s1) q1
 match k,hd with
 |1,⟨a',hd,ha'⟩=>
  subst hd;cases r1;exact⟨p,_,_,1,rfl,rfl,cO,rfl,⟨a',b,c,ha',hc,zL⟩,nx⟩
 |2,⟨b',hd⟩=>
  subst hd;cases r1;exact⟨p,_,_,2,rfl,rfl,cO,rfl,⟨a,b',c,ha,hc,zL⟩,nx⟩
def WW(t:FT):ET:=λσ Q=>t σ λts=>∃(ns:List Int)(c:Int),ts=[.list (ns.map bS),.int 0,.int 0,.int c]/\(c=0\/c=1)/\Q (iD ns)
theorem N9{t:FT}(h:O3 X e t):jD X e (WW t):=by
 obtain⟨v,p,r⟩:=h;refine⟨_,NE p,λB p0 H ps σT σ Q QV o h k=>r B p0 H ps σT σ _ _ o h λts p xs H' s hp hx rs q=>?_⟩;obtain⟨ns,c,rfl,hc,q⟩:=q
 cases rs with
 |cons r0 rs=>cases rs with
  |cons r1 rs=>cases rs with
   |cons r2 rs=>cases rs with
    |cons r3 rs=>
     cases rs;cases r1;cases r2;cases r3
     cases r0 with
     |@list l xs _ hq hr=>
      have e:=CO hr;subst e;refine⟨p,l,0,0,c,rfl,hx,Int.le_refl 0,hc,k (iD ns) _ _ (λb u eb=>?_) (.tape (iN (eS o.live hp) cO) (L2.bL.seq (λb u eb=>?_) hq)) q⟩
      ·rw[cJ λz=>by rw[z,hp]at eb;cases eb];exact s b u eb
      ·unfold dB at eb |-
       by_cases hb:b∈p::ps
       ·rw[if_pos hb]at eb;cases eb
       ·rw[if_neg hb]at eb;rw[if_neg λz=>hb (aO _ z),cJ λz=>hb (by rw[z];exact aS ..)];exact eb
end
section
variable{X:Cx}{e:Expr}{es:List Expr}{te:ET}{pos:Pos}
theorem WO{P:bE}{w:World}{K:aG}{mg:Str->Option Value}{base:Heap}{k:Nat}{f:Addr}{fd:eI}{pn:List Str}{sp sp':KF}(F:bX P w K mg base eR k f fd pn (fT K sp))(h:∀ds Q,sp' ds Q->sp ds Q):bX P w K mg base eR k f fd pn (fT K sp'):=
 F.imp λvs H Q E ⟨ps,ds,QD,h1,h2,h3,h4⟩=>⟨ps,ds,QD,h1,h2,h ds QD h3,h4⟩
def E4:List Expr->Option (List Str)
|[]=>some []
|.Constant (.str z) _ _::es=>(E4 es).map (z::·)
|_=>none
theorem DL:∀{es:List Expr}{zs:List Str},E4 es=some zs->wT X es (λ_ Q=>Q (zs.map aV))
|[],zs,h=>by
 cases h;exact aK
|.Constant (.str z) k p::es,zs,h=>by
 have h':(E4 es).map (z::·)=some zs:=h;obtain⟨ys,hy,rfl⟩:=bK.mp h';exact aA eU (DL hy)
theorem U2{i:Nat}{x:Str}{pos':Pos}(hN:X.N.Nodup)(hi:X.N[i]?=some x)(hx:MH X.env.scope x)(he:jD X e te)(hs:lA e (some (.Name x pos')) pos.line X.env=pure false:=by rfl)(hf:X.fn x=true\/X.env.scope.names.lookup x=some .local:=by first | exact .inl rfl | exact .inr rfl | assumption) :
  qU X (.Assign [.Name x pos'] e pos) (D7 i te):=P5 he λh=>vG hN hi hx h hs hf
end
end TL
namespace L2
open PySem PySem.Spec PyProof.Rows PyProof
theorem OE{prog:bE}{w:World}{A:Around}(hh:A.handled=none)(it l:Addr)(hne:l≠it)(items:Array Value) :
  Draws prog w A it [it,l] items.size (λi v=>items[i]?=some v) (λi h=>h.IsTupleIter it l i/\h.IsTuple l items) where
 live:=λ_ _ st=>let ⟨o,ho,_⟩:=st.1;⟨o,ho⟩
 frame:=λ_ _ _ st hk=>⟨st.1.at λo e=>hk it (by simp) o e,st.2.at λo e=>hk l (by simp) o e⟩
 item:=λi s Q E hi st hQ=>by
  refine AW st.1 st.2 (x:=items[i]) (by simp[hi]) λh' hit' hs'=>?_;exact hQ _ h' s.toks (by simp[hi]) ⟨hit',st.2.at λo e=>hs'.extBut _ _ hne e⟩ hs'
 done:=λs Q E st hE=>oZ hh st.1 st.2 (by simp) hE
theorem KA{prog:bE}{w:World}{A:Around}(hh:A.handled=none)(it l:Addr){items:Array Value}{n:Nat}(hn:items.size<=n) :
  Draws prog w A it [it,l] n (λ_ _=>True) (λi h=>h.IsTupleIter it l i/\h.IsTuple l items/\i=n) where
 live:=λ_ _ st=>let ⟨o,ho,_⟩:=st.1;⟨o,ho⟩
 frame:=λ_ _ _ st hk=>⟨st.1.at λo e=>hk it (by simp) o e,st.2.1.at λo e=>hk l (by simp) o e,st.2.2⟩
 item:=λi s Q E hi st hQ=>absurd st.2.2 (by omega)
 done:=λs Q E st hE=>oZ hh st.1 st.2.1 (iB hn) hE
theorem BE(l:Addr)(items:Array Value) :
  Meets (Builtin.«enumerate.__new__» ⟨[.type "enumerate",.ref l],[]⟩) (λ_ R s=>s.heap.IsTuple l items /\
   R (.ok (.ret (.ref (s.heap.push { cls:=.type "tuple_iterator",data:=.fields #[.ref l,.int 0 0] }).objs.size)))
    { s with heap:=(s.heap.push { cls:=.type "tuple_iterator",data:=.fields #[.ref l,.int 0 0] }).push { cls:=.type "enumerate",data:=.fields #[.none,.bool false,.ref s.heap.objs.size,rawInt 0,.none,.none] } }):=
 .of_wp λprog w A R s h=>by
  obtain⟨hp,g,d,tk,os⟩:=s;obtain⟨hl,h⟩:=h;have hsub:=sub_enumerate;have hL:yV (Shared.heap ⟨hp,g,d,tk,os⟩) l items:=hl
  wp_walk
  refine wpAny_stack_any λst=>aJ ?_;split
  ·rename_i c _ _ _ _ _;cases (c==Value.type "enumerate")
   ·wp_walk using wpAny_pyIter_tuple hL
    exact⟨_,rfl,h⟩
   ·wp_walk using wpAny_pyIter_tuple hL
    exact⟨_,rfl,h⟩
  ·wp_walk using wpAny_pyIter_tuple hL
   exact⟨_,rfl,h⟩
section
variable{P:bE}{w:World}{A:Around}{E:Value->Shared->Prop}{s:Shared}
theorem zC{l:Addr}{items:Array Value}{Q:Value->Shared->Prop}(hl:s.heap.IsTuple l items)
  (h:∀h',IsEnum h' (s.heap.objs.size+1) s.heap.objs.size 0 .none->h'.IsTupleIter s.heap.objs.size l 0->h'.objs.size=s.heap.objs.size+2 ->
   (∀b o,s.heap.get? b=some o->h'.get? b=some o)->Q (.ref (s.heap.objs.size+1)) { s with heap:=h' }) :
  wpAny (model P w) A (call (.type "enumerate") [.ref l]) Q E s:=by
 refine callType_new F.called_enumerate (by decide) (F.typeCall_enumerate_1 _) (F.newCall_enumerate_1 _) (λobj=>F.args_object_init_2 obj _) F.entry_enumerate_new
  (BE l items) ⟨hl,?_⟩
 have hz:(s.heap.push { cls:=.type "tuple_iterator",data:=.fields #[.ref l,.int 0 0] }).objs.size=s.heap.objs.size+1:=eA ..;show _/\_;rw[hz]
 have he:IsEnum ((s.heap.push { cls:=.type "tuple_iterator",data:=.fields #[.ref l,.int 0 0] }).push
   { cls:=.type "enumerate",data:=.fields #[.none,.bool false,.ref s.heap.objs.size,rawInt 0,.none,.none] }) (s.heap.objs.size+1) s.heap.objs.size 0 .none:=by
  have:=bB (s.heap.push { cls:=.type "tuple_iterator",data:=.fields #[.ref l,.int 0 0] })
   (o:={ cls:=.type "enumerate",data:=.fields #[.none,.bool false,.ref s.heap.objs.size,rawInt 0,.none,.none] }) rfl
  rw[hz]at this;exact this
 exact⟨⟨_,he,rfl⟩,h _ he ⟨_,aI _ (bB _ rfl),rfl,rfl⟩ (by rw[eA,hz]) λb o x=>aI _ (aI _ x)⟩
end
def aF3(K:aG)(a:Addr):It:=
 ⟨λi H=>∃xs x,qE K H a xs/\xs[i]?=some x,
  λi H v H'=>∃p x,H p=none/\v=.ref p/\H'=gK H p (.tup [.int (i:Int),x])/\∀xs,qE K H a xs->xs[i]?=some x,
  λi H=>∃xs,qE K H a xs/\xs.length<=i⟩
theorem IR{P:bE}{w:World}{K:aG}{elts:List Expr}{x1:Nat}{pos:Pos}{e it l:Addr}(hei:e≠it) :
  BS P w K (.Tuple elts x1 pos) (aF3 K l) [e,it] e (λi h=>(∃old,IsEnum h e it (i:Int) old)/\h.IsTupleIter it l i) where
 mem:=by simp
 obj:=λi h st b hb=>by
  obtain⟨⟨old,he⟩,hit⟩:=st;simp only[aY,cD,or_false]at hb;rcases hb with rfl | rfl
  ·exact⟨_,he,λv q=>by cases q⟩
  ·obtain⟨o,e,c,d⟩:=hit;exact⟨o,e,λv z=>by rw[d]at z;cases z⟩
 keep:=λi h h' st k=>by
  obtain⟨⟨old,he⟩,hit⟩:=st;exact⟨⟨old,k e (by simp) _ he⟩,hit.at λo x=>k it (by simp) o x⟩
 item:=by
  intro X hP hw hK hc i pins s σ H E I hf st hg;subst hP hw hK;obtain⟨⟨old,he⟩,hit⟩:=st;obtain⟨xs,x,hq,hx⟩:=hg;obtain⟨its,rv,p,hz⟩:=I.tuple hq;obtain⟨u,hu,ru⟩:=rv.get hx
  have hll:l≠it:=λz=>by
   subst z;obtain⟨o1,e1,c1,_⟩:=hit;obtain⟨o2,e2,c2,_⟩:=(show s.heap.IsTuple l its.toArray from p);rw[e1]at e2;cases e2;rw[c1]at c2;simp at c2
  have hle:e≠l:=λz=>by
   subst z;obtain⟨o2,e2,c2,_⟩:=(show s.heap.IsTuple e its.toArray from p);have he':=he;unfold IsEnum at he';rw[he']at e2;cases e2;simp at c2
  have hsz:=(aD.mp hu).1;refine wpAny_pyNext_enum_itemD (OE (A:=X.A.in1) (I.ok.hd hc) it l hll its.toArray) he ⟨hit,p⟩ (by rw[bH];exact hsz) hei (by simp only[aY,cD,or_false,not_or];exact⟨hei,hle⟩) λu' h' tk hu' a1 a2s a3 a4 a5=>⟨_,rfl,?_⟩
  obtain rfl:u'=u:=by
   have hu2:its[i]?=some u':=by simpa using hu'
   rw[hu]at hu2;exact(Option.some.inj hu2).symm
  have a2:=a2s.1;refine wpAny_letOwnedTupleGo_enum (s:={ s with heap:=h',toks:=tk+1 }) a1 λh2 b1 sb=>?_;have helt:e<s.heap.objs.size:=bC he
  have kk:∀c o,c∉[e,it]->s.heap.get? c=some o->h2.get? c=some o:=λc o hc' x=>by
   simp only[aY,cD,or_false,not_or]at hc';exact sb.extBut _ _ hc'.1 (a5 c o hc'.1 hc'.2 x)
  have hT:=sb.extBut _ _ (eZ helt) a3;have I1:dM X pins σ (gK H s.heap.objs.size (.tup [.int (i:Int),x])) { s with heap:=h2,toks:=tk+1 }:=I.turnedNew (t':=tk+1) hf kk (aN _) ⟨(by show 2<=bU;decide),[.int i tk,u'],.cons ⟨_,rfl⟩ (.cons ru .nil),⟨_,hT,rfl,_,rfl,rfl⟩⟩;refine⟨.ref s.heap.objs.size,_,I1,rfl,⟨_,x,I.hok.fresh (aN _),rfl,rfl,λys hy=>by rw[I.tuple_inj hy hq];exact hx⟩,?_,λc hc'=>?_⟩
  ·exact⟨⟨_,by rw[ZT];exact b1⟩,a2.at λo x=>sb.extBut _ _ (Ne.symm hei) x⟩
  ·have hne:c≠s.heap.objs.size:=by
    simp only[aY,cD,or_false]at hc';rcases hc' with rfl | rfl
    ·exact bP helt
    ·obtain⟨o,z,_⟩:=hit;exact bP (bC z)
   rw[cJ hne];exact(hf c hc').1
 done:=by
  intro X hP hw hK hc i pins s σ H E I hf st hg;subst hP hw hK;obtain⟨⟨old,he⟩,hit⟩:=st;obtain⟨xs,hq,hx⟩:=hg;obtain⟨its,rv,p,hz⟩:=I.tuple hq;have hl:=rv.length;refine wpAny_pyNext_enum_endD (KA (A:=X.A.in1) (I.ok.hd hc) it l (items:=its.toArray) (n:=i) (by rw[bH];omega)) he ⟨hit,p,rfl⟩ λh' eb=>⟨rfl,I.turnedL (t':=s.toks) hf λc o hc' x=>?_⟩;simp only[aY,cD,or_false,not_or]at hc';exact eb c o hc'.2 x
 self:=λA i s Q E st h=>by
  obtain⟨⟨old,he⟩,_⟩:=st;exact wpAny_pyIter_enum he h
def LZ(K:aG)(ta:TA):TI:=λσ H R=>ta σ H λvs H1=>∃l xs,vs=[.ref l]/\qE K H1 l xs/\R (aF3 K l) H1
section
variable{X:Cx}
theorem Q7{a:Expr}{ta:TA}{p pos tpos:Pos}{elts:List Expr}{x1:Nat}(hg:Gl X "enumerate")(hm:X.mg "enumerate"=none)(ha:PA X [a] ta)(hs:bV [a] X.env=[(false,eval a X.env)]:=by rfl) :
  PI X (.Tuple elts x1 tpos) (.Call (.Name "enumerate" p) [a] [] pos) (LZ X.K ta):=by
 intro pins s σ H R I h;refine Call_ (tE I hg hm tO (PyProof.Rows.callWith_type1 (kJ (ha pos pins s σ H _ I h) λus s1 ⟨vs,H1,I1,r1,q1⟩=>?_) (by rw[hs];rfl) (by rfl)));obtain⟨l,xs,rfl,hq,q⟩:=q1
 cases r1 with
 |cons r rr=>
  cases rr;cases r;obtain⟨us1,rv1,p1,hz1⟩:=I1.tuple hq;refine zC p1 λh' he hit hsz hk=>wpAny_pyIter_enum (s:={ s1 with heap:=h' }) he ?_;refine⟨_,[s1.heap.objs.size+1,s1.heap.objs.size],_,_,H1,rfl,I1.kept (t':=s1.toks) hk,IR (e:=s1.heap.objs.size+1) (it:=s1.heap.objs.size) (l:=l) (XA _),⟨⟨_,he⟩,hit⟩,λc hc=>?_,q⟩;simp only[aY,cD,or_false]at hc;have le:s1.heap.objs.size<=c:=by rcases hc with rfl | rfl<;>first | exact aN _ | exact BV _ _
  exact I1.fpOk le (I1.hok.fresh le)
end
end L2
namespace TL
open PySem PySem.Spec PyProof.Rows L2
def WJ(t:AT):IT:=λσ Q=>t σ λds=>∃as,ds=[.tuple as]/\Q (tL as)
section
variable{X:Cx}{a e:Expr}{ta:ET}
theorem SH{t:AT}{p p' tpos:Pos}{elts:List Expr}{x1:Nat}(ha:wT X [a] t)(pz:∀{ta:TA},PA X [a] ta->PI X (.Tuple elts x1 tpos) (.Call (.Name "enumerate" p) [a] [] p') (LZ X.K ta)):IE X (.Tuple elts x1 tpos) (.Call (.Name "enumerate" p) [a] [] p') (WJ t):=by
 obtain⟨va,pa,ra⟩:=ha;refine⟨_,pz pa,λB p0 H ps σT σ Q R o h k=>ra B p0 H ps σT σ _ _ o h λds xs H1 s1 r1 q1=>?_⟩;obtain⟨as,rfl,q⟩:=q1
 cases r1 with
 |cons r1 r2=>
  cases r2
  cases r1 with
  |@tuple p1 us _ hq1 rs1=>
   have n1:=rs1.length;refine⟨p1,us,rfl,bL.seqT bZ hq1,k _ _ H1 s1 ⟨λi H e hl=>?_,λi H e hl=>?_,λi H ps' y H' live e hl hy=>?_⟩ q⟩
   ·rw[kW]at hl;exact⟨us,bL.seqT e hq1,by omega⟩
   ·rw[kW]at hl;exact⟨us,us[i],bL.seqT e hq1,aF (by omega)⟩
   ·obtain⟨p,x,hp,rfl,rfl,h1⟩:=hy;obtain⟨d1,g1,t1⟩:=rs1.get' (h1 us (bL.seqT (e.trans bZ) hq1));exact⟨dU hp,.tuple [.int (i:Int),d1],oW g1,rE live hp (.cons (.int _) (.cons (t1.same e) .nil))⟩
end
end TL
namespace L2
open PySem PySem.Spec PyProof.Rows
noncomputable instance decD:DecidableEq PyData:=λ_ _=>Classical.propDecidable _
mutual
def hk:PyData->Bool
|.none=>true
|.int _=>true
|.str x=>(aV x).canLay0
|.tuple xs=>hkAll xs
|.bool _=>false
|.list _=>false
|.dict _=>false
def hkAll:List PyData->Bool
|[]=>true
|x::xs=>hk x&&hkAll xs
end
mutual
def mV(w:World):PyData->Int
|.none=>0xFCA86420
|.int i=>hashInt i
|.str x=>hashStr w x
|.tuple xs=>reduceHash (Builtin.Tuple.tupleHashOf (hashDs w xs))
|.bool _=>0
|.list _=>0
|.dict _=>0
def hashDs(w:World):List PyData->List Int
|[]=>[]
|x::xs=>mV w x::hashDs w xs
end
mutual
def pY:PyData->Nat
|.tuple xs=>hdrawsAll xs+1
|.none=>1
|.int _=>1
|.str _=>1
|.bool _=>1
|.list _=>1
|.dict _=>1
def hdrawsAll:List PyData->Nat
|[]=>0
|x::xs=>pY x+hdrawsAll xs
end
section
variable{prog:bE}{w:World}{A:Around}{E:Value->Shared->Prop}{s:Shared}
theorem IZ{Q:Int->Shared->Prop}(h:Q 0xFCA86420 { s with toks:=s.toks+1 }):wpAny (model prog w) A (pyHash .none) Q E s:=by
 have hT:s.TypeIs .none "NoneType":=rfl;unfold pyHash pyHashByItsType;refine aB (wpAny_cRoomFor_byValue rfl ?_);refine aB (wpAny_specialOf hT lK.lookup ?_);show wpAny _ _ (if(some (Value.builtin "NoneType.__hash__")==some Value.none)=true then _ else _) Q E s;rw[if_neg (by rw[beq_builtin_none];exact bW)];refine aB (wpAny_specialOf hT lK.lookup ?_);show wpAny _ _ (callSpecialIfBoundUnlessNone? .none "__hash__" _ >>= _) Q E s;refine aB (wpAny_callSpecialIfBoundUnlessNone?_slot hT lK (eP lK hT PySem.F.entry_NoneType_hash (show wpAny _ _ (do ret (<- mkInt 0xFCA86420)) _ _ s from wpAny_ret_mkInt ?_) (PySem.F.args_NoneType_hash_1 _)));show wpAny _ _ (if(decide (-(2:Int)^63<=0xFCA86420)&&decide ((0xFCA86420:Int)<2^63))=true then _ else _) Q E _;rw[if_pos (by decide)];exact aJ h
def yE(prog:bE)(w:World)(A:Around)(s:Shared)(d:PyData)(v:Value):Prop:=∀(tk:Nat)(E:Value->Shared->Prop)(Q:Int->Shared->Prop),Q (mV w d) { s with toks:=tk+pY d }->wpAny (model prog w) A (pyHash v) Q E { s with toks:=tk }
theorem SO{xs:List PyData}{a:Addr}{o:Obj}{items:Array Value}{n:Nat}(hu:A.units<cLine)(ho:s.heap.get? a=some o)(hc:o.cls=.type "tuple")(hd:o.data=.seq items n)(hi:Paired (yE prog w A.in1 s) xs items.toList):yE prog w A s (.tuple xs) (.ref a):=by
 intro tk E Q h;have hT:Shared.TypeIs { s with toks:=tk } (.ref a) "tuple":=⟨o,ho,hc⟩;unfold pyHash
 first | unfold pyHashByItsType | skip
 refine aB (wpAny_cRoomFor_or (.inr hu) ?_);refine aB (wpAny_specialOf hT mM.lookup ?_);show wpAny _ _ (if(some (Value.builtin "tuple.__hash__")==some Value.none)=true then _ else _) Q E _;rw[if_neg (by rw[beq_builtin_none];exact bW)];refine aB (wpAny_specialOf hT mM.lookup ?_);show wpAny _ _ (callSpecialIfBoundUnlessNone? (.ref a) "__hash__" _ >>= _) Q E _;refine aB (wpAny_callSpecialIfBoundUnlessNone?_slot hT mM (eP mM hT PySem.F.entry_tuple_hash ?_ (PySem.F.args_tuple_hash_1 _)));show wpAny _ _ (Builtin.Tuple.tupleItemsOf (.ref a) >>= _) _ _ _;refine aB (wpAny_tupleItemsOf ho hd ?_);refine aB ?_;rw[<- O0];refine wpAny_forIn_list _ (λrest (b:Array Int) s'=>∃done left:List PyData,xs=done++left/\Paired (yE prog w A.in1 s) left rest/\b.toList=hashDs w done/\s'={ s with toks:=tk+hdrawsAll done }) _ ?_ ?_ _ _ ⟨[],xs,rfl,hi,rfl,rfl⟩
 ·rintro x rest b s' ⟨done,left,rfl,hl,hb,rfl⟩
  cases hl with
  |@cons d _ left' _ h1 hl'=>
   have e1:∀ys:List PyData,hashDs w (ys++[d])=hashDs w ys++[mV w d]:=λys=>by
    induction ys with
    |nil=>rfl
    |cons y ys ih=>show mV w y::hashDs w (ys++[d])=_;rw[ih];rfl
   have e2:∀ys:List PyData,hdrawsAll (ys++[d])=hdrawsAll ys+pY d:=λys=>by
    induction ys with
    |nil=>show pY d+0=0+pY d;omega
    |cons y ys ih=>show pY y+hdrawsAll (ys++[d])=pY y+hdrawsAll ys+pY d;rw[ih];omega
   have fin:∃done' left'':List PyData,done++d::left'=done'++left''/\Paired (yE prog w A.in1 s) left'' rest/\(b.push (mV w d)).toList=hashDs w done'/\({ s with toks:=tk+hdrawsAll done+pY d }:Shared)={ s with toks:=tk+hdrawsAll done' }:=
    ⟨done++[d],left',by simp,hl',by rw[e1,O9,hb],by rw[e2,HX]⟩
   refine aB (h1 _ _ _ ?_)
   first
    |exact aJ fin
    |exact aB (aJ (aJ fin))
 ·rintro b s' ⟨done,left,rfl,hl,hb,rfl⟩;cases hl;rw[dG]at h;show wpAny _ _ (retInt (Builtin.Tuple.tupleHashOf b.toList)) _ _ _;rw[hb];refine wpAny_ret_mkInt ?_;have h':Q (reduceHash (Builtin.Tuple.tupleHashOf (hashDs w done))) { s with toks:=tk+(hdrawsAll done+1) }:=h;show wpAny _ _ (if(decide (-(2:Int)^63<=Builtin.Tuple.tupleHashOf (hashDs w done))&&decide (Builtin.Tuple.tupleHashOf (hashDs w done)<2^63))=true then _ else _) Q E _;unfold reduceHash at h';by_cases hr:(decide (-(2:Int)^63<=Builtin.Tuple.tupleHashOf (hashDs w done))&&decide (Builtin.Tuple.tupleHashOf (hashDs w done)<2^63))=true
  ·rw[if_pos hr];rw[if_pos hr]at h';exact aJ (by simpa[HX]using h')
  ·rw[if_neg hr];rw[if_neg hr]at h';exact aB (wpAny_rule (aJ (by simpa[HX]using h')))
mutual
theorem A7(prog:bE)(w:World)(s:Shared):∀(d:PyData)(A:Around)(v:Value)(as:List Addr),Reads s.heap v d as->hk d=true->A.units+d.depth<cLine->yE prog w A s d v
|.none,A,_,_,r,_,_=>by cases r;exactλtk E Q h=>IZ h
|.int i,A,_,_,r,_,_=>by cases r;exactλtk E Q h=>wpAny_pyHash_int h
|.str x,A,_,_,r,_,_=>by cases r;exactλtk E Q h=>wpAny_pyHash_str h
|.tuple xs,A,_,_,r,h,hu=>by
 cases r with
 |tuple h1 h2 h3 h4=>
  have hu':A.units+(eK xs+1)<cLine:=hu;exact SO (by omega) h1 h2 h3 (hash_readsAll prog w s xs A.in1 _ _ h4 h (by show A.units+1+_<_;omega))
|.bool _,_,_,_,_,h,_=>by cases h
|.list _,_,_,_,_,h,_=>by cases h
|.dict _,_,_,_,_,h,_=>by cases h
theorem hash_readsAll(prog:bE)(w:World)(s:Shared):∀(xs:List PyData)(A:Around)(vs:List Value)(as:List Addr),ReadsAll s.heap vs xs as->hkAll xs=true->A.units+eK xs<cLine->Paired (yE prog w A s) xs vs
|[],A,_,_,r,_,_=>by cases r;exact .nil
|x::xs,A,_,_,r,h,hu=>by
 cases r with
 |cons r1 r2=>
  have h':(hk x&&hkAll xs)=true:=h;rw[dA]at h';have hu':A.units+max x.depth (eK xs)<cLine:=hu;exact .cons (A7 prog w s x A _ _ r1 h'.1 (by omega)) (hash_readsAll prog w s xs A _ _ r2 h'.2 (by omega))
end
mutual
theorem xT:∀{d:PyData},hk d=true->d.canLay0=true
|.none,_=>rfl
|.int _,_=>rfl
|.str _,h=>h
|.tuple _,h=>hk_layAll h
|.bool _,h=>by cases h
|.list _,h=>by cases h
|.dict _,h=>by cases h
theorem hk_layAll:∀{xs:List PyData},hkAll xs=true->fL xs=true
|[],_=>rfl
|x::xs,h=>by
 have h':(hk x&&hkAll xs)=true:=h;rw[dA]at h';show(x.canLay0&&fL xs)=true;rw[xT h'.1,hk_layAll h'.2];rfl
end
mutual
theorem SK:∀{d e:PyData},hk d=true->hk e=true->cC d e=true->d=e
|.none,.none,_,_,_=>rfl
|.none,.int _,_,_,h=>by cases h
|.none,.str _,_,_,h=>by cases h
|.none,.tuple _,_,_,h=>by cases h
|.int _,.none,_,_,h=>by cases h
|.int i,.int j,_,_,h=>by
 have h':decide (i=j)=true:=by simpa[cC]using h
 rw[of_decide_eq_true h']
|.int _,.str _,_,_,h=>by cases h
|.int _,.tuple _,_,_,h=>by cases h
|.str _,.none,_,_,h=>by cases h
|.str _,.int _,_,_,h=>by cases h
|.str x,.str y,_,_,h=>by
 have h':decide (x=y)=true:=by simpa[cC]using h
 rw[of_decide_eq_true h']
|.str _,.tuple _,_,_,h=>by cases h
|.tuple _,.none,_,_,h=>by cases h
|.tuple _,.int _,_,_,h=>by cases h
|.tuple _,.str _,_,_,h=>by cases h
|.tuple xs,.tuple ys,h1,h2,h=>by
 have h':lB xs ys=true:=by simpa[cC]using h
 rw[hk_eqvAll h1 h2 h']
|.bool _,_,h,_,_=>by cases h
|.list _,_,h,_,_=>by cases h
|.dict _,_,h,_,_=>by cases h
|_,.bool _,_,h,_=>by cases h
|_,.list _,_,h,_=>by cases h
|_,.dict _,_,h,_=>by cases h
theorem hk_eqvAll:∀{xs ys:List PyData},hkAll xs=true->hkAll ys=true->lB xs ys=true->xs=ys
|[],[],_,_,_=>rfl
|[],_::_,_,_,h=>by cases h
|_::_,[],_,_,h=>by cases h
|x::xs,y::ys,h1,h2,h=>by
 have a1:(hk x&&hkAll xs)=true:=h1;have a2:(hk y&&hkAll ys)=true:=h2;rw[dA]at a1 a2;have h':(cC x y&&lB xs ys)=true:=by simpa[lB]using h
 rw[dA]at h';rw[SK a1.1 a2.1 h'.1,hk_eqvAll a1.2 a2.2 h'.2]
end
theorem N2{d e:PyData}(h1:hk d=true)(h2:hk e=true):cC d e=decide (d=e):=by
 by_cases h:d=e
 ·subst h;rw[SeqAt.eqv_refl d (xT h1),decide_eq_true rfl]
 ·rw[decide_eq_false h]
  cases q:cC d e with
  |false=>rfl
  |true=>exact absurd (SK h1 h2 q) h
mutual
theorem yJ(prog:bE)(w:World)(s:Shared):∀(d:PyData)(A:Around)(E:Value->Shared->Prop)(v:Value)(as:List Addr)(n:Nat)(Q:Bool->Shared->Prop),Reads s.heap v d as->hk d=true->d.depth<=n->Q true s->wpAny (model prog w) A (eqIsQuiet n v) Q E s
|.none,A,E,_,_,n,Q,r,_,_,q=>by cases r;rw[eqIsQuiet_byValue n rfl];exact aJ q
|.int i,A,E,_,_,n,Q,r,_,_,q=>by cases r;rw[eqIsQuiet_byValue n rfl];exact aJ q
|.str x,A,E,_,_,n,Q,r,_,_,q=>by cases r;rw[eqIsQuiet_byValue n rfl];exact aJ q
|.tuple xs,A,E,_,_,0,Q,r,_,hn,q=>by
 have:eK xs+1<=0:=hn;omega
|.tuple xs,A,E,_,_,n+1,Q,r,h,hn,q=>by
 cases r with
 |@tuple a o vs m _ _ h1 h2 h3 h4=>
  have hT:s.TypeIs (.ref a) "tuple":=⟨o,h1,h2⟩;have hn':eK xs+1<=n+1:=hn;unfold eqIsQuiet;refine aB (wpAny_specialOf hT PySem.F.slot_tuple_eq.lookup ?_);show wpAny _ _ (isInstance (.ref a) (.type "tuple") >>= _) _ _ s;refine aB (wpAny_isInstance hT isSubtype_tuple_tuple ?_);simp only[aCk,gG,if_false];refine aB (wpAny_seqItems h1 h3 ?_);refine aB ?_;show wpAny _ _ (forIn vs _ _) _ _ s;rw[<- O0];refine wpAny_forIn_list _ (λrest r s'=>r.1=none/\s'=s/\∀v∈rest,∀(Q:Bool->Shared->Prop),Q true s->wpAny (model prog w) A (eqIsQuiet n v) Q E s) _ ?_ ?_ _ _ ⟨rfl,rfl,λv hv Q hQ=>quiet_readsAll prog w s xs A E _ _ n Q h4 h (by omega) v hv hQ⟩
  ·rintro v rest r s' ⟨hr,rfl,hall⟩;refine aB (hall v aS _ ?_);simp only[aCk,gG,if_false];exact aJ ⟨rfl,rfl,λu hu'=>hall u (aO _ hu')⟩
  ·rintro⟨r1,r2⟩ s' ⟨hr,rfl,_⟩;simp only at hr;subst hr;exact aJ q
|.bool _,_,_,_,_,_,_,_,h,_,_=>by cases h
|.list _,_,_,_,_,_,_,_,h,_,_=>by cases h
|.dict _,_,_,_,_,_,_,_,h,_,_=>by cases h
theorem quiet_readsAll(prog:bE)(w:World)(s:Shared):∀(xs:List PyData)(A:Around)(E:Value->Shared->Prop)(vs:List Value)(as:List Addr)(n:Nat)(Q:Bool->Shared->Prop),ReadsAll s.heap vs xs as->hkAll xs=true->eK xs<=n->∀v∈vs,Q true s->wpAny (model prog w) A (eqIsQuiet n v) Q E s
|[],A,E,_,_,n,Q,r,_,_,v,hv,_=>by cases r;cases hv
|x::xs,A,E,_,_,n,Q,r,h,hn,v,hv,q=>by
 cases r with
 |cons r1 r2=>
  have h':(hk x&&hkAll xs)=true:=h;rw[dA]at h';have hn':max x.depth (eK xs)<=n:=hn;rcases aY.mp hv with rfl | hv
  ·exact yJ prog w s x A E _ _ n Q r1 h'.1 (by omega) q
  ·exact quiet_readsAll prog w s xs A E _ _ n Q r2 h'.2 (by omega) v hv q
end
mutual
theorem AI{h h':Heap}(hk':∀(b:Addr)(o:Obj)(vs:Array Value)(n:Nat),h.get? b=some o->o.data=.seq vs n->h'.get? b=some o):∀{d:PyData}{v:Value}{as:List Addr},Reads h v d as->hk d=true->Reads h' v d as
|.none,_,_,r,_=>by cases r;exact .none
|.int i,_,_,r,_=>by cases r;exact .int i _
|.str x,_,_,r,_=>by cases r;exact .str x _
|.tuple xs,_,_,r,hh=>by
 cases r with
 |tuple h1 h2 h3 h4=>exact .tuple (hk' _ _ _ _ h1 h3) h2 h3 (reads_stayAll hk' h4 hh)
|.bool _,_,_,_,hh=>by cases hh
|.list _,_,_,_,hh=>by cases hh
|.dict _,_,_,_,hh=>by cases hh
theorem reads_stayAll{h h':Heap}(hk':∀(b:Addr)(o:Obj)(vs:Array Value)(n:Nat),h.get? b=some o->o.data=.seq vs n->h'.get? b=some o):∀{xs:List PyData}{vs:List Value}{as:List Addr},ReadsAll h vs xs as->hkAll xs=true->ReadsAll h' vs xs as
|[],_,_,r,_=>by cases r;exact .nil
|x::xs,_,_,r,hh=>by
 cases r with
 |cons r1 r2=>
  have hh':(hk x&&hkAll xs)=true:=hh;rw[dA]at hh';exact .cons (AI hk' r1 hh'.1) (reads_stayAll hk' r2 hh'.2)
end
end
def uE(prog:bE)(w:World):HeapKind prog w PyData where
 is:=λh k a=>hk k=true/\k.depth<=8/\∃as,Reads h (.ref a) k as
 hash:=mV w
 draws:=pY
 room:=λA=>A.units+8<cLine
 inj:=λ⟨h1,_,as,r1⟩ ⟨_,_,bs,r2⟩=>SeqAt.Reads.unique _ _ _ _ _ (xT h1) r1 r2
 keeps:=λ⟨h1,h2,as,r⟩ ho hd hs=>⟨h1,h2,as,AI (λb o vs n e ed=>(hs.2 b (λz=>by
  subst z;rw[ho]at e;cases e;rw[hd]at ed;cases ed)).trans e) r h1⟩
 pyHash:=λ{A E s k a Q} hu ⟨h1,h2,as,r⟩ h=>A7 prog w s k A _ _ r h1 (by omega) s.toks E Q h
 eqBool:=λ{A E s x y a b Q} hu ⟨h1,h2,as,r⟩ ⟨g1,g2,bs,r'⟩ h=>SeqAt.eqAt_reads x y A s _ _ _ _ r r' (xT h1) (xT g1) (by omega) prog w E Q (by rw[N2 h1 g1];exact h)
 quiet:=λ{A E s k a Q} ⟨h1,h2,as,r⟩ h=>yJ prog w s k A E _ _ 8 Q r h1 h2 h
section
variable{X:Cx}{pins:List (Addr×Obj)}{σ:St}{H:Hp}{s:Shared}
theorem dM.big(I:dM X pins σ H s):sysModules<s.heap.objs.size:=by
 have h:fA<s.heap.objs.size:=(I.mod.glob.keeps I.bk).lt;exact KM (by decide) h
end
def T6(i:Expr):Prop:=∀ov iv,subscripted i false ov iv=operate [ov,iv] (getItem ov iv)
theorem UW{prog:bE}{w:World}{A:Around}{E:Value->Shared->Prop}{s:Shared}{env:Env}{value slice:Expr}{pos:Pos}{T id:String}{Q:Value->Shared->Prop}
  (hl:typeLookup (.type T) "__getitem__"=pure (some (.builtin id))) (hs:T6 slice)
  (h:wpAny (model prog w) A (eval value env) (λo s₁=>wpAny (model prog w) A (eval slice env) (λi s₂=>s₂.TypeIs o T/\wpAny (model prog w) A (getItem o i) Q E s₂) E s₁) E s) :
  wpAny (model prog w) A (eval (.Subscript value slice pos) env) Q E s:=by
 refine Subscript_ (dW h (λo s₁ h₁=>dW h₁ (λi s₂ h₂=>?_) λ_ _ x=>x) λ_ _ x=>x);obtain⟨hT,h₂⟩:=h₂;unfold subscriptTail;refine aB ?_;rw[getitemInPython_of_ne hT.not_modules];refine aB (wpAny_specialOf hT hl ?_)
 have fin:wpAny (model prog w) A (subscripted slice false o i) (λr s₃=>wpAny (model prog w) A (letTemporaryGo value o r >>= λ_=>pure r) Q E s₃) E s₂:=by
  rw[hs o i];exact wpAny_operating (dW h₂ (λr s₃ h₃=>aB (wpAny_letTemporaryGo (aJ h₃))) λ_ _ x=>x)
 first
  |exact aJ (aB fin)
  |exact aB (aJ (aB fin))
  |exact aB fin
end L2
namespace L2
open PySem PySem.Spec PyProof.Rows TL
def nZ(k:D):Prop:=hk k=true/\k.depth<=8
structure DK(K:aG)(w:World)(H:Hp)(es:List (Int×Addr×V))(ks:List D):Prop where
 rep:Reps K H ks (es.map λe=>.ref e.2.1)
 nd:ks.Nodup
 ok:∀k∈ks,nZ k
 hs:es.map (·.1)=ks.map (mV w)
theorem DK.same{K:aG}{w:World}{H H':Hp}{es:List (Int×Addr×V)}{ks:List D}(x:DK K w H es ks)(e:bL H H'):DK K w H' es ks:=⟨x.rep.same e,x.nd,x.ok,x.hs⟩
section
variable{X:Cx}{pins:List (Addr×Obj)}{σ:St}{H:Hp}{s:Shared}{p a:Addr}{es:List (Int×Addr×V)}{ks:List D}{k:D}
theorem JW(I:dM X pins σ H s)(r:jF X.K H k (.ref a))(ok:nZ k):(uE X.prog X.w).is s.heap k a:=by
 obtain⟨as,h⟩:=jF.reads I (oF (xT ok.1)) r (u:=.ref a) rfl;exact⟨ok.1,ok.2,as,h⟩
theorem LS(I:dM X pins σ H s):∀{ks:List D}{as:List Addr},Reps X.K H ks (as.map V.ref)->(∀k∈ks,nZ k)->Paired (λk a=>(uE X.prog X.w).is s.heap k a) ks as
|[],[],_,_=>.nil
|[],_::_,r,_=>by cases r
|_::_,[],r,_=>by cases r
|k::ks,a::as,r,h=>by
 cases r with
 |cons r1 r2=>exact .cons (JW I r1 (h k (aS ..))) (LS I r2 λz hz=>h z (aO _ hz))
abbrev EX(es:List (Int×Addr×V))(ks:List D)(xs:List (D×Addr×Value)):Prop:=xs.map (·.1)=ks/\Paired (λ(e:Int×Addr×V) (x:D×Addr×Value)=>x.2.1=e.2.1/\iO e.2.2 x.2.2) es xs
theorem ZH(w:World)(prog:bE):∀{es:List (Int×Addr×V)}{ks:List D}{ds:List DictEntry},Paired KJ es ds->es.map (·.1)=ks.map (mV w)->∃xs,EX es ks xs/\ds=xs.map (entryOfKey (uE prog w))
|[],[],_,.nil,_=>⟨[],⟨rfl,.nil⟩,rfl⟩
|[],_::_,_,_,h=>by simp at h
|_::_,[],_,_,h=>by simp at h
|e::es,k::ks,_,.cons (b:=d) r t,h=>by
 rw[bM,bM]at h;injection h with h1 h2
 obtain⟨xs,⟨x1,x2⟩,x3⟩:=ZH w prog t h2;refine⟨(k,e.2.1,d.val)::xs,⟨by rw[bM,x1],.cons ⟨rfl,r.2.2⟩ x2⟩,?_⟩;rw[bM,x3];congr 1;obtain⟨r1,r2,r3⟩:=r;show d=⟨mV w k,.ref e.2.1,d.val⟩;rw[<- h1,<- r1,<- r2]
theorem L6:∀{es:List (Int×Addr×V)}{xs:List (D×Addr×Value)},Paired (λ(e:Int×Addr×V) (x:D×Addr×Value)=>x.2.1=e.2.1/\iO e.2.2 x.2.2) es xs->xs.map (λx=>x.2.1)=es.map λe=>e.2.1
|_,_,.nil=>rfl
|_,_,.cons r t=>by rw[bM,bM,r.1,L6 t]
def FU(H:Hp)(p:Addr)(es:List (Int×Addr×V)):Prop:=H p=some (xX p es)\/∃ep,H p=some (zA p es ep)
theorem FU.at(I:dM X pins σ H s)(h:FU H p es):MJ p es s.heap:=by
 rcases h with h | ⟨ep,h⟩
 ·exact(I.hok p _ h).1
 ·obtain⟨⟨h1,h2,o,xs,h3,h4,h5,h6⟩,_⟩:=I.hok p _ h;exact⟨h1,h2,o,xs,ep,h3,h4,h5,h6⟩
theorem S7(I:dM X pins σ H s)(h:FU H p es)(dk:DK X.K X.w H es ks):(p==sysModules)=false/\es.length<=bU/\∃xs,EX es ks xs/\s.heap.DictOfH (uE X.prog X.w) p xs:=by
 obtain⟨h1,h2,o,ds,ep,h3,h4,h5,h6⟩:=FU.at I h;obtain⟨xs,x1,x2⟩:=ZH X.w X.prog h6 dk.hs;refine⟨h1,h2,xs,x1,o,ds,ep,h3,h4,h5,x2,?_,by rw[x1.1];exact dk.nd⟩;have ka:=LS I (as:=es.map λe=>e.2.1) (by rw[bT];exact dk.rep) dk.ok;have hm:=L6 x1.2;rw[<- hm,<- x1.1]at ka;clear hm x2 x1;intro x hx
 induction xs with
 |nil=>cases hx
 |cons y ys ih=>
  rw[bM,bM]at ka
  cases ka with
  |cons r t=>
   rcases aY.mp hx with rfl | hx
   ·exact r
   ·exact ih t hx
theorem aBo{xs:List (D×Addr×Value)}{i:Nat}{e:Int×Addr×V}(ex:EX es ks xs)(nd:ks.Nodup)(hk':ks[i]?=some k)(he:es[i]?=some e):∃u,atKey xs k=some u/\iO e.2.2 u.2:=by
 obtain⟨h1,h2⟩:=ex;have hl:es.length=xs.length:=Paired.length h2;have hi:i<xs.length:=by rw[<- hl];exact(aD.mp he).1
 have hx:xs[i]?=some xs[i]:=aF hi
 have e1:xs[i].1=k:=by
  have:(xs.map (·.1))[i]?=some k:=by rw[h1];exact hk'
  rw[aH,hx]at this;exact Option.some.inj this
 refine⟨xs[i].2,atKey_of_get (by rw[h1];exact nd) (i:=i) (by rw[hx,<- e1]),?_⟩;clear hk' nd h1 e1
 induction h2 generalizing i with
 |nil=>simp at hi
 |cons r t ih=>
  cases i with
  |zero=>simp at he;subst he;exact r.2
  |succ j=>exact ih (i:=j) (by simpa using he) (by simpa using hl) (by simpa using hi) (aF _)
def aDn(K:aG)(w:World):R2:=λx y H Q=>∃(p:Addr)(es:List (Int×Addr×V))(ks:List D)(k:D)(i:Nat)(e:Int×Addr×V),x=.ref p/\FU H p es/\DK K w H es ks/\jF K H k y/\nZ k/\ks[i]?=some k/\es[i]?=some e/\Q e.2.2 H
theorem DY(I:dM X pins σ H s)(h:FU H p es):s.TypeIs (.ref p) "dict":=by
 obtain⟨_,_,o,ds,ep,h3,h4,_⟩:=FU.at I h;exact⟨o,h3,h4.1⟩
theorem sV{K:aG}{xs:List D}{v:V}(r:jF K H (.tuple xs) v):∃a,v=.ref a:=by cases r;exact⟨_,rfl⟩
end
section
variable{X:Cx}{o i:Expr}{pos:Pos}{td ty:TE}
theorem GK(hu:X.A.units+9<cLine)(ho:PE X o td)(hi:PE X i ty)(hs:T6 i):PE X (.Subscript o i pos) (λσ H Q=>td σ H λx H1=>ty σ H1 λy H2=>(∃a,y=.ref a)/\aDn X.K X.w x y H2 Q):=by
 intro pins s σ H Q I h;refine UW PySem.F.slot_dict_getitem.lookup hs (kJ (ho pins s σ H _ I h) λu s1 ⟨x,H1,I1,rx,q1⟩=>kJ (hi pins s1 σ H1 _ I1 q1) λiv s2 ⟨y,H2,I2,ry,⟨b,ey⟩,p,es,ks,k,j,e,ex,hp,dk,rk,ok,e1,e2,q2⟩=>?_);subst ex ey;obtain rfl:u=Value.ref p:=rx;obtain rfl:iv=Value.ref b:=ry;obtain⟨h1,h2,xs,x1,x2⟩:=S7 I2 hp dk;obtain⟨v,v1,v2⟩:=aBo x1 dk.nd e1 e2;exact⟨DY I2 hp,wpAny_getItem_heap (show X.A.units+1+8<cLine by omega) (JW I2 rk ok) x2 v1 ⟨_,H2,I2.tok _,v2,q2⟩⟩
def D8:List (Int×Addr×V)->List D->D->V->List (Int×Addr×V)
|e::es,k'::ks,k,v=>(if k'=k then(e.1,e.2.1,v)else e)::D8 es ks k v
|_,_,_,_=>[]
def yY(w:World)(es:List (Int×Addr×V))(ks:List D)(k:D)(a:Addr)(v:V):List (Int×Addr×V):=if k∈ks then D8 es ks k v else es++[(mV w k,a,v)]
def AJ(ks:List D)(k:D):List D:=if k∈ks then ks else ks++[k]
end
section
variable{w:World}{prog:bE}{es:List (Int×Addr×V)}{ks:List D}{xs:List (D×Addr×Value)}{k:D}{a:Addr}{v:V}{u:Value}
theorem S4:∀{es:List (Int×Addr×V)}{ks:List D}{xs:List (D×Addr×Value)},EX es ks xs->es.map (·.1)=ks.map (mV w)->Paired KJ es (xs.map (entryOfKey (uE prog w)))
|[],_,_,⟨_,.nil⟩,_=>.nil
|e::es,[],x::xs,⟨h,_⟩,_=>by simp at h
|e::es,k::ks,x::xs,⟨h,.cons r t⟩,g=>by
 rw[bM]at h;injection h with h1 h2
 rw[bM,bM]at g;injection g with g1 g2
 refine .cons ⟨?_,?_,r.2⟩ (S4 ⟨h2,t⟩ g2)
 ·show mV w x.1=e.1;rw[h1,g1]
 ·show Value.ref x.2.1=Value.ref e.2.1;rw[r.1]
theorem QR:∀{es:List (Int×Addr×V)}{ks:List D}{xs:List (D×Addr×Value)}(k:D),EX es ks xs->iO v u->EX (D8 es ks k v) ks (xs.map (putAt k u))
|[],ks,[],k,⟨h,.nil⟩,_=>⟨by rw[<- h];rfl,by cases ks<;>exact .nil⟩
|e::es,[],x::xs,k,⟨h,_⟩,_=>by simp at h
|e::es,k'::ks,x::xs,k,⟨h,.cons r t⟩,rv=>by
 rw[bM]at h;injection h with h1 h2
 obtain⟨i1,i2⟩:=QR (es:=es) (ks:=ks) (xs:=xs) k ⟨h2,t⟩ rv;unfold D8 putAt;rw[bM];refine⟨?_,.cons ?_ ?_⟩
 ·rw[bM];congr 1;split<;>exact h1
 ·by_cases e1:k'=k
  ·rw[if_pos e1,if_pos (h1.trans e1)];exact⟨r.1,rv⟩
  ·rw[if_neg e1,if_neg (λz=>e1 (h1.symm.trans z))];exact r
 ·exact i2
theorem aBn(ex:EX es ks xs)(rv:iO v u):EX (yY w es ks k a v) (AJ ks k) (storedH xs k a u):=by
 have hk':(atKey xs k).isSome=true↔k∈ks:=by
  rw[<- ex.1];unfold atKey;rw[Option.isSome_map,List.find?_isSome,aX];exact⟨λ⟨x,h1,h2⟩=>⟨x,h1,of_decide_eq_true h2⟩,λ⟨x,h1,h2⟩=>⟨x,h1,decide_eq_true h2⟩⟩
 unfold yY AJ storedH;by_cases hm:k∈ks
 ·rw[if_pos hm,if_pos hm,if_pos (hk'.mpr hm)];exact QR k ex rv
 ·rw[if_neg hm,if_neg hm,if_neg (λz=>hm (hk'.mp z))];refine⟨by rw[bY,ex.1];rfl,Paired.snoc ex.2 ⟨rfl,rv⟩⟩
theorem AH:∀{es:List (Int×Addr×V)}{ks:List D}(k:D),es.length=ks.length->(D8 es ks k v).map (·.1)=es.map (·.1)/\(D8 es ks k v).map (λe=>e.2.1)=es.map (λe=>e.2.1)
|[],[],k,_=>⟨rfl,rfl⟩
|[],_::_,k,h=>by simp at h
|_::_,[],k,h=>by simp at h
|e::es,k'::ks,k,h=>by
 obtain⟨i1,i2⟩:=AH (es:=es) (ks:=ks) k (by simpa using h);unfold D8;refine⟨?_,?_⟩
 ·rw[bM,bM,i1];congr 1;split<;>rfl
 ·rw[bM,bM,i2];congr 1;split<;>rfl
theorem DK.len{K:aG}{H:Hp}(x:DK K w H es ks):es.length=ks.length:=by
 have:=congrArg kU x.hs;simpa using this
theorem DK.put{K:aG}{H:Hp}(x:DK K w H es ks)(r:jF K H k (.ref a))(ok:nZ k):DK K w H (yY w es ks k a v) (AJ ks k):=by
 unfold yY AJ;by_cases hm:k∈ks
 ·rw[if_pos hm,if_pos hm];obtain⟨h1,h2⟩:=AH (v:=v) k x.len;refine⟨?_,x.nd,x.ok,h1.trans x.hs⟩
  have e:(D8 es ks k v).map (λe=>V.ref e.2.1)=es.map λe=>V.ref e.2.1:=by
   have:=congrArg (MP V.ref) h2
   rwa [bT,bT]at this
  rw[e];exact x.rep
 ·rw[if_neg hm,if_neg hm];refine⟨by rw[bY];exact x.rep.append (.cons r .nil),?_,λz hz=>?_,by rw[bY,bY,x.hs];rfl⟩
  ·rw[yT];exact⟨x.nd,by simp,λc hc b hb=>by rw[aW.mp hb];exactλz=>hm (z▸hc)⟩
  ·rcases dO.mp hz with hz | hz
   ·exact x.ok z hz
   ·rw[aW.mp hz];exact ok
theorem QX(h:es.length=ks.length):(yY w es ks k a v).length<=es.length+1:=by
 unfold yY;split
 ·have:=congrArg kU (AH (v:=v) k h).1;simp at this;omega
 ·simp
end
section
variable{p:Addr}{es:List (Int×Addr×V)}{ks:List D}
theorem BK:∀h1 h2:Heap,MJ p es h1->(∀o,h1.get? p=some o->h2.get? p=some o)->MJ p es h2:=λh1 h2 ⟨a,b,o,xs,ep,e,r⟩ k=>⟨a,b,o,xs,ep,k _ e,r⟩
theorem aBv{P:bE}{w:World}{H':Hp}{h':Heap}{xs:List (D×Addr×Value)}(hd:(p==sysModules)=false)(hl:es.length<=bU)(ex:EX es ks xs)(hh:es.map (·.1)=ks.map (mV w))(dd:h'.DictOfH (uE P w) p xs):lG P w H' h' p (xX p es):=by
 obtain⟨o,ds,ep,h1,h2,h3,h4,_⟩:=dd;exact⟨⟨hd,hl,o,ds,ep,h1,h2,h3,by rw[h4];exact S4 ex hh⟩,⟨o,h1⟩,BK⟩
end
section
variable{X:Cx}{o i value:Expr}{pos pos':Pos}{td ty tv:TE}
def aAe(K:aG)(w:World)(td ty tv:TE):TS:=λD' σ H=>tv σ H λv H1=>td σ H1 λx H2=>ty σ H2 λy H3=>∃(p a:Addr)(es:List (Int×Addr×V))(ks:List D)(k:D),x=.ref p/\y=.ref a/\H3 p=some (xX p es)/\DK K w H3 es ks/\jF K H3 k (.ref a)/\nZ k/\es.length<bU/\D'.nx σ (gK H3 p (xX p (yY w es ks k a v)))
theorem Q3(hu:X.A.units+9<cLine)(ho:PE X o td)(hi:PE X i ty)(hv:PE X value tv)(hs:lA value (some (.Subscript o i pos')) pos.line X.env=pure false) :
  PS X (.Assign [.Subscript o i pos'] value pos) (aAe X.K X.w td ty tv):=by
 intro pins s σ H D' I h;refine wpAny_Assign_Subscript (kJ (hv pins s σ H _ I h) λr s1 ⟨v,H1,I1,rv,q1⟩=>kJ (ho pins s1 σ H1 _ I1 q1) λu s2 ⟨x,H2,I2,rx,q2⟩=>kJ (hi pins s2 σ H2 _ I2 q2) λiv s3 ⟨y,H3,I3,ry,p,a,es,ks,k,ex,ey,hp,dk,rk,ok,hl,q3⟩=>?_) hs;subst ex ey;obtain rfl:u=Value.ref p:=rx;obtain rfl:iv=Value.ref a:=ry;obtain⟨h1,h2,xs,x1,x2⟩:=S7 I3 (.inl hp) dk;refine wpAny_setItem_heap (hsz:=by rw[<- Paired.length x1.2];exact h2) (show X.A.units+1+8<cLine by omega) (JW I3 rk ok) x2 λh' dd' hs'=>⟨σ,_,?_,q3⟩;have hq:∃q,h'.get? p=some q:=let ⟨q,_,_,e,_⟩:=dd';⟨q,e⟩
 have:=QX (w:=X.w) (k:=k) (a:=a) (v:=v) dk.len;exact I3.write (x:=p) (e:=p) (by rw[hp];exact True.intro) (.inl rfl) (λb q hb z=>(hs'.2 b hb).trans z) hq (aBv (ks:=AJ ks k) h1 (by omega) (aBn x1 rv) (dk.put rk ok).hs dd')
def ZZ:TE:=λ_ H Q=>∀p,H p=none->Q (.ref p) (gK H p (xX p []))
theorem RC:PE X (.Dict [] [] pos) ZZ:=λpins s σ H Q I h=>
 wpAny_Dict_empty ⟨.ref s.heap.objs.size,_,I.laid (a:=s.heap.objs.size) (o:=xX s.heap.objs.size []) (t':=s.toks) (λ_ _ q=>aI _ q) (aN _)
  ⟨⟨beq_eq_false_iff_ne.mpr (Ne.symm (bP I.big)),dS _,_,#[],0,bB _ rfl,⟨rfl,rfl,rfl⟩,rfl,.nil⟩,⟨_,bB _ rfl⟩,BK⟩,rfl,h _ (I.hok.fresh (aN _))⟩
end
end L2
namespace TL
open PySem PySem.Spec PyProof.Rows L2
def pN(w:World)(kvs:List (D×D)):D:=WX (kvs.map λkv=>mV w kv.1) kvs
def HF(w:World)(kvs:List (D×D)):Sl:=.dic (kvs.map λkv=>mV w kv.1) kvs
def B6(kvs:List (D×D))(k v:D):List (D×D):=if k∈kvs.map (·.1)then kvs.map (λkv=>if kv.1=k then(kv.1,v)else kv)else kvs++[(k,v)]
def FH(k:D):Prop:=nZ k/\∃xs,k=.tuple xs
section
variable{K:aG}{H B:Hp}{p0 ps:List Addr}{σT σT':List Sl}{σ:L2.St}{p:Addr}
theorem Ok.re(o:Ok K B p0 H ps σT σ)(hl:σT'.length=σT.length)(hv:∀(j:Nat)(d:D),σT'[j]?=some (.val d)->σT[j]?=some (.val d))(ho:∀(j:Nat)(ts:List D),σT'[j]?=some (.own ts)->σT[j]?=some (.own ts))(hd:pU K B p0 H ps σT' σ):Ok K B p0 H ps σT' σ where
 base:=o.base
 sub:=o.sub
 live:=o.live
 len:=hl.trans o.len
 val:=λj d h=>o.val j d (hv j d h)
 own:=λj ts h=>o.own j ts (ho j ts h)
 dis:=λi j ts us q h1 h2 h3 h4=>o.dis i j ts us q (ho i ts h1) (ho j us h2) h3 h4
 dc:=hd
theorem Ok.poke(o:Ok K B p0 H ps σT σ){φ:Heap->Prop}{u:HO}(hp:p∈ps)(hB:B p=none)(he:H p=some (.ext φ))(hn:∀(j:Nat)(hs:List Int)(kvs:List (D×D)),σT[j]?≠some (.dic hs kvs))(hu:WH u=false:=by rfl):Ok K B p0 (gK H p u) ps σT σ where
 base:=λb w e=>by
  rw[cJ λz=>by rw[z,hB]at e;cases e];exact o.base b w e
 sub:=o.sub
 live:=λq hq=>by
  by_cases e:q=p
  ·subst e;rw[cO];exact⟨_,rfl,hu⟩
  ·rw[cJ e];exact o.live q hq
 len:=o.len
 val:=λi d h=>by rw[lV hp];exact o.val i d h
 own:=λi ts h=>by
  rw[lV hp];obtain⟨q,xs,h1,h2,h3,h4,h5,h6⟩:=o.own i ts h;exact⟨q,xs,h1,h2,h3,h4,by rw[cJ λz=>by rw[z,he]at h5;cases h5];exact h5,h6⟩
 dis:=o.dis
 dc:=λi hs kvs h=>absurd h (hn i hs kvs)
theorem K4{i j:Nat}{s:Sl}{d:D}(hs:∀d,s≠.val d)(h:(σT.set i s)[j]?=some (.val d)):i≠j/\σT[j]?=some (.val d):=by
 by_cases e:i=j
 ·subst e;have hi:i<σT.length:=by simpa using(aD.mp h).1
  rw[bA hi]at h;exact absurd (Option.some.inj h) (hs d)
 ·rw[aU e]at h;exact⟨e,h⟩
theorem wD{i j:Nat}{s:Sl}{ts:List D}(hs:∀ts,s≠.own ts)(h:(σT.set i s)[j]?=some (.own ts)):i≠j/\σT[j]?=some (.own ts):=by
 by_cases e:i=j
 ·subst e;have hi:i<σT.length:=by simpa using(aD.mp h).1
  rw[bA hi]at h;exact absurd (Option.some.inj h) (hs ts)
 ·rw[aU e]at h;exact⟨e,h⟩
structure KK(K:aG)(B:Hp)(p0:List Addr)(H:Hp)(ps:List Addr)(p:Addr)(es:List (Int×Addr×V))(hs:List Int)(kvs:List (D×D)):Prop where
 mem:p∈ps
 new:B p=none
 out:p∉p0
 obj:H p=some (xX p es)
 hsh:hs=es.map (·.1)
 nd:(kvs.map (·.1)).Nodup
 ks:Reps K (dB H ps) (kvs.map (·.1)) (es.map λe=>.ref e.2.1)
 vs:Reps K (dB H ps) (kvs.map (·.2)) (es.map λe=>e.2.2)
theorem Ok.toDic(o:Ok K B p0 H ps σT σ){i:Nat}{es:List (Int×Addr×V)}{hs:List Int}{kvs:List (D×D)}(hσ:σ[i]?=some (some (.ref p)))(hn:∀(j:Nat)(hs:List Int)(kvs:List (D×D)),i≠j->σT[j]?≠some (.dic hs kvs))(x:KK K B p0 H ps p es hs kvs):Ok K B p0 H ps (σT.set i (.dic hs kvs)) σ:=by
 refine o.re (by simp) (λj d h=>(K4 (by intro _ z;cases z) h).2) (λj ts h=>(wD (by intro _ z;cases z) h).2) λj hs' kws h=>?_;have hi:i<σT.length:=by rw[o.len];exact(aD.mp hσ).1
 have only:∀(l:Nat)(hs'':List Int)(kws'':List (D×D)),(σT.set i (.dic hs kvs))[l]?=some (.dic hs'' kws'')->i=l:=λl hs'' kws'' hl=>by
  by_cases e:i=l
  ·exact e
  ·rw[aU e]at hl;exact absurd hl (hn l hs'' kws'' e)
 obtain rfl:=only j hs' kws h;rw[bA hi]at h;injection h with h
 injection h with h1 h2
 subst h1 h2;exact⟨⟨p,es,hσ,x.mem,x.new,x.out,x.obj,x.hsh,x.nd,x.ks,x.vs⟩,λl hs'' kws'' hl=>only l hs'' kws'' hl⟩
theorem Ok.isDic(o:Ok K B p0 H ps σT σ){i:Nat}{hs:List Int}{kvs:List (D×D)}(h:σT[i]?=some (.dic hs kvs)):(∃(p:Addr)(es:List (Int×Addr×V)),σ[i]?=some (some (.ref p))/\KK K B p0 H ps p es hs kvs)/\∀(j:Nat)(hs':List Int)(kws:List (D×D)),i≠j->σT[j]?≠some (.dic hs' kws):=by
 obtain⟨⟨p,es,a1,a2,a3,a4,a5,a6,a7,a8,a9⟩,u⟩:=o.dc i hs kvs h;exact⟨⟨p,es,a1,a2,a3,a4,a5,a6,a7,a8,a9⟩,λj hs' kws ne e=>ne (u j hs' kws e)⟩
theorem Ok.forget(o:Ok K B p0 H ps σT σ){i:Nat}{hs:List Int}{kvs:List (D×D)}(h:σT[i]?=some (.dic hs kvs)):Ok K B p0 H ps (σT.set i .un) σ/\∀(j:Nat)(hs:List Int)(kvs:List (D×D)),(σT.set i .un)[j]?≠some (.dic hs kvs):=by
 have no:∀(j:Nat)(hs:List Int)(kvs:List (D×D)),(σT.set i .un)[j]?≠some (.dic hs kvs):=λj hs' kws e=>by
  obtain⟨ne,e'⟩:=zW (by intro _ _ z;cases z) e;exact(o.isDic h).2 j hs' kws ne e'
 exact⟨o.re (by simp) (λj d h=>(K4 (by intro _ z;cases z) h).2) (λj ts h=>(wD (by intro _ z;cases z) h).2) λj hs' kws e=>absurd e (no j hs' kws),no⟩
theorem Ok.newDic(o:Ok K B p0 H ps σT σ){i:Nat}(hi:i<σT.length)(hn:∀(j:Nat)(hs:List Int)(kvs:List (D×D)),σT[j]?≠some (.dic hs kvs))(hp:H p=none):Ok K B p0 (gK H p (xX p [])) (p::ps) (σT.set i (.dic [] [])) (σ.set i (some (.ref p))):=by
 have o1:=(o.adopt (u:=xX p []) hp).setUn (i:=i) (v:=.ref p);have hσ:(σ.set i (some (V.ref p)))[i]?=some (some (.ref p)):=bA (by rw[<- o.len];exact hi)
 have o2:=o1.toDic (i:=i) (es:=[]) (hs:=[]) (kvs:=[]) hσ (λj hs kvs ne e=>by
  rw[aU ne]at e;exact hn j hs kvs e) ⟨aS ..,bL.free' o.base hp,λz=>eS o.live hp (o.sub p z),cO,rfl,by simp,.nil,.nil⟩
 rwa [aCs]at o2
theorem Ok.shareD(o:Ok K B p0 H ps σT σ){i:Nat}{hs:List Int}{kvs:List (D×D)}(hi:σT[i]?=some (.dic hs kvs)):∃(p:Addr)(es:List (Int×Addr×V)),σ[i]?=some (some (.ref p))/\KK K B p0 H ps p es hs kvs/\∀ep,Ok K B p0 (gK H p (zA p es ep)) (ps.filter λq=>decide (q≠p)) (σT.set i (.val (WX hs kvs))) σ/\bL (dB H ps) (dB (gK H p (zA p es ep)) (ps.filter λq=>decide (q≠p))):=by
 obtain⟨⟨p,es,hσ,x⟩,u⟩:=o.isDic hi;refine⟨p,es,hσ,x,λep=>?_⟩;have hil:i<σT.length:=(aD.mp hi).1;have hpn:p∉ps.filter λq=>decide (q≠p):=λz=>(of_decide_eq_true (bO.mp z).2) rfl
 have hsub:bL (dB H ps) (dB (gK H p (zA p es ep)) (ps.filter λq=>decide (q≠p))):=λb v hb=>by
  unfold dB at hb |-
  by_cases hbp:b∈ps
  ·rw[if_pos hbp]at hb;cases hb
  ·rw[if_neg hbp]at hb;have hne:b≠p:=λz=>hbp (z▸x.mem);rw[if_neg λz=>hbp (bO.mp z).1,cJ hne];exact hb
 refine⟨⟨λb v hb=>?_,λq hq=>bO.mpr ⟨o.sub q hq,decide_eq_true λz=>x.out (z▸hq)⟩,λq hq=>?_,by simpa using o.len,λj d h=>?_,λj us h=>?_,λj k us ws q k1 k2 k3 k4=>?_,λj hs' kws h=>?_⟩,hsub⟩
 ·have hne:b≠p:=λz=>by rw[z,x.new]at hb;cases hb
  rw[cJ hne];exact o.base b v hb
 ·have hne:q≠p:=of_decide_eq_true (bO.mp hq).2;rw[cJ hne];exact o.live q (bO.mp hq).1
 ·by_cases e:i=j
  ·subst e;rw[bA hil]at h;cases h;refine⟨_,hσ,?_⟩;have:=jF.dct (K:=K) (ep:=ep) (iN hpn (cO (H:=H) (o:=zA p es ep))) x.nd (x.ks.same hsub) (x.vs.same hsub);rw[<- x.hsh]at this;exact this
  ·rw[aU e]at h;obtain⟨v,k1,k2⟩:=o.val j d h;exact⟨v,k1,k2.same hsub⟩
 ·obtain⟨_,h⟩:=wD (by intro _ z;cases z) h;obtain⟨q,ys,k1,k2,k3,k4,k5,k6⟩:=o.own j us h;have hne:q≠p:=λz=>by rw[z,x.obj]at k5;cases k5
  exact⟨q,ys,k1,bO.mpr ⟨k2,decide_eq_true hne⟩,k3,k4,by rw[cJ hne];exact k5,k6.same hsub⟩
 ·exact o.dis j k us ws q (wD (by intro _ z;cases z) k1).2 (wD (by intro _ z;cases z) k2).2 k3 k4
 ·obtain⟨ne,h⟩:=zW (by intro _ _ z;cases z) h;exact absurd h (u j hs' kws ne)
end
section
variable{X:Cx}{a b e n:Expr}{es:List Expr}{ta tb tk:ET}{pos:Pos}
def QP(i:Nat):nI:=λDT σ=>i<σ.length/\(∀(j:Nat)(hs:List Int)(kvs:List (D×D)),σ[j]?≠some (.dic hs kvs))/\DT.nx (σ.set i (.dic [] []))
theorem U4{i:Nat}{x:Str}{pos' p2:Pos}(ps':∀{v:TE},PE X (.Dict [] [] p2) v->PS X (.Assign [.Name x pos'] (.Dict [] [] p2) pos) (vZ v (nF i))):qU X (.Assign [.Name x pos'] (.Dict [] [] p2) pos) (QP i):=by
 refine⟨_,ps' RC,λB p0 H ps σT σ DT DV o h f p hp=>?_⟩;exact f.nx _ (p::ps) _ _ (o.newDic h.1 h.2.1 hp) (by rw[lW hp];exact L2.bL.refl _) h.2.2
theorem xW{K:aG}{w:World}{H:Hp}{es:List (Int×Addr×V)}{kvs:List (D×D)}(hh:kvs.map (λkv=>mV w kv.1)=es.map (·.1))(nd:(kvs.map (·.1)).Nodup)(ok:∀kv∈kvs,nZ kv.1)(r:Reps K H (kvs.map (·.1)) (es.map λe=>.ref e.2.1)):DK K w H es (kvs.map (·.1)):=
 ⟨r,nd,λk hk=>by obtain⟨kv,h1,rfl⟩:=aX.mp hk;exact ok kv h1,by rw[<- hh,bT];rfl⟩
theorem PM{K:aG}{w:World}{H:Hp}{v:D}{x:V}{a:Addr}:∀{es:List (Int×Addr×V)}{kvs:List (D×D)}(k:D),Reps K H (kvs.map (·.2)) (es.map λe=>e.2.2)->jF K H v x->Reps K H ((B6 kvs k v).map (·.2)) ((yY w es (kvs.map (·.1)) k a x).map λe=>e.2.2):=by
 intro es kvs k r rv;unfold B6 yY;by_cases hm:k∈kvs.map (·.1)
 ·rw[if_pos hm,if_pos hm];clear hm
  induction kvs generalizing es with
  |nil=>cases es with
   |nil=>exact .nil
   |cons e es=>cases r
  |cons kv kvs ih=>cases es with
   |nil=>cases r
   |cons e es=>
    rw[bM,bM]at r
    cases r with
    |cons r1 r2=>
     rw[bM,bM,bM];unfold D8;rw[bM];refine .cons ?_ (ih r2);by_cases e1:kv.1=k
     ·rw[if_pos e1,if_pos e1];exact rv
     ·rw[if_neg e1,if_neg e1];exact r1
 ·rw[if_neg hm,if_neg hm,bY,bY];exact r.append (.cons rv .nil)
theorem xJ(kvs:List (D×D))(k v:D):(B6 kvs k v).map (·.1)=AJ (kvs.map (·.1)) k:=by
 unfold B6 AJ;split
 ·rw[bT];apply mF;intro kv _;show(if kv.1=k then(kv.1,v)else kv).1=kv.1;split<;>rfl
 ·rw[bY];rfl
def QO(w:World)(i:Nat)(tk tv:ET):nI:=λDT σ=>∃kvs,σ[i]?=some (HF w kvs)/\tv σ λv=>tk σ λk=>FH k/\(∀kv∈kvs,nZ kv.1)/\kvs.length<=100000/\DT.nx (σ.set i (HF w (B6 kvs k v)))
theorem F0{i:Nat}{p2:Pos}{value:Expr}{tv:ET}(hu:X.A.units+9<cLine)(hn:PE X n (vY i))(hk':jD X e tk)(hv:jD X value tv)(hs:lA value (some (.Subscript n e p2)) pos.line X.env=pure false:=by rfl) :
  qU X (.Assign [.Subscript n e p2] value pos) (QO X.w i tk tv):=by
 obtain⟨vv,pv',rv⟩:=hv;obtain⟨vk,pk,rk⟩:=hk';refine⟨_,Q3 hu hn pk pv' hs,λB p0 H ps σT σ DT DV o h f=>?_⟩;obtain⟨kvs,hi,h⟩:=h;obtain⟨⟨p,es,hσ,x⟩,u⟩:=o.isDic hi;refine rv B p0 H ps σT σ _ _ o h λv y H1 s1 r1 q1=>⟨.ref p,hσ,rk B p0 H1 ps σT σ _ _ (o.grow s1) q1 λk z H2 s2 r2 q2=>?_⟩;obtain⟨⟨kok,ys,rfl⟩,hok,hlen,q⟩:=q2;obtain⟨a,rfl⟩:=sV r2;have s12:=s1.trans s2;have o2:=o.grow s12;have hm:=cA (ps:=ps) s12;have ks2:=x.ks.same hm;have vs2:=x.vs.same hm;have ob2:=s12 _ _ x.obj;have dk2:=xW (w:=X.w) x.hsh x.nd hok ks2
 have hl:es.length=kvs.length:=by
  have:=congrArg kU x.hsh;simpa using this.symm
 have hL:bU=2^24:=rfl;have dk3:=dk2.put (v:=y) r2 kok;refine⟨p,a,es,kvs.map (·.1),_,rfl,rfl,ob2,dk2.same bZ,r2.same bZ,kok,by omega,?_⟩;obtain⟨o3,no3⟩:=o2.forget (i:=i) hi;have o4:=o3.poke (u:=xX p (yY X.w es (kvs.map (·.1)) (.tuple ys) a y)) x.mem x.new ob2 no3;have hm4:dB (gK H2 p (xX p (yY X.w es (kvs.map (·.1)) (.tuple ys) a y))) ps=dB H2 ps:=lV x.mem
 have o5:=o4.toDic (i:=i) (es:=yY X.w es (kvs.map (·.1)) (.tuple ys) a y) (hs:=(B6 kvs (.tuple ys) v).map λkv=>mV X.w kv.1) (kvs:=B6 kvs (.tuple ys) v) hσ (λj hs kws _=>no3 j hs kws)
  ⟨x.mem,x.new,x.out,cO,?_,?_,?_,?_⟩
 ·rw[aCs]at o5;exact f.nx _ ps _ σ o5 (by rw[hm4];exact hm) q
 ·rw[dk3.hs,<- xJ kvs _ v,bT];rfl
 ·rw[xJ];exact dk3.nd
 ·rw[hm4,xJ];exact dk3.rep
 ·rw[hm4];exact PM _ vs2 (r1.same (cA s2))
theorem Reps.two{K:aG}{H:Hp}{i:Nat}:∀{kvs:List (D×D)}{es:List (Int×Addr×V)}{kv:D×D},Reps K H (kvs.map (·.2)) (es.map λe=>e.2.2)->kvs[i]?=some kv->∃e,es[i]?=some e/\jF K H kv.2 e.2.2:=by
 intro kvs es kv r h;obtain⟨v,h1,h2⟩:=r.get (i:=i) (d:=kv.2) (by rw[aH,h];rfl);rw[aH]at h1;obtain⟨e,e1,rfl⟩:=bK.mp h1;exact⟨e,e1,h2⟩
def aBu(w:World)(i:Nat)(tk:ET):ET:=λσ Q=>∃kvs,σ[i]?=some (HF w kvs)/\tk σ λk=>FH k/\(∀kv∈kvs,nZ kv.1)/\∃v,(k,v)∈kvs/\Q v
theorem HA{i:Nat}(hu:X.A.units+9<cLine)(hn:PE X n (vY i))(hk':jD X e tk)(hs:T6 e):jD X (.Subscript n e pos) (aBu X.w i tk):=by
 obtain⟨vk,pk,rk⟩:=hk';refine⟨_,GK hu hn pk hs,λB p0 H ps σT σ Q QV o h k=>?_⟩;obtain⟨kvs,hi,h⟩:=h;obtain⟨⟨p,es,hσ,x⟩,u⟩:=o.isDic hi;refine⟨.ref p,hσ,rk B p0 H ps σT σ _ _ o h λkd z H1 s1 r1 q1=>?_⟩;obtain⟨⟨kok,ys,rfl⟩,hok,v,hm,q⟩:=q1;obtain⟨a,rfl⟩:=sV r1;obtain⟨j,hj⟩:=bQ hm;have hm1:=cA (ps:=ps) s1;obtain⟨en,e1,e2⟩:=(x.vs.same hm1).two hj;exact⟨⟨a,rfl⟩,p,es,kvs.map (·.1),_,j,en,rfl,.inl (s1 _ _ x.obj),(xW (w:=X.w) x.hsh x.nd hok (x.ks.same hm1)).same bZ,r1.same bZ,kok,by rw[aH,hj];rfl,e1,k _ _ H1 s1 e2 q⟩
theorem zO{K:aG}{H:Hp}{w:World}{kvs:List (D×D)}{v:V}(r:jF K H (pN w kvs) v):∃(p:Addr)(es:List (Int×Addr×V))(ep:Nat),v=.ref p/\H p=some (zA p es ep)/\kvs.map (λkv=>mV w kv.1)=es.map (·.1)/\(kvs.map (·.1)).Nodup/\Reps K H (kvs.map (·.1)) (es.map λe=>.ref e.2.1)/\Reps K H (kvs.map (·.2)) (es.map λe=>e.2.2):=by
 unfold pN WX at r
 generalize hg:(uJ ((.str "{}",.list ((kvs.map λkv=>mV w kv.1).map bS))::kvs))=d at r
 cases r with
 |@dct p es ep kws h1 h2 h3 h4=>
  injection hg with hg
  injection hg with hg1 hg2
  subst hg2;injection hg1 with _ hg1
  injection hg1 with hg1
  have e:=congrArg (MP λd:D=>match d with | .int i=>i | _=>0) hg1;simp only[bT,Function.comp_def]at e;exact⟨p,es,ep,rfl,h1,e,h2,h3,h4⟩
 |addr z=>
  injection hg with hg
  injection hg with hg1 hg2
  injection hg1 with hg1 _
  injection hg1 with hg1
  exact absurd hg1 (by decide +kernel)
 |ins _ _=>
  injection hg with hg
  injection hg with hg1 hg2
  injection hg1 with hg1 _
  injection hg1 with hg1
  exact absurd hg1 (by decide +kernel)
 |_=>cases hg
def ZF(w:World)(d k:D)(Q:D->Prop):Prop:=∃kvs,d=pN w kvs/\FH k/\(∀kv∈kvs,nZ kv.1)/\∃v,(k,v)∈kvs/\Q v
theorem WS(hu:X.A.units+9<cLine)(ha:jD X a ta)(hb:jD X b tb)(hs:T6 b:=by intro _ _;rfl):jD X (.Subscript a b pos) (UH (ZF X.w) ta tb):=by
 obtain⟨va,pa,ra⟩:=ha;obtain⟨vb,pb,rb⟩:=hb;refine⟨_,GK hu pa pb hs,λB p0 H ps σT σ Q QV o h k=>ra B p0 H ps σT σ _ _ o h λd x H1 s1 r1 q1=>?_⟩;refine rb B p0 H1 ps σT σ _ _ (o.grow s1) q1 λkd z H2 s2 r2 q2=>?_;obtain⟨kvs,rfl,⟨kok,ys,rfl⟩,hok,v,hm,q⟩:=q2;obtain⟨c,rfl⟩:=sV r2;obtain⟨p,es,ep,rfl,h1,h2,h3,h4,h5⟩:=zO (r1.same (cA s2));obtain⟨j,hj⟩:=bQ hm;obtain⟨en,e1,e2⟩:=h5.two hj;exact⟨⟨c,rfl⟩,p,es,kvs.map (·.1),_,j,en,rfl,.inr ⟨ep,bZ _ _ h1⟩,(xW (w:=X.w) h2 h3 hok h4).same bZ,r2.same bZ,kok,by rw[aH,hj];rfl,e1,k _ _ H2 (s1.trans s2) e2 q⟩
theorem NA{sts:List Stmt}{ts:TS}(p:zE X sts ts):zE X sts (λDV σ H=>∃(a:Addr)(es:List (Int×Addr×V)),H a=some (xX a es)/\∀ep,ts DV σ (gK H a (zA a es ep))):=by
 intro pins s σ H D I ⟨a,es,ha,h⟩;obtain⟨⟨h1,h2,o,xs,ep,h3,h4,h5,h6⟩,_⟩:=I.hok a _ ha;refine p pins s σ _ D ?_ (h ep);exact I.write (x:=a) (e:=a) (h':=s.heap) (t':=s.toks) (by rw[ha];exact True.intro) (.inl rfl) (λb u _ z=>z) ⟨o,h3⟩ (show lG X.prog X.w _ _ _ (zA a es ep)from⟨⟨h1,h2,o,xs,h3,h4,h5,h6⟩,⟨o,h3⟩,λh1 h2 ⟨a,b,o,xs,e,r⟩ k=>⟨a,b,o,xs,k _ e,r⟩⟩)
def VD(i:Nat)(t:nI):nI:=λDT σ=>∃hs kvs,σ[i]?=some (.dic hs kvs)/\t DT (σ.set i (.val (WX hs kvs)))
theorem CL{sts:List Stmt}{t:nI}(i:Nat)(h:qO X sts t):qO X sts (VD i t):=by
 obtain⟨v,p,r⟩:=h;refine⟨_,NA p,λB p0 H ps σT σ DT DV o h f=>?_⟩;obtain⟨hs,kvs,e,h⟩:=h;obtain⟨a,es,_,ha,hs'⟩:=o.shareD e;refine⟨a,es,ha.obj,λep=>?_⟩;obtain⟨o',s'⟩:=hs' ep;exact r B p0 _ _ _ σ DT DV o' h (f.later s')
end
end TL
namespace L2
open PySem PySem.Spec PyProof.Rows TL
def NZ(d:Addr)(i n ep:Nat)(x0 x1 k v:Value):Array Value:=#[x0,x1,.ref d,.int i 0,.int n 0,.int ep 0,k,v]
abbrev yD(h:Heap)(it d:Addr)(i n ep:Nat)(x0 x1 k v:Value):Prop:=h.get? it=some { cls:=.type "dict_itemiterator",dict:=none,data:=.fields (NZ d i n ep x0 x1 k v),slots:=#[] }
def OU(h:Heap)(it:Addr)(x0 x1:Value):Prop:=(x0=.none\/∃(a:Addr)(o:Obj),x0=rawInt a/\h.get? a=some o/\a≠it)/\∃f,x1=.bool f
def OR(h:Heap)(d:Addr)(xs:Array DictEntry)(ep:Nat):Prop:=∃o,h.get? d=some o/\o.data=.dict xs ep
section
variable{prog:bE}{w:World}{A:Around}{E:Value->Shared->Prop}{s:Shared}{it d:Addr}{i ep:Nat}{xs:Array DictEntry}{x0 x1 k v:Value}
theorem KD{a:Addr}{o:Obj}{Q:Option Obj->Shared->Prop}(ho:s.heap.get? a=some o)(h:Q (some o) s):wpAny (model prog w) A (loadIfAlive a) Q E s:=by
 have h':Q (s.heap.get? a) s:=by rw[ho];exact h
 exactλ_ _ _=>h'
theorem JY{Q:Option Value->Shared->Prop}(hit:yD s.heap it d i xs.size ep x0 x1 k v)(hg:OU s.heap it x0 x1)(hd:OR s.heap d xs ep)(hlt:i<xs.size)
  (hQ:∀(h':Heap)(y0 y1 k' v':Value),yD h' it d (i+1) xs.size ep y0 y1 k' v'->OU h' it y0 y1->(x0=.none->y0=rawInt s.heap.objs.size)->h'.get? s.heap.objs.size=some { cls:=.type "tuple",data:=.seq #[xs[i].key,xs[i].val] }->h'.objs.size=s.heap.objs.size+1 ->
   (∀b o,b≠it->s.heap.get? b=some o->h'.get? b=some o)->Q (some (.ref s.heap.objs.size)) { s with heap:=h' }):wpAny (model prog w) A (pyNext (.ref it)) Q E s:=by
 obtain⟨H,gs,dr,tk,os⟩:=s;obtain⟨od,hod,hdd⟩:=hd;have hT:Shared.TypeIs ⟨H,gs,dr,tk,os⟩ (.ref it) "dict_itemiterator":=⟨_,hit,rfl⟩;have own1:Builtin.Dict_items.ownsTuple "dict_itemiterator"=true:=by decide
 unfold pyNext;refine aB (wpAny_attempt (wpAny_callSpecial?_slot (name:=Str.ofString "__next__") hT gQ (eP gQ hT uM ?_ (uI _))));refine aB (aJ (aB (aB ?_)))
 first | refine aB (wpAny_typeNameOfWhole_itemiter hT (aJ ?_)) | refine aB (wpAny_typeNameOf_itemiter hT (aJ ?_))
 refine aB (wpAny_fieldsOf hit rfl ?_);simp only[own1,if_true];show wpAny _ _ (if(Value.ref d==Value.none)=true then _ else _) _ _ _;rw[if_neg (show¬((Value.ref d==Value.none)=true)from bW)];refine aB (aJ (aB (wpAny_dictEntries hod hdd ?_)));rw[if_neg (by simp)];refine aB (aJ (aB (wpAny_dictEpoch hod hdd ?_)));rw[if_neg (by simp)];refine aJ ?_;simp only[show¬((i:Int)<0)from by omega,if_false,iF,iI hlt];refine aB ?_
 first | refine aB (wpAny_typeNameOfWhole_itemiter hT (aJ ?_)) | refine aB (wpAny_typeNameOf_itemiter hT (aJ ?_))
 refine aB (wpAny_isOneOf_itemiter hT ?_);show wpAny _ _ (setField (.ref it) 3 (rawInt ((i:Int)+1)) >>= _) _ _ ⟨H,gs,dr,tk,os⟩;refine aB (wpAny_setField_rec hit (by simp[NZ]) λH1 e1 s1=>?_)
 replace s1:fR it H H1:=s1
 replace e1:yD H1 it d (i+1) xs.size ep x0 x1 k v:=by
  have e:((i+1:Nat):Int)=(i:Int)+1:=by omega
  unfold yD NZ;rw[e];simpa[rawInt,NZ]using e1
 have hT1:Shared.TypeIs ⟨H1,gs,dr,tk,os⟩ (.ref it) "dict_itemiterator":=⟨_,e1,rfl⟩;refine aB (wpAny_holding (aB (wpAny_isOneOf_itemiter hT1 (aB (wpAny_isOneOf_itemiter hT1 ?_)))));show wpAny _ _ (Builtin.Dict_items.pairFromOwner (.ref it) 6 xs[i].key xs[i].val) _ _ ⟨H1,gs,dr,tk,os⟩;unfold Builtin.Dict_items.pairFromOwner;refine aB (wpAny_newTuple ?_)
 generalize hH2:H1.push { cls:=.type "tuple",data:=.seq #[xs[i].key,xs[i].val] }=H2
 have e2:yD H2 it d (i+1) xs.size ep x0 x1 k v:=by rw[<- hH2];exact aI _ e1
 have z1:H1.objs.size=H.objs.size:=s1.1;have hil:it<H.objs.size:=bC hit;have t2:H2.get? H.objs.size=some { cls:=.type "tuple",data:=.seq #[xs[i].key,xs[i].val] }:=by rw[<- hH2,<- z1];exact bB _ rfl
 have z2:H2.objs.size=H.objs.size+1:=by rw[<- hH2,eA,z1]
 have k2:∀b o,b≠it->H.get? b=some o->H2.get? b=some o:=λb o hb e=>by rw[<- hH2];exact aI _ (s1.extBut b o hb e)
 have hne:H.objs.size≠it:=eZ hil;show wpAny _ _ (Builtin.Dict_items.ownedTupleIsFree (.ref it) >>= _) _ _ ⟨H2,gs,dr,tk,os⟩;rw[z1];clear hH2 e1 s1 hT1 z1;unfold Builtin.Dict_items.ownedTupleIsFree;obtain⟨hg0,f,rfl⟩:=hg;rcases hg0 with rfl | ⟨a,oa,rfl,ha,hai⟩
 ·refine aB (aB (wpAny_field e2 rfl (x:=.none) rfl (aJ ?_)));simp only[if_true];refine aB (wpAny_field e2 rfl (x:=k) rfl (aB (wpAny_field e2 rfl (x:=v) rfl ?_)));refine aB (wpAny_setField_rec e2 (by simp[NZ]) λH3 e3 s3=>?_)
  replace s3:fR it H2 H3:=s3
  replace e3:yD H3 it d (i+1) xs.size ep .none (.bool f) xs[i].key v:=e3
  refine aB (wpAny_setField_rec e3 (by simp[NZ]) λH4 e4 s4=>?_)
  replace s4:fR it H3 H4:=s4
  replace e4:yD H4 it d (i+1) xs.size ep .none (.bool f) xs[i].key xs[i].val:=e4
  refine aB (wpAny_setField_rec e4 (by simp[NZ]) λH5 e5 s5=>?_)
  replace s5:fR it H4 H5:=s5
  replace e5:yD H5 it d (i+1) xs.size ep (rawInt H.objs.size) (.bool f) xs[i].key xs[i].val:=e5
  refine aB (wpAny_setField_rec e5 (by simp[NZ]) λH6 e6 s6=>?_)
  replace s6:fR it H5 H6:=s6
  replace e6:yD H6 it d (i+1) xs.size ep (rawInt H.objs.size) (.bool false) xs[i].key xs[i].val:=e6
  have up:∀b o,b≠it->H2.get? b=some o->H6.get? b=some o:=λb o hb e=>s6.extBut b o hb (s5.extBut b o hb (s4.extBut b o hb (s3.extBut b o hb e)));exact aB (wpAny_letGo (aJ (aJ ⟨_,rfl,aJ (hQ H6 _ _ _ _ e6 ⟨.inr ⟨_,_,rfl,up _ _ hne t2,hne⟩,_,rfl⟩ (λ_=>rfl) (up _ _ hne t2) (by rw[s6.1,s5.1,s4.1,s3.1,z2]) λb o hb e=>up b o hb (k2 b o hb e))⟩)))
 ·have fin:∀H3:Heap,yD H3 it d (i+1) xs.size ep (rawInt a) (.bool true) k v->fR it H2 H3->Q (some (.ref H.objs.size)) ⟨H3,gs,dr,tk,os⟩:=λH3 e3 s3=>
   hQ H3 _ _ _ _ e3 ⟨.inr ⟨a,oa,rfl,s3.extBut _ _ hai (k2 a oa hai ha),hai⟩,_,rfl⟩ (λz=>by cases z) (s3.extBut _ _ hne t2) (by rw[s3.1,z2]) λb o hb e=>s3.extBut b o hb (k2 b o hb e)
  refine aB (aB (wpAny_field e2 rfl (x:=rawInt a) rfl ?_));show wpAny _ _ (loadIfAlive ((a:Int).toNat) >>= _) _ _ _;rw[iF];refine aB (KD (k2 a oa hai ha) ?_);simp only[Option.isNone_some,gG,if_false];refine aB (wpAny_field e2 rfl (x:=.bool f) rfl ?_)
  cases f with
  |true=>
   rw[if_neg (show¬((Value.bool true != Value.bool true)=true)from bW)];refine aJ ?_;simp only[gG,if_false];exact aJ (aJ ⟨_,rfl,aJ (fin H2 e2 (fR.refl _ _))⟩)
  |false=>
   rw[if_pos (show(Value.bool false != Value.bool true)=true from rfl)];refine aB (wpAny_setField_rec e2 (by simp[NZ]) λH3 e3 s3=>?_);refine aJ ?_;simp only[gG,if_false];exact aJ (aJ ⟨_,rfl,aJ (fin H3 e3 s3)⟩)
theorem NY{Q:Option Value->Shared->Prop}(hh:A.handled=none)(hit:yD s.heap it d i xs.size ep x0 x1 k v)(hd:OR s.heap d xs ep)(hge:xs.size<=i)
  (hQ:∀h',BW it s.heap h'->Q none { s with heap:=h' }):wpAny (model prog w) A (pyNext (.ref it)) Q E s:=by
 obtain⟨od,hod,hdd⟩:=hd;have hT:s.TypeIs (.ref it) "dict_itemiterator":=⟨_,hit,rfl⟩;have own1:Builtin.Dict_items.ownsTuple "dict_itemiterator"=true:=by decide
 unfold pyNext;refine aB (wpAny_attempt (wpAny_callSpecial?_slot (name:=Str.ofString "__next__") hT gQ (eP gQ hT uM ?_ (uI _))));refine aB (aJ (aB (aB ?_)))
 first | refine aB (wpAny_typeNameOfWhole_itemiter hT (aJ ?_)) | refine aB (wpAny_typeNameOf_itemiter hT (aJ ?_))
 refine aB (wpAny_fieldsOf hit rfl ?_);simp only[own1,if_true];show wpAny _ _ (if(Value.ref d==Value.none)=true then _ else _) _ _ s;rw[if_neg (show¬((Value.ref d==Value.none)=true)from bW)];refine aB (aJ (aB (wpAny_dictEntries hod hdd ?_)));rw[if_neg (by simp)];refine aB (aJ (aB (wpAny_dictEpoch hod hdd ?_)));rw[if_neg (by simp)];refine aJ ?_;simp only[show¬((i:Int)<0)from by omega,if_false,iF,iB hge];refine aB ?_
 first | refine aB (wpAny_typeNameOfWhole_itemiter hT (aJ ?_)) | refine aB (wpAny_typeNameOf_itemiter hT (aJ ?_))
 show wpAny _ _ (setField (.ref it) 2 .none >>= _) _ _ s;refine aB (wpAny_setField hit rfl (by simp[NZ]) ?_);show wpAny _ _ (newExc (.type "StopIteration") [] >>= _) _ _ _;refine aB ?_;simp only[newExc,newTuple];refine aB (eH ?_ (by size_fits));refine aB (m:=firstArgMember _ _) (wpAny_of_eq (a:=Value.none) (by first | rfl | (simp only[firstArgMember];rfl)) ?_);refine eH ?_ (by size_fits);simp only[raiseNew];refine aB (wpAny_handled ?_)
 first | rw[show A.in1.handled=none from hh] | rw[hh]
 refine aB (aJ (wpAny_throw ?_));refine aB (wpAny_isInstance (T:="StopIteration") (b:=true) ⟨_,bB _ rfl,rfl⟩ isSubtype_stop ?_);exact aJ (hQ _ (((fR.update ..).extBut.push _).push _))
structure Got(xs:Array DictEntry)(S it lo:Addr)(h:Heap)(as:List Addr):Prop where
 rise:as.Pairwise (·<·)
 above:∀a∈as,lo<=a/\a≠S/\a≠it
 tups:∀(j:Nat)(a:Addr),as[j]?=some a->∃e,xs[j]?=some e/\h.get? a=some { cls:=.type "tuple",data:=.seq #[e.key,e.val] }
theorem Got.stay{S lo:Addr}{h h':Heap}{as:List Addr}(g:Got xs S it lo h as)(hk:∀b o,b≠S->b≠it->h.get? b=some o->h'.get? b=some o):Got xs S it lo h' as:=
 ⟨g.rise,g.above,λj a e=>by
  obtain⟨x,h1,h2⟩:=g.tups j a e;obtain⟨_,n1,n2⟩:=g.above a (aR e);exact⟨x,h1,hk _ _ n1 n2 h2⟩⟩
theorem OU.stay{h h':Heap}{x0 x1:Value}(g:OU h it x0 x1)(hk:∀b o,b≠it->h.get? b=some o->∃o',h'.get? b=some o'):OU h' it x0 x1:=by
 obtain⟨g,f⟩:=g;refine⟨?_,f⟩;rcases g with g | ⟨a,o,e,ha,hn⟩
 ·exact .inl g
 ·obtain⟨o',h'⟩:=hk a o hn ha;exact .inr ⟨a,o',e,h',hn⟩
theorem JZ{S:Addr}{R:Result->Shared->Prop}(hh:A.handled=none)(hSI:S≠it)(hSd:d≠S)(hdi:d≠it)(hn:xs.size<=bU)(res:Value){h0:Heap}{lo:Addr}
  (hR:∀(h':Heap)(tk:Nat)(acc:Array Value)(c:Nat)(as:List Addr),(∀b o,b≠S->b≠it->h0.get? b=some o->h'.get? b=some o)->h'.get? S=some { cls:=.type "list",dict:=none,data:=.seq acc c,slots:=#[] }->as.length=xs.size->Got xs S it lo h' as->acc.toList=as.map Value.ref->R (.ok (.ret res)) { s with heap:=h',toks:=tk }) :
  ∀(m i:Nat)(h:Heap)(tk c:Nat)(acc:Array Value)(as:List Addr)(x0 x1 k v:Value),xs.size-i=m->i<=xs.size->yD h it d i xs.size ep x0 x1 k v->OU h it x0 x1->OR h d xs ep->(∀b o,b≠S->b≠it->h0.get? b=some o->h.get? b=some o) ->
   h.get? S=some { cls:=.type "list",dict:=none,data:=.seq acc c,slots:=#[] }->acc.toList=as.map Value.ref->as.length=i->Got xs S it lo h as->lo<=h.objs.size ->
   codeAny (model prog w) A (.builtin "list.extend.loop" ⟨[.ref S,.ref it,res],[]⟩) R { s with heap:=h,toks:=tk }:=by
 intro m
 induction m with
 |zero=>
  intro i h tk c acc as x0 x1 k v hm hi hit hg hd hk hS hacc hal hG hlo;refine codeAny_builtin BX ?_;rw[Around.under_plainId gH _];show wpAny _ A.in1 (pyNext (.ref it) >>= _) _ _ _;refine aB (NY (s:={ s with heap:=h,toks:=tk }) (A:=A.in1) (xs:=xs) hh hit hd (by omega) λh' he=>?_);exact aJ (hR h' tk acc c as (λb o n1 n2 e=>he b o n2 (hk b o n1 n2 e)) (he S _ hSI hS) (by omega) (hG.stay λb o _ n2 e=>he b o n2 e) hacc)
 |succ m ih=>
  intro i h tk c acc as x0 x1 k v hm hi hit hg hd hk hS hacc hal hG hlo;have hlt:i<xs.size:=by omega
  have hsz:acc.size=i:=by rw[<- fF,hacc,aE,hal]
  have hSl:S<h.objs.size:=bC hS;have hil:it<h.objs.size:=bC hit;refine codeAny_builtin BX ?_;rw[Around.under_plainId gH _];show wpAny _ A.in1 (pyNext (.ref it) >>= _) _ _ _;refine aB (JY (s:={ s with heap:=h,toks:=tk }) (A:=A.in1) hit hg hd hlt λh' y0 y1 k' v' hit' hg' _ ht hz hkp=>?_);dsimp only at ht hz hkp |-
  have hS':=hkp S _ hSI hS;have up:∀b o,b≠S->h'.get? b=some o->(h'.update S (Obj.mapSeq (·.push (Value.ref h.objs.size)))).get? b=some o:=λb o hb e=>(cZ _ _ (Ne.symm hb)).trans e;have hSn:=dR (Obj.mapSeq (·.push (Value.ref h.objs.size))) hS' rfl;have kk:∀b o,b≠S->b≠it->h.get? b=some o->(h'.update S (Obj.mapSeq (·.push (Value.ref h.objs.size)))).get? b=some o:=λb o n1 n2 e=>up b o n1 (hkp b o n2 e);show wpAny _ A.in1 (updateSeq S (·.push (Value.ref h.objs.size)) >>= _) _ _ _
  refine aB (wpAny_updateSeq hS' rfl (aJ ⟨plainId_quiet gH _,ih (i+1) _ tk _ (acc.push (Value.ref h.objs.size)) (as++[h.objs.size]) y0 y1 k' v' (by omega) hlt (up it _ (Ne.symm hSI) hit') (hg'.stay λb o _ e=>?_) (let ⟨o,h1,h2⟩:=hd;⟨o,kk d o hSd hdi h1,h2⟩)
   (λb o n1 n2 e=>kk b o n1 n2 (hk b o n1 n2 e)) hSn (by rw[O9,hacc,bY];rfl) (by rw[aZ,hal];rfl) ⟨?_,λa ha=>?_,λj a hj=>?_⟩ ?_⟩) (by rw[hsz];omega) (by show(acc.push (Value.ref h.objs.size)).size<=bU+1;rw[Array.size_push,hsz];omega))
  ·by_cases hb:b=S
   ·exact⟨_,by rw[hb];exact hSn⟩
   ·exact⟨o,up b o hb e⟩
  ·refine MM.mpr ⟨hG.rise,HZ _ _,λa ha b hb=>?_⟩;rw[aW.mp hb];obtain⟨j,hj⟩:=bQ ha;obtain⟨_,_,h2⟩:=hG.tups j a hj;exact bC h2
  ·rcases dO.mp ha with ha | ha
   ·exact hG.above a ha
   ·rw[aW.mp ha];exact⟨hlo,eZ hSl,eZ hil⟩
  ·by_cases hjl:j<as.length
   ·rw[dP hjl]at hj;exact(hG.stay kk).tups j a hj
   ·rw[dZ (by omega)]at hj
    have hj0:j-as.length=0:=by
     cases hq:j-as.length with
     |zero=>rfl
     |succ q=>rw[hq]at hj;simp at hj
    rw[hj0]at hj;have ea:h.objs.size=a:=by simpa using hj
    have ej:j=i:=by omega
    subst ea ej;exact⟨xs[j],iI hlt,up _ _ (eZ hSl) ht⟩
  ·have e:=up _ _ (eZ hSl) ht;exact mB (UA hlo (bC e))
def DX(v d:Addr)(h:Heap):Prop:=∃o,h.get? v=some o/\o.cls=.type "dict_items"/\o.data=.fields #[.ref d]
theorem J1{vw:Addr}{Q:Value->Shared->Prop}(hv:DX vw d s.heap)(hd:OR s.heap d xs ep)
  (hQ:Q (.ref s.heap.objs.size) { s with heap:=s.heap.push { cls:=.type "dict_itemiterator",data:=.fields (NZ d 0 xs.size ep .none (.bool false) .none .none) } }):wpAny (model prog w) A (pyIter (.ref vw)) Q E s:=by
 obtain⟨ov,hov,hcv,hdv⟩:=hv;obtain⟨o,ho,hdat⟩:=hd;have hT:s.TypeIs (.ref vw) "dict_items":=⟨ov,hov,hcv⟩;refine wpAny_pyIter_slot hT zI (eP zI hT PySem.F.entry_dict_items_iter ?_ (PySem.F.args_dict_items_iter_1 _));unfold Builtin.«dict_items.__iter__»;refine aB (aJ (aB ?_));unfold Builtin.Dict_items.dictOf;refine aB (wpAny_field hov hdv (x:=.ref d) rfl (aJ (aB ?_)));unfold Builtin.Dict_items.newIterator;refine aB (wpAny_dictEntries ho hdat (aB (wpAny_dictEpoch ho hdat ?_)));have own1:Builtin.Dict_items.ownsTuple "dict_itemiterator"=true:=by decide
 simp only[own1,if_true]
 refine eH (aJ ⟨_,rfl,"dict_itemiterator",_,⟨_,bB _ rfl,rfl⟩,gQ.lookup,?_⟩)
  (by simp only[sizeOk,Builtin.Dict_items.ownedTupleFields,bH,aZ,cE,iG,sizeLine_eq];omega)
 simpa[rawInt,NZ,Builtin.Dict_items.ownedTupleFields]using hQ
theorem J2{vw:Addr}(hT:s.TypeIs (.ref vw) "dict_items"){Q:Bool->Shared->Prop}(h:Q false s):wpAny (model prog w) A (Builtin.List.listLengthHint (.ref vw)) Q E s:=PySem.W.kdx_hint hT h
theorem zB{vw:Addr}{Q:Value->Shared->Prop}(hh:A.handled=none)(hv:DX vw d s.heap)(hd:OR s.heap d xs ep)(hn:xs.size<=bU)
  (hQ:∀(h':Heap)(tk:Nat)(acc:Array Value)(c:Nat)(as:List Addr),(∀b o,s.heap.get? b=some o->h'.get? b=some o)->h'.get? s.heap.objs.size=some { cls:=.type "list",dict:=none,data:=.seq acc c,slots:=#[] }->as.length=xs.size->Got xs s.heap.objs.size (s.heap.objs.size+1) s.heap.objs.size h' as->acc.toList=as.map Value.ref->Q (.ref s.heap.objs.size) { s with heap:=h',toks:=tk }) :
  wpAny (model prog w) A (call (.type "list") [.ref vw]) Q E s:=by
 have hvl:vw<s.heap.objs.size:=let ⟨_,ho,_⟩:=hv;bC ho
 have hdl:d<s.heap.objs.size:=let ⟨_,ho,_⟩:=hd;bC ho
 refine callType_codes (Q₁:=λobj s₁=>obj=.ref s.heap.objs.size/\s₁={ s with heap:=s.heap.push { cls:=.type "list",data:=.seq #[] } }) II (DP _) DR (code_list_new _ ⟨rfl,rfl⟩) λobj s₁ h₁=>?_;obtain⟨rfl,rfl⟩:=h₁
 generalize hG1:s.heap.push { cls:=.type "list",data:=.seq #[] }=G1
 have hS:G1.get? s.heap.objs.size=some { cls:=.type "list",data:=.seq #[] }:=by rw[<- hG1];exact bB _ rfl
 have k1:∀b o,s.heap.get? b=some o->G1.get? b=some o:=λb o e=>by rw[<- hG1];exact aI _ e
 have z1:G1.objs.size=s.heap.objs.size+1:=by rw[<- hG1,eA]
 generalize hSz:s.heap.objs.size=S at *
 refine⟨⟨_,hS,rfl⟩,CF _ _,?_⟩;show wpAny _ _ (do let old <- Builtin.List.listItems (.ref S);Builtin.List.listUpdate (.ref S) (λ_=>#[]);letGo old.toList.reverse;Builtin.List.listExtendWith (.ref S) (.ref vw) .none) _ _ _;refine aB ?_;unfold Builtin.List.listItems;refine aB (wpAny_seqItems hS rfl (aJ ?_));show wpAny _ _ (updateSeq S (λ_=>#[]) >>= λ_=>letGo (#[]:Array Value).toList.reverse >>= λ_=>Builtin.List.listExtendWith (.ref S) (.ref vw) .none) _ _ _;refine aB (wpAny_updateSeq hS rfl ?_);have hS2:=dR (Obj.mapSeq (λ_=>(#[]:Array Value))) hS rfl
 generalize hG2:G1.update S (Obj.mapSeq (λ_=>(#[]:Array Value)))=G2 at hS2
 have k2:∀b o,b≠S->G1.get? b=some o->G2.get? b=some o:=λb o hb e=>by rw[<- hG2];exact(cZ _ _ (Ne.symm hb)).trans e
 have z2:G2.objs.size=S+1:=by rw[<- hG2,zZ,z1]
 have hv2:DX vw d G2:=let ⟨o,h1,h2⟩:=hv;⟨o,k2 vw o (bP hvl) (k1 vw o h1),h2⟩
 have hd2:OR G2 d xs ep:=let ⟨o,h1,h2⟩:=hd;⟨o,k2 d o (bP hdl) (k1 d o h1),h2⟩
 refine aB (wpAny_letGo ?_);unfold Builtin.List.listExtendWith;have hT2:Shared.TypeIs { s with heap:=G2 } (.ref vw) "dict_items":=let ⟨o,h1,h2,_⟩:=hv2;⟨o,h1,h2⟩
 refine aB (wpAny_typeOf hT2 ?_)
 have b1:Builtin.List.listSameRef (.ref S) (.ref vw)=false:=by
  show(S==vw)=false;exact beq_eq_false_iff_ne.mpr (eZ hvl)
 have b2:(Value.type "dict_items"==Value.type "list")=false:=by decide
 have b3:(Value.type "dict_items"==Value.type "tuple")=false:=by decide
 simp only[b1,b2,b3,qY,gG,if_false];refine aB (J1 (s:={ s with heap:=G2 }) hv2 hd2 ?_);show wpAny _ _ _ _ _ { s with heap:=G2.push _ }
 generalize hG3:G2.push { cls:=.type "dict_itemiterator",data:=.fields (NZ d 0 xs.size ep .none (.bool false) .none .none) }=G3
 have k3:∀b o,G2.get? b=some o->G3.get? b=some o:=λb o e=>by rw[<- hG3];exact aI _ e
 have hI3:yD G3 (S+1) d 0 xs.size ep .none (.bool false) .none .none:=by rw[<- hG3,<- z2];exact bB _ rfl
 have z3:G3.objs.size=S+2:=by rw[<- hG3,eA,z2]
 have hT3:Shared.TypeIs { s with heap:=G3 } (.ref vw) "dict_items":=let ⟨o,h1,h2⟩:=hT2;⟨o,k3 _ _ h1,h2⟩
 refine aB (wpAny_holding (J2 hT3 ?_));have neSI:S≠S+1:=bP (sE _)
 have key:∀(h:Heap)(c tk:Nat),(∀b o,b≠S->G3.get? b=some o->h.get? b=some o)->S<=h.objs.size->h.get? S=some { cls:=.type "list",dict:=none,data:=.seq #[] c,slots:=#[] } ->
   codeAny (model prog w) A.in1 (.builtin "list.extend.loop" ⟨[.ref S,.ref (S+1),.none],[]⟩) (wants (λr s₂=>r=Value.none/\Q (.ref S) s₂) E) { s with heap:=h,toks:=tk }:=λh c tk kk hlo hSh=>by
  refine JZ (s:=s) (xs:=xs) (ep:=ep) (h0:=G3) (lo:=S) (A:=A.in1) (by simp[hh]) neSI (bP hdl) (bP (kA hdl)) hn .none (λh' tk' acc c' as hk hS' hl hG hacc=>⟨rfl,?_⟩)
   xs.size 0 h tk c #[] [] _ _ _ _ (zK _) (dS _) (kk _ _ (Ne.symm neSI) hI3) ⟨.inl rfl,_,rfl⟩ (let ⟨o,h1,h2⟩:=hd2;⟨o,kk d o (bP hdl) (k3 _ _ h1),h2⟩) (λb o n1 _ e=>kk b o n1 e) hSh rfl rfl ⟨qX.nil,(λ_ ha=>nomatch ha),(λj a hj=>by simp at hj)⟩ hlo
  refine hQ h' tk' acc c' as (λb o e=>?_) hS' hl hG hacc;have hb:b<S:=by rw[<- hSz];exact bC e
  exact hk b o (bP hb) (bP (kA hb)) (k3 b o (k2 b o (bP hb) (k1 b o e)))
 dsimp only;rw[z2];refine wpAny_ite_split (λ_=>?_) (λ_=>aJ ⟨plainId_quiet gH _,key _ _ _ (λb o _ e=>e) (by rw[z3];omega) (k3 _ _ hS2)⟩);have hS3:=k3 _ _ hS2;refine aB (wpAny_rule (aB ?_));show wpAny _ _ (updateSeq S (·.push .none) >>= λ_=>updateSeq S (·.pop)) _ _ _;refine aB (wpAny_updateSeq hS3 rfl ?_);have hS4:=dR (Obj.mapSeq (·.push Value.none)) hS3 rfl;refine wpAny_updateSeq (hz:=by seq_fits) hS4 rfl ?_;have hS5:=dR (Obj.mapSeq (·.pop)) hS4 rfl;exact aJ ⟨plainId_quiet gH _,key _ _ _ (λb o hb e=>(cZ _ _ (Ne.symm hb)).trans ((cZ _ _ (Ne.symm hb)).trans e)) (mB (bC hS5)) hS5⟩
end
section
variable{X:Cx}{pins:List (Addr×Obj)}{σ:St}{H H':Hp}{s:Shared}
theorem dM.laidM{h':Heap}{t':Nat}(I:dM X pins σ H s)(k:∀b u,s.heap.get? b=some u->h'.get? b=some u)(sH:bL H H')(new:∀a o,H' a=some o->H a=none->s.heap.objs.size<=a/\lG X.prog X.w H' h' a o):dM X pins σ H' { s with heap:=h',toks:=t' }:=by
 refine I.un ⟨λb ob q _ _ _=>k b ob q,λb ob q _ _ _=>⟨ob.slots,k b ob q⟩,λb ob q n _=>?_,λb ob q _=>⟨ob,k b ob q⟩,λb xs q=>sH _ _ q,λb o u q=>sH _ _ q,λb ps q=>⟨#[],by rw[sH _ _ q];simp⟩⟩ λa o e=>?_
 ·cases e:H' b with
  |none=>rfl
  |some o=>exact absurd (bC q) (Nat.not_lt.mpr (new b o e n).1)
 ·cases q:H a with
  |none=>exact(new a o e q).2
  |some u=>
   have e':=sH _ _ q;rw[e]at e';cases e';exact(I.hok a o q).stay (λb v _ z=>k b v z) (λb z=>sH _ _ z) (λb xs z=>sH _ _ z) λb ob v z=>sH _ _ z
def AB(v p:Addr):HO:=.ext (DX v p)
theorem RX:MtR X "dict.items" (λx xs H Q=>xs=[]/\∃(p:Addr)(es:List (Int×Addr×V)),x=.ref p/\FU H p es/\∀v,H v=none->Q (.ref v) (gK H v (AB v p))):=by
 intro pins s σ H x xs v us Q I rx r h;obtain⟨rfl,p,es,rfl,hp,q⟩:=h;cases rx;cases r;have hT:=DY I hp;obtain⟨hs,_⟩:=FU.at I hp;refine eP DQ hT PySem.F.entry_dict_items ?_ (PySem.F.args_dict_items_1 _);unfold Builtin.«dict.items»;refine aB ?_;unfold Builtin.Dict.noArgs;refine aB (wpAny_notOrdered_dict hT ?_);show wpAny _ _ (pure p) _ _ s;refine aJ ?_;show wpAny _ _ (Builtin.Dict.showsAll p >>= _) _ _ s;unfold Builtin.Dict.showsAll;rw[if_neg (by rw[hs];exact bW)];refine aB (aJ (aB (eH (aJ ⟨_,rfl,?_⟩))));exact⟨.ref s.heap.objs.size,_,I.laid (t':=s.toks) (o:=AB s.heap.objs.size p) (λ_ _ e=>aI _ e) (aN _) ⟨⟨_,bB _ rfl,rfl,rfl⟩,⟨_,bB _ rfl⟩,λh1 h2 ⟨o,e,r⟩ k=>⟨o,k _ e,r⟩⟩,rfl,q _ (I.hok.fresh (aN _))⟩
end
section
variable{X:Cx}{o:Expr}{to:TE}{apos cpos:Pos}
theorem NF(ho:PE X o to)(hbase:attributeBase o "items" X.env (eval o X.env)=eval o X.env:=by rfl)(hline:(apos.endLine==cpos.line)=true:=by rfl) :
  PE X (.Call (.Attribute o "items" apos) [] [] cpos) (λσ H Q=>to σ H λx H1=>∃(p:Addr)(es:List (Int×Addr×V)),x=.ref p/\FU H1 p es/\∀v,H1 v=none->Q (.ref v) (gK H1 v (AB v p))):=by
 intro pins s σ H Q I h;refine wpAny_Call_method0_late hbase hline (kJ (ho pins s σ H _ I h) λv s1 ⟨x,H1,I1,r1,p,es,ex,hp,q1⟩=>?_);subst ex;obtain rfl:v=Value.ref p:=r1;obtain⟨_,_,ob,ds,ep,h3,h4,_⟩:=FU.at I1 hp;exact⟨"dict","dict.items",PySem.F.plainAttrs_dict,DQ,PySem.F.type_dict_items,DY I1 hp,λa e=>by cases e;exact⟨ob,h3,h4.2.1⟩,Calls.callWith_builtin rfl (PySem.evalArgs_none (RX pins s1 σ H1 (.ref p) [] (.ref p) [] Q I1 rfl .nil ⟨rfl,p,es,rfl,hp,q1⟩))⟩
end
theorem GS{β:Type}{b:Addr}{y:β}:∀{as:List Addr}{ys:List β}{j:Nat},as.Nodup->as[j]?=some b->ys[j]?=some y->(as.zip ys).lookup b=some y
|[],_,j,_,h,_=>by simp at h
|a::as,[],j,_,_,h=>by simp at h
|a::as,z::ys,0,_,h1,h2=>by
 simp at h1 h2;subst h1 h2;simp[vA]
|a::as,z::ys,j+1,nd,h1,h2=>by
 rw[jB]at nd;have h1':as[j]?=some b:=by simpa using h1
 have h2':ys[j]?=some y:=by simpa using h2
 have ne:(b==a)=false:=beq_eq_false_iff_ne.mpr λe=>nd.1 (e▸aR h1');rw[O5,gY,ne];exact GS nd.2 h1' h2'
theorem AZ{β:Type}{b:Addr}{y:β}:∀{as:List Addr}{ys:List β},(as.zip ys).lookup b=some y->∃j:Nat,as[j]?=some b/\ys[j]?=some y
|[],_,h=>by simp[vA]at h
|a::as,[],h=>by simp[vA]at h
|a::as,z::ys,h=>by
 rw[O5,gY]at h
 cases e:(b==a)with
 |true=>
  rw[e]at h;have e':b=a:=eq_of_beq e;exact⟨0,by simp[e'],by simpa using h⟩
 |false=>
  rw[e]at h;obtain⟨j,h1,h2⟩:=AZ h;exact⟨j+1,by simpa using h1,by simpa using h2⟩
section
variable{X:Cx}
theorem BH:∀{es:List (Int×Addr×V)}{ds:List DictEntry}{j:Nat}{d:DictEntry},Paired KJ es ds->ds[j]?=some d->∃e,es[j]?=some e/\KJ e d
|_,_,_,_,.nil,h=>by simp at h
|_,_,0,_,.cons r t,h=>by simp at h;subst h;exact⟨_,rfl,r⟩
|_,_,j+1,d,.cons r t,h=>by
 obtain⟨e,h1,h2⟩:=BH (j:=j) (d:=d) t (by simpa using h);exact⟨e,by simpa using h1,h2⟩
theorem xZ(hc:X.calm=true):lH X (.type "list") (λxs H Q=>∃(v p:Addr)(es:List (Int×Addr×V)),xs=[.ref v]/\H v=some (AB v p)/\FU H p es /\
  ∀(as:List Addr)(l:Addr)(H':Hp),bL H H'->H l=none->as.length=es.length->(∀(j:Nat)(a:Addr)(e:Int×Addr×V),as[j]?=some a->es[j]?=some e->H a=none/\H' a=some (.tup [.ref e.2.1,e.2.2]))->H' l=some (.lst (as.map V.ref))->Q (.ref l) H'):=by
 intro pins s σ H xs us Q I r h;obtain⟨v,p,es,rfl,hv,hp,q⟩:=h;obtain⟨u,rfl,rx⟩:=rY r;cases rx;obtain⟨hva,_⟩:=I.hok v _ hv;obtain⟨_,hlen,ob,ds,ep,h3,h4,h5,h6⟩:=FU.at I hp;have hsz:es.length=ds.size:=by rw[<- fF];exact Paired.length h6
 refine zB (xs:=ds) (ep:=ep) (d:=p) (I.ok.hd hc) hva ⟨ob,h3,h5⟩ (by omega) λh' tk acc c as kk hS hal hG hacc=>?_;have nd:as.Nodup:=hG.rise.imp λh=>bP h
 generalize hl:s.heap.objs.size=l at *
 let pr:List HO:=es.map λe=>HO.tup [.ref e.2.1,e.2.2]
 let H':Hp:=λb=>if b=l then some (.lst (as.map V.ref))else match(as.zip pr).lookup b with | some o=>some o | none=>H b
 have frl:∀a,l<=a->H a=none:=λa ha=>I.hok.fresh (by rw[hl];exact ha)
 have at_as:∀(j:Nat)(a:Addr)(e:Int×Addr×V),as[j]?=some a->es[j]?=some e->H' a=some (.tup [.ref e.2.1,e.2.2]):=λj a e h1 h2=>by
  have na:a≠l:=(hG.above a (aR h1)).2.1;show(if a=l then _ else _)=_;rw[if_neg na,GS nd h1 (y:=HO.tup [.ref e.2.1,e.2.2]) (by show(es.map _)[j]?=_;rw[aH,h2];rfl)]
 have sH:bL H H':=λb o e=>by
  have nb:¬l<=b:=λz=>by rw[frl b z]at e;cases e
  show(if b=l then _ else _)=_;rw[if_neg (show¬b=l fromλz=>nb (nP z.symm))]
  cases hq:(as.zip pr).lookup b with
  |none=>exact e
  |some y=>
   obtain⟨j,h1,_⟩:=AZ hq;exact absurd (hG.above b (aR h1)).1 nb
 have hlH:H' l=some (.lst (as.map V.ref)):=if_pos rfl;refine⟨.ref l,H',I.laidM (t':=tk) kk sH λa o e n=>?_,rfl,q as l H' sH (frl l (aN _)) (by omega) (λj a e h1 h2=>⟨frl a (hG.above a (aR h1)).1,at_as j a e h1 h2⟩) hlH⟩;have hL:bU=2^24:=rfl;by_cases ea:a=l
 ·subst ea;rw[hlH]at e;cases e;refine⟨by rw[hl];exact aN _,by rw[aE];omega,acc.toList,c,?_,by simpa using hS⟩;rw[hacc];clear hacc hG nd pr H' frl at_as sH hlH q hS hal
  induction as with
  |nil=>exact .nil
  |cons x as ih=>exact .cons rfl ih
 ·have e':(match(as.zip pr).lookup a with | some o=>some o | none=>H a)=some o:=by
   have:=e;show _=_;rw[<- this];exact(if_neg ea).symm
  cases hq:(as.zip pr).lookup a with
  |none=>rw[hq]at e';rw[n]at e';cases e'
  |some y=>
   rw[hq]at e';cases e';obtain⟨j,h1,h2⟩:=AZ hq;obtain⟨d,d1,d2⟩:=hG.tups j a h1;obtain⟨en,e1,e2⟩:=BH h6 (j:=j) (d:=d) (by simpa using d1);have h2':(es.map λe=>HO.tup [.ref e.2.1,e.2.2])[j]?=some o:=h2;rw[aH,e1]at h2';cases h2';exact⟨by rw[hl];exact(hG.above a (aR h1)).1,by show 2<=bU;omega,[d.key,d.val],.cons e2.2.1 (.cons e2.2.2 .nil),⟨_,d2,rfl,_,rfl,rfl⟩⟩
end
end L2
namespace TL
open PySem PySem.Spec PyProof.Rows L2
theorem yH{K:aG}{H:Hp}:∀{ds:List D}{vs:List V},ds.length=vs.length->(∀(j:Nat)(d:D)(v:V),ds[j]?=some d->vs[j]?=some v->jF K H d v)->Reps K H ds vs
|[],[],_,_=>.nil
|[],_::_,h,_=>by simp at h
|_::_,[],h,_=>by simp at h
|d::ds,v::vs,h,k=>.cons (k 0 d v rfl rfl) (yH (by simpa using h) λj d' v' h1 h2=>k (j+1) d' v' (by simpa using h1) (by simpa using h2))
section
variable{X:Cx}{n:Expr}{te:ET}{pos:Pos}
def aBr(w:World)(te:ET):ET:=λσ Q=>te σ λd=>∃kvs,d=pN w kvs/\Q (.list (kvs.map λkv=>.tuple [kv.1,kv.2]))
theorem OA{g1:Expr}{ap cp:Pos}(he:jD X n te)
  (pc:∀{v:TE},PE X n v->PE X (.Call g1 [.Call (.Attribute n "items" ap) [] [] cp] [] pos) (P0 (λxs H Q=>∃(v p:Addr)(es:List (Int×Addr×V)),xs=[.ref v]/\H v=some (AB v p)/\FU H p es /\
  ∀(as:List Addr)(l:Addr)(H':Hp),bL H H'->H l=none->as.length=es.length->(∀(j:Nat)(a:Addr)(e:Int×Addr×V),as[j]?=some a->es[j]?=some e->H a=none/\H' a=some (.tup [.ref e.2.1,e.2.2]))->H' l=some (.lst (as.map V.ref))->Q (.ref l) H')
   (pO (λσ H Q=>v σ H λx H1=>∃(p:Addr)(es:List (Int×Addr×V)),x=.ref p/\FU H1 p es/\∀v,H1 v=none->Q (.ref v) (gK H1 v (AB v p))) yX))) :
  jD X (.Call g1 [.Call (.Attribute n "items" ap) [] [] cp] [] pos) (aBr X.w te):=by
 obtain⟨v,pe,re⟩:=he;refine⟨_,pc pe,λB p0 H ps σT σ Q QV o h k=>re B p0 H ps σT σ _ _ o h λd x H1 s1 r1 q1=>?_⟩;obtain⟨kvs,rfl,q⟩:=q1;obtain⟨p,es,ep,rfl,h1,h2,h3,h4,h5⟩:=zO r1;have hp:=bZ _ _ h1;refine⟨p,es,rfl,.inr ⟨ep,hp⟩,λvw hvw=>⟨vw,p,es,rfl,cO,.inr ⟨ep,(by rw[cJ (dC hp hvw)];exact hp)⟩,λas l H' sH hl hal hat hL=>?_⟩⟩;have s2:bL H1 H':=(dU hvw).trans sH;have live:=(o.grow s1).live;have fr:∀a,gK H1 vw (AB vw p) a=none->a∉ps:=λa ha=>eS live (bL.free' (dU hvw) ha)
 have hlen:kvs.length=es.length:=by
  have:=congrArg kU h2;simpa using this
 refine k _ _ H' (s1.trans s2) (.list (oM.of (iN (fr l hl) hL)) (yH (by rw[aE,aE];omega) λj d v e1 e2=>?_)) q;rw[aH]at e1 e2;obtain⟨kv,k1,rfl⟩:=bK.mp e1;obtain⟨a,a1,rfl⟩:=bK.mp e2;obtain⟨e,he⟩:∃e,es[j]?=some e:=⟨_,aF (by rw[<- hlen];exact(aD.mp k1).1)⟩;obtain⟨f1,f2⟩:=hat j a e a1 he;have ms:=cA (ps:=ps) s2;obtain⟨x1,y1,y2⟩:=(h4.same ms).get (i:=j) (d:=kv.1) (by rw[aH,k1];rfl);obtain⟨x2,z1,z2⟩:=(h5.same ms).get (i:=j) (d:=kv.2) (by rw[aH,k1];rfl);rw[aH,he]at y1 z1;cases y1;cases z1;exact .tuple (qE.of (iN (fr a f1) f2)) (.cons y2 (.cons z2 .nil))
end
end TL
namespace L2
open PySem PySem.Spec PyProof.Rows
section
variable{prog:bE}{w:World}{A:Around}
theorem HG{R:Result->Shared->Prop}{I ax:Addr}(S:Addr)(hS1:S≠I)(hS2:S≠ax)(hax:ax≠I)(hh:A.handled=none){its:List Value}{ys:List Str}(hys:StrsAre its ys)(hb:ys.length+1<scanBound) :
  ∀(k i:Nat)(s:Shared),its.length-i=k->i<=its.length->s.heap.IsListIter I ax i->s.heap.IsList ax its.toArray->DO prog w s.heap S (dd (ys.take i)) ->
   (∀h' tk,(∀b o,b≠S->b≠I->s.heap.get? b=some o->h'.get? b=some o)->DO prog w h' S (dd ys)->R (.ok (.ret .none)) { s with heap:=h',toks:=tk }) ->
   codeAny (model prog w) A (.builtin "set.update.loop" ⟨[.ref S,.ref I],[]⟩) R s:=by
 have hlen:its.length=ys.length:=by
  clear hb
  induction hys with
  |nil=>rfl
  |cons y t _ ih=>simp[ih]
 intro k
 induction k with
 |zero=>
  intro i s hk hi h1 h2 h3 hR;obtain rfl:i=its.length:=by omega
  refine codeAny_builtin PyProof.Rows.F.entry_set_update_loop ?_;rw[Around.under_plainId PyProof.Rows.F.plain_set_update_loop _];show wpAny _ A.in1 (pyNext (.ref I) >>= _) _ _ s;refine aB ((Walks.list (prog:=prog) (w:=w) (A:=A.in1) hh I ax hax its.toArray).done s _ _ (by rw[bH];exact⟨h1,h2⟩) λh' tk kk=>?_);show wpAny _ A.in1 (ret Value.none) _ _ _;refine aJ (hR h' tk (λb o _ hb e=>kk b o (by simpa using hb) e) ?_);rw[jG (by omega)]at h3;obtain⟨o,es,ep,t,ho,rest⟩:=h3;exact⟨o,es,ep,t,kk S o (by simpa using hS1) ho,rest⟩
 |succ k ih=>
  intro i s hk hi h1 h2 h3 hR;have hlt:i<its.length:=by omega
  refine codeAny_builtin PyProof.Rows.F.entry_set_update_loop ?_;rw[Around.under_plainId PyProof.Rows.F.plain_set_update_loop _];show wpAny _ A.in1 (pyNext (.ref I) >>= _) _ _ s;refine aB ((Walks.list (prog:=prog) (w:=w) (A:=A.in1) hh I ax hax its.toArray).item i s _ _ (by rw[bH];exact hlt) ⟨h1,h2⟩ λv h' tk hP st' kk=>?_);have hv:its[i]?=some v:=by simpa using hP
  have hyv:=yF hys i v hv;obtain⟨y,t,hy,rfl⟩:=hyv
  have h3':DO prog w h' S (dd (ys.take i)):=by
   obtain⟨o,es,ep,tb,ho,rest⟩:=h3;exact⟨o,es,ep,tb,kk S o (by simpa using hS1) ho,rest⟩
  show wpAny _ A.in1 (holding [Value.str y t] (setAdd S (.str y t)) >>= _) _ _ _;refine aB (wpAny_holding ?_);unfold setAdd;refine wpAny_holding (aB ((oU prog w).pyHash (k:=Sum.inr y) (yL _ _ _ _) ?_))
  have hroom:(dd (ys.take i)).length+1<scanBound:=by
   have:=aBy (ys.take i);rw[bI]at this;omega
  refine wpAny_setAddHashed_of (knd:=oU prog w) (s:={ s with heap:=h',toks:=tk+1 }) (yL _ _ _ _) rfl h3' hroom λh2' hsb hS2'=>?_
  have h3n:DO prog w h2' S (dd (ys.take (i+1))):=by
   rw[E2 ys i y hy];refine QK hS2' (λk'=>?_) ?_
   ·cases k' with
    |inl n=>
     show(false||decide ((Sum.inl n:CC)=Sum.inr y))=false;rw[SD];rfl
    |inr z=>
     show(decide (z∈dd (ys.take i))||decide ((Sum.inr z:CC)=Sum.inr y))=decide (z∈mW (dd (ys.take i)) y);rw[SC,eE];simp only[jV,decide_eq_true_eq,C6]
   ·show(if decide (y∈dd (ys.take i))=true then _ else _)=(mW (dd (ys.take i)) y).length;unfold mW;by_cases hm:y∈dd (ys.take i)
    ·rw[if_pos (decide_eq_true hm),if_pos hm]
    ·rw[if_neg (by simpa using hm),if_neg hm];simp
  refine aJ ⟨plainId_quiet PyProof.Rows.F.plain_set_update_loop _,ih (i+1) _ (by omega) hlt (st'.1.at λo e=>(hsb.2 I (Ne.symm hS1)).trans e) (st'.2.at λo e=>(hsb.2 ax (Ne.symm hS2)).trans e) h3n λh4 tk4 kk4 h5=>?_⟩;exact hR h4 tk4 (λb o hb1 hb2 e=>kk4 b o hb1 hb2 ((hsb.2 b hb1).trans (kk b o (by simpa using hb2) e))) h5
end
section
variable{X:Cx}
set_option maxHeartbeats 3200000 in
theorem B9{prog:bE}{w:World}{A:Around}{E:Value->Shared->Prop}{s:Shared}{l:Addr}{its:List Value}{ys:List Str}{Q:Value->Shared->Prop}
  (hh:A.handled=none) (hl:s.heap.IsList l its.toArray) (hys:StrsAre its ys) (hb:ys.length+1<scanBound)
  (h:∀(h':Heap)(tk:Nat),DO prog w h' s.heap.objs.size (dd ys)->(∀b o,s.heap.get? b=some o->h'.get? b=some o)->Q (.ref s.heap.objs.size) { s with heap:=h',toks:=tk }) :
  wpAny (model prog w) A (call (.type "set") [.ref l]) Q E s:=by
 obtain⟨c0,tl0,hm0⟩:=iL.mro;have hmk:=iL.made;have hsb0:=iL.sub;refine wpAny_call (codeAny_of_tree ?_);show wpAny _ _ (callAny (.type "set") _) _ _ _;refine aJ ⟨Code.quiet_builtin _ (by decide +kernel),codeAny_builtin PySem.F.entry_type_call ?_⟩;rw[Around.under_plain (weight_type_call_type "set" [.ref l] []) rfl];have k1:=iL.notType;have k2:=iL.canCreate;have k3:=PySem.F.typeCall_set_1 (.ref l)
 repeat (any_goals (first | assumption | wp_step))
 refine codeAny_mono (code_set_new_1 (.ref l) (E:=E) (Q₁:=λobj s1=>∃led:Bool,obj=.ref s.heap.objs.size/\s1={ s with heap:=s.heap.push { cls:=.type "set",dict:=none,data:=.set #[] 0 (.fresh 0 0 led) } }) λled=>⟨led,rfl,rfl⟩) λr s1 hr=>?_
 cases r with
 |error e=>exact hr
 |ok fl=>
  cases fl with
  |ret obj=>
   obtain⟨led,rfl,rfl⟩:=hr;have gS:(s.heap.push { cls:=.type "set",dict:=none,data:=.set #[] 0 (.fresh 0 0 led) }).get? s.heap.objs.size=some { cls:=.type "set",dict:=none,data:=.set #[] 0 (.fresh 0 0 led) }:=bB _ rfl;have tS:Shared.TypeIs { s with heap:=s.heap.push { cls:=.type "set",dict:=none,data:=.set #[] 0 (.fresh 0 0 led) } } (.ref s.heap.objs.size) "set":=⟨_,gS,rfl⟩;have k4:=iL.init.lookup;have k5:=iL.init.bind (.ref s.heap.objs.size)
   repeat (any_goals (first | assumption | wp_step))
   refine codeAny_mono (codeAny_call_builtin (R:=wants (λr s2=>r=.none/\∃h' tk,s2={ s with heap:=h',toks:=tk }/\DO prog w h' s.heap.objs.size (dd ys)/\(∀b o,s.heap.get? b=some o->h'.get? b=some o)) E) iL.init.plain PySem.F.entry_set_init (check_set_init_1 tS ?_)) λr2 s2 hr2=>?_
   ·obtain⟨⟨ocls,odict,odata,oslots⟩,hol,hcl,nl,hdl⟩:=hl;simp only at hcl hdl;subst hcl;subst hdl;have gl:(s.heap.push { cls:=.type "set",dict:=none,data:=.set #[] 0 (.fresh 0 0 led) }).get? l=some { cls:=.type "list",dict:=odict,data:=.seq its.toArray nl,slots:=oslots }:=aI _ hol;have k6:=PySem.F.sub_list_set;have k7:=PySem.F.sub_list_frozenset;have k8:(Value.type "list"==Value.type "dict")=false:=by decide
    have tl1:(s.heap.push { cls:=.type "set",dict:=none,data:=.set #[] 0 (.fresh 0 0 led) }).IsList l its.toArray:=⟨_,gl,rfl,nl,rfl⟩;unfold Builtin.«set.__init__» noKeywords Builtin.Frozenset.updateFrom
    generalize hPI:pyIter=PI
    wp_walk
    subst hPI;refine wpAny_pyIter_list tl1 (aB (wpAny_runValue ?_));have lS:l<s.heap.objs.size:=bC hol;have h3:A.in1.in1.handled=none:=by simp[hh]
    refine HG s.heap.objs.size ?_ (eZ lS) ?_ h3 hys hb its.length 0 _ (by omega) (dS _) ?_ ?_ ?_ λh' tk kk hD=>?_
    ·show s.heap.objs.size≠(s.heap.push _).objs.size;rw[eA];exact bP (sE _)
    ·show l≠(s.heap.push _).objs.size;rw[eA];exact bP (kA lS)
    ·exact⟨_,bB _ rfl,rfl,rfl⟩
    ·exact tl1.at λo e=>aI _ e
    ·exact⟨_,#[],0,_,aI _ gS,⟨rfl,rfl,rfl⟩,rfl,λe he=>by simp at he,λk=>by cases k<;>simp[dd],by unfold scanBound;simp,rfl,rfl⟩
    ·show wpAny _ _ _ _ _ _;refine aJ ?_;show wpAny _ _ (ret Value.none) _ _ _;refine aJ ⟨rfl,h',tk,rfl,hD,λb o e=>kk b o (bP (bC e)) ?_ (aI _ (aI _ e))⟩;show b≠(s.heap.push _).objs.size;rw[eA];exact bP (kA (bC e))
   ·cases r2 with
    |error e=>exact hr2
    |ok fl2=>
     cases fl2 with
     |ret r=>
      obtain⟨rfl,h',tk,rfl,hD,kk⟩:=hr2
      repeat (any_goals (first | assumption | wp_step))
      exact h _ _ hD kk
     |_=>exact hr2.elim
  |_=>exact hr.elim
theorem BM(hc:X.calm=true):lH X (.type "set") (λxs H Q=>∃(p:Addr)(ys:List Str),xs=[.ref p]/\oM X.K H p (ys.map V.str)/\ys.length<=1000/\∀q,H q=none->Q (.ref q) (gK H q (T4 X.prog X.w q (dd ys).length))):=by
 intro pins s σ H xs us Q I r h;obtain⟨p,ys,rfl,hq,hz,q⟩:=h;obtain⟨u,rfl,rx⟩:=rY r;cases rx;obtain⟨its,rv,pl,_⟩:=I.list hq;refine B9 (I.ok.hd hc) pl.isList (D1 rv) (by unfold scanBound;omega) λh' tk hD kk=>?_;obtain⟨o,es,ep,t,ho,rest⟩:=id hD;refine⟨.ref _,_,I.laid kk (aN _) (show lG X.prog X.w _ h' _ (T4 X.prog X.w s.heap.objs.size (dd ys).length)from⟨⟨_,hD⟩,⟨o,ho⟩,?_⟩),rfl,q _ (I.hok.fresh (aN _))⟩;rintro h1 h2 ⟨S,o,es,ep,t,ho,rest⟩ k;exact⟨S,o,es,ep,t,k o ho,rest⟩
end
end L2
namespace TL
open PySem PySem.Spec PyProof.Rows L2
section
variable{X:Cx}{e:Expr}{te:ET}{pos:Pos}
def HE(te:ET):ET:=λσ Q=>te σ λd=>∃ys:List Str,d=.list (ys.map aV)/\ys.length<=1000/\Q (.int (dd ys).length)
theorem J9{g1 g2:Expr}{p2:Pos}(he:jD X e te)(hs:bV [e] X.env=(false,eval e X.env)::bV [] X.env:=by rfl)
  (pc:∀{v:TE},PA X [e] (pO v yX)->PE X (.Call g1 [.Call g2 [e] [] p2] [] pos) (P0 (λxs H Q=>∃(q:Addr)(n:Nat),xs=[.ref q]/\H q=some (T4 X.prog X.w q n)/\Q (.int n) H)
   (pO (P0 (λxs H Q=>∃(p:Addr)(ys:List Str),xs=[.ref p]/\oM X.K H p (ys.map V.str)/\ys.length<=1000/\∀q,H q=none->Q (.ref q) (gK H q (T4 X.prog X.w q (dd ys).length))) (pO v yX)) yX))) :
  jD X (.Call g1 [.Call g2 [e] [] p2] [] pos) (HE te):=by
 obtain⟨v,pe,re⟩:=he;refine⟨_,pc (fW pe mS hs),λB p0 H ps σT σ Q QV o h k=>re B p0 H ps σT σ _ _ o h λd x H1 s1 r1 q1=>?_⟩;obtain⟨ys,rfl,hz,q⟩:=q1
 cases r1 with
 |list hq s=>
  have e:=xI s;subst e;refine⟨_,ys,rfl,L2.bL.seq bZ hq,hz,λw hw=>⟨w,_,rfl,cO,k _ _ _ (s1.trans (dU hw)) (.int _) q⟩⟩
end
end TL
namespace L2
open PySem PySem.Spec PyProof.Rows TL
def KH(h:Heap)(d:Addr)(es:Array DictEntry)(ep:Nat):Prop:=∃o,h.get? d=some o/\o.ExactDict/\o.data=.dict es ep
section
variable{prog:bE}{w:World}{A:Around}{E:Value->Shared->Prop}{s:Shared}
theorem GZ{d:Addr}{es:Array DictEntry}{ep:Nat}{Q:Value->Shared->Prop}(hd:(d==sysModules)=false)(hm:KH s.heap d es ep)
  (hQ:Q (.ref s.heap.objs.size) { s with heap:=s.heap.push { cls:=.type "dict_keyiterator",data:=.fields #[.ref d,.int 0 0,.int es.size 0,.int ep 0] } }) :
  wpAny (model prog w) A (pyIter (.ref d)) Q E s:=by
 obtain⟨o,ho,hc,hdat⟩:=id hm;have hT:s.TypeIs (.ref d) "dict":=⟨o,ho,hc.1⟩;refine wpAny_pyIter_slot hT FM (eP FM hT PySem.F.entry_dict_iter ?_ (PySem.F.args_dict_iter_1 _));unfold Builtin.«dict.__iter__»;refine aB ?_;unfold Builtin.Dict.dictSlotNone;refine aB (wpAny_notOrdered_dict hT ?_);show wpAny _ _ (pure (Value.ref d)) _ _ s;refine aJ ?_;show wpAny _ _ (Builtin.Dict.showsAll d >>= _) _ _ s;unfold Builtin.Dict.showsAll;rw[if_neg (by rw[hd];exact bW)];refine aB (aJ ?_);refine aB (wpAny_dictEntries ho hdat ?_);refine aB (wpAny_dictEpoch ho hdat ?_);have hsz:es.size=es.size:=rfl;refine aB (eH (aJ ⟨_,rfl,"dict_keyiterator",_,⟨_,bB _ rfl,rfl⟩,gW.lookup,?_⟩));simpa[rawInt,hsz]using hQ
theorem GR{it d:Addr}{i ep:Nat}{es:Array DictEntry}{Q:Option Value->Shared->Prop}(hit:s.heap.IsKeyIter it d i es.size ep)
  (hm:KH s.heap d es ep) (hlt':i<es.size)
  (hQ:∀h',h'.IsKeyIter it d (i+1) es.size ep->fR it s.heap h'->Q (some es[i].key) { s with heap:=h' }) :
  wpAny (model prog w) A (pyNext (.ref it)) Q E s:=by
 obtain⟨o,ho,hc,hd⟩:=id hit;obtain⟨od,hod,hcd,hdd⟩:=id hm;unfold pyNext
 refine aB (wpAny_attempt (wpAny_callSpecial?_slot (name:=Str.ofString "__next__") hit.typeIs gW
  (eP gW hit.typeIs uY ?_ (uN _))))
 refine aB (aJ ?_);refine aB ?_;refine aB ?_
 first | refine aB (wpAny_typeNameOfWhole_keyiter hit.typeIs (aJ ?_)) | refine aB (wpAny_typeNameOf_keyiter hit.typeIs (aJ ?_))
 refine aB (wpAny_fieldsOf ho hd ?_);have hown:Builtin.Dict_items.ownsTuple "dict_keyiterator"=false:=by decide
 simp only[hown,gG,if_false];show wpAny _ _ (if(Value.ref d==Value.none)=true then _ else _) _ _ s;rw[if_neg (show¬((Value.ref d==Value.none)=true)from bW)];refine aB (aJ ?_);refine aB (wpAny_dictEntries hod hdd ?_);have hsz:es.size=es.size:=rfl;rw[if_neg (by simp)];refine aB (aJ ?_);refine aB (wpAny_dictEpoch hod hdd ?_);rw[if_neg (by simp)];refine aJ ?_;simp only[show¬((i:Int)<0)from by omega,if_false,iF,iI hlt'];refine aB ?_
 first | refine aB (wpAny_typeNameOfWhole_keyiter hit.typeIs (aJ ?_)) | refine aB (wpAny_typeNameOf_keyiter hit.typeIs (aJ ?_))
 refine aB (wpAny_isOneOf_keyiter hit.typeIs ?_);show wpAny _ _ (setField (.ref it) 1 (rawInt ((i:Int)+1)) >>= _) _ _ s;refine aB (wpAny_setField ho hd (by simp) ?_)
 have hit':(s.heap.update it (Obj.mapFields (·.setIfInBounds 1 (rawInt ((i:Int)+1))))).IsKeyIter it d (i+1) es.size ep:=
  ⟨_,dR _ ho (Obj.isFreed_of_fields (Obj.data_mapFields hd _)),(Obj.cls_mapFields ..).trans hc,by rw[Obj.data_mapFields hd];simp[rawInt]⟩
 refine aB (wpAny_holding ?_);refine aB (wpAny_isOneOf_keyiter (s:={ s with heap:=s.heap.update it (Obj.mapFields (·.setIfInBounds 1 (rawInt ((i:Int)+1)))) }) hit'.typeIs ?_);show wpAny _ _ (pure es[i].key) _ _ _;exact aJ (aJ ⟨_,rfl,aJ (hQ _ hit' (fR.update ..))⟩)
theorem L9{it d:Addr}{i ep:Nat}{es:Array DictEntry}{Q:Option Value->Shared->Prop}(hh:A.handled=none)(hit:s.heap.IsKeyIter it d i es.size ep)
  (hm:KH s.heap d es ep) (hx:es.size<=i)
  (hQ:∀h',BW it s.heap h'->Q none { s with heap:=h' }):wpAny (model prog w) A (pyNext (.ref it)) Q E s:=by
 obtain⟨o,ho,hc,hd⟩:=id hit;obtain⟨od,hod,hcd,hdd⟩:=id hm;unfold pyNext
 refine aB (wpAny_attempt (wpAny_callSpecial?_slot (name:=Str.ofString "__next__") hit.typeIs gW
  (eP gW hit.typeIs uY ?_ (uN _))))
 refine aB (aJ ?_);refine aB ?_;refine aB ?_
 first | refine aB (wpAny_typeNameOfWhole_keyiter hit.typeIs (aJ ?_)) | refine aB (wpAny_typeNameOf_keyiter hit.typeIs (aJ ?_))
 refine aB (wpAny_fieldsOf ho hd ?_);have hown:Builtin.Dict_items.ownsTuple "dict_keyiterator"=false:=by decide
 simp only[hown,gG,if_false];show wpAny _ _ (if(Value.ref d==Value.none)=true then _ else _) _ _ s;rw[if_neg (show¬((Value.ref d==Value.none)=true)from bW)];refine aB (aJ ?_);refine aB (wpAny_dictEntries hod hdd ?_);have hsz:es.size=es.size:=rfl;rw[if_neg (by simp)];refine aB (aJ ?_);refine aB (wpAny_dictEpoch hod hdd ?_);rw[if_neg (by simp)];refine aJ ?_;have hge:es.size<=i:=hx;simp only[show¬((i:Int)<0)from by omega,if_false,iF,iB hge];refine aB ?_
 first | refine aB (wpAny_typeNameOfWhole_keyiter hit.typeIs (aJ ?_)) | refine aB (wpAny_typeNameOf_keyiter hit.typeIs (aJ ?_))
 show wpAny _ _ (setField (.ref it) 0 .none >>= _) _ _ s;refine aB (wpAny_setField ho hd (by simp) ?_);show wpAny _ _ (newExc (.type "StopIteration") [] >>= _) _ _ _;refine aB ?_;simp only[newExc,newTuple];refine aB (eH ?_ (by size_fits));refine aB (m:=firstArgMember _ _) (wpAny_of_eq (a:=Value.none) (by first | rfl | (simp only[firstArgMember];rfl)) ?_);refine eH ?_ (by size_fits);simp only[raiseNew];refine aB (wpAny_handled ?_);rw[show A.in1.handled=none from hh];refine aB (aJ (wpAny_throw ?_));refine aB (wpAny_isInstance (T:="StopIteration") (b:=true) ⟨_,bB _ rfl,rfl⟩ isSubtype_stop ?_);exact aJ (hQ _ (((fR.update ..).extBut.push _).push _))
end
def Itd(p:Addr)(es:List (Int×Addr×V))(ep:Nat):It:=⟨λi H=>H p=some (zA p es ep)/\i<es.length,λi H x H'=>H'=H/\∃e,es[i]?=some e/\x=.ref e.2.1,λi H=>H p=some (zA p es ep)/\es.length<=i⟩
theorem MV{P:bE}{w:World}{K:aG}{tg:Expr}(p it:Addr)(es:List (Int×Addr×V))(ep:Nat):BS P w K tg (Itd p es ep) [it] it (λi h=>h.IsKeyIter it p i es.length ep) where
 mem:=by simp
 obj:=λi h st b hb=>by
  have e:b=it:=by simpa using hb
  subst e;obtain⟨o,e,c,d⟩:=st;exact⟨o,e,λv z=>by rw[d]at z;cases z⟩
 keep:=λi h h' st k=>by
  obtain⟨o,e,r⟩:=st;exact⟨o,k it (by simp) o e,r⟩
 item:=by
  intro X hP hw hK hc i pins s σ H E I hf st hg;subst hP hw hK;obtain⟨hp,hi⟩:=hg;obtain⟨⟨h1,h2,o,xs,h3,h4,h5,h6⟩,_⟩:=I.hok p _ hp;have hsz:es.length=xs.size:=by rw[<- fF];exact Paired.length h6
  have hix:i<xs.size:=by omega
  obtain⟨f0,f1,f2,f3,f4,f5⟩:=hf it (by simp);rw[hsz]at st;refine GR st ⟨o,h3,h4,h5⟩ hix λh' st' sb=>?_;have I1:dM X pins σ H { s with heap:=h' }:=I.turned (t':=s.toks) (λb o hb e=>(sb.2 b hb).trans e) f0 f1 f3 f4 f5;obtain⟨en,e1,e2⟩:=BH (j:=i) (d:=xs[i]) h6 (by simp[hix]);obtain⟨o',e,c,d⟩:=id st';rw[<- hsz]at st';rw[e2.2.1];exact⟨_,rfl,G4 (s:={ s with heap:=h' }) e c d (by decide) ⟨.ref en.2.1,H,I1,rfl,⟨rfl,en,e1,rfl⟩,st',λb hb=>(hf b hb).1⟩⟩
 done:=by
  intro X hP hw hK hc i pins s σ H E I hf st hg;subst hP hw hK;obtain⟨hp,hi⟩:=hg;obtain⟨⟨h1,h2,o,xs,h3,h4,h5,h6⟩,_⟩:=I.hok p _ hp;have hsz:es.length=xs.size:=by rw[<- fF];exact Paired.length h6
  obtain⟨f0,f1,f2,f3,f4,f5⟩:=hf it (by simp);rw[hsz]at st;exact L9 (I.ok.hd hc) st ⟨o,h3,h4,h5⟩ (by omega) λh' eb=>⟨rfl,I.turned (t':=s.toks) (λb o hb e=>eb b o hb e) f0 f1 f3 f4 f5⟩
 self:=λ_ _ _ _ _ st h=>wpAny_pyIter_keyiter st h
section
variable{X:Cx}{tg:Expr}
def aHl(tl:TE):TI:=λσ H R=>tl σ H λx H1=>∃(p:Addr)(es:List (Int×Addr×V))(ep:Nat),x=.ref p/\H1 p=some (zA p es ep)/\R (Itd p es ep) H1
theorem VV{l:Expr}{tl:TE}(hl:PE X l tl):PI X tg l (aHl tl):=by
 intro pins s σ H R I h;refine kJ (hl pins s σ H _ I h) λv s1 ⟨x,H1,I1,r1,q1⟩=>?_;obtain⟨p,es,ep,e,hp,q⟩:=q1;subst e;obtain rfl:v=Value.ref p:=r1;obtain⟨⟨h1,h2,o,xs,h3,h4,h5,h6⟩,_⟩:=I1.hok p _ hp;have hsz:es.length=xs.size:=by rw[<- fF];exact Paired.length h6
 refine GZ h1 ⟨o,h3,h4,h5⟩ ?_;refine⟨s1.heap.objs.size,[s1.heap.objs.size],_,_,H1,rfl,I1.kept (t':=s1.toks) λb o e=>aI _ e,MV p _ es ep,⟨_,bB _ rfl,rfl,by rw[hsz];rfl⟩,λb hb=>?_,q⟩;have e:b=s1.heap.objs.size:=by simpa using hb
 subst e;exact I1.fpOk (aN _) (I1.hok.fresh (aN _))
end
end L2
namespace TL
open PySem PySem.Spec PyProof.Rows L2
section
variable{X:Cx}{e:Expr}{te:ET}
def aFf(w:World)(te:ET):IT:=λσ Q=>te σ λd=>∃kvs,d=pN w kvs/\Q (kvs.map (·.1))
theorem WG{tg:Expr}(he:jD X e te):IE X tg e (aFf X.w te):=by
 obtain⟨ve,pe,re⟩:=he;refine⟨_,VV pe,λB p0 H ps σT σ Q R o h k=>re B p0 H ps σT σ _ _ o h λd x H1 s1 r1 q1=>?_⟩;obtain⟨kvs,rfl,q⟩:=q1;obtain⟨p,es,ep,rfl,h1,h2,h3,h4,h5⟩:=zO r1;refine⟨p,es,ep,rfl,bZ _ _ h1,k (kvs.map (·.1)) _ H1 s1 ?_ q⟩;have hl:(kvs.map (·.1)).length=es.length:=by rw[h4.length,aE]
 refine⟨λi H e hi=>⟨e _ _ h1,by omega⟩,λi H e hi=>⟨e _ _ h1,by omega⟩,λi H qs y H' _ e hi hy=>?_⟩;obtain⟨rfl,en,e1,rfl⟩:=hy;obtain⟨dx,g1,g2⟩:=h4.get' (i:=i) (v:=.ref en.2.1) (by rw[aH,e1];rfl);exact⟨L2.bL.refl _,dx,g1,g2.same e⟩
end
end TL
namespace L2
open PySem PySem.Spec PyProof.Rows TL
section
variable{prog:bE}{w:World}{A:Around}{E:Value->Shared->Prop}{s:Shared}{d:Addr}{ep:Nat}{xs:Array DictEntry}
theorem PK(hh:A.handled=none)(I:Addr)(hne:d≠I) :
  Walks prog w A I [I,d] [I] xs.size (λi v=>∃e,xs[i]?=some e/\v=e.key) (λi h=>h.IsKeyIter I d i xs.size ep/\KH h d xs ep) where
 sub:=λb hb=>by simp at hb;simp[hb]
 frame:=λ_ _ _ st hk=>by
  obtain⟨⟨o,ho,r⟩,⟨p,hp,q⟩⟩:=st;exact⟨⟨o,hk I (by simp) o ho,r⟩,⟨p,hk d (by simp) p hp,q⟩⟩
 item:=λi s Q E hi st hQ=>by
  refine GR st.1 st.2 hi λh' hit' hs'=>?_;obtain⟨p,hp,q⟩:=st.2;exact hQ _ h' s.toks ⟨_,iI hi,rfl⟩ ⟨hit',⟨p,hs'.extBut d p hne hp,q⟩⟩ λb o hb e=>hs'.extBut b o (λh=>hb (by simp[h])) e
 done:=λs Q E st hQ=>L9 hh st.1 st.2 (aN _) λh' he'=>hQ h' s.toks λb o hb e=>he' b o (λh=>hb (by simp[h])) e
 self:=λ_ _ _ _ st hQ=>wpAny_pyIter_keyiter st.1 hQ
theorem BN{Q:Value->Shared->Prop}(hh:A.handled=none)(h0:(d==sysModules)=false)(hd:KH s.heap d xs ep)(hn:xs.size<=bU)
  (hQ:∀(h':Heap)(tk:Nat)(acc:Array Value)(c:Nat),(∀b o,s.heap.get? b=some o->h'.get? b=some o)->h'.get? s.heap.objs.size=some { cls:=.type "list",dict:=none,data:=.seq acc c,slots:=#[] }->acc.toList=xs.toList.map (·.key)->Q (.ref s.heap.objs.size) { s with heap:=h',toks:=tk }) :
  wpAny (model prog w) A (call (.type "list") [.ref d]) Q E s:=by
 have hdl:d<s.heap.objs.size:=let ⟨_,ho,_⟩:=hd;bC ho
 refine callType_codes (Q₁:=λobj s₁=>obj=.ref s.heap.objs.size/\s₁={ s with heap:=s.heap.push { cls:=.type "list",data:=.seq #[] } }) II (DP _) DR (code_list_new _ ⟨rfl,rfl⟩) λobj s₁ h₁=>?_;obtain⟨rfl,rfl⟩:=h₁
 generalize hG1:s.heap.push { cls:=.type "list",data:=.seq #[] }=G1
 have hS:G1.get? s.heap.objs.size=some { cls:=.type "list",data:=.seq #[] }:=by rw[<- hG1];exact bB _ rfl
 have k1:∀b o,s.heap.get? b=some o->G1.get? b=some o:=λb o e=>by rw[<- hG1];exact aI _ e
 have z1:G1.objs.size=s.heap.objs.size+1:=by rw[<- hG1,eA]
 generalize hSz:s.heap.objs.size=S at *
 refine⟨⟨_,hS,rfl⟩,CF _ _,?_⟩;show wpAny _ _ (do let old <- Builtin.List.listItems (.ref S);Builtin.List.listUpdate (.ref S) (λ_=>#[]);letGo old.toList.reverse;Builtin.List.listExtendWith (.ref S) (.ref d) .none) _ _ _;refine aB ?_;unfold Builtin.List.listItems;refine aB (wpAny_seqItems hS rfl (aJ ?_));show wpAny _ _ (updateSeq S (λ_=>#[]) >>= λ_=>letGo (#[]:Array Value).toList.reverse >>= λ_=>Builtin.List.listExtendWith (.ref S) (.ref d) .none) _ _ _;refine aB (wpAny_updateSeq hS rfl ?_);have hS2:=dR (Obj.mapSeq (λ_=>(#[]:Array Value))) hS rfl
 generalize hG2:G1.update S (Obj.mapSeq (λ_=>(#[]:Array Value)))=G2 at hS2
 have k2:∀b o,b≠S->G1.get? b=some o->G2.get? b=some o:=λb o hb e=>by rw[<- hG2];exact(cZ _ _ (Ne.symm hb)).trans e
 have z2:G2.objs.size=S+1:=by rw[<- hG2,zZ,z1]
 have hd2:KH G2 d xs ep:=let ⟨o,h1,h2⟩:=hd;⟨o,k2 d o (bP hdl) (k1 d o h1),h2⟩
 refine aB (wpAny_letGo ?_);unfold Builtin.List.listExtendWith;have hT2:Shared.TypeIs { s with heap:=G2 } (.ref d) "dict":=let ⟨o,h1,h2,_⟩:=hd2;⟨o,h1,h2.1⟩
 refine aB (wpAny_typeOf hT2 ?_)
 have b1:Builtin.List.listSameRef (.ref S) (.ref d)=false:=by
  show(S==d)=false;exact beq_eq_false_iff_ne.mpr (eZ hdl)
 have b2:(Value.type "dict"==Value.type "list")=false:=by decide
 have b3:(Value.type "dict"==Value.type "tuple")=false:=by decide
 simp only[b1,b2,b3,qY,gG,if_false];refine aB (GZ (s:={ s with heap:=G2 }) h0 hd2 ?_);show wpAny _ _ _ _ _ { s with heap:=G2.push _ }
 generalize hG3:G2.push { cls:=.type "dict_keyiterator",data:=.fields #[.ref d,.int 0 0,.int xs.size 0,.int ep 0] }=G3
 have k3:∀b o,G2.get? b=some o->G3.get? b=some o:=λb o e=>by rw[<- hG3];exact aI _ e
 have hI3:G3.get? (S+1)=some { cls:=.type "dict_keyiterator",data:=.fields #[.ref d,.int 0 0,.int xs.size 0,.int ep 0] }:=by rw[<- hG3,<- z2];exact bB _ rfl
 have z3:G3.objs.size=S+2:=by rw[<- hG3,eA,z2]
 have hT3:Shared.TypeIs { s with heap:=G3 } (.ref d) "dict":=let ⟨o,h1,h2⟩:=hT2;⟨o,k3 _ _ h1,h2⟩
 have neSI:S+1≠S:=eZ (sE _);have hdI:d≠S+1:=bP (kA hdl)
 have hLf:S∉[S+1,d]:=by
  simp only[aY,cD,or_false,not_or];exact⟨Ne.symm neSI,eZ hdl⟩
 have key:∀(h:Heap)(c tk:Nat),(∀b o,b≠S->G3.get? b=some o->h.get? b=some o)->h.get? S=some { cls:=.type "list",dict:=none,data:=.seq #[] c,slots:=#[] } ->
   codeAny (model prog w) A.in1 (.builtin "list.extend.loop" ⟨[.ref S,.ref (S+1),.none],[]⟩) (wants (λr s₂=>r=Value.none/\Q (.ref S) s₂) E) { s with heap:=h,toks:=tk }:=λh c tk kk hSh=>by
  have W:=(PK (prog:=prog) (w:=w) (A:=A.in1.in1) (d:=d) (xs:=xs) (ep:=ep) (by simp[hh]) (S+1) hdI).toS;have st:h.IsKeyIter (S+1) d 0 xs.size ep/\KH h d xs ep:=⟨⟨_,kk _ _ neSI hI3,rfl,rfl⟩,let ⟨o,h1,h2⟩:=hd2;⟨o,kk d o (bP hdl) (k3 _ _ h1),h2⟩⟩;refine codeAny_extend_loopS W hn S hLf .none xs.size 0 _ #[] c rfl (dS _) st hSh (ItemsOf.nil _) λs' acc c' hm hL' hit=>⟨rfl,?_⟩;obtain⟨h',g',d',tk',os'⟩:=s';have eg:g'=s.gens:=hm.gens;have ed:d'=s.drawn:=hm.drawn;have eo:os'=s.os:=hm.os;subst eg;subst ed;subst eo;refine hQ h' tk' acc c' (λb o e=>?_) hL' ?_
  ·have hb:b<S:=by rw[<- hSz];exact bC e
   refine hm.heap b o ?_ (kk b o (bP hb) (k3 b o (k2 b o (bP hb) (k1 b o e))));simp only[aY,cD,or_false,not_or];exact⟨bP hb,bP (kA hb)⟩
  ·apply gB;intro i;rw[aH,tY,tY];by_cases hi:i<xs.size
   ·have hia:i<acc.size:=by have:=hit.1;omega
    obtain⟨x,hx,hv⟩:=hit.2 i acc[i] (iI hia);rw[iI hia,hx,hv];rfl
   ·rw[iB (by have:=hit.1;omega),iB (by omega)];rfl
 refine aB (wpAny_holding (PySem.W.kdl_hint_dict hT3 ?_));dsimp only;rw[z2];refine wpAny_ite_split (λ_=>?_) (λ_=>aJ ⟨plainId_quiet gH _,key _ _ _ (λb o _ e=>e) (k3 _ _ hS2)⟩);have hS3:=k3 _ _ hS2;refine aB (wpAny_rule (aB ?_));show wpAny _ _ (updateSeq S (·.push .none) >>= λ_=>updateSeq S (·.pop)) _ _ _;refine aB (wpAny_updateSeq hS3 rfl ?_);have hS4:=dR (Obj.mapSeq (·.push Value.none)) hS3 rfl;refine wpAny_updateSeq (hz:=by seq_fits) hS4 rfl ?_;have hS5:=dR (Obj.mapSeq (·.pop)) hS4 rfl;exact aJ ⟨plainId_quiet gH _,key _ _ _ (λb o hb e=>(cZ _ _ (Ne.symm hb)).trans ((cZ _ _ (Ne.symm hb)).trans e)) hS5⟩
end
theorem C1:∀{es:List (Int×Addr×V)}{ds:List DictEntry},Paired KJ es ds->gX (es.map λe=>V.ref e.2.1) (ds.map (·.key))
|_,_,.nil=>.nil
|_,_,.cons r t=>.cons (show _=_ from r.2.1) (C1 t)
section
variable{X:Cx}
theorem sC(hc:X.calm=true):lH X (.type "list") (λxs H Q=>∃(p:Addr)(es:List (Int×Addr×V)),xs=[.ref p]/\FU H p es/\∀l,H l=none->Q (.ref l) (gK H l (.lst (es.map λe=>.ref e.2.1)))):=by
 intro pins s σ H xs us Q I r h;obtain⟨p,es,rfl,hp,q⟩:=h;obtain⟨u,rfl,rx⟩:=rY r;cases rx;obtain⟨h1,h2,o,ds,ep,h3,h4,h5,h6⟩:=FU.at I hp;have hsz:es.length=ds.size:=by rw[<- fF];exact Paired.length h6
 refine BN (I.ok.hd hc) h1 ⟨o,h3,h4,h5⟩ (by omega) λh' tk acc c kk hS hacc=>?_;refine⟨.ref _,_,I.laid (t':=tk) (o:=.lst (es.map λe=>.ref e.2.1)) kk (aN _) ?_,rfl,q _ (I.hok.fresh (aN _))⟩;exact⟨by rw[aE];exact h2,acc.toList,c,by rw[hacc];exact C1 h6,by simpa using hS⟩
end
end L2
namespace TL
open PySem PySem.Spec PyProof.Rows L2
section
variable{X:Cx}{e:Expr}{te:ET}{pos:Pos}
def aBp(w:World)(te:ET):ET:=λσ Q=>te σ λd=>∃kvs,d=pN w kvs/\Q (.list (kvs.map (·.1)))
theorem G8{g:Expr}(he:jD X e te)(hs:bV [e] X.env=(false,eval e X.env)::bV [] X.env:=by rfl)
  (pc:∀{v:TE},PA X [e] (pO v yX)->PE X (.Call g [e] [] pos) (P0 (λxs H Q=>∃(p:Addr)(es:List (Int×Addr×V)),xs=[.ref p]/\FU H p es/\∀l,H l=none->Q (.ref l) (gK H l (.lst (es.map λe=>.ref e.2.1)))) (pO v yX))) :
  jD X (.Call g [e] [] pos) (aBp X.w te):=by
 obtain⟨v,pe,re⟩:=he;refine⟨_,pc (fW pe mS hs),λB p0 H ps σT σ Q QV o h k=>re B p0 H ps σT σ _ _ o h λd x H1 s1 r1 q1=>?_⟩;obtain⟨kvs,rfl,q⟩:=q1;obtain⟨p,es,ep,rfl,h1,h2,h3,h4,h5⟩:=zO r1;exact⟨p,es,rfl,.inr ⟨ep,bZ _ _ h1⟩,λl hl=>k _ _ _ (s1.trans (dU hl)) (uA (o.grow s1).live hl h4) q⟩
end
end TL
namespace L2
open PySem PySem.Spec PyProof.Rows TL
def aF4(lo:Int)(n:Nat):It:=⟨λi _=>i<n,λi H x H'=>H'=H/\x=.int (lo-i),λi _=>n<=i⟩
theorem MU{P:bE}{w:World}{K:aG}{tg:Expr}(it:Addr)(lo:Int)(n:Nat):BS P w K tg (aF4 lo n) [it] it (λi h=>IsRangeIter h it (lo+(i:Nat)*(-1)) ((n:Int)-(i:Nat)) (-1)) where
 mem:=by simp
 obj:=λi h st b hb=>by
  have e:b=it:=by simpa using hb
  subst e
  exact⟨_,st,λv z=>by
   have z':Data.fields _=Data.cell v:=z;cases z'⟩
 keep:=λi h h' st k=>k it (by simp) _ st
 item:=by
  intro X hP hw hK hc i pins s σ H E I hf st hg;subst hP hw hK;obtain⟨f0,f1,f2,f3,f4,f5⟩:=hf it (by simp);have W:=Walks.range (prog:=X.prog) (w:=X.w) (I.ok.hd hc) it lo (-1) n;refine W.item i s _ _ hg st λv h' tk hv st' kk=>?_;obtain⟨t,rfl⟩:=hv;have I1:dM X pins σ H { s with heap:=h',toks:=tk }:=I.turned (λb o hb e=>kk b o (by simpa using hb) e) f0 f1 f3 f4 f5;refine⟨_,rfl,G4 (s:={ s with heap:=h',toks:=tk }) (n:="range_iterator") st' rfl rfl (by decide) ⟨.int (lo-i),H,I1,⟨t,?_⟩,⟨rfl,rfl⟩,st',λb hb=>(hf b hb).1⟩⟩;have e:lo+(i:Int)*(-1)=lo-i:=by omega
  rw[e]
 done:=by
  intro X hP hw hK hc i pins s σ H E I hf st hg;subst hP hw hK;obtain⟨f0,f1,f2,f3,f4,f5⟩:=hf it (by simp);exact wpAny_pyNext_range_end (I.ok.hd hc) st (by have:n<=i:=hg;omega) λh' eb=>⟨rfl,I.turned (t':=s.toks) (λb o hb e=>eb b o hb e) f0 f1 f3 f4 f5⟩
 self:=λ_ _ _ _ _ st h=>wpAny_pyIter_rangeiter st h
section
variable{X:Cx}{tg:Expr}
theorem OF{lo:Int}(h1:-1<=lo)(h2:lo<=100000):Builtin.Range.rangeSize lo (-1) (-1)=lo+1/\Builtin.Range.small lo (-1) (-1)=true:=by
 have e:Builtin.Range.rangeSize lo (-1) (-1)=lo+1:=by
  unfold Builtin.Range.rangeSize;simp only[show¬((-1:Int)>0) by decide,if_false,Int.neg_neg,aF9];split<;>omega
 refine⟨e,?_⟩;unfold Builtin.Range.small;rw[e];simp only[Builtin.Range.rangeFitsLong,dA,jV,decide_eq_true_eq,beq_iff_eq,show¬((-1:Int)>0) by decide,if_false];omega
def ZB(ta:TA):TI:=λσ H R=>ta σ H λvs H1=>∃i:Int,vs=[.int i,.int (-1),.int (-1)]/\-1<=i/\i<=100000/\R (aF4 i (i+1).toNat) H1
theorem VU{a b c:Expr}{ta:TA}{p pos:Pos}(hg:Gl X "range")(hm:X.mg "range"=none)(ha:PA X [a,b,c] ta)(hs:bV [a,b,c] X.env=[(false,eval a X.env),(false,eval b X.env),(false,eval c X.env)]:=by rfl)(hs2:bV [b,c] X.env=[(false,eval b X.env),(false,eval c X.env)]:=by rfl) :
  PI X tg (.Call (.Name "range" p) [a,b,c] [] pos) (ZB ta):=by
 intro pins s σ H R I h;refine Call_ (tE I hg hm boot_range (PyProof.Rows.callWith_type1 (kJ (ha pos pins s σ H _ I h) λus s1 ⟨vs,H1,I1,r1,q1⟩=>?_) (by rw[hs,hs2]) (by rw[hs2];rfl)));obtain⟨i,e,g1,g2,q⟩:=q1;subst e
 cases r1 with
 |cons r rr=>
  cases rr with
  |cons r' rr=>
   cases rr with
   |cons r'' rr=>
    cases rr;obtain⟨t,rfl⟩:=r;obtain⟨t',rfl⟩:=r';obtain⟨t'',rfl⟩:=r'';obtain⟨z1,z2⟩:=OF g1 g2;refine call_range_3 (by decide) ?_ (.inl (PyProof.noPylong_small (by omega)));refine wpAny_pyIter_range (IsRange.new ..) z2 ?_;have I2:dM X pins σ H1 { s1 with heap:=s1.heap.push { cls:=.type "range",data:=.fields #[.int i t,.int (-1) t',.int (-1) t''] },toks:=s1.toks }:=I1.kept λb o e=>aI _ e
    refine⟨(s1.heap.push { cls:=.type "range",data:=.fields #[.int i t,.int (-1) t',.int (-1) t''] }).objs.size,[(s1.heap.push { cls:=.type "range",data:=.fields #[.int i t,.int (-1) t',.int (-1) t''] }).objs.size],_,_,H1,rfl,
     I2.kept (t':=s1.toks) λb o e=>aI _ e,MU _ i (i+1).toNat,?_,λb hb=>?_,q⟩
    ·have e1:i+((0:Nat):Int)*(-1)=i:=by simp
     have e2:(((i+1).toNat:Nat):Int)-((0:Nat):Int)=Builtin.Range.rangeSize i (-1) (-1):=by rw[z1];omega
     show IsRangeIter _ _ (i+((0:Nat):Int)*(-1)) ((((i+1).toNat:Nat):Int)-((0:Nat):Int)) (-1);rw[e1,e2];exact bB _ rfl
    ·have e:b=(s1.heap.push { cls:=.type "range",data:=.fields #[.int i t,.int (-1) t',.int (-1) t''] }).objs.size:=by simpa using hb
     subst e;exact I2.fpOk (aN _) (I2.hok.fresh (aN _))
end
end L2
namespace TL
open PySem PySem.Spec PyProof.Rows L2
section
variable{X:Cx}{e:Expr}
def yP(i:Int):List D:=(fN (i+1).toNat).map λ(k:Nat)=>bS (i-(k:Int))
def aBg(t:AT):IT:=λσ Q=>t σ λds=>∃i:Int,ds=[.int i,.int (-1),.int (-1)]/\-1<=i/\i<=100000/\Q (yP i)
theorem WF{tg a b c:Expr}{t:AT}{p p':Pos}(ha:wT X [a,b,c] t)(pr:∀{ta:TA},PA X [a,b,c] ta->PI X tg (.Call (.Name "range" p) [a,b,c] [] p') (ZB ta)):IE X tg (.Call (.Name "range" p) [a,b,c] [] p') (aBg t):=by
 obtain⟨va,pa,ra⟩:=ha;refine⟨_,pr pa,λB p0 H ps σT σ Q R o h k=>ra B p0 H ps σT σ _ _ o h λds xs H1 s1 r1 q1=>?_⟩;obtain⟨i,rfl,g1,g2,q⟩:=q1
 cases r1 with
 |cons r1 r2=>
  cases r2 with
  |cons r2 r3=>
   cases r3 with
   |cons r3 r4=>
    cases r4;cases r1;cases r2;cases r3;refine⟨i,rfl,g1,g2,k (yP i) _ H1 s1 ?_ q⟩;have hl:(yP i).length=(i+1).toNat:=by unfold yP;simp
    refine⟨λj H _ e=>by rw[hl]at e;exact e,λj H _ e=>by rw[hl]at e;exact e,λj H ps y H' _ _ e hy=>?_⟩;obtain⟨rfl,rfl⟩:=hy;refine⟨L2.bL.refl _,.int (i-j),?_,.int _⟩;rw[hl]at e;unfold yP;rw[aH,iE e];rfl
end
end TL
namespace TL
open PySem PySem.Spec PyProof.Rows L2
section
variable{X:Cx}{e:Expr}{pos:Pos}
def aBq(i:Nat)(tb:ET):ET:=λσ Q=>∃ts,σ[i]?=some (.own ts)/\tb σ λx=>∃(k:Int)(d:D),x=.int k/\L2.atI ts k=some d/\Q d
theorem SX{i:Nat}{m b:Expr}{tb:ET}(hn:PE X m (vY i))(hb:jD X b tb)(hs:FD b:=by intro _ _;rfl):jD X (.Subscript m b pos) (aBq i tb):=by
 obtain⟨vb,pb,rb⟩:=hb;refine⟨_,AO bR hn pb hs,λB p0 H ps σT σ Q QV o h k=>?_⟩;obtain⟨ts,e,h⟩:=h;obtain⟨q,xs,h1,h2,h3,h4,h5,h6⟩:=o.own i ts e;refine⟨.ref q,h1,rb B p0 H ps σT σ _ _ o h λd y H1 s1 r1 q1=>?_⟩;obtain⟨j,d',rfl,hj,q1⟩:=q1;cases r1;obtain⟨v,hv,rv⟩:=(h6.same (cA s1)).atI hj;exact .inl ⟨q,xs,j,v,rfl,rfl,oM.of (s1 _ _ h5),hv,k d' v H1 s1 rv q1⟩
end
theorem G9{X:Cx}{a b:Expr}{pos:Pos}{ta tb:ET}{w:World}(hw:X.w=w)(hu:X.A.units+9<cLine)(ha:jD X a ta)(hb:jD X b tb)(hs:T6 b:=by intro _ _;rfl):jD X (.Subscript a b pos) (UH (ZF w) ta tb):=by
 subst hw;exact WS hu ha hb hs
end TL
namespace L2
open PySem PySem.Spec PyProof.Rows
theorem BJ(f:Array Value->Array Value)(o:Obj):(Obj.mapFields f o).dict=o.dict:=by
 unfold Obj.mapFields;split<;>rfl
structure uX(h:Heap)(e T:Addr)(dx:Option Addr)(cls a0 fl:Value):Prop where
 ne:T≠e
 ex:∃o vs,h.get? e=some o/\o.cls=cls/\o.dict=dx/\o.data=.fields vs/\vs[0]?=some a0/\vs[1]?=some (.ref T)
 tr:∃o ts,h.get? T=some o/\o.data=.fields ts/\ts[3]?=some fl
structure gO(fr ch:List Addr)(h h':Heap):Prop where
 keep:∀b o,h.get? b=some o->b∉fr->b∉ch->h'.get? b=some o
 slot:∀b o,h.get? b=some o->b∈fr->b∉ch->∃sl,h'.get? b=some { o with slots:=sl }
theorem gO.of{fr ch:List Addr}{h h':Heap}(k:∀b o,h.get? b=some o->b∉ch->h'.get? b=some o):gO fr ch h h':=⟨λb o e _ c=>k b o e c,λb o e _ c=>⟨o.slots,k b o e c⟩⟩
theorem gO.any{fr ch:List Addr}{h h':Heap}(x:gO fr ch h h'){b:Addr}{o:Obj}(e:h.get? b=some o)(c:b∉ch):∃sl,h'.get? b=some { o with slots:=sl }:=by
 by_cases f:b∈fr
 ·exact x.slot b o e f c
 ·exact⟨o.slots,x.keep b o e f c⟩
theorem gO.trans{fr ch:List Addr}{h1 h2 h3:Heap}(x:gO fr ch h1 h2)(y:gO fr ch h2 h3):gO fr ch h1 h3:=by
 refine⟨λb o e f c=>y.keep b o (x.keep b o e f c) f c,λb o e f c=>?_⟩;obtain⟨sl,e1⟩:=x.slot b o e f c;obtain⟨sl2,e2⟩:=y.slot b _ e1 f c;exact⟨sl2,e2⟩
theorem gO.more{fr ch ch':List Addr}{h h':Heap}(x:gO fr ch h h')(m:∀b∈ch,b∈ch'):gO fr ch' h h':=⟨λb o e f c=>x.keep b o e f λz=>c (m b z),λb o e f c=>x.slot b o e f λz=>c (m b z)⟩
theorem gO.frames{fr ch:List Addr}{base h h':Heap}(x:gO fr ch h h'){l:List Env}(hl:h.FunFrames base l)(c:∀b∈pL l,b∉ch):h'.FunFrames base l:=by
 induction l with
 |nil=>trivial
 |cons v r ih=>
  obtain⟨hk,⟨L,o,hf,hn,ho,hd⟩,hr⟩:=hl
  have hm:L∈pL (v::r):=by
   show L∈(v::r).filterMap (·.frame);rw[kI,hf];exact aS ..
  obtain⟨sl,e⟩:=x.any ho (c L hm);refine⟨hk,⟨L,_,hf,hn,e,hd⟩,ih hr λb hb=>c b ?_⟩;show b∈(v::r).filterMap (·.frame);rw[kI,hf];exact aO _ hb
section
variable{P:bE}{w:World}{A:Around}{E:Value->Shared->Prop}{s:Shared}{base:Heap}{v:Env}{outer:List Env}{L e:Addr}{Q:Unit->Shared->Prop}
theorem BG{o:Obj}{vs:Array Value}{hd0:Value}{nx:Bool}(hA:A.frames=some (v::outer))(hl:s.heap.FunFrames base (v::outer))(hL:v.frame=some L)(he:s.heap.get? e=some o)(hd:o.data=.fields vs)(hz:1<vs.size)(hef:e∉pL (v::outer))
  (k:∀h' T,s.heap.objs.size<=T->T≠e->gO (pL (v::outer)) [e] s.heap h'->(∃o',h'.get? e=some o'/\o'.cls=o.cls/\o'.dict=o.dict/\o'.data=.fields (vs.setIfInBounds 1 (.ref T)))->(∃oT ts,h'.get? T=some oT/\oT.data=.fields ts/\ts[3]?=some (rawInt L))->Q () { s with heap:=h' }) :
  wpAny (model P w) A (do let a <- frameOf v;let pl <- entryPlaceOf L nx;let b <- EntryCells.newEntry hd0 a .none (rawInt L) .none pl;setField (.ref e) 1 b) Q E s:=by
 apply aB;refine wpAny_frameOf_fun hA hl hL λh1 so=>?_;apply aB;refine wpAny_entryPlaceOf λpl okp=>?_;unfold EntryCells.newEntry newFields;apply aB;refine eH ?_ (okp.sizeOk5 _ _ _ _ _);have e1:h1.get? e=some o:=(so.2.1 e hef).trans he
 generalize hob:({ cls:=.type "traceback",dict:=none,data:=.fields ([hd0,.ref L,.none,rawInt L,.none]++(if pl.isEmpty then DS 6 Value.none else pl)).toArray }:Obj)=ob
 have e2:(h1.push ob).get? e=some o:=aI _ e1;refine wpAny_setField e2 hd hz ?_;have ne:h1.objs.size≠e:=eZ (bC e1);have d3:=Obj.data_mapFields hd (·.setIfInBounds 1 (Value.ref h1.objs.size));have e3:=dR (Obj.mapFields (·.setIfInBounds 1 (Value.ref h1.objs.size))) e2 (Obj.isFreed_of_fields d3)
 have hT:((h1.push ob).update e (Obj.mapFields (·.setIfInBounds 1 (Value.ref h1.objs.size)))).get? h1.objs.size=some ob:=by
  rw[cZ _ _ (Ne.symm ne)];refine bB h1 ?_;rw[<- hob];rfl
 refine k _ h1.objs.size (by rw[so.1];exact aN _) ne ⟨λb u eb f c=>?_,λb u eb f c=>?_⟩ ⟨_,e3,Obj.cls_mapFields _ _,BJ _ _,d3⟩ ⟨ob,_,hT,by rw[<- hob],?_⟩
 ·have hbe:b≠e:=λz=>c (by rw[z];exact aS ..);rw[cZ _ _ (Ne.symm hbe)];exact aI _ ((so.2.1 b f).trans eb)
 ·have hbe:b≠e:=λz=>c (by rw[z];exact aS ..);obtain⟨sl,es⟩:=so.2.2 b u eb;refine⟨sl,?_⟩;rw[cZ _ _ (Ne.symm hbe)];exact aI _ es
 ·rcases okp with rfl | ⟨_,_,_,_,_,_,_,rfl⟩<;>simp
theorem JK{o:Obj}{vs:Array Value}{a0:Value}(hA:A.frames=some (v::outer))(hl:s.heap.FunFrames base (v::outer))(hL:v.frame=some L)(he:s.heap.get? e=some o)(hd:o.data=.fields vs)(h1:vs[1]?=some .none)(h0:vs[0]?=some a0)(hef:e∉pL (v::outer))
  (k:∀h' T,s.heap.objs.size<=T->gO (pL (v::outer)) [e] s.heap h'->uX h' e T o.dict o.cls a0 (rawInt L)->Q () { s with heap:=h' }):wpAny (model P w) A (noteFrame (.ref e) v) Q E s:=by
 unfold noteFrame;simp only[hL];apply aB;refine wpAny_field he hd h1 ?_;rw[if_neg (by decide)];have hz:1<vs.size:=(lO.mp h1).1;refine BG hA hl hL he hd hz hef λh' T n1 n2 kb hx hT=>k h' T n1 kb ⟨n2,?_,hT⟩;obtain⟨o',x1,x2,xd,x3⟩:=hx;exact⟨o',_,x1,x2,xd,x3,by rw[yW (by decide)];exact h0,by simp[hz]⟩
theorem xP{T:Addr}{dx:Option Addr}{cls a0:Value}(hA:A.frames=some (v::outer))(hl:s.heap.FunFrames base (v::outer))(hL:v.frame=some L)(x:uX s.heap e T dx cls a0 .none)(hef:e∉pL (v::outer))(hTf:T∉pL (v::outer))
  (k:∀h' T',s.heap.objs.size<=T'->gO (pL (v::outer)) [e,T] s.heap h'->uX h' e T' dx cls a0 (rawInt L)->Q () { s with heap:=h' }):wpAny (model P w) A (noteFrame (.ref e) v) Q E s:=by
 obtain⟨ne,⟨o,vs,he,hc,hdx,hd,h0,h1⟩,⟨oT,ts,hT,hdT,h3⟩⟩:=x;unfold noteFrame;simp only[hL];apply aB;refine wpAny_field he hd h1 ?_;rw[if_pos (show(Value.ref T != Value.none)=true from rfl)];apply aB;refine wpAny_field hT hdT h3 ?_;rw[if_neg (show¬((Value.none==rawInt L)=true) by simp[rawInt])];apply aB;refine wpAny_setField hT hdT (lO.mp h3).1 ?_;have oth:∀b,b≠T->(s.heap.update T (Obj.mapFields (·.setIfInBounds 3 Value.none))).get? b=s.heap.get? b:=λb hb=>cZ _ _ (Ne.symm hb);have kb0:gO (pL (v::outer)) [T] s.heap (s.heap.update T (Obj.mapFields (·.setIfInBounds 3 Value.none))):=.of λb u eb c=>(oth b λz=>c (by rw[z];exact aS ..)).trans eb;have hz:1<vs.size:=(lO.mp h1).1;refine BG (s:={ s with heap:=s.heap.update T (Obj.mapFields (·.setIfInBounds 3 Value.none)) }) hA (kb0.frames hl λb hb z=>hTf (by rw[<- aW.mp z];exact hb)) hL ((oth e (Ne.symm ne)).trans he) hd hz hef λh' T' n1 n2 kb hx hT'=>?_;have n1':s.heap.objs.size<=T':=cP (nP (zZ ..).symm) n1;refine k h' T' n1' ((kb0.more λb hb=>by simp at hb |-;exact .inr hb).trans (kb.more λb hb=>by simp at hb |-;exact .inl hb)) ⟨n2,?_,hT'⟩;obtain⟨o',x1,x2,xd,x3⟩:=hx;exact⟨o',_,x1,x2.trans hc,xd.trans hdx,x3,by rw[yW (by decide)];exact h0,by simp[hz]⟩
theorem nN{T:Addr}{dx:Option Addr}{cls a0 fl:Value}(x:uX s.heap e T dx cls a0 fl)(k:∀h',(∀b o,s.heap.get? b=some o->b≠T->h'.get? b=some o)->uX h' e T dx cls a0 .none->Q () { s with heap:=h' }):wpAny (model P w) A (setFlight (.ref e) none) Q E s:=by
 obtain⟨ne,⟨o,vs,he,hc,hdx,hd,h0,h1⟩,⟨oT,ts,hT,hdT,h3⟩⟩:=x;have hz:3<ts.size:=(lO.mp h3).1;unfold setFlight;apply aB;refine wpAny_field he hd h1 ?_;rw[if_pos (show(Value.ref T != Value.none)=true from rfl)];refine wpAny_setField hT hdT hz (k _ (λb u eb hb=>(cZ _ _ (Ne.symm hb)).trans eb) ⟨ne,⟨o,vs,(cZ _ _ ne).trans he,hc,hdx,hd,h0,h1⟩,_,_,dR _ hT (Obj.isFreed_of_fields (Obj.data_mapFields hdT _)),Obj.data_mapFields hdT _,by simp[hz]⟩)
theorem yO{o:Obj}{vs:Array Value}{a0:Value}(hA:A.frames=some (v::outer))(hl:s.heap.FunFrames base (v::outer))(hL:v.frame=some L)(he:s.heap.get? e=some o)(hd:o.data=.fields vs)(h1:vs[1]?=some .none)(h0:vs[0]?=some a0)(hef:e∉pL (v::outer))
  (k:∀h' T,s.heap.objs.size<=T->gO (pL (v::outer)) [e] s.heap h'->uX h' e T o.dict o.cls a0 .none->Q () { s with heap:=h' }):wpAny (model P w) A (leaving v (.ref e)) Q E s:=by
 unfold leaving;apply aB;refine JK hA hl hL he hd h1 h0 hef λh1 T n1 kb x=>?_;refine nN (s:={ s with heap:=h1 }) x λh2 k2 x2=>k h2 T n1 ⟨λb u eb f c=>?_,λb u eb f c=>?_⟩ x2
 ·exact k2 b u (kb.keep b u eb f c) λz=>absurd (cK (bC eb) n1) (by rw[z];exact fX _)
 ·obtain⟨sl,es⟩:=kb.slot b u eb f c;exact⟨sl,k2 b _ es λz=>absurd (cK (bC eb) n1) (by rw[z];exact fX _)⟩
theorem JU{T:Addr}{dx:Option Addr}{cls a0:Value}(hA:A.frames=some (v::outer))(hl:s.heap.FunFrames base (v::outer))(hL:v.frame=some L)(x:uX s.heap e T dx cls a0 .none)(hef:e∉pL (v::outer))(hTf:T∉pL (v::outer))
  (k:∀h' T',s.heap.objs.size<=T'->gO (pL (v::outer)) [e,T] s.heap h'->uX h' e T' dx cls a0 .none->Q () { s with heap:=h' }):wpAny (model P w) A (leaving v (.ref e)) Q E s:=by
 unfold leaving;apply aB;refine xP hA hl hL x hef hTf λh1 T' n1 kb x=>?_;refine nN (s:={ s with heap:=h1 }) x λh2 k2 x2=>k h2 T' n1 ⟨λb u eb f c=>?_,λb u eb f c=>?_⟩ x2
 ·exact k2 b u (kb.keep b u eb f c) λz=>absurd (cK (bC eb) n1) (by rw[z];exact fX _)
 ·obtain⟨sl,es⟩:=kb.slot b u eb f c;exact⟨sl,k2 b _ es λz=>absurd (cK (bC eb) n1) (by rw[z];exact fX _)⟩
end
section
variable{P:bE}{w:World}{H H':Hp}{h h0 h':Heap}{a:Addr}{o:HO}{fr fr' ch:List Addr}
theorem lG.get(x:lG P w H h a o):∃u,h.get? a=some u:=by
 cases o with
 |lst xs=>obtain⟨_,_,_,_,e⟩:=x;exact⟨_,e⟩
 |tup xs=>obtain⟨_,_,_,_,e,_⟩:=x;exact⟨_,e⟩
 |dK kvs=>obtain⟨_,_,_,_,o,_,_,e,_⟩:=x;exact⟨_,e⟩
 |dT kvs=>obtain⟨_,_,_,_,o,_,_,e,_⟩:=x;exact⟨_,e⟩
 |set S n=>obtain⟨o,_,_,_,e,_⟩:=x;exact⟨_,e⟩
 |ins C dx fs=>obtain⟨_,_,_,e,_⟩:=x;exact⟨_,e⟩
 |own y=>obtain⟨_,e⟩:=x;exact⟨_,e⟩
 |xd fs=>obtain⟨_,⟨_,_,_,e,_⟩,_⟩:=x;exact⟨_,e⟩
 |rng lo hi=>obtain⟨_,_,_,e⟩:=x;exact⟨_,e⟩
 |frz ob u=>obtain⟨e,_⟩:=x;exact⟨_,e⟩
 |tbl ps=>obtain⟨_,e,_⟩:=x;exact⟨_,e⟩
 |met f y=>exact⟨_,(show h.get? a=some _ from x)⟩
 |ext φ=>obtain⟨_,⟨_,e⟩,_⟩:=x;exact⟨_,e⟩
theorem rV.out(x:rV P w H h)(e:h.get? a=none):H a=none:=by
 cases q:H a with
 |none=>rfl
 |some u=>obtain⟨_,z⟩:=(x a u q).get;rw[e]at z;cases z
theorem rV.butX(x:rV P w H h)(kb:gO fr ch h h')(hf:∀b∈fr,H b=none)(hc:∀b∈ch,H b=none):rV P w H h':=λa o e=>by
 refine(x a o e).stay (λb u hb q=>?_) (λ_ q=>q) λ_ _ q=>q
 have hn:H b≠none:=by
  rcases hb with rfl | hb
  ·rw[e];exactλz=>nomatch z
  ·rw[hb];exactλz=>nomatch z
 exact kb.keep b u q (λz=>hn (hf b z)) λz=>hn (hc b z)
theorem Un.but(u:Un fr [] H H' h0 h)(kb:gO fr' ch h h')(nw:∀b o,h0.get? b=some o->b∉ch/\(b∈fr'->b∈fr)):Un fr [] H H' h0 h' where
 keep:=λb o e n f x=>kb.keep b o (u.keep b o e n f x) (λz=>f ((nw b o e).2 z)) (nw b o e).1
 slot:=λb o e n f x=>by
  obtain⟨sl,e1⟩:=u.slot b o e n f x;obtain⟨sl2,e2⟩:=kb.any e1 (nw b o e).1;exact⟨sl2,e2⟩
 free:=u.free
 there:=λb o e x=>by
  obtain⟨o',e1⟩:=u.there b o e x;obtain⟨sl2,e2⟩:=kb.any e1 (nw b o e).1;exact⟨_,e2⟩
 tups:=u.tups
 frzs:=u.frzs
 tbls:=u.tbls
end
def FK(P:bE)(w:World):MK:=λouter H s E e s'=>∃ea T dx cls a0 H',e=.ref ea/\s'.os=s.os/\AllBare s'.gens/\Un (pL outer) [] H H' s.heap s'.heap/\rV P w H' s'.heap /\
 uX s'.heap ea T dx cls a0 .none/\H' ea=none/\H' T=none/\s.heap.get? ea=none/\s.heap.get? T=none/\(∀a,dx=some a->s.heap.get? a=none)/\E cls dx H'
section
variable{P:bE}{w:World}{K:aG}{mg:Str->Option Value}{base:Heap}{N:List Str}{qual:Str}{scope:Scope}{f:Addr}{cd:Value}{A:Around}{outer:List Env}{s:Shared}{H:Hp}{E:XK}
abbrev zG(P:bE)(w:World)(K:aG)(mg:Str->Option Value)(base:Heap)(N:List Str)(qual:Str)(scope:Scope)(f:Addr)(cd:Value)(A:Around)(outer:List Env)(s:Shared)(H:Hp)(E:XK):Cx:=vL (FK P w) P w K mg base N qual scope f cd A outer s H E
theorem PJ{pins:List (Addr×Obj)}{σ:St}{H1:Hp}{s1 s2:Shared}{ea:Addr}{ch:List Addr}{dx:Option Addr}{cls a0:Value}(I:dM (zG P w K mg base N qual scope f cd A outer s H E) pins σ H1 s1)(hen:s.heap.get? ea=none)(hE:E cls dx H1)(hh:H1 ea=none)
  (hos:s2.os=s1.os) (hg:s2.gens=s1.gens) (hk:gO (pL (envOfC qual scope s.heap.objs.size f cd::outer)) ch s1.heap s2.heap) (hch:∀b∈ch,H1 b=none/\s.heap.get? b=none) {T:Addr} (x:uX s2.heap ea T dx cls a0 .none) (hT:H1 T=none) (hTn:s.heap.get? T=none) (hdn:∀a,dx=some a->s.heap.get? a=none) :
  FK P w outer H s E (.ref ea) s2:=by
 refine⟨ea,T,dx,cls,a0,H1,rfl,hos.trans I.os,by rw[hg];exact I.bare,Un.but I.base hk λb o e=>⟨λz=>?_,λz=>?_⟩,I.hok.butX hk (λb hb=>I.stkFree b hb) λb hb=>(hch b hb).1,x,hh,hT,hen,hTn,hdn,hE⟩
 ·rw[(hch b z).2]at e;cases e
 ·have z':b∈s.heap.objs.size::pL outer:=I.stkSub b z;rcases aY.mp z' with q | q
  ·rw[q]at e;exact absurd (bC e) (fX _)
  ·exact q
theorem GL:FE (FK P w) (zG P w K mg base N qual scope f cd A outer s H E) E:=by
 intro pins σ H1 s1 e s2 I hx;obtain⟨ea,T,dx,cls,a0,H2,rfl,os,bare,un,hok,x,n1,n2,n3,n4,n5,hE⟩:=hx;have I2:dM (zG P w K mg base N qual scope f cd A outer s H E) pins σ H2 s2:=I.call' (ch:=[]) os un hok bare λb z=>absurd z (by simp)
 have hout:∀b,s1.heap.get? b=none->b∉pL (envOfC qual scope s.heap.objs.size f cd::outer):=λb hb z=>by
  obtain⟨_,o,ho,_⟩:=I.stack.mem z;rw[hb]at ho;cases ho
 have old:∀b,s1.heap.get? b=none->s.heap.get? b=none:=λb hb=>by
  cases q:s.heap.get? b with
  |none=>rfl
  |some o=>obtain⟨o',z⟩:=I.base.there b o q (λz=>absurd z (by simp[vL]));rw[hb]at z;cases z
 show wpAny (model P w) (A.deeper (envOfC qual scope s.heap.objs.size f cd)) (leaving (envOfC qual scope s.heap.objs.size f cd) (.ref ea)) _ _ s2;refine JU (base:=base) (outer:=outer) I.ok.frames I2.stack rfl x (hout ea n3) (hout T n4) λh' T' sz kb x'=>?_;have hT':s2.heap.get? T'=none:=gF sz;refine PJ (s2:={ s2 with heap:=h' }) I2 (old ea n3) hE n1 rfl rfl kb (λb hb=>?_) x' (hok.fresh sz) ?_ λa z=>old a (n5 a z)
 ·simp only[aY,cD,or_false]at hb;rcases hb with rfl | rfl
  ·exact⟨n1,old _ n3⟩
  ·exact⟨n2,old _ n4⟩
 ·cases q:s.heap.get? T' with
  |none=>rfl
  |some o=>obtain⟨o',z⟩:=I2.base.there T' o q (λz=>absurd z (by simp[vL]));rw[hT']at z;cases z
end
end L2
namespace L2
open PySem PySem.Spec PyProof.Rows
def aF0(K:aG)(C:Addr):Prop:=∃nm q N bs hdct sn sub ab col dd k0 k1 k2 k3 k5 J c0 dJ cdJ slJ,
 K.lookup C=some (excClassObj nm q C N bs (.ref J::[.type "ValueError",.type "Exception",.type "BaseException",.type "object"]) hdct sn sub ab col dd k0 k1 k2 k3 k5 "ValueError.__new__") /\
 mY K N=true/\eN K N "__init__"=some none/\K.lookup J=some ⟨c0,dJ,.cls cdJ,slJ⟩/\mY K cdJ.ns=true/\eN K cdJ.ns "__init__"=some none
theorem EJ{K:aG}{h:Heap}{N:Addr}{m:Str->Option Value}{n:Str}(X:K.In h)(G:h.Ns N m)(e:eN K N n=some none):m n=none:=by
 obtain⟨o,es,ep,ho,hd,_,hf⟩:=G;unfold eN at e;split at e
 ·rename_i q;have z:=X _ _ q;rw[ho]at z;cases z;cases hd;split at e
  ·cases e
  ·rename_i he;rw[<- hf];unfold nsFind findBy;rw[<- wX,he]
   rfl
 ·cases e
theorem zR{h h':Heap}{N:Addr}{m:Str->Option Value}(G:h.Ns N m)(k:∀b o,h.get? b=some o->h'.get? b=some o):h'.Ns N m:=let ⟨o,es,ep,ho,r⟩:=G;⟨o,es,ep,k _ _ ho,r⟩
def PX(C:Addr)(E:XK)(t:TA):TS:=λ_ σ H=>t σ H λvs H1=>vs.length<=bU/\E (.ref C) none H1
section
variable{P:bE}{w:World}{K:aG}{mg:Str->Option Value}{base:Heap}{N:List Str}{qual:Str}{scope:Scope}{f:Addr}{cd:Value}{A:Around}{outer:List Env}{s:Shared}{H:Hp}{E:XK}
theorem GH{C:Addr}{k:Nat}{x:Str}{np cpos pos:Pos}{e:Expr}{es:List Expr}{t:TA}(R:aF0 K C)(hr:Room k (A.deeper (envOfC qual scope s.heap.objs.size f cd)))(hg:Gl (zG P w K mg base N qual scope f cd A outer s H E) x)(hm:mg x=some (.ref C))
  (ha:PA (zG P w K mg base N qual scope f cd A outer s H E) (e::es) t) (hd:(x==("__debug__":Str))=false:=by decide)
  (he:bV (e::es) (envOfC qual scope s.heap.objs.size f cd)=(false,eval e (envOfC qual scope s.heap.objs.size f cd))::bV es (envOfC qual scope s.heap.objs.size f cd):=by rfl)
  (hpl:(backTo cpos (bV (e::es) (envOfC qual scope s.heap.objs.size f cd))).any (·.1)=false:=by rfl) :
  PS (zG P w K mg base N qual scope f cd A outer s H E) (.Raise (some (.Call (.Name x np) (e::es) [] cpos)) none pos) (PX C E t):=by
 intro pins s1 σ H1 D I h;obtain⟨nm,q,NC,bs,hdct,sn,sub,ab,col,dd,k0,k1,k2,k3,k5,J,c0,dJ,cdJ,slJ,lC,nC,iC,lJ,nJ,iJ⟩:=R;have gC:=CH.of_isNs (pJ I.mod.kin nC);have gJ:=CH.of_isNs (pJ I.mod.kin nJ);have vC:=EJ I.mod.kin gC iC;have vJ:=EJ I.mod.kin gJ iJ;refine wpAny_Raise_call_subT F.excBase_ValueError (C:=C) (nm:=nm) (q:=q) (N:=NC) (bs:=bs) (bm:=.ref J::[.type "ValueError",.type "Exception",.type "BaseException",.type "object"]) (hdct:=hdct) (sn:=sn) (sub:=sub) (ab:=ab) (col:=col) (dd:=dd) (k0:=k0) (k1:=k1) (k2:=k2) (k3:=k3) (k5:=k5) (by rfl) hr.hd hpl vC (pR I hg hm ⟨rfl,?_⟩ hd);rw[show(zG P w K mg base N qual scope f cd A outer s H E).env=envOfC qual scope s.heap.objs.size f cd from rfl,he];refine Calls.evalArgs_plain ?_;have hp:=ha cpos pins s1 σ H1 _ I h;rw[show(zG P w K mg base N qual scope f cd A outer s H E).env=envOfC qual scope s.heap.objs.size f cd from rfl,he]at hp;refine dW hp (λus s2 hz=>?_) λ_ _ z=>z;obtain⟨vs,H2,I2,r,hl,hE⟩:=hz;refine⟨rfl,by rw[<- r.length];exact hl,I2.kIn _ _ lC,zR gC I2.bk,.own (I2.kIn _ _ lJ) (zR gJ I2.bk) vJ .base,λh' ea hm=>?_⟩;have hok':=I2.hok.kept hm.keeps;have I3:dM (zG P w K mg base N qual scope f cd A outer s H E) pins σ H2 { s2 with heap:=h' }:=I2.un (t':=s2.toks) (Un.kept hm.keeps) hok';obtain⟨t',he',_,_⟩:=hm.there;have hn:H2 ea=none:=I2.hok.out hm.new
 have hout:ea∉pL (envOfC qual scope s.heap.objs.size f cd::outer):=λz=>by
  obtain⟨_,o,ho,_⟩:=I2.stack.mem z;rw[hm.new]at ho;cases ho
 have old:∀b,s2.heap.get? b=none->s.heap.get? b=none:=λb hb=>by
  cases q:s.heap.get? b with
  |none=>rfl
  |some o=>obtain⟨o',z⟩:=I2.base.there b o q (λz=>absurd z (by simp[vL]));rw[hb]at z;cases z
 show wpAny (model P w) (A.deeper (envOfC qual scope s.heap.objs.size f cd)) (leaving (envOfC qual scope s.heap.objs.size f cd) (.ref ea)) _ _ { s2 with heap:=h' };refine yO (base:=base) (outer:=outer) (s:={ s2 with heap:=h' }) I.ok.frames I3.stack rfl he' rfl rfl rfl hout λh'' T sz kb x'=>?_;refine PJ (s2:={ s2 with heap:=h'' }) I3 (old ea hm.new) hE hn rfl rfl kb (λb hb=>?_) x' (hok'.fresh sz) ?_ (λa z=>nomatch z)
 ·simp only[aY,cD,or_false]at hb;subst hb;exact⟨hn,old _ hm.new⟩
 ·cases q:s.heap.get? T with
  |none=>rfl
  |some o=>obtain⟨o',z⟩:=I3.base.there T o q (λz=>absurd z (by simp[vL]));rw[show({ s2 with heap:=h' }:Shared).heap.get? T=none from gF sz]at z;cases z
end
def RS(X:Cx)(st:Stmt)(rt:St->Hp->(Hp->XK)->Prop):Prop:=∀(pins:List (Addr×Obj))(s:Shared)(σ:St)(H:Hp)(W:Hp->XK),dM X pins σ H s->rt σ H W ->
 wpAny (model X.prog X.w) X.A (exec st X.env) (λ_ _=>False) (λe s'=>∃H1 s1,dM X pins σ H1 s1/\FK X.prog X.w X.stack H1 s1 (W H1) e s') s
def RE(X:Cx)(e:Expr)(rt:St->Hp->(Hp->XK)->Prop):Prop:=∀(pins:List (Addr×Obj))(s:Shared)(σ:St)(H:Hp)(W:Hp->XK),dM X pins σ H s->rt σ H W ->
 wpAny (model X.prog X.w) X.A (eval e X.env) (λ_ _=>False) (λe s'=>∃H1 s1,dM X pins σ H1 s1/\FK X.prog X.w X.stack H1 s1 (W H1) e s') s
def DN(X:Cx):Prop:=∀e s,¬X.xe e s
section
variable{X:Cx}{k:Nat}{f:Addr}{fd:eI}{ps:List Str}{sp:Sp}{x:Str}{p pos:Pos}{e:Expr}{es:List Expr}{t:TA}
theorem LD(hq:DN X)(F:bX X.prog X.w X.K X.mg X.base (FK X.prog X.w) k f fd ps sp)(hr:Room k X.A)(hg:Gl X x)(hm:X.mg x=some (.ref f))(hk:iU X.K (.ref f)=true)(hb:tU X.K fd ps [])
  (ha:PA X (e::es) t) (hdb:(x==("__debug__":Str))=false:=by decide) (he:bV (e::es) X.env=(false,eval e X.env)::bV es X.env:=by rfl) (hpl:(backTo pos (bV es X.env)).any (·.1)=false:=by rfl) :
  RE X (.Call (.Name x p) (e::es) [] pos) (λσ H W=>t σ H λvs H1=>sp vs H1 (λ_ _=>False) (W H1)):=by
 intro pins s σ H W I h;refine wpAny_Call_Name_kw (pR I hg hm ?_ hdb);refine KL (h₀:=X.base) I.ok.mod.kin hk (dW (ha pos pins s σ H _ I h) (λus s1 hz=>?_) λe s z=>absurd z (hq e s)) he hpl;obtain⟨vs,H1,I1,r,q⟩:=hz;refine⟨I1.kIn,?_⟩;have hl:us.length=ps.length:=by rw[<- r.length];exact F.len _ _ _ _ q
 have hb':=hb s1 us I1.kIn (by rw[dG];exact hl);rw[dG]at hb';refine wpAny_call (codeAny_mono (F.run X.A X.stack s1 H1 ⟨us,[]⟩ us vs _ (W H1) hr I1.env0 hb' r q) λr s' hq=>?_)
 cases r with
 |error e=>exact⟨H1,s1,I1,hq⟩
 |ok fl=>
  cases fl with
  |ret u=>obtain⟨_,_,_,_,_,_,_,z⟩:=hq;exact z.elim
  |next=>exact False.elim hq
  |brk=>exact False.elim hq
  |cont=>exact False.elim hq
theorem QQ{rt:St->Hp->(Hp->XK)->Prop}{y:Str}{pos':Pos}(h:RE X e rt)(hs:lA e (some (.Name y pos')) pos.line X.env=pure false:=by rfl):RS X (.Assign [.Name y pos'] e pos) rt:=by
 intro pins s σ H W I hq;exact wpAny_Assign_Name (kJ (h pins s σ H W I hq) λv s1 z=>z.elim) hs
end
abbrev Cx.marked(X:Cx)(ea:Addr):Cx:={ X with A:=X.A.mark (some (.ref ea)),calm:=false }
section
variable{X:Cx}{pins:List (Addr×Obj)}{σ:St}{H:Hp}{s:Shared}{ea:Addr}
theorem dM.mark(I:dM X pins σ H s)(ea:Addr):dM (X.marked ea) pins σ H s:=
 ⟨⟨I.ok.mod,I.ok.kind,I.ok.glob,I.ok.blt,I.ok.above,I.ok.inj,I.ok.has,I.ok.cab,(λz=>nomatch z),I.ok.frames,I.ok.stk,I.ok.exf,I.ok.bs,I.ok.bsz,I.ok.noex,I.ok.exfs,I.ok.funs,I.ok.frf,I.ok.tab⟩,I.os,I.bare,I.base,I.loc,I.cell,I.free,I.freeC,I.pin,I.hok,I.len⟩
theorem dM.unmark{σ':St}{H':Hp}{s':Shared}(I:dM X pins σ H s)(J:dM (X.marked ea) pins σ' H' s'):dM X pins σ' H' s':=⟨I.ok,J.os,J.bare,J.base,J.loc,J.cell,J.free,J.freeC,J.pin,J.hok,J.len⟩
theorem L3{M:Model}{A:Around}{E:Value->Shared->Prop}{i:Nat}{n:Str}{pos:Pos}{Q:Unit->Shared->Prop}(I:dM X pins σ H s)(hN:X.N.Nodup)(hi:X.N[i]?=some n)(hx:X.env.scope.names.lookup n=some .local)
  (h:∀s',dM X pins (σ.set i none) H s'->Q () s'):wpAny M A (do bindName X.env n .none;unbindBehindTheSuite X.env n pos) Q E s:=by
 obtain⟨m,hn,hl⟩:=id I.loc;have hcls:(X.env.scope.kind==.class||(X.env.scope.kind==.module&&X.env.locals != X.env.globals))=false:=by rw[I.ok.kind];rfl
 have hiσ:i<σ.length:=by rw[I.len];exact(aD.mp hi).1
 have cne:=I.cne;refine wpAny_nameGoes_keeps hx hn hcls λh' v hn' hs=>?_;have low:∀b o,X.s₀.heap.get? b=some o->b≠X.env.locals:=λb o e=>bP (cK (bC e) I.ok.above);refine h _ ⟨I.ok,I.os,I.bare,⟨λb o e n hb hx=>?_,λb o e n hb hx=>?_,I.base.free,λb o e hx=>?_,I.base.tups,I.base.frzs,I.base.tbls⟩,⟨_,hn',λj y v' e1 e2 e3=>?_⟩,λy c e=>?_,I.free,I.freeC,λp hp=>?_,λb ob e=>?_,by simpa using I.len⟩
 ·exact(hs.2 b (low b o e)).trans (I.base.keep b o e n hb hx)
 ·obtain⟨sl,e1⟩:=I.base.slot b o e n hb hx;exact⟨sl,(hs.2 b (low b o e)).trans e1⟩
 ·obtain⟨o',e1⟩:=I.base.there b o e hx;exact⟨o',(hs.2 b (low b o e)).trans e1⟩
 ·have hj:j≠i:=λz=>by
   rw[z,bA hiσ]at e2;cases e2
  rw[aU (Ne.symm hj)]at e2;obtain⟨u',r',q⟩:=hl j y v' e1 e2 e3;have hy:y≠n:=λz=>hj (AU hN (z▸e1) hi);refine⟨u',r',?_⟩;rcases q with⟨k,e⟩ | ⟨k,c,e,o,z,zd⟩
  ·exact .inl ⟨k,by show(if y=n then v else m y)=_;rw[if_neg hy];exact e⟩
  ·exact .inr ⟨k,c,e,o,(hs.2 c (cne y c e)).trans z,zd⟩
 ·obtain⟨w',o,z,zd⟩:=I.cell y c e;exact⟨w',o,(hs.2 c (cne y c e)).trans z,zd⟩
 ·obtain⟨p1,p2,p3,p4,p5⟩:=I.pin p hp;exact⟨(hs.2 p.1 p3).trans p1,p2,p3,p4,p5⟩
 ·refine(I.hok b ob e).stay (λc w' hc q=>(hs.2 c ?_).trans q) (λ_ q=>q) λ_ _ q=>q;rintro rfl;rcases hc with rfl | hc
  ·rw[I.free]at e;cases e
  ·rw[I.free]at hc;cases hc
theorem rV.track{P:bE}{w:World}{H:Hp}{h:Heap}{a:Addr}{o:HO}(x:rV P w H h)(hn:H a=none)(new:lG P w (gK H a o) h a o):rV P w (gK H a o) h:=λb u e=>by
 by_cases hb:b=a
 ·subst hb;rw[cO]at e;cases e;exact new
 ·rw[cJ hb]at e;exact(x b u e).stay (λc v _ q=>q) (λc q=>by rw[cJ (dC q hn)];exact q) (λc xs q=>by rw[cJ (dC q hn)];exact q) λc ob v q=>by rw[cJ (dC q hn)];exact q
theorem Un.track{fr:List Addr}{H H':Hp}{h h':Heap}{a:Addr}{o:HO}(u:Un fr [] H H' h h')(hn:H' a=none)(hf:h.get? a=none):Un fr [] H (gK H' a o) h h' where
 keep:=u.keep
 slot:=u.slot
 free:=λb ob e n x=>by
  rw[cJ λz=>by rw[z,hf]at e;cases e];exact u.free b ob e n x
 there:=u.there
 tups:=λb xs e=>by have z:=u.tups b xs e;rw[cJ (dC z hn)];exact z
 frzs:=λb ob v e=>by have z:=u.frzs b ob v e;rw[cJ (dC z hn)];exact z
 tbls:=λb q e=>by
  obtain⟨more,z⟩:=u.tbls b q e;exact⟨more,by rw[cJ (dC z hn)];exact z⟩
def PU(K:aG)(J:Addr)(i:Nat)(rt:St->Hp->(Hp->XK)->Prop)(ts:Addr->TS):TS:=λD σ H=>rt σ H λH1 cls dx H2=>dX K cls (.ref J)=some true /\
 ∃C,cls=.ref C/\∀ea,H1 ea=none->H2 ea=none->(∀a,dx=some a->H1 a=none)->ts ea { nx:=λσ' H'=>D.nx (σ'.set i none) H',rt:=λ_ _=>False } (σ.set i (some (.ref ea))) (gK H2 ea (.ext (TL.lY ea C dx)))
theorem VO{J:Addr}{i:Nat}{n jn:Str}{jp hp pos:Pos}{st b0:Stmt}{suite:List Stmt}{hs':List ExceptHandler}{rt:St->Hp->(Hp->XK)->Prop}{ts:Addr->TS}(hq:DN X)(hst:X.stack=X.env::X.outer)(hfr:X.env.frame=some X.env.locals)(hN:X.N.Nodup)(hi:X.N[i]?=some n)(hx:X.env.scope.names.lookup n=some .local)(hg:Gl X jn)(hm:X.mg jn=some (.ref J))
  (hs:RS X st rt) (hb:∀ea,zE (X.marked ea) (b0::suite) (ts ea)) (hd:(jn==("__debug__":Str))=false:=by decide) :
  PS X (.Try [st] (.ExceptHandler (some (.Name jn jp)) (some n) (b0::suite) hp::hs') [] [] pos) (PU X.K J i rt ts):=by
 intro pins s σ H D I h;refine wpAny_Try_except (wpAny_execs_cons (dW (hs pins s σ H _ I h) (λ_ _ z=>z.elim) λe s' hz=>?_));obtain⟨H1,s1,I1,ea,T,dx,cls,a0,H2,rfl,os,bare,un,hok,x,n1,n2,n3,n4,n5,hW,C,rfl,hsuite⟩:=hz;have I2:dM X pins σ H2 s':=I1.call' (ch:=[]) os un hok bare λb z=>absurd z (by simp);have hfrm:X.A.frames=some (X.env::X.outer):=by rw[<- hst];exact I.ok.frames
 have hstk:s'.heap.FunFrames X.base (X.env::X.outer):=by rw[<- hst];exact I2.stack
 have hout:∀b,s1.heap.get? b=none->b∉pL (X.env::X.outer):=λb hb z=>by
  rw[<- hst]at z;obtain⟨_,o,ho,_⟩:=I1.stack.mem z;rw[hb]at ho;cases ho
 have hfree:∀b∈pL (X.env::X.outer),H2 b=none:=λb hb=>by rw[<- hst]at hb;exact I2.stkFree b hb
 refine xP (base:=X.base) hfrm hstk hfr x (hout ea n3) (hout T n4) λh3 T' sz kb x3=>?_;have hT':H2 T'=none:=hok.fresh sz
 have hT1:s1.heap.get? T'=none:=by
  cases q:s1.heap.get? T' with
  |none=>rfl
  |some o=>obtain⟨o',z⟩:=un.there T' o q (by simp);rw[gF sz]at z;cases z
 refine nN (s:={ s' with heap:=h3 }) x3 λh4 k4 x4=>?_;have kb4:gO (pL (X.env::X.outer)) [ea,T,T'] s'.heap h4:=(kb.more λb hb=>aY.mpr ((aY.mp hb).imp id λz=>aY.mpr (.inl (aW.mp z)))).trans (.of λb u eb c=>k4 b u eb λz=>c (by rw[z];simp))
 have nw:∀b o,s1.heap.get? b=some o->b∉[ea,T,T']/\(b∈pL (X.env::X.outer)->b∈pL X.stack):=λb o e=>by
  refine⟨λz=>?_,λz=>by rw[hst];exact z⟩;simp only[aY,cD,or_false]at z;rcases z with rfl | rfl | rfl
  ·rw[n3]at e;cases e
  ·rw[n4]at e;cases e
  ·rw[hT1]at e;cases e
 have chn:∀b∈[ea,T,T'],H2 b=none:=λb z=>by
  simp only[aY,cD,or_false]at z;rcases z with rfl | rfl | rfl
  ·exact n1
  ·exact n2
  ·exact hT'
 have un4:=un.but kb4 nw;have hok4:=hok.butX kb4 hfree chn;have I4:dM X pins σ H2 { s' with heap:=h4 }:=I1.call' (ch:=[]) os un4 hok4 bare λb z=>absurd z (by simp);have J4:=I4.mark ea;obtain⟨oe,ve,ge,ce,de,dte,_,_⟩:=x4.ex;have LT:nS (model X.prog X.w) h4 (typeOf (.ref ea)) (.ref C):=ce▸(nS.ld ge).andThen .now;refine wpAny_handleBy_cons (codeAny_handlers_test (pR (X:=X.marked ea) J4 hg hm (((zH J4.kIn LT hW).at ?_)) hd)) (λz=>nomatch z);rw[if_pos rfl];refine codeAny_handlers_suite_as (nN (s:={ s' with heap:=h4 }) x4 λh5 k5 x5=>?_);have kb5:gO (pL (X.env::X.outer)) [ea,T,T'] s'.heap h5:=kb4.trans (.of λb u eb c=>k5 b u eb λz=>c (by rw[z];simp));have un5:=un.but kb5 nw;have hok5:=hok.butX kb5 hfree chn;obtain⟨o5,v5,g5,c5,d5,dt5,_,_⟩:=x5.ex;have hq5:=hsuite ea (I1.hok.out n3) n1 λa z=>I1.hok.out (n5 a z);have hok6:rV X.prog X.w (gK H2 ea (.ext (TL.lY ea C dx))) h5:=hok5.track n1 ⟨⟨o5,v5,g5,c5,d5,dt5⟩,⟨o5,g5⟩,λha hb ⟨o,v,y1,y2⟩ k=>⟨o,v,k o y1,y2⟩⟩;have I5:dM X pins σ (gK H2 ea (.ext (TL.lY ea C dx))) { s' with heap:=h5 }:=I1.call' (ch:=[]) os (un5.track n1 n3) hok6 bare λb z=>absurd z (by simp);refine sL I5 hN hi (.inl hx) (v:=.ref ea) rfl (λs6 I6=>?_) (.inr hx);refine dW (hb ea pins s6 _ _ _ (I6.mark ea) hq5) (λfl s7 h7=>?_) λe s7 z=>absurd z (hq e s7)
 cases fl with
 |next=>
  obtain⟨σ',H',J7,q⟩:=h7;exact L3 (I6.unmark J7) hN hi hx λs8 I8=>⟨_,H',I8,q⟩
 |brk=>obtain⟨_,_,_,z⟩:=h7;exact z.elim
 |cont=>obtain⟨_,_,_,z⟩:=h7;exact z.elim
 |ret u=>obtain⟨_,_,_,_,_,z⟩:=h7;exact z.elim
theorem VP{body:List Stmt}{h₀:ExceptHandler}{hs:List ExceptHandler}{pos:Pos}{ts:TS}(hq:DN X)(hb:zE X body ts):PS X (.Try body (h₀::hs) [] [] pos) ts:=by
 intro pins s σ H D I h;refine wpAny_Try_except (dW (hb pins s σ H D I h) (λf s1 q=>?_) λe s1 z=>absurd z (hq e s1))
 cases f with
 |next=>exact wpAny_execs_nil q
 |ret v=>exact q
 |brk=>exact q
 |cont=>exact q
end
end L2
namespace TL
open PySem PySem.Spec PyProof.Rows L2
def ZE:D->Bool
|.str _=>true
|.none=>true
|_=>false
def BA(cs:List D):Bool:=cs.all ZE
theorem CP{K:aG}{H H':Hp}:∀{cs:List D}{vs:List V},BA cs=true->Reps K H cs vs->Reps K H' cs vs
|[],_,_,.nil=>.nil
|d::cs,_,h,.cons r t=>by
 have h:(ZE d&&BA cs)=true:=h;rw[dA]at h;refine .cons ?_ (CP h.2 t)
 cases r with
 |str x=>exact .str x
 |none=>exact .none
 |_=>cases h.1
theorem GF{K:aG}{H:Hp}{ps:List Addr}{cs:List D}{v:V}(live:∀p∈ps,FS (H p))(hf:BA cs=true)(r:jF K H (.tuple cs) v):jF K (dB H ps) (.tuple cs) v:=by
 cases r with
 |tuple q rs=>
  refine .tuple ?_ (CP hf rs);rcases q with(q | ⟨o,q⟩) | q
  ·exact .inl (.inl (iN (λz=>by obtain⟨u,h1,h2⟩:=live _ z;rw[q]at h1;cases h1;cases h2) q))
  ·exact .inl (.inr ⟨o,iN (λz=>by obtain⟨u,h1,h2⟩:=live _ z;rw[q]at h1;cases h1;cases h2) q⟩)
  ·exact .inr q
def OQ(K:aG)(H:Hp)(d:D)(cls:Value)(dx:Option Addr):Prop:=
 (∃C:Addr,d=.dict [(.int (C:Nat),.none)]/\cls=.ref C/\dx=none/\UI K C) \/
 (∃(C a:Addr)(n:Int),d=.dict [(.int (C:Nat),.int n)]/\cls=.ref C/\dx=some a/\UI K C/\H a=some (.xd [("at",.int n)])) \/
 (∃(C a:Addr)(cs:List D)(v:V),d=.dict [(.int (C:Nat),.tuple cs)]/\cls=.ref C/\dx=some a/\UI K C/\BA cs=true/\H a=some (.xd [("case",v)])/\jF K H (.tuple cs) v)
def kM(K:aG)(sp:mX):Sp:=λvs H _ E=>∃(ps:List Addr)(ds:List D)(ED:D->Prop),(∀p∈ps,FS (H p))/\Reps K (dB H ps) ds vs/\sp ds ED/\∀d cls dx H',bL H H'->OQ K H' d cls dx->ED d->E cls dx H'
section
variable{K:aG}{P:bE}{w:World}{mg:Str->Option Value}{base:Heap}
theorem fnX{x qual:Str}{st:Stmt}{f:Addr}{fd:eI}{N pn:List Str}{k:Nat}{sp:mX}(F:T7 K x qual st f fd)(S:cQ N pn (bJ st))(len:∀ds Q,sp ds Q->ds.length=pn.length)
  (hbody:∀(cdv:Value)(A:Around)(outer:List Env)(s:Shared)(H:Hp)(E:XK),Room k (A.deeper (envOfC qual (bJ st) s.heap.objs.size f cdv))->∀(ds:List D)(ED:D->Prop),sp ds ED->(∀d cls dx H',bL H H'->OQ K H' d cls dx->ED d->E cls dx H') ->
   ∃t,qO (zG P w K mg base N qual (bJ st) f cdv A outer s H E) (mE st) t/\t { nx:=λ_=>False,rt:=λ_=>False,xB:=λB=>B=H } (rD N ds)):bX P w K mg base (FK P w) (k+1) f fd pn (kM K sp):=by
 obtain⟨oc,od,kV,doc,pm,an,cdv,ct,osl,rfl,lk,hcd⟩:=F.ex;refine ZC lk hcd S (λvs H Q E h=>?_) λA outer s H vs Q E hr h=>?_
 ·obtain⟨ps,ds,QD,_,r,q,_⟩:=h;rw[<- r.length];exact len ds QD q
 ·obtain⟨ps,ds,ED,live,r,q,hE⟩:=h;obtain⟨t,⟨ts,p,rd⟩,h⟩:=hbody cdv A outer s H E hr ds ED q hE;exact⟨ts,p,rd H ps H ps _ _ _ _ (AR live r) h ⟨λ_ _ _ _ _ _ q'=>q'.elim,λ_ _ _ _ _ _ q'=>q'.elim,λ_ _ _ _ _ _ q'=>q'.elim,λ_ _ _ _ _ q'=>q'.elim,λ_ _ _ _ _ _ _ _ _ q'=>q'.elim,λ_ _ _ _ _ _ _ _ _ _ _ _ _ _ _ _ _ _ q'=>q'.elim,λ_ _ _ _ _ _ _ _ _ _ _ _ _ _ q'=>q'.elim,rfl⟩⟩
end
section
variable{P:bE}{w:World}{K:aG}{mg:Str->Option Value}{base:Heap}{N:List Str}{qual:Str}{scope:Scope}{f:Addr}{cd:Value}{A:Around}{outer:List Env}{s:Shared}{H:Hp}{E:XK}{ED:D->Prop}
def QN(ED:D->Prop)(H0:Hp)(C:Addr)(t:AT):nI:=λDT σ=>t σ λds=>ds.length<=1000/\ED (.dict [(.int (C:Nat),.none)])/\∀B,DT.xB B->B=H0
theorem FZ{C:Addr}{x:Str}{np cpos pos:Pos}{e:Expr}{es:List Expr}{t:AT}(hE:∀d cls dx H',bL H H'->OQ K H' d cls dx->ED d->E cls dx H')(xk:UI K C)(ha:wT (zG P w K mg base N qual scope f cd A outer s H E) (e::es) t)
  (pr:∀{ta:TA},PA (zG P w K mg base N qual scope f cd A outer s H E) (e::es) ta->PS (zG P w K mg base N qual scope f cd A outer s H E) (.Raise (some (.Call (.Name x np) (e::es) [] cpos)) none pos) (PX C E ta)) :
  qU (zG P w K mg base N qual scope f cd A outer s H E) (.Raise (some (.Call (.Name x np) (e::es) [] cpos)) none pos) (QN ED H C t):=by
 obtain⟨va,pa,ra⟩:=ha;refine⟨_,pr pa,λB p0 H' ps σT σ DT DV o h f=>ra B p0 H' ps σT σ _ _ o h λds vs H1 s1 r1 q=>?_⟩;obtain⟨hl,hd,hB⟩:=q;obtain rfl:=hB B f.xb;exact⟨uC (by rw[<- r1.length];exact hl),hE _ _ _ H1 (o.base.trans s1) (.inl ⟨C,rfl,rfl,rfl,xk⟩) hd⟩
theorem CN{C:Addr}{t:AT}{H0:Hp}{DT:lZ}{σ:List Sl}(ds:List D)(h:∀q:List D->Prop,q ds->t σ q)(hl:ds.length<=1000)(hd:ED (.dict [(.int (C:Nat),.none)]))(hB:∀B,DT.xB B->B=H0):QN ED H0 C t DT σ:=h _ ⟨hl,hd,hB⟩
end
section
variable{X:Cx}{e:Expr}{es:List Expr}{pos:Pos}{st:Stmt}
def PEx(X:Cx)(W:Hp->Prop)(e:Expr)(t:List Sl->Prop):Prop:=∃te:TE,PE X e te/\∀(B:Hp)(p0:List Addr)(H:Hp)(ps:List Addr)(σT:List Sl)(σ:L2.St)(QV:VK),Ok X.K B p0 H ps σT σ->t σT->W B->te σ H QV
theorem wO{sp:mX}{ED:D->Prop}{E:XK}{H0:Hp}{x:Str}{p:Pos}{t:AT}(hE:∀d cls dx H',bL H0 H'->OQ X.K H' d cls dx->ED d->E cls dx H')(ha:wT X (e::es) t)
  (pc:∀{ta:TA},PA X (e::es) ta->PE X (.Call (.Name x p) (e::es) [] pos) (KR (kM X.K sp) [] E ta)):PEx X (λB=>B=H0) (.Call (.Name x p) (e::es) [] pos) (λσ=>t σ λds=>sp ds ED):=by
 obtain⟨v,pa,ra⟩:=ha;refine⟨_,pc pa,λB p0 H ps σT σ QV o h hB=>ra B p0 H ps σT σ _ _ o h λds xs H1 s1 r1 q1=>?_⟩;subst hB;show kM X.K sp (xs++[]) H1 QV E;rw[dG];exact⟨ps,ds,ED,(o.grow s1).live,r1,q1,λd cls dx H' s' x' e'=>hE d cls dx H' ((o.base.trans s1).trans s') x' e'⟩
theorem qU.or{t u:nI}(h1:qU X st t)(h2:qU X st u):qU X st (λDT σ=>t DT σ\/u DT σ):=by
 obtain⟨v1,p1,r1⟩:=h1;obtain⟨v2,p2,r2⟩:=h2;refine⟨λD σ H=>v1 D σ H\/v2 D σ H,λpins s σ H D I h=>?_,λB p0 H ps σT σ DT DV o h f=>?_⟩
 ·rcases h with h | h
  ·exact p1 pins s σ H D I h
  ·exact p2 pins s σ H D I h
 ·rcases h with h | h
  ·exact .inl (r1 B p0 H ps σT σ DT DV o h f)
  ·exact .inr (r2 B p0 H ps σT σ DT DV o h f)
theorem U1{body:List Stmt}{h0:ExceptHandler}{hs:List ExceptHandler}{t:nI}(h:qO X body t)(p:∀{ts:TS},zE X body ts->PS X (.Try body (h0::hs) [] [] pos) ts):qU X (.Try body (h0::hs) [] [] pos) t:=by
 obtain⟨ts,p1,r⟩:=h;exact⟨ts,p p1,r⟩
def RSt(X:Cx)(st:Stmt)(t:ET):Prop:=∃rt:L2.St->Hp->(Hp->XK)->Prop,RS X st rt/\∀(B:Hp)(p0:List Addr)(H:Hp)(ps:List Addr)(σT:List Sl)(σ:L2.St)(ED:D->Prop)(W:Hp->XK),Ok X.K B p0 H ps σT σ->t σT ED ->
 (∀d cls dx H1 H2,bL H H1->bL H1 H2->OQ X.K H2 d cls dx->ED d->W H1 cls dx H2)->rt σ H W
theorem GB{sp:mX}{x:Str}{p:Pos}{t:AT}(ha:wT X (e::es) t)(pc:∀{ta:TA},PA X (e::es) ta->RS X st (λσ H W=>ta σ H λvs H1=>kM X.K sp vs H1 (λ_ _=>False) (W H1))):RSt X st (λσ ED=>t σ λds=>sp ds ED):=by
 obtain⟨v,pa,ra⟩:=ha;refine⟨_,pc pa,λB p0 H ps σT σ ED W o h k=>ra B p0 H ps σT σ _ _ o h λds xs H1 s1 r1 q1=>?_⟩;exact⟨ps,ds,ED,(o.grow s1).live,r1,q1,λd cls dx H2 s2 x' e'=>k d cls dx H1 H2 s1 s2 x' e'⟩
theorem Ok.away{K:aG}{B H:Hp}{p0 ps:List Addr}{σT:List Sl}{σ:L2.St}(o:Ok K B p0 H ps σT σ)(i:Nat):Ok K B p0 H ps (σT.set i .un) (σ.set i none) where
 base:=o.base
 sub:=o.sub
 live:=o.live
 len:=by simpa using o.len
 val:=λj d h=>by
  by_cases e:i=j
  ·subst e;have hi:i<σT.length:=by have:=(aD.mp h).1;simpa using this
   rw[bA hi]at h;cases h
  ·rw[aU e]at h |-;exact o.val j d h
 own:=λj ts h=>by
  by_cases e:i=j
  ·subst e;have hi:i<σT.length:=by have:=(aD.mp h).1;simpa using this
   rw[bA hi]at h;cases h
  ·rw[aU e]at h |-;exact o.own j ts h
 dis:=λj k ts us p h1 h2 h3 h4=>by
  have back:∀{l:Nat}{vs:List D},(σT.set i .un)[l]?=some (.own vs)->i≠l/\σT[l]?=some (.own vs):=λ{l vs} h=>by
   by_cases e:i=l
   ·subst e;have hi:i<σT.length:=by have:=(aD.mp h).1;simpa using this
    rw[bA hi]at h;cases h
   ·rw[aU e]at h;exact⟨e,h⟩
  obtain⟨n1,b1⟩:=back h1;obtain⟨n2,b2⟩:=back h2;rw[aU n1]at h3;rw[aU n2]at h4;exact o.dis j k ts us p b1 b2 h3 h4
 dc:=o.dc.setS λ_ _ z=>nomatch z
def Y0(K:aG)(J:Addr)(i:Nat)(t:ET)(ts:nI):nI:=λDT σ=>t σ λd=>(∃(C:Addr)(y:D),d=.dict [(.int (C:Nat),y)]/\dX K (.ref C) (.ref J)=some true) /\
 ts { nx:=λσ'=>DT.nx (σ'.set i .un),rt:=λ_=>False,xB:=DT.xB } (σ.set i (.val d))
theorem U0{J:Addr}{i:Nat}{h0:ExceptHandler}{hs':List ExceptHandler}{t:ET}{b0:Stmt}{suite:List Stmt}{ts:nI}(hs:RSt X st t)(hb:∀ea,qO (X.marked ea) (b0::suite) ts)
  (pt:∀{rt:L2.St->Hp->(Hp->XK)->Prop}{us:Addr->TS},RS X st rt->(∀ea,zE (X.marked ea) (b0::suite) (us ea))->PS X (.Try [st] (h0::hs') [] [] pos) (PU X.K J i rt us)):qU X (.Try [st] (h0::hs') [] [] pos) (Y0 X.K J i t ts):=by
 obtain⟨rt,rs,rr⟩:=hs;refine⟨_,pt rs (λea=>(hb ea).choose_spec.1),λB p0 H ps σT σ DT DV o h f=>rr B p0 H ps σT σ _ _ o h λd cls dx H1 H2 s1 s2 xr q=>?_⟩;obtain⟨⟨C,y,hd,hm⟩,q⟩:=q
 have main:∀C0:Addr,cls=.ref C0->C0=C->(∀ea,H2 ea=none->(∀a,dx=some a->H1 a=none)->∀u,H ea=none->u=HO.ext (lY ea C0 dx)->jF X.K (dB (gK H2 ea u) ps) d (.ref ea))->dX X.K cls (.ref J)=some true/\∃C,cls=.ref C/\∀ea,H1 ea=none->H2 ea=none->(∀a,dx=some a->H1 a=none) ->
   (hb ea).choose { nx:=λσ' H'=>DV.nx (σ'.set i none) H',rt:=λ_ _=>False } (σ.set i (some (.ref ea))) (gK H2 ea (.ext (lY ea C dx))):=λC0 hc hC hrep=>by
  subst hc;subst hC;refine⟨hm,C0,rfl,λea n1 n2 n3=>?_⟩;have nH:H ea=none:=bL.free' s1 n1;have sA:bL H (gK H2 ea (.ext (lY ea C0 dx))):=(s1.trans s2).trans (dU n2);refine(hb ea).choose_spec.2 B p0 _ ps _ _ { nx:=λσ'=>DT.nx (σ'.set i .un),rt:=λ_=>False,xB:=DT.xB } _ ((o.grow sA).set (hrep ea n2 n3 _ nH rfl)) q ⟨λH' ps' σT' σ' o' s' q'=>?_,λ_ _ _ _ _ _ q'=>q'.elim,λ_ _ _ _ _ _ q'=>q'.elim,λ_ _ _ _ _ q'=>q'.elim,λ_ _ _ _ _ _ _ _ _ q'=>q'.elim,λ_ _ _ _ _ _ _ _ _ _ _ _ _ _ _ _ _ _ q'=>q'.elim,λ_ _ _ _ _ _ _ _ _ _ _ _ _ _ q'=>q'.elim,f.xb⟩;exact f.nx H' ps' _ _ (o'.away i) ((cA sA).trans s') q'
 rcases xr with⟨C0,h1,h2,h3,xk⟩ | ⟨C0,a,n,h1,h2,h3,xk,ha⟩ | ⟨C0,a,cs,v,h1,h2,h3,xk,hf,ha,hr⟩
 ·refine main C0 h2 ?_ λea n2 n3 u nH hu=>?_
  ·rw[hd]at h1;injection h1 with h1;injection h1 with h1;injection h1 with h1;injection h1 with h1;exact(kO.inj h1).symm
  ·subst hu h1 h3;exact .exc xk (iN (eS o.live nH) cO)
 ·refine main C0 h2 ?_ λea n2 n3 u nH hu=>?_
  ·rw[hd]at h1;injection h1 with h1;injection h1 with h1;injection h1 with h1;injection h1 with h1;exact(kO.inj h1).symm
  ·subst hu h1 h3;exact .excA xk (iN (eS o.live nH) cO) (iN (eS o.live (bL.free' s1 (n3 a rfl))) (by rw[cJ (dC ha n2)];exact ha))
 ·refine main C0 h2 ?_ λea n2 n3 u nH hu=>?_
  ·rw[hd]at h1;injection h1 with h1;injection h1 with h1;injection h1 with h1;injection h1 with h1;exact(kO.inj h1).symm
  ·subst hu h1 h3;have sA:=(s1.trans s2).trans (dU (o:=HO.ext (lY ea C0 (some a))) n2);exact .excD xk (iN (eS o.live nH) cO) (iN (eS o.live (bL.free' s1 (n3 a rfl))) (by rw[cJ (dC ha n2)];exact ha)) (GF (o.grow sA).live hf (hr.same (dU n2)))
end
end TL
namespace L2
open PySem PySem.Spec PyProof.Rows
theorem uV:bootBuiltins "ValueError"=some (.type "ValueError"):=by decide +kernel
section
variable{K:aG}{C D J:Addr}{cd:ClassData}
theorem GY:cT K (.ref C) (.ref C)=some true:=by unfold cT;rw[if_pos (by simp)]
theorem oH(hc:fG K D=some cd)(ht:hZ K (.ref D)=some (.type "type"))(hm:bF K C (.ref D)=some false)(hs:bF K D (.ref D)=some true):cT K (.ref C) (.ref D)=some false:=by
 have ne:¬(Value.ref C==Value.ref D)=true:=λz=>by
  have e:C=D:=Value.ref.inj (beq_iff_eq.mp z);subst e;rw[hm]at hs;cases hs
 unfold cT;rw[if_neg ne];unfold tV;dsimp only;rw[hc,ht];show(if(true&&(some (Value.type "type")==some (Value.type "type")))=true then _ else _)=_;rw[if_pos (by simp)];exact hm
theorem oG{T:String}{b:Bool}(hk:kS T=true)(hm:bF K C (.type T)=some b):cT K (.ref C) (.type T)=some b:=by
 unfold cT;rw[if_neg (λz=>by cases beq_iff_eq.mp z)];unfold tV;dsimp only;rw[if_pos hk];exact hm
theorem zV(hc:fG K J=some cd)(ht:hZ K (.ref J)=some (.type "type"))(hb:bF K J (.type "BaseException")=some true)(hm:bF K C (.ref J)=some true):dX K (.ref C) (.ref J)=some true:=by
 unfold dX;have e:UL K (.ref J) (.type "BaseException")=some true:=hb;rw[e,if_pos (by simp)];unfold tV;dsimp only;rw[hc,ht];show(if(true&&(some (Value.type "type")==some (Value.type "type")))=true then _ else _)=_;rw[if_pos (by simp)];exact hm
theorem zS{N:Addr}{c:Value}{d:Option Addr}{es:Array DictEntry}{n:Nat}{sl:Array (Option Value)}(l:K.lookup N=some ⟨c,d,.dict es n,sl⟩)(h:(es.toList.all λe=>match e.key with | .str _ _=>true | _=>false)=true):mY K N=true:=by
 unfold mY;rw[l];rw[UF]at h;exact h
theorem SA:kS "int"=true:=by decide +kernel
theorem R9:kS "str"=true:=by decide +kernel
theorem LQ:kS "list"=true:=by decide +kernel
theorem GW:kS "tuple"=true:=by decide +kernel
theorem LR:kS "bool"=true:=by decide +kernel
theorem uT:kS "ValueError"=true:=by decide +kernel
end
theorem vF{X:Cx}:DN X.nox:=λ_ _ h=>h
end L2
namespace TL
open PySem PySem.Spec PyProof.Rows L2
section
variable{X:Cx}{e:Expr}{te:ET}{pos:Pos}
def aDm(K:aG)(c:Value)(cv:V):List V->Hp->VK->Prop:=λxs H Q=>∃(p C:Addr)(dx:Option Addr)(b:Bool),xs=[.ref p,cv]/\H p=some (.ext (lY p C dx))/\(∀d,dx=some d->∃fs,H d=some (.xd fs))/\yC K C/\cT K (.ref C) c=some b/\Q (.bl b) H
theorem HM{c:Value}{cv:V}(hc:∀u,iO cv u->u=c):lH X (.builtin "isinstance") (aDm X.K c cv):=by
 intro pins s σ H xs us Q I r h;obtain⟨p,C,dx,b,rfl,hp,hd,hx,hk,q⟩:=h;obtain⟨u,w,rfl,ru,rw'⟩:=KP r;obtain rfl:=hc _ rw';cases ru;exact J3 I hp hd hx hk λtk=>⟨.bl b,H,I.tok tk,rfl,q⟩
def aBs(K:aG)(c:Value)(te:ET):ET:=λσ Q=>te σ λd=>∃(C:Addr)(y:D)(b:Bool),d=.dict [(.int (C:Nat),y)]/\cT K (.ref C) c=some b/\Q (.bool b)
theorem SY{c:Value}{cv:V}{g1 g2:Expr}(he:jD X e te)(pc:∀{v:TE},PE X e v->PE X (.Call g1 [e,g2] [] pos) (P0 (aDm X.K c cv) (pO v (pO (tC cv) yX)))):jD X (.Call g1 [e,g2] [] pos) (aBs X.K c te):=by
 obtain⟨v,pe,re⟩:=he;refine⟨_,pc pe,λB p0 H ps σT σ Q QV o h k=>re B p0 H ps σT σ _ _ o h λd x H1 s1 r1 q1=>?_⟩;obtain⟨C,y,b,rfl,hk,q⟩:=q1
 generalize hg:(uJ [(.int (C:Nat),y)])=d at r1
 cases r1 with
 |@exc p C' xk hp=>
  injection hg with hg;injection hg with hg;injection hg with hg hy;injection hg with hg
  obtain rfl:C=C':=kO.inj hg;exact⟨p,C,none,b,rfl,bZ _ _ hp,(λ_ z=>nomatch z),xk.1,hk,k _ _ H1 s1 (.bool _) q⟩
 |@excA p C' dx n xk hp hx=>
  injection hg with hg;injection hg with hg;injection hg with hg hy;injection hg with hg
  obtain rfl:C=C':=kO.inj hg;exact⟨p,C,some dx,b,rfl,bZ _ _ hp,λ_ z=>by cases z;exact⟨_,bZ _ _ hx⟩,xk.1,hk,k _ _ H1 s1 (.bool _) q⟩
 |@excD p C' dx n cs2 xk hp hx _=>
  injection hg with hg;injection hg with hg;injection hg with hg hy;injection hg with hg
  obtain rfl:C=C':=kO.inj hg;exact⟨p,C,some dx,b,rfl,bZ _ _ hp,λ_ z=>by cases z;exact⟨_,bZ _ _ hx⟩,xk.1,hk,k _ _ H1 s1 (.bool _) q⟩
 |_=>cases hg
end
end TL
namespace L2
open PySem PySem.Spec PyProof.Rows TL
section
variable{X:Cx}
def Y3(K:aG):List V->Hp->VK->Prop:=λxs H Q=>∃(p C:Addr)(dx:Option Addr)(tp:Addr)(cs:List Addr)(b:Bool),xs=[.ref p,.ref tp]/\H p=some (.ext (lY p C dx))/\(∀d,dx=some d->∃fs,H d=some (.xd fs))/\yC K C/\H tp=some (.tup (cs.map V.ref))/\kG K (.ref C) (cs.map Value.ref)=some b/\Q (.bl b) H
theorem CI:∀{cs:List Addr}{us:List Value},gX (cs.map V.ref) us->us=cs.map Value.ref
|[],_,.nil=>rfl
|c::cs,_,.cons r t=>by
 have e:_=Value.ref c:=r;rw[bM,<- e,CI t]
theorem DE:lH X (.builtin "isinstance") (Y3 X.K):=by
 intro pins s σ H xs us Q I r h;obtain⟨p,C,dx,tp,cs,b,rfl,hp,hd,hx,ht,hk,q⟩:=h;obtain⟨u,w,rfl,ru,rw'⟩:=KP r;cases ru;cases rw';obtain⟨_,its,hv,o,ho,hc,n,hdt,_⟩:=I.hok tp _ ht;obtain rfl:=CI hv;obtain⟨cls,dd,dt,sl⟩:=o;subst hc hdt;refine PySem.W.kia_tup (GX hx) I.kIn ?_ ho hk (λz=>nomatch z) λtk=>⟨.bl b,H,I.tok tk,rfl,q⟩;obtain⟨⟨o,vs,h1,h2,h3,h4⟩,_⟩:=I.hok p _ hp;have hn:pI o=true:=by unfold pI;rw[h4]
 cases dx with
 |none=>exact⟨o,none,h1,h2,hn,by rw[h3];trivial⟩
 |some d=>
  obtain⟨fs,hf⟩:=hd d rfl;obtain⟨mA,⟨od,es,ep,he,_⟩,_⟩:=I.hok d _ hf;exact⟨o,some od,h1,h2,hn,by rw[h3];exact he⟩
end
end L2
namespace TL
open PySem PySem.Spec PyProof.Rows L2
section
variable{X:Cx}{e:Expr}{es:List Expr}{te:ET}{pos:Pos}
def PV:List Addr->TA
|[]=>yX
|c::cs=>pO (tC (.ref c)) (PV cs)
theorem LB:∀(cs:List Addr)(σ:L2.St)(H:Hp)(Q:List V->Hp->Prop),Q (cs.map V.ref) H->PV cs σ H Q
|[],_,_,_,q=>q
|c::cs,σ,H,Q,q=>LB cs σ H (λxs H'=>Q (V.ref c::xs) H') q
def S6(K:aG)(cs:List Addr)(te:ET):ET:=λσ Q=>te σ λd=>∃(C:Addr)(y:D)(b:Bool),d=.dict [(.int (C:Nat),y)]/\cs.length<=1000/\kG K (.ref C) (cs.map Value.ref)=some b/\Q (.bool b)
theorem L7{cs:List Addr}{g1:Expr}{x1:Nat}{p2:Pos}(he:jD X e te)(pc:∀{v:TE},PE X e v->PE X (.Call g1 [e,.Tuple es x1 p2] [] pos) (P0 (Y3 X.K) (pO v (pO (aCu (PV cs)) yX)))):jD X (.Call g1 [e,.Tuple es x1 p2] [] pos) (S6 X.K cs te):=by
 obtain⟨v,pe,re⟩:=he;refine⟨_,pc pe,λB p0 H ps σT σ Q QV o h k=>re B p0 H ps σT σ _ _ o h λd x H1 s1 r1 q1=>?_⟩;obtain⟨C,y,b,rfl,hl,hk,q⟩:=q1;refine LB cs σ H1 _ ⟨uC (by rw[aE];exact hl),λtp htp=>?_⟩
 generalize hg:(uJ [(.int (C:Nat),y)])=d at r1
 have sN:bL H1 (gK H1 tp (.tup (cs.map V.ref))):=dU htp
 cases r1 with
 |@exc p C' xk hp=>
  injection hg with hg;injection hg with hg;injection hg with hg hy;injection hg with hg
  obtain rfl:C=C':=kO.inj hg;exact⟨p,C,none,tp,cs,b,rfl,sN _ _ (bZ _ _ hp),(λ_ z=>nomatch z),xk.1,cO,hk,k _ _ _ (s1.trans sN) (.bool _) q⟩
 |@excA p C' dx n xk hp hx=>
  injection hg with hg;injection hg with hg;injection hg with hg hy;injection hg with hg
  obtain rfl:C=C':=kO.inj hg;exact⟨p,C,some dx,tp,cs,b,rfl,sN _ _ (bZ _ _ hp),λ_ z=>by cases z;exact⟨_,sN _ _ (bZ _ _ hx)⟩,xk.1,cO,hk,k _ _ _ (s1.trans sN) (.bool _) q⟩
 |@excD p C' dx n cs2 xk hp hx _=>
  injection hg with hg;injection hg with hg;injection hg with hg hy;injection hg with hg
  obtain rfl:C=C':=kO.inj hg;exact⟨p,C,some dx,tp,cs,b,rfl,sN _ _ (bZ _ _ hp),λ_ z=>by cases z;exact⟨_,sN _ _ (bZ _ _ hx)⟩,xk.1,cO,hk,k _ _ _ (s1.trans sN) (.bool _) q⟩
 |_=>cases hg
theorem P4{J:Addr}{i:Nat}{st:Stmt}{jn nn:Str}{jp hp:Pos}{hs':List ExceptHandler}{t:ET}{b0:Stmt}{suite:List Stmt}{ts:nI}(hs:RSt X st t)(hb:∀ea,qO (X.marked ea) (b0::suite) ts)
  (pt:∀{rt:L2.St->Hp->(Hp->XK)->Prop}{us:Addr->TS},RS X st rt->(∀ea,zE (X.marked ea) (b0::suite) (us ea))->PS X (.Try [st] (.ExceptHandler (some (.Name jn jp)) (some nn) (b0::suite) hp::hs') [] [] pos) (PU X.K J i rt us)):qU X (.Try [st] (.ExceptHandler (some (.Name jn jp)) (some nn) (b0::suite) hp::hs') [] [] pos) (Y0 X.K J i t ts):=U0 hs hb pt
end
end TL
namespace L2
open PySem PySem.Spec PyProof.Rows
section
variable{prog:bE}{w:World}{A:Around}{E:Value->Shared->Prop}{h:Heap}{g:Array GenState}{d:Drawn}{t:Nat}{os:OsState}
variable{nm q:Str}{C N:Addr}{bs bm bmB:List Value}{hdct:Bool}{sn:List Str}{sub:List Value}{ab:Bool}{col:Option Bool}{dd:Option Addr}{k0 k1 k2 k3 k5:Option Value}{B Bn newId nid initId inN:String}{bmN:List Value}
abbrev pT(h:Heap)(C:Addr)(rest:List Value):Heap:=
 let a:Obj:={ cls:=.type "tuple",data:=.seq rest.toArray }
 let b:Obj:={ cls:=.ref C,data:=.fields #[.ref h.objs.size,.none,.none,.none,.bool false,.none] }
 (h.push a).push b
theorem mK{rest:List Value}{b:Addr}{o:Obj}(e:h.get? b=some o):(pT h C rest).get? b=some o:=aI _ (aI _ e)
theorem KB{rest:List Value}:Heap.MadeExcOf h (pT h C rest) (h.objs.size+1) (.ref C) rest where
 keeps:=λb o e=>mK e
 new:=gF (BZ _)
 there:=⟨h.objs.size,by heap_get,gF (aN _),aI _ (UE rfl rfl)⟩
theorem IS(Fn:ExcBaseFacts Bn newId inN bmN)(hBn:bmB.contains (.type Bn)=true)(F:ExcBaseFacts B nid initId bmB)(T:OwnTail h bmB bm){mN:Str->Option Value}{rest:List Value}{fI:Addr}{oI:Obj}{Q:Fin->Shared->Prop}
  (hC:h.get? C=some (excClassObj nm q C N bs bm hdct sn sub ab col dd k0 k1 k2 k3 k5 newId)) (hn:h.Ns N mN) (hi:mN "__init__"=some (.ref fI)) (hfI:h.get? fI=some oI) (hfc:oI.cls=.type "function") (hrest:rest.length<=bU)
  (hq:wpAny (model prog w) A (call (.ref fI) (.ref (h.objs.size+1)::rest)) (λr s'=>r=.none/\Q (.done (.ret (.ref (h.objs.size+1)))) s') E ⟨pT h C rest,g,d,t,os⟩) :
  wpAny (model prog w) A (Builtin.«type.__call__» ⟨.ref C::rest,[]⟩) Q E ⟨h,g,d,t,os⟩:=by
 repeat (first | (with_reducible refine wpAny_loadPart_at hC ?_) | (with_reducible refine wpAny_madeBy_exc hC ?_) | wp_step)
 refine codeAny_call_builtin_code (Code.quiet_builtin _ Fn.quiet) (wpAny_check_new_subU Fn hBn T hC (codeAny_exc_new_subU Fn hBn F T hC ?_ hrest));show wpAny _ _ _ _ _ ⟨pT h C rest,g,d,t,os⟩;have hC1:(pT h C rest).get? C=_:=mK hC;have hn1:(pT h C rest).Ns N mN:=let ⟨o,es,ep,e,r⟩:=hn;⟨o,es,ep,mK e,r⟩
 obtain⟨t1,hget,_⟩:=(KB (h:=h) (C:=C) (rest:=rest)).there;have hcC:(Value.ref C::bm).contains (.ref C)=true:=by simp
 have T1:OwnTail (pT h C rest) bmB bm:=T.keeps λb o e=>mK e;unfold isInstance
 repeat (first | (with_reducible refine wpAny_loadPart_at hget ?_) | (with_reducible refine wpAny_isSubtype_exc hC1 ?_;rw[hcC]) | wp_step)
 show wpAny _ _ (typeLookup (.ref C) _) _ _ _;refine wpAny_typeLookup_tail hC1 hn1 T1 F.mroIs F.init.lookup ?_;rw[hi];refine wpAny_holding (aB ?_);unfold bindSpecial;refine aB (wpAny_typeOf (T:="function") ⟨_,mK hfI,hfc⟩ ?_);rw[if_pos (by decide)];refine aJ (aB (dW hq (λr s' hr=>?_) λ_ _ x=>x));obtain⟨rfl,hQ⟩:=hr
 wp_walk
 exact hQ
end
section
variable{prog:bE}{w:World}{A:Around}{E:Value->Shared->Prop}{h:Heap}{g:Array GenState}{d:Drawn}{t:Nat}{os:OsState}{env:Env}
variable{nm q:Str}{C N:Addr}{bs bm bmB:List Value}{hdct:Bool}{sn:List Str}{sub:List Value}{ab:Bool}{col:Option Bool}{dd:Option Addr}{k0 k1 k2 k3 k5:Option Value}{B Bn newId nid initId inN:String}{bmN:List Value}
abbrev EW(t1:Addr):Array Value:=#[.ref t1,.none,.none,.none,.bool false,.none]
theorem OI(Fn:ExcBaseFacts Bn newId inN bmN)(hBn:bmB.contains (.type Bn)=true)(F:ExcBaseFacts B nid initId bmB)(T:OwnTail h bmB bm){mN:Str->Option Value}{rest:List Value}{fI:Addr}{oI:Obj}{Q:Value->Shared->Prop}
  (hC:h.get? C=some (excClassObj nm q C N bs bm hdct sn sub ab col dd k0 k1 k2 k3 k5 newId)) (hn:h.Ns N mN) (hi:mN "__init__"=some (.ref fI)) (hfI:h.get? fI=some oI) (hfc:oI.cls=.type "function") (hrest:rest.length<=bU)
  (hq:wpAny (model prog w) (A.under (.builtin "type.__call__" ⟨.ref C::rest,[]⟩)) (call (.ref fI) (.ref (h.objs.size+1)::rest)) (λr s'=>r=.none/\Q (.ref (h.objs.size+1)) s') E ⟨pT h C rest,g,d,t,os⟩) :
  wpAny (model prog w) A (call (.ref C) rest) Q E ⟨h,g,d,t,os⟩:=by
 have ty:Shared.TypeIs ⟨h,g,d,t,os⟩ (.ref C) "type":=⟨_,hC,rfl⟩;have b1:=tc_lookup;have b2:=tc_bind (.ref C);refine wpAny_call (codeAny_of_tree ?_);show wpAny _ _ (callAny (.ref C) _) _ _ _
 repeat (any_goals (first | assumption | (with_reducible refine wpAny_loadPart_at hC ?_) | wp_step))
 exact⟨rfl,codeAny_call_builtin_at (Code.quiet_builtin _ (by decide +kernel)) entry_typeCall (wpAny_check_type_call_sub hC (IS Fn hBn F T hC hn hi hfI hfc hrest hq))⟩
theorem M9{s:Shared}{x:Sem Value}{Q:Flow->Shared->Prop}(hbase:bm.contains (.type "BaseException")=true)(hh:A.handled=none)
  (hx:wpAny (model prog w) A x (λv s₁=>∃e dx t1,v=.ref e/\s₁.heap.get? C=some (excClassObj nm q C N bs bm hdct sn sub ab col dd k0 k1 k2 k3 k5 newId)/\s₁.heap.get? e=some { cls:=.ref C,dict:=dx,data:=.fields (EW t1) }/\E (.ref e) s₁) E s) :
  wpAny (model prog w) A (raiseStmt env (some x) none) Q E s:=by
 have hcB:(Value.ref C::bm).contains (.type "BaseException")=true:=by rw[List.contains_cons,hbase,Bool.or_true]
 unfold raiseStmt;refine aB (dW hx (λv s₁ z=>?_) λ_ _ z=>z);obtain⟨e,dx,t1,rfl,hC,he,hE⟩:=z;obtain⟨hp,g,d,tk,os⟩:=s₁
 repeat (first | (with_reducible refine wpAny_loadPart_at he ?_) | (with_reducible refine wpAny_loadPart_at hC ?_) | (with_reducible refine wpAny_isSubtype_exc hC ?_;rw[hcB]) | wp_step)
 exact wpAny_raiseNew_none hh hE
theorem IV{s:Shared}{x:Str}{np cpos pos:Pos}{args:List Expr}{Q:Flow->Shared->Prop}(hbase:bm.contains (.type "BaseException")=true)(hh:A.handled=none)(hpl:(backTo cpos (bV args env)).any (·.1)=false)
  (hx:wpAny (model prog w) A (eval (.Name x np) env) (λf s₁=>f=.ref C/\wpAny (model prog w) A (evalArgs (.ref C) true (backTo cpos (bV args env)) []) (λa s₂=>a.kw=[]/\s₂.heap.get? C=some (excClassObj nm q C N bs bm hdct sn sub ab col dd k0 k1 k2 k3 k5 newId) /\
   wpAny (model prog w) A (call (.ref C) a.pos) (λv s₃=>∃e dx t1,v=.ref e/\s₃.heap.get? C=some (excClassObj nm q C N bs bm hdct sn sub ab col dd k0 k1 k2 k3 k5 newId)/\s₃.heap.get? e=some { cls:=.ref C,dict:=dx,data:=.fields (EW t1) }/\E (.ref e) s₃) E s₂) E s₁) E s) :
  wpAny (model prog w) A (exec (.Raise (some (.Call (.Name x np) args [] cpos)) none pos) env) Q E s:=by
 rw[arm_exec_Raise];refine aB (wpAny_standAt (M9 (C:=C) (nm:=nm) (q:=q) (N:=N) (bs:=bs) (bm:=bm) (hdct:=hdct) (sn:=sn) (sub:=sub) (ab:=ab) (col:=col) (dd:=dd) (k0:=k0) (k1:=k1) (k2:=k2) (k3:=k3) (k5:=k5) (newId:=newId) hbase hh ?_));refine aB (dW (wpAny_Call_ofName (dW hx (λf s₁ z=>?_) λ_ _ z=>z)) (λv s₃ z=>aB (wpAny_standAt (aJ z))) λ_ _ z=>z);obtain⟨rfl,z⟩:=z;unfold callWith;refine aB (wpAny_holding (dW z (λa s₂ y=>aB (wpAny_standAt ?_)) λ_ _ y=>y));obtain⟨apos,akw⟩:=a;obtain⟨hkw,hC,y⟩:=y;obtain rfl:akw=[]:=hkw;obtain⟨hp,g,d,tk,os⟩:=s₂;simp only[hpl];refine aB (wpAny_keeperOf_exc hC (aB (dW y (λv s₃ u=>aB (wpAny_holding (wpAny_point (aJ u)))) λ_ _ u=>u)))
end
end L2
namespace L2
open PySem PySem.Spec PyProof.Rows
open Builtin Builtin.ObjectAttr
def lU(p C:Addr)(dx:Option Addr)(h:Heap):Prop:=∃t1:Addr,h.get? p=some { cls:=.ref C,dict:=dx,data:=.fields (EW t1) }
structure UJ(K:aG)(C:Addr):Prop where
 sa:fD K (.ref C) "__setattr__"=some (some (.builtin "object.__setattr__"))
 no:fD K (.ref C) "case"=some none
 cd:∃cd J,fG K C=some cd/\cd.hasDict=true/\cd.mro=[.ref C,.ref J,.type "ValueError",.type "Exception",.type "BaseException",.type "object"]
section
variable{prog:bE}{w:World}{A:Around}{E:Value->Shared->Prop}{s:Shared}{K:aG}{a C:Addr}{v:Value}
theorem aAa{Q:Unit->Shared->Prop}(X:K.In s.heap)(c:UJ K C)(hx:lU a C none s.heap)
  (h:∀h' tk,lU a C (some s.heap.objs.size) h'->h'.Ns1 s.heap.objs.size (λy=>if y="case" then some v else none)->(∀b o,b≠a->s.heap.get? b=some o->h'.get? b=some o)->Q () { s with heap:=h',toks:=tk }) :
  wpAny (model prog w) A (setAttr (.ref a) "case" v) Q E s:=by
 obtain⟨t1,hx⟩:=hx;obtain⟨hh,g,dr,tk,os⟩:=s;obtain⟨cd,J,hc,hdd,hm⟩:=c.cd;have I:iA hh a _ C none:=⟨hx,rfl,rfl,True.intro⟩;have SF:=PySem.F.store_object;have top:nS (model prog w) hh (isInstance (.ref a) (.type "object")) true:=I.type.andThen (IG X (by unfold bF;rw[hc,Option.bind_some,hm];simp));have mr:nS (model prog w) hh (mroOf (.ref C)) cd.mro:=(IH X hc).andThen .now;refine PySem.W.set_plain X I c.sa ?_;refine codeAny_call_builtin SF.slot.plain SF.entry ?_;have ag:=SF.args (.ref a) (.str "case" tk) v;refine PySem.W.check_slot (i:="object.__setattr__") (owner:="object") (n:="__setattr__") (self:=.ref a) (rest:=[.str "case" tk,v]) (kw:=[]) SF.kind SF.split top ag ?_;rw[PySem.W.osa_eq,refuse_eq];refine aB (aB (I.type.at (aB (mr.at ?_))));rw[hm,refuseLoop_ref,refuseLoop_ref,PySem.F.store_ValueError.passes];refine aJ (aB (I.type.at (aB ((jQ X c.no).at (aB (aJ ?_))))));dsimp only;unfold storeInOwnDict;refine aB (aJ (aB ?_));unfold ownDictForStores instanceDict;refine aB (wpAny_loadPart hx (aB ((IH X hc).at ?_)));rw[hdd];have n1:a≠hh.objs.size:=bP (bC hx);have hx1:(hh.push { cls:=.type "dict",data:=.dict #[] }).get? a=some _:=aI _ hx;rw[if_neg (by decide)];dsimp only;rw[if_neg (by simp[typeHasDict])];refine aB (wpAny_alloc' (aB (wpAny_update' hx1 (aJ ?_))));show wpAny _ _ (storeInDict hh.objs.size (.str "case" tk) "case" v) _ _ _;have gd:((hh.push { cls:=.type "dict",data:=.dict #[] }).update a λo=>{ o with dict:=some hh.objs.size }).get? hh.objs.size=some { cls:=.type "dict",data:=.dict #[] }:=(OZ _ _ _ _ n1.symm).trans (UE rfl rfl);have nd:((hh.push { cls:=.type "dict",data:=.dict #[] }).update a λo=>{ o with dict:=some hh.objs.size }).Ns hh.objs.size (λ_=>none):=⟨_,#[],_,gd,rfl,λe he=>absurd he (by simp),λ_=>rfl⟩;unfold storeInDict newKeyGuard;refine aB (aJ (aB (wpAny_nsSet1 (Heap.Ns1.of_empty nd) λh' hn' hs=>?_)));obtain⟨oD,esD,epD,hoD,hdD,hcD⟩:=hn'.count (Within.cons "case" v Within.nil);refine aB (wpAny_lookBehind hoD (by rw[hdD];exact pastItsLine_dict (cP hcD (by rw[cE,iG,sizeLine_eq];omega))) ?_);refine aJ (h h' _ ⟨t1,?_⟩ hn' λb o n e=>?_)
 ·exact(hs.2 a n1).trans (dR _ hx1 rfl)
 ·exact(hs.2 b (bP (bC e))).trans ((OZ _ _ _ _ n).trans (aI _ e))
end
end L2
namespace L2
open PySem PySem.Spec PyProof.Rows
abbrev pV(H:Hp)(a C dx:Addr)(n:V):Hp:=gK (gK H dx (.xd [("case",n)])) a (.ext (lU a C (some dx)))
section
variable{P:bE}{w:World}{H:Hp}{h h':Heap}{a C:Addr}{n:V}{v:Value}{fs:List Addr}
theorem vU{dx:Addr}:pV H a C dx n a=some (.ext (lU a C (some dx))):=cO
theorem PL{dx:Addr}(z:dx≠a):pV H a C dx n dx=some (.xd [("case",n)]):=(cJ z).trans cO
theorem vV{b dx:Addr}(z:b≠a)(y:b≠dx):pV H a C dx n b=H b:=(cJ z).trans (cJ y)
theorem BR{dx:Option Addr}{h1 h2:Heap}(x:lU a C dx h1)(k:∀o,h1.get? a=some o->h2.get? a=some o):lU a C dx h2:=let ⟨t1,e⟩:=x;⟨t1,k _ e⟩
theorem aFy(e:H a=some (.ext (lU a C none)))(hd:H h.objs.size=none)(k:∀b o,b≠a->h.get? b=some o->h'.get? b=some o)(hb:lU a C (some h.objs.size) h'):Un fs [] H (pV H a C h.objs.size n) h h' where
 keep:=λb o q z _ _=>k b o (dC e z).symm q
 slot:=λb o q z _ _=>⟨o.slots,k b o (dC e z).symm q⟩
 free:=λb o q z _=>by rw[vV (dC e z).symm (bP (bC q))];exact z
 there:=λb o q _=>by
  by_cases x:b=a
  ·subst x;obtain⟨_,z⟩:=hb;exact⟨_,z⟩
  ·exact⟨o,k b o x q⟩
 tups:=λb xs z=>by rw[vV (AX z e (by simp)) (dC z hd)];exact z
 frzs:=λb o u z=>by rw[vV (AX z e (by simp)) (dC z hd)];exact z
 tbls:=λb ps z=>⟨#[],by rw[vV (AX z e (by simp)) (dC z hd),O1];exact z⟩
theorem aFz(x:rV P w H h)(e:H a=some (.ext (lU a C none)))(hd:H h.objs.size=none)(k:∀b o,b≠a->h.get? b=some o->h'.get? b=some o)(hb:lU a C (some h.objs.size) h')(hn:h'.Ns1 h.objs.size (λy=>if y="case" then some v else none))(rv:iO n v) :
  rV P w (pV H a C h.objs.size n) h':=λb u q=>by
 by_cases z:b=a
 ·subst z;rw[vU]at q;cases q;exact⟨hb,let ⟨_,z⟩:=hb;⟨_,z⟩,λh1 h2 y k=>BR y k⟩
 ·by_cases y:b=h.objs.size
  ·subst y;rw[PL z]at q;cases q;refine⟨_,hn,λf=>?_⟩;by_cases hf:f="case"
   ·subst hf;show KG (some n) (some v);exact rv
   ·rw[if_neg hf];have hbq:(f==("case":Str))=false:=beq_eq_false_iff_ne.mpr hf;show KG (vA f [("case",n)]) none;simp only[vA,hbq];exact True.intro
  ·rw[vV z y]at q;refine(x b u q).stay (λc o hc g=>?_) (λc g=>?_) (λc xs g=>?_) λc ob v g=>?_
   ·refine k c o ?_ g;rcases hc with rfl | hc
    ·exact z
    ·exact AX hc e (by simp)
   ·rw[vV (AX g e (by simp)) (dC g hd)];exact g
   ·rw[vV (AX g e (by simp)) (dC g hd)];exact g
   ·rw[vV (AX g e (by simp)) (dC g hd)];exact g
end
section
variable{X:Cx}{o value:Expr}{pos pos':Pos}{ta tv:TE}{C:Addr}
def sAt(C:Addr)(ta tv:TE):TS:=λD σ H=>tv σ H λy H1=>ta σ H1 λx H2=>∃(a:Addr)(n:V),y=n/\x=.ref a/\H2 a=some (.ext (lU a C none))/\∀dx,H2 dx=none->D.nx σ (pV H2 a C dx n)
theorem aDr(c:UJ X.K C)(ha:PE X o ta)(hv:PE X value tv)(hs:lA value (some (.Attribute o "case" pos')) pos.line X.env=pure false:=by rfl):PS X (.Assign [.Attribute o "case" pos'] value pos) (sAt C ta tv):=by
 intro pins s σ H D I h;refine plainObj_wpAny_Assign_Attribute (kJ (hv pins s σ H _ I h) λu s1 ⟨y,H1,I1,ry,q⟩=>kJ (ha pins s1 σ H1 _ I1 q) λov s2 ⟨x,H2,I2,rx,z⟩=>?_) hs;obtain⟨a,n,rfl,rfl,e,q2⟩:=z;obtain rfl:ov=Value.ref a:=rx;obtain⟨hb,_,_⟩:=I2.hok a _ e;have hd:H2 s2.heap.objs.size=none:=I2.hok.fresh (aN _);refine aAa I2.kIn c hb λh' tk hb' hn k=>⟨σ,_,I2.un (t':=tk) (aFy (n:=y) e hd k hb') (aFz I2.hok e hd k hb' hn ry),q2 _ hd⟩
end
def pX(s:Stmt):Stmt:=match s with
|.ClassDef _ _ _ (f::_) _ _ _ _ _ _ _=>f
|_=>.Pass ⟨0,0,0,0⟩
def IU(C:Addr):Sp:=λvs H Q _=>∃(a:Addr)(n:V),vs=[.ref a,n]/\H a=some (.ext (lU a C none))/\∀dx,H dx=none->Q .non (pV H a C dx n)
theorem WN{P:bE}{w:World}{K:aG}{mg:Str->Option Value}{base:Heap}{C:Addr}{x qual:Str}{st:Stmt}{f:Addr}{fd:eI}{p1 p2 p3 p4:Pos}(F:T7 K x qual st f fd)(S:cQ ["self","case"] ["self","case"] (bJ st))(c:UJ K C)
  (hb:mE st=[.Assign [.Attribute (.Name "self" p1) "case" p2] (.Name "case" p3) p4]):bX P w K mg base eR 1 f fd ["self","case"] (IU C):=by
 refine F.ok S (λvs H Q E h=>by obtain⟨a,n,rfl,_⟩:=h;rfl) λcdv A outer s H vs Q E hr h=>?_;obtain⟨a,n,rfl,e,q⟩:=h;have nd:=S.nd;rw[hb];have v1:Vis (bJ st) "self":=(S.par "self" (by simp)).elim .inl λz=>.inr (.inl z);have v2:Vis (bJ st) "case":=(S.par "case" (by simp)).elim .inl λz=>.inr (.inl z);exact⟨_,LH (aDr c (pv 0 rfl v1) (pv 1 rfl v2)),_,rfl,_,rfl,a,n,rfl,rfl,e,q⟩
def aF5(K:aG)(C fI:Addr):Prop:=∃nm q N bs hdct sn sub ab col dd k0 k1 k2 k3 k5 J c0 dJ cdJ slJ oI,
 K.lookup C=some (excClassObj nm q C N bs (.ref J::[.type "ValueError",.type "Exception",.type "BaseException",.type "object"]) hdct sn sub ab col dd k0 k1 k2 k3 k5 "ValueError.__new__") /\
 mY K N=true/\eN K N "__init__"=some (some (.ref fI))/\K.lookup J=some ⟨c0,dJ,.cls cdJ,slJ⟩/\mY K cdJ.ns=true/\eN K cdJ.ns "__init__"=some none/\K.lookup fI=some oI/\oI.cls=.type "function"
theorem V5{K:aG}{h:Heap}{N:Addr}{m:Str->Option Value}{n:Str}{v:Value}(X:K.In h)(G:h.Ns N m)(e:eN K N n=some (some v)):m n=some v:=by
 obtain⟨o,es,ep,ho,hd,_,hf⟩:=G;unfold eN at e;split at e
 ·rename_i q;have z:=X _ _ q;rw[ho]at z;cases z;cases hd;split at e
  ·rename_i y he;rw[<- hf];unfold nsFind findBy;rw[<- wX,he];cases e;rfl
  ·split at e<;>cases e
 ·cases e
theorem MA{P:bE}{w:World}{H1:Hp}{h:Heap}{ea dx C:Addr}{n:V}{u:HO}(he:H1 ea=none)(hd:dx≠ea)(x:rV P w (pV (gK H1 ea u) ea C dx n) h):rV P w (gK H1 dx (.xd [("case",n)])) h:=λb o q=>by
 have hb:b≠ea:=λz=>by rw[z,cJ (Ne.symm hd),he]at q;cases q
 have eq:∀c,c≠ea->pV (gK H1 ea u) ea C dx n c=gK H1 dx (.xd [("case",n)]) c:=λc hc=>by
  by_cases z:c=dx
  ·subst z;rw[PL hc,cO]
  ·rw[vV hc z,cJ hc,cJ z]
 have q':=q;rw[<- eq b hb]at q';refine(x b o q').stay (λc v _ g=>g) (λc g=>?_) (λc xs g=>?_) λc ob v g=>?_
 ·have hc:c≠ea:=λz=>by rw[z,vU]at g;cases g
  rw[<- eq c hc];exact g
 ·have hc:c≠ea:=λz=>by rw[z,vU]at g;cases g
  rw[<- eq c hc];exact g
 ·have hc:c≠ea:=λz=>by rw[z,vU]at g;cases g
  rw[<- eq c hc];exact g
def KQ(C:Addr)(E:XK)(t:TA):TS:=λ_ σ H=>t σ H λvs H1=>∃n:V,vs=[n]/\∀dx,H1 dx=none->E (.ref C) (some dx) (gK H1 dx (.xd [("case",n)]))
section
variable{P:bE}{w:World}{K:aG}{mg:Str->Option Value}{base:Heap}{N:List Str}{qual:Str}{scope:Scope}{f:Addr}{cd:Value}{A:Around}{outer:List Env}{s:Shared}{H:Hp}{E:XK}
theorem NB{C fI:Addr}{fd:eI}{k:Nat}{x:Str}{np cpos pos:Pos}{e:Expr}{es:List Expr}{t:TA}(R:aF5 K C fI)(FI:bX P w K mg base eR 1 fI fd ["self","case"] (IU C))(hbI:tU K fd ["self","case"] [])(hr:Room (k+2) (A.deeper (envOfC qual scope s.heap.objs.size f cd)))(hg:Gl (zG P w K mg base N qual scope f cd A outer s H E) x)(hm:mg x=some (.ref C))
  (ha:PA (zG P w K mg base N qual scope f cd A outer s H E) (e::es) t) (hd:(x==("__debug__":Str))=false:=by decide)
  (he:bV (e::es) (envOfC qual scope s.heap.objs.size f cd)=(false,eval e (envOfC qual scope s.heap.objs.size f cd))::bV es (envOfC qual scope s.heap.objs.size f cd):=by rfl)
  (hpl:(backTo cpos (bV (e::es) (envOfC qual scope s.heap.objs.size f cd))).any (·.1)=false:=by rfl) :
  PS (zG P w K mg base N qual scope f cd A outer s H E) (.Raise (some (.Call (.Name x np) (e::es) [] cpos)) none pos) (KQ C E t):=by
 intro pins s1 σ H1 D I h;obtain⟨nm,q,NC,bs,hdct,sn,sub,ab,col,dd,k0,k1,k2,k3,k5,J,c0,dJ,cdJ,slJ,oI,lC,nC,iC,lJ,nJ,iJ,lI,cI⟩:=R;have gC:=CH.of_isNs (pJ I.mod.kin nC);have gJ:=CH.of_isNs (pJ I.mod.kin nJ);have vC:=V5 I.mod.kin gC iC;have vJ:=EJ I.mod.kin gJ iJ;refine IV (C:=C) (nm:=nm) (q:=q) (N:=NC) (bs:=bs) (bm:=.ref J::[.type "ValueError",.type "Exception",.type "BaseException",.type "object"]) (hdct:=hdct) (sn:=sn) (sub:=sub) (ab:=ab) (col:=col) (dd:=dd) (k0:=k0) (k1:=k1) (k2:=k2) (k3:=k3) (k5:=k5) (newId:="ValueError.__new__") (by rfl) hr.hd hpl (pR I hg hm ⟨rfl,?_⟩ hd);rw[show(zG P w K mg base N qual scope f cd A outer s H E).env=envOfC qual scope s.heap.objs.size f cd from rfl,he];refine Calls.evalArgs_plain ?_;have hp:=ha cpos pins s1 σ H1 _ I h;rw[show(zG P w K mg base N qual scope f cd A outer s H E).env=envOfC qual scope s.heap.objs.size f cd from rfl,he]at hp;refine dW hp (λus s2 hz=>?_) λ_ _ z=>z;obtain⟨vs,H2,I2,r,n,rfl,hE⟩:=hz;refine⟨rfl,I2.kIn _ _ lC,?_⟩;obtain⟨h2,g2,d2,tk2,os2⟩:=s2;have sz:us.length=1:=r.length.symm;refine OI F.excBase_ValueError (by rfl) F.excBase_ValueError (.own (I2.kIn _ _ lJ) (zR gJ I2.bk) vJ .base) (I2.kIn _ _ lC) (zR gC I2.bk) vC (I2.kIn _ _ lI) cI (by show us.length<=_;rw[sz];decide) ?_;have hn:H2 (h2.objs.size+1)=none:=I2.hok.fresh (BZ _);have kp:∀b o,h2.get? b=some o->(pT h2 C us).get? b=some o:=λb o z=>mK z;have gb:(pT h2 C us).get? (h2.objs.size+1)=some { cls:=.ref C,data:=.fields (EW h2.objs.size) }:=by heap_get
 generalize hea:h2.objs.size+1=ea at hn gb |-
 have ebig:∀b o,h2.get? b=some o->b≠ea:=λb o z=>by rw[<- hea];exact bP (kA (bC z))
 have I3:dM (zG P w K mg base N qual scope f cd A outer s H E) pins σ (gK H2 ea (.ext (lU ea C none))) ⟨pT h2 C us,g2,d2,tk2,os2⟩:=I2.laid (t':=tk2) kp (by rw[<- hea];exact BZ _) ⟨⟨_,gb⟩,⟨_,gb⟩,λ_ _ y k=>BR y k⟩
 refine wpAny_call (codeAny_mono (FI.run _ (envOfC qual scope s.heap.objs.size f cd::outer) _ (gK H2 ea (.ext (lU ea C none))) ⟨.ref ea::us,[]⟩ (.ref ea::us) [.ref ea,n] (λv H'=>v=.non/\∃dx,gK H2 ea (.ext (lU ea C none)) dx=none/\H'=pV (gK H2 ea (.ext (lU ea C none))) ea C dx n) (λ_ _ _=>False)
  (Room.make (hr.mono (by omega)) C us []) (I3.env0.make C us []) ?_ (.cons rfl r) ⟨ea,n,rfl,cO,λdx z=>⟨rfl,dx,z,rfl⟩⟩) λrr s' z=>?_)
 ·have:=hbI ⟨pT h2 C us,g2,d2,tk2,os2⟩ (.ref ea::us) I3.kIn (by rw[dG,cE,sz];rfl);rw[dG]at this;exact this
 cases rr with
 |error _=>exact z.elim
 |ok fl=>
 cases fl with
 |next=>exact False.elim z
 |brk=>exact False.elim z
 |cont=>exact False.elim z
 |ret u=>
 obtain⟨v,H',os,bare,un,hok,rv,rfl,dx,hdx,rfl⟩:=z;have hde:dx≠ea:=(dC cO hdx).symm;have hd2:H2 dx=none:=by rw[cJ hde]at hdx;exact hdx
 have dnew:(pT h2 C us).get? dx=none:=by
  cases q:(pT h2 C us).get? dx with
  |none=>rfl
  |some o=>have y:=un.free dx o q hdx (by simp);rw[PL hde]at y;cases y
 have dnew2:h2.get? dx=none:=by
  cases q:h2.get? dx with
  |none=>rfl
  |some o=>rw[kp dx o q]at dnew;cases dnew
 have enew2:h2.get? ea=none:=gF (by rw[<- hea];exact BZ _);have bne:∀b o,h2.get? b=some o->b≠dx:=λb o z y=>by rw[y,dnew2]at z;cases z
 have un2:Un (pL (envOfC qual scope s.heap.objs.size f cd::outer)) [] H2 (gK H2 dx (.xd [("case",n)])) h2 s'.heap:=
  { keep:=λb o e1 e2 e3 e4=>un.keep b o (kp b o e1) (by rw[cJ (ebig b o e1)];exact e2) e3 e4,slot:=λb o e1 e2 e3 e4=>un.slot b o (kp b o e1) (by rw[cJ (ebig b o e1)];exact e2) e3 e4,free:=λb o e1 e2 e3=>by rw[cJ (bne b o e1)];exact e2,there:=λb o e1 e2=>un.there b o (kp b o e1) e2,tups:=λb xs e=>by rw[cJ (dC e hd2)];exact e,frzs:=λb o v e=>by rw[cJ (dC e hd2)];exact e,tbls:=λb ps e=>⟨#[],by rw[cJ (dC e hd2),O1];exact e⟩ }
 have hok2:rV P w (gK H2 dx (.xd [("case",n)])) s'.heap:=MA hn hde hok;have I4:dM (zG P w K mg base N qual scope f cd A outer s H E) pins σ (gK H2 dx (.xd [("case",n)])) s':=I2.call' (ch:=[]) os un2 hok2 bare λb z=>absurd z (by simp);obtain⟨⟨t1,he'⟩,_,_⟩:=hok ea _ vU;refine⟨rv,ea,some dx,t1,rfl,I4.kIn _ _ lC,he',?_⟩
 have old:∀b,h2.get? b=none->s.heap.get? b=none:=λb hb=>by
  cases q:s.heap.get? b with
  |none=>rfl
  |some o=>obtain⟨o',z⟩:=I2.base.there b o q (λz=>absurd z (by simp[vL]));rw[show({ heap:=h2,gens:=g2,drawn:=d2,toks:=tk2,os:=os2 }:Shared).heap.get? b=none from hb]at z;cases z
 have hout:ea∉pL (envOfC qual scope s.heap.objs.size f cd::outer):=λz=>by
  obtain⟨_,o,ho,_⟩:=I2.stack.mem z;rw[show({ heap:=h2,gens:=g2,drawn:=d2,toks:=tk2,os:=os2 }:Shared).heap.get? ea=none from enew2]at ho;cases ho
 have hn4:gK H2 dx (.xd [("case",n)]) ea=none:=by rw[cJ (Ne.symm hde)];exact hn
 show wpAny (model P w) (A.deeper (envOfC qual scope s.heap.objs.size f cd)) (leaving (envOfC qual scope s.heap.objs.size f cd) (.ref ea)) _ _ s';refine yO (base:=base) (outer:=outer) I.ok.frames I4.stack rfl he' rfl rfl rfl hout λh'' T sz kb x'=>?_;refine PJ (s2:={ s' with heap:=h'' }) I4 (old ea enew2) (hE dx hd2) hn4 rfl rfl kb (λb hb=>?_) x' (hok2.fresh sz) ?_ λa z=>by cases z;exact old _ dnew2
 ·rw[aW.mp hb];exact⟨hn4,old _ enew2⟩
 ·cases q:s.heap.get? T with
  |none=>rfl
  |some o=>obtain⟨o',z⟩:=I4.base.there T o q (λz=>absurd z (by simp[vL]));rw[gF sz]at z;cases z
end
end L2
namespace L2
open PySem PySem.Spec PyProof.Rows
section
variable{prog:bE}{w:World}{A:Around}{E:Value->Shared->Prop}{h:Heap}{g:Array GenState}{d:Drawn}{t:Nat}{os:OsState}{a C:Addr}{ox od:Obj}{K:aG}{v:Value}
theorem W4(c:UJ K C)(hv:mZ "case" od=some (some v)):PySem.W.findObj K C (some od) "case"=some (.value v):=by
 obtain⟨cd,J,hc,hdd,_⟩:=c.cd;refine PySem.W.findObj_own ?_ c.no rfl hv;unfold PySem.W.hasDictIn;rw[hc];exact hdd
theorem ON{tk:Tok}{Q:Fin->Shared->Prop}(X:K.In h)(c:UJ K C)(I:iA h a ox C (some od))(hv:mZ "case" od=some (some v))(hq:Q (.done (.ret v)) ⟨h,g,d,t,os⟩) :
  wpAny (model prog w) A (Builtin.«object.__getattribute__» ⟨[.ref a,.str "case" tk],[]⟩) Q E ⟨h,g,d,t,os⟩:=by
 have L0:=I.type (M:=model prog w);have L1:=PySem.W.looks_find (M:=model prog w) X I (W4 c hv);refine aB (aJ (aB (aJ (aB (L0.at (aB (L1.at ?_)))))));exact aJ hq
theorem TX{tk:Tok}{R:Result->Shared->Prop}(X:K.In h)(c:UJ K C)(cx:yC K C)(I:iA h a ox C (some od))(hv:mZ "case" od=some (some v))(hq:R (.ok (.ret v)) ⟨h,g,d,t,os⟩) :
  codeAny (model prog w) A (.call (.builtin "BaseException.__getattribute__") ⟨[.ref a,.str "case" tk],[]⟩) R ⟨h,g,d,t,os⟩:=
 codeAny_call_builtin F.excAttr_ValueError.ga.plain F.entry_bexc_ga (DA X cx I (ON X c I hv hq))
theorem aB5{b:Bool}{Q:Value->Shared->Prop}(X:K.In h)(c:UJ K C)(cx:yC K C)(I:iA h a ox C (some od))(hv:mZ "case" od=some (some v))(hh:OV v=true)(hq:Q v ⟨h,g,d,t+1,os⟩):wpAny (model prog w) A (getAttr (.ref a) "case" b) Q E ⟨h,g,d,t,os⟩:=by
 have f3:=F.excAttr_ValueError.ga.bind (.ref a);have hx2:(Value.builtin "BaseException.__getattribute__"==Value.builtin "object.__getattribute__")=false:=by decide +kernel
 have hx1:(onTheHeap (Value.ref C)&&Value.builtin "BaseException.__getattribute__"==Value.builtin "object.__getattribute__")=false:=by rw[hx2];rfl
 have L0:=I.type (M:=model prog w);have L1:=jQ (M:=model prog w) X cx.ga;have L2':=jQ (M:=model prog w) X cx.gt;unfold getAttr;refine aB (wpAny_mkText ?_)
 repeat (any_goals (first | assumption | with_reducible refine L0.at ?_ | with_reducible refine L1.at ?_ | with_reducible refine L2'.at ?_ | wp_step))
 have hx3:(b&&onTheHeap (Value.builtin "BaseException.__getattribute__"))=false:=by cases b<;>rfl
 rw[hx3,if_neg (by decide)]
 repeat (any_goals (first | assumption | (with_reducible refine L0.at ?_) | wp_step))
 refine TX X c cx I hv ?_;show wpAny _ _ (handedOut v) _ _ _;rw[PySem.W.handedOut_of hh];exact aJ hq
end
section
variable{X:Cx}{e:Expr}{pos:Pos}{te:TE}
def tAt(K:aG)(te:TE):TE:=λσ H Q=>te σ H λx H1=>∃(p C dx:Addr)(n:V),x=.ref p/\H1 p=some (.ext (TL.lY p C (some dx)))/\H1 dx=some (.xd [("case",n)])/\yC K C/\UJ K C/\Q n H1
theorem aDv(he:PE X e te)(hb:attributeBase e "case" X.env (eval e X.env)=eval e X.env:=by rfl):PE X (.Attribute e "case" pos) (tAt X.K te):=by
 intro pins s σ H Q I h;refine W3 hb (kJ (he pins s σ H _ I h) λu s1 ⟨x,H1,I1,rx,p,C,dx,n,ex,hp,hd,cx,c,q⟩=>?_);subst ex;obtain rfl:u=Value.ref p:=rx;obtain⟨⟨o,vs,h1,h2,h3,h4⟩,_⟩:=I1.hok p _ hp;obtain⟨mA,ns,rl⟩:=I1.hok dx _ hd;obtain⟨od,ho,hl⟩:=NV ns;obtain⟨v,hv,rv⟩:=KG.some_of (v:=n) (o:=mA "case") (rl "case");have J:iA s1.heap p o C (some od):=⟨h1,h2,by unfold pI;rw[h4],by rw[h3];exact ho⟩;obtain⟨hh,g,d,t,os⟩:=s1;exact aB5 I1.kIn c cx J (by rw[hl,hv]) (N5 rv) ⟨n,H1,I1.tok _,rv,q⟩
end
end L2
namespace TL
open PySem PySem.Spec PyProof.Rows L2
section
variable{X:Cx}{e:Expr}{te:ET}{pos:Pos}
def ZK(K:aG)(te:ET):ET:=λσ Q=>te σ λd=>∃(C:Addr)(cs:List D),d=.dict [(.int (C:Nat),.tuple cs)]/\UJ K C/\Q (.tuple cs)
theorem WT(he:jD X e te)(pc:∀{v:TE},PE X e v->PE X (.Attribute e "case" pos) (tAt X.K v)):jD X (.Attribute e "case" pos) (ZK X.K te):=by
 obtain⟨v,pe,re⟩:=he;refine⟨_,pc pe,λB p0 H ps σT σ Q QV o h k=>re B p0 H ps σT σ _ _ o h λd x H1 s1 r1 q1=>?_⟩;obtain⟨C,cs,rfl,c,q⟩:=q1
 generalize hg:(uJ [(.int (C:Nat),.tuple cs)])=d at r1
 cases r1 with
 |@exc p C' xk hp=>
  injection hg with hg;injection hg with hg;injection hg with hg hy;cases hy
 |@excA p C' dx n' xk hp hx=>
  injection hg with hg;injection hg with hg;injection hg with hg hy;cases hy
 |@excD p C' dx y cs' xk hp hx hr=>
  injection hg with hg;injection hg with hg;injection hg with hg hy;injection hg with hg;injection hy with hy
  obtain rfl:C=C':=kO.inj hg;subst hy;exact⟨p,C,dx,y,rfl,bZ _ _ hp,bZ _ _ hx,xk.1,c,k _ _ H1 s1 hr q⟩
 |_=>cases hg
end
section
variable{P:bE}{w:World}{K:aG}{mg:Str->Option Value}{base:Heap}{N:List Str}{qual:Str}{scope:Scope}{f:Addr}{cd:Value}{A:Around}{outer:List Env}{s:Shared}{H:Hp}{E:XK}{ED:D->Prop}
def VF(ED:D->Prop)(H0:Hp)(C:Addr)(t:AT):nI:=λDT σ=>t σ λds=>∃cs:List D,ds=[.tuple cs]/\BA cs=true/\ED (.dict [(.int (C:Nat),.tuple cs)])/\∀B,DT.xB B->B=H0
theorem MW{C:Addr}{x:Str}{np cpos pos:Pos}{e:Expr}{es:List Expr}{t:AT}(hE:∀d cls dx H',bL H H'->OQ K H' d cls dx->ED d->E cls dx H')(xk:UI K C)(ha:wT (zG P w K mg base N qual scope f cd A outer s H E) (e::es) t)
  (pr:∀{ta:TA},PA (zG P w K mg base N qual scope f cd A outer s H E) (e::es) ta->PS (zG P w K mg base N qual scope f cd A outer s H E) (.Raise (some (.Call (.Name x np) (e::es) [] cpos)) none pos) (KQ C E ta)) :
  qU (zG P w K mg base N qual scope f cd A outer s H E) (.Raise (some (.Call (.Name x np) (e::es) [] cpos)) none pos) (VF ED H C t):=by
 obtain⟨va,pa,ra⟩:=ha;refine⟨_,pr pa,λB p0 H' ps σT σ DT DV o h f=>ra B p0 H' ps σT σ _ _ o h λds vs H1 s1 r1 q=>?_⟩;obtain⟨cs,rfl,hf,hd,hB⟩:=q;obtain rfl:=hB B f.xb
 cases r1 with
 |cons r1 r2=>
  cases r2;exact⟨_,rfl,λdx hn=>hE _ _ _ _ ((o.base.trans s1).trans (dU hn)) (.inr (.inr ⟨C,dx,cs,_,rfl,rfl,rfl,xk,hf,cO,(r1.same bZ).same (dU hn)⟩)) hd⟩
end
end TL
namespace L2
open PySem PySem.Spec PyProof.Rows
section
variable{X:Cx}{pins:List (Addr×Obj)}{σ:St}{H:Hp}{s:Shared}{ea:Addr}
def PR(K:aG)(J0 J:Addr)(i:Nat)(rt:St->Hp->(Hp->XK)->Prop)(ts:Addr->TS):TS:=λD σ H=>rt σ H λH1 cls dx H2=>dX K cls (.ref J0)=some false/\dX K cls (.ref J)=some true /\
 ∃C,cls=.ref C/\∀ea,H1 ea=none->H2 ea=none->(∀a,dx=some a->H1 a=none)->ts ea { nx:=λσ' H'=>D.nx (σ'.set i none) H',rt:=λ_ _=>False } (σ.set i (some (.ref ea))) (gK H2 ea (.ext (TL.lY ea C dx)))
theorem Q0{J0 J:Addr}{n0 jn0:Str}{jp0 hp0:Pos}{body0:List Stmt}{i:Nat}{n jn:Str}{jp hp pos:Pos}{st b0:Stmt}{suite:List Stmt}{hs':List ExceptHandler}{rt:St->Hp->(Hp->XK)->Prop}{ts:Addr->TS}(hq:DN X)(hst:X.stack=X.env::X.outer)(hfr:X.env.frame=some X.env.locals)(hN:X.N.Nodup)(hi:X.N[i]?=some n)(hx:X.env.scope.names.lookup n=some .local)(hg0:Gl X jn0)(hm0:X.mg jn0=some (.ref J0))(hg:Gl X jn)(hm:X.mg jn=some (.ref J))
  (hs:RS X st rt) (hb:∀ea,zE (X.marked ea) (b0::suite) (ts ea)) (hd0:(jn0==("__debug__":Str))=false:=by decide) (hd:(jn==("__debug__":Str))=false:=by decide) :
  PS X (.Try [st] (.ExceptHandler (some (.Name jn0 jp0)) (some n0) body0 hp0::.ExceptHandler (some (.Name jn jp)) (some n) (b0::suite) hp::hs') [] [] pos) (PR X.K J0 J i rt ts):=by
 intro pins s σ H D I h;refine wpAny_Try_except (wpAny_execs_cons (dW (hs pins s σ H _ I h) (λ_ _ z=>z.elim) λe s' hz=>?_));obtain⟨H1,s1,I1,ea,T,dx,cls,a0,H2,rfl,os,bare,un,hok,x,n1,n2,n3,n4,n5,hW0,hW,C,rfl,hsuite⟩:=hz;have I2:dM X pins σ H2 s':=I1.call' (ch:=[]) os un hok bare λb z=>absurd z (by simp);have hfrm:X.A.frames=some (X.env::X.outer):=by rw[<- hst];exact I.ok.frames
 have hstk:s'.heap.FunFrames X.base (X.env::X.outer):=by rw[<- hst];exact I2.stack
 have hout:∀b,s1.heap.get? b=none->b∉pL (X.env::X.outer):=λb hb z=>by
  rw[<- hst]at z;obtain⟨_,o,ho,_⟩:=I1.stack.mem z;rw[hb]at ho;cases ho
 have hfree:∀b∈pL (X.env::X.outer),H2 b=none:=λb hb=>by rw[<- hst]at hb;exact I2.stkFree b hb
 refine xP (base:=X.base) hfrm hstk hfr x (hout ea n3) (hout T n4) λh3 T' sz kb x3=>?_;have hT':H2 T'=none:=hok.fresh sz
 have hT1:s1.heap.get? T'=none:=by
  cases q:s1.heap.get? T' with
  |none=>rfl
  |some o=>obtain⟨o',z⟩:=un.there T' o q (by simp);rw[gF sz]at z;cases z
 refine nN (s:={ s' with heap:=h3 }) x3 λh4 k4 x4=>?_;have kb4:gO (pL (X.env::X.outer)) [ea,T,T'] s'.heap h4:=(kb.more λb hb=>aY.mpr ((aY.mp hb).imp id λz=>aY.mpr (.inl (aW.mp z)))).trans (.of λb u eb c=>k4 b u eb λz=>c (by rw[z];simp))
 have nw:∀b o,s1.heap.get? b=some o->b∉[ea,T,T']/\(b∈pL (X.env::X.outer)->b∈pL X.stack):=λb o e=>by
  refine⟨λz=>?_,λz=>by rw[hst];exact z⟩;simp only[aY,cD,or_false]at z;rcases z with rfl | rfl | rfl
  ·rw[n3]at e;cases e
  ·rw[n4]at e;cases e
  ·rw[hT1]at e;cases e
 have chn:∀b∈[ea,T,T'],H2 b=none:=λb z=>by
  simp only[aY,cD,or_false]at z;rcases z with rfl | rfl | rfl
  ·exact n1
  ·exact n2
  ·exact hT'
 have un4:=un.but kb4 nw;have hok4:=hok.butX kb4 hfree chn;have I4:dM X pins σ H2 { s' with heap:=h4 }:=I1.call' (ch:=[]) os un4 hok4 bare λb z=>absurd z (by simp);have J4:=I4.mark ea;obtain⟨oe,ve,ge,ce,de,dte,_,_⟩:=x4.ex;have LT:nS (model X.prog X.w) h4 (typeOf (.ref ea)) (.ref C):=ce▸(nS.ld ge).andThen .now;refine wpAny_handleBy_cons (codeAny_handlers_test (pR (X:=X.marked ea) J4 hg0 hm0 (((zH J4.kIn LT hW0).at ?_)) hd0)) (λz=>nomatch z);rw[if_neg (by decide)];refine wpAny_handleBy_cons (codeAny_handlers_test (pR (X:=X.marked ea) J4 hg hm (((zH J4.kIn LT hW).at ?_)) hd)) (λz=>nomatch z);rw[if_pos rfl];refine codeAny_handlers_suite_as (nN (s:={ s' with heap:=h4 }) x4 λh5 k5 x5=>?_);have kb5:gO (pL (X.env::X.outer)) [ea,T,T'] s'.heap h5:=kb4.trans (.of λb u eb c=>k5 b u eb λz=>c (by rw[z];simp));have un5:=un.but kb5 nw;have hok5:=hok.butX kb5 hfree chn;obtain⟨o5,v5,g5,c5,d5,dt5,_,_⟩:=x5.ex;have hq5:=hsuite ea (I1.hok.out n3) n1 λa z=>I1.hok.out (n5 a z);have hok6:rV X.prog X.w (gK H2 ea (.ext (TL.lY ea C dx))) h5:=hok5.track n1 ⟨⟨o5,v5,g5,c5,d5,dt5⟩,⟨o5,g5⟩,λha hb ⟨o,v,y1,y2⟩ k=>⟨o,v,k o y1,y2⟩⟩;have I5:dM X pins σ (gK H2 ea (.ext (TL.lY ea C dx))) { s' with heap:=h5 }:=I1.call' (ch:=[]) os (un5.track n1 n3) hok6 bare λb z=>absurd z (by simp);refine sL I5 hN hi (.inl hx) (v:=.ref ea) rfl (λs6 I6=>?_) (.inr hx);refine dW (hb ea pins s6 _ _ _ (I6.mark ea) hq5) (λfl s7 h7=>?_) λe s7 z=>absurd z (hq e s7)
 cases fl with
 |next=>
  obtain⟨σ',H',J7,q⟩:=h7;exact L3 (I6.unmark J7) hN hi hx λs8 I8=>⟨_,H',I8,q⟩
 |brk=>obtain⟨_,_,_,z⟩:=h7;exact z.elim
 |cont=>obtain⟨_,_,_,z⟩:=h7;exact z.elim
 |ret u=>obtain⟨_,_,_,_,_,z⟩:=h7;exact z.elim
end
end L2
namespace TL
open PySem PySem.Spec PyProof.Rows L2
section
variable{X:Cx}{pos:Pos}{st:Stmt}
def aAb(K:aG)(J0 J:Addr)(i:Nat)(t:ET)(ts:nI):nI:=λDT σ=>t σ λd=>(∃(C:Addr)(y:D),d=.dict [(.int (C:Nat),y)]/\dX K (.ref C) (.ref J0)=some false/\dX K (.ref C) (.ref J)=some true) /\
 ts { nx:=λσ'=>DT.nx (σ'.set i .un),rt:=λ_=>False,xB:=DT.xB } (σ.set i (.val d))
theorem P3{J0 J:Addr}{h00:ExceptHandler}{i:Nat}{jn nn:Str}{jp hp:Pos}{hs':List ExceptHandler}{t:ET}{b0:Stmt}{suite:List Stmt}{ts:nI}(hs:RSt X st t)(hb:∀ea,qO (X.marked ea) (b0::suite) ts)
  (pt:∀{rt:L2.St->Hp->(Hp->XK)->Prop}{us:Addr->TS},RS X st rt->(∀ea,zE (X.marked ea) (b0::suite) (us ea))->PS X (.Try [st] (h00::.ExceptHandler (some (.Name jn jp)) (some nn) (b0::suite) hp::hs') [] [] pos) (PR X.K J0 J i rt us)):qU X (.Try [st] (h00::.ExceptHandler (some (.Name jn jp)) (some nn) (b0::suite) hp::hs') [] [] pos) (aAb X.K J0 J i t ts):=by
 obtain⟨rt,rs,rr⟩:=hs;refine⟨_,pt rs (λea=>(hb ea).choose_spec.1),λB p0 H ps σT σ DT DV o h f=>rr B p0 H ps σT σ _ _ o h λd cls dx H1 H2 s1 s2 xr q=>?_⟩;obtain⟨⟨C,y,hd,hm0,hm⟩,q⟩:=q
 have main:∀C0:Addr,cls=.ref C0->C0=C->(∀ea,H2 ea=none->(∀a,dx=some a->H1 a=none)->∀u,H ea=none->u=HO.ext (lY ea C0 dx)->jF X.K (dB (gK H2 ea u) ps) d (.ref ea))->dX X.K cls (.ref J0)=some false/\dX X.K cls (.ref J)=some true/\∃C,cls=.ref C/\∀ea,H1 ea=none->H2 ea=none->(∀a,dx=some a->H1 a=none) ->
   (hb ea).choose { nx:=λσ' H'=>DV.nx (σ'.set i none) H',rt:=λ_ _=>False } (σ.set i (some (.ref ea))) (gK H2 ea (.ext (lY ea C dx))):=λC0 hc hC hrep=>by
  subst hc;subst hC;refine⟨hm0,hm,C0,rfl,λea n1 n2 n3=>?_⟩;have nH:H ea=none:=bL.free' s1 n1;have sA:bL H (gK H2 ea (.ext (lY ea C0 dx))):=(s1.trans s2).trans (dU n2);refine(hb ea).choose_spec.2 B p0 _ ps _ _ { nx:=λσ'=>DT.nx (σ'.set i .un),rt:=λ_=>False,xB:=DT.xB } _ ((o.grow sA).set (hrep ea n2 n3 _ nH rfl)) q ⟨λH' ps' σT' σ' o' s' q'=>?_,λ_ _ _ _ _ _ q'=>q'.elim,λ_ _ _ _ _ _ q'=>q'.elim,λ_ _ _ _ _ q'=>q'.elim,λ_ _ _ _ _ _ _ _ _ q'=>q'.elim,λ_ _ _ _ _ _ _ _ _ _ _ _ _ _ _ _ _ _ q'=>q'.elim,λ_ _ _ _ _ _ _ _ _ _ _ _ _ _ q'=>q'.elim,f.xb⟩;exact f.nx H' ps' _ _ (o'.away i) ((cA sA).trans s') q'
 rcases xr with⟨C0,h1,h2,h3,xk⟩ | ⟨C0,a,n,h1,h2,h3,xk,ha⟩ | ⟨C0,a,cs,v,h1,h2,h3,xk,hf,ha,hr⟩
 ·refine main C0 h2 ?_ λea n2 n3 u nH hu=>?_
  ·rw[hd]at h1;injection h1 with h1;injection h1 with h1;injection h1 with h1;injection h1 with h1;exact(kO.inj h1).symm
  ·subst hu h1 h3;exact .exc xk (iN (eS o.live nH) cO)
 ·refine main C0 h2 ?_ λea n2 n3 u nH hu=>?_
  ·rw[hd]at h1;injection h1 with h1;injection h1 with h1;injection h1 with h1;injection h1 with h1;exact(kO.inj h1).symm
  ·subst hu h1 h3;exact .excA xk (iN (eS o.live nH) cO) (iN (eS o.live (bL.free' s1 (n3 a rfl))) (by rw[cJ (dC ha n2)];exact ha))
 ·refine main C0 h2 ?_ λea n2 n3 u nH hu=>?_
  ·rw[hd]at h1;injection h1 with h1;injection h1 with h1;injection h1 with h1;injection h1 with h1;exact(kO.inj h1).symm
  ·subst hu h1 h3;have sA:=(s1.trans s2).trans (dU (o:=HO.ext (lY ea C0 (some a))) n2);exact .excD xk (iN (eS o.live nH) cO) (iN (eS o.live (bL.free' s1 (n3 a rfl))) (by rw[cJ (dC ha n2)];exact ha)) (GF (o.grow sA).live hf (hr.same (dU n2)))
end
end TL
namespace L2
open PySem PySem.Spec PyProof.Rows
section
variable{X:Cx}{c:Expr}{es:List Expr}
theorem aB1{K:aG}{C:Addr}{c:Value}{d:Option Addr}{cd:ClassData}{sl:Array (Option Value)}(l:K.lookup C=some ⟨c,d,.cls cd,sl⟩):fG K C=some cd:=by unfold fG;rw[l]
theorem aDw:PA X es (λ_ _ _=>False):=λ_ _ _ _ _ _ _ h=>h.elim
end
end L2
namespace TL
open PySem PySem.Spec PyProof.Rows L2
section
variable{X:Cx}{e:Expr}{es:List Expr}{pos:Pos}{W:Hp->Prop}{t:List Sl->Prop}
def PAx(X:Cx)(W:Hp->Prop)(es:List Expr)(t:List Sl->Prop):Prop:=∃ta:TA,PA X es ta/\∀(B:Hp)(p0:List Addr)(H:Hp)(ps:List Addr)(σT:List Sl)(σ:L2.St)(QV:List V->Hp->Prop),Ok X.K B p0 H ps σT σ->t σT->W B->ta σ H QV
theorem E9(h:PEx X W e t)(hs:bV (e::es) X.env=(false,eval e X.env)::bV es X.env:=by rfl):PAx X W (e::es) t:=by
 obtain⟨v,pe,r⟩:=h;exact⟨_,fW pe aDw hs,λB p0 H ps σT σ QV o h w=>r B p0 H ps σT σ _ o h w⟩
theorem D2(h:PEx X W e t):qU X (.Return (some e) pos) (λDT σ=>t σ/\∀B,DT.xB B->W B):=by
 obtain⟨v,pe,r⟩:=h;exact⟨_,EB pe,λB p0 H ps σT σ DT DV o h f=>r B p0 H ps σT σ _ o h.1 (h.2 B f.xb)⟩
theorem KT{i:Nat}{x:Str}{pos':Pos}(h:PEx X W e t)(ps':∀{v:TE},PE X e v->PS X (.Assign [.Name x pos'] e pos) (vZ v (nF i))):qU X (.Assign [.Name x pos'] e pos) (λDT σ=>t σ/\∀B,DT.xB B->W B):=by
 obtain⟨v,pe,r⟩:=h;exact⟨_,ps' pe,λB p0 H ps σT σ DT DV o h f=>r B p0 H ps σT σ _ o h.1 (h.2 B f.xb)⟩
end
end TL
namespace TL
open PySem PySem.Spec PyProof.Rows L2
structure W8 where
 p:Addr
 q:Addr
 ns:List Int
 b:Bool
end TL
namespace TL
open PySem PySem.Spec PyProof.Rows L2
structure ZP where
 nx:Nat->List Sl->Prop
 rt:Nat->D->Prop
 bk:Nat->List Sl->Prop:=λ_ _=>False
 ct:Nat->List Sl->Prop:=λ_ _=>False
abbrev STC:=D->ZP->Nat->List Sl->Prop
end TL
namespace TL
open PySem PySem.Spec PyProof.Rows L2
section
variable{X:Cx}{e:Expr}{te:ET}{x:Str}{pos pos':Pos}
theorem ss(i:Nat)(hN:X.N.Nodup)(h:jD X e te)(hi:X.N[i]?=some x:=by rfl)(hx:MH X.env.scope x:=by first | exact Or.inl rfl | exact Or.inr rfl)(hs:lA e (some (.Name x pos')) pos.line X.env=pure false:=by rfl)
  (hf:X.fn x=true\/X.env.scope.names.lookup x=some .local:=by first | exact .inl rfl | exact .inr rfl):qU X (.Assign [.Name x pos'] e pos) (D7 i te):=P5 (i:=i) h λh=>vG hN hi hx h hs hf
theorem pn(i:Nat)(hN:X.N.Nodup)(hi:X.N[i]?=some x:=by rfl)(hx:MH X.env.scope x:=by first | exact Or.inl rfl | exact Or.inr rfl)(hf:X.fn x=true\/X.env.scope.names.lookup x=some .local:=by first | exact .inl rfl | exact .inr rfl):PG X (.Name x pos) (nF i):=LK hN hi hx hf
theorem oK{N P:List Str}{sc:Scope}(h1:sc.kind=.function:=by rfl)(h2:sc.isCoroutine=false:=by rfl)(h3:sc.isGenerator=false:=by rfl)(h4:N.Nodup:=by decide +kernel)(h5:N.take P.length=P:=by rfl)(h6:∀x∈P,sc.names.lookup x=some .local\/sc.names.lookup x=some .cell:=by decide +kernel)(h7:∀y∈sc.names,y.2≠.free:=by decide +kernel):cQ N P sc:=⟨h1,h2,h3,h4,h5,h6,h7⟩
end
end TL
namespace L2
open PySem PySem.Spec PyProof.Rows
section
def kE(S T:Addr)(n ep i:Nat):Array Value:=#[.ref T,.int i 0,.ref S,.int n 0,.int ep 0]
end
end L2
namespace L2
open PySem PySem.Spec PyProof.Rows
abbrev fO(x q:Str)(st:Stmt)(kV dc pm:Value)(an:Option Addr)(cd ct:Value):eI:=kN x q (rP st) (mE st) (bJ st) .none kV dc pm an cd ct
theorem aHh{α:Type}{P:List α->Prop}(h:∀a,P [a]):∀us:List α,us.length=1->P us
|[a],_=>h a
theorem aFa{α:Type}{P:List α->Prop}(h:∀a b,P [a,b]):∀us:List α,us.length=2->P us
|[a,b],_=>h a b
theorem aHg{α:Type}{P:List α->Prop}(h:∀a b c,P [a,b,c]):∀us:List α,us.length=3->P us
|[a,b,c],_=>h a b c
theorem aHf{α:Type}{P:List α->Prop}(h:∀a b c d,P [a,b,c,d]):∀us:List α,us.length=4->P us
|[a,b,c,d],_=>h a b c d
abbrev qP(x q:Str)(st:Stmt)(ps:List Str):Prop:=∀(kV dc pm:Value)(an:Option Addr)(cd ct:Value)(us:List Value),us.length=ps.length->bindArgs (fO x q st kV dc pm an cd ct) ⟨us,[]⟩=pure (ps.zip us)
structure Dg(K:aG)(x q:Str)(st:Stmt)(a:Addr)(f:eI)(ps:List Str):Prop where
 k:iU K (.ref a)=true
 F:T7 K x q st a f
 d:tU K f ps []
structure Df(K:aG)(mg:Str->Option Value)(x:Str)(st:Stmt)(a:Addr)(f:eI)(ps:List Str):Prop extends Dg K x x st a f ps where
 m:mg x=some (.ref a)
section
variable{K:aG}{h:Heap}{mg:Str->Option Value}{x q:Str}{st:Stmt}{ps:List Str}{f:Addr}{oc:Value}{od an:Option Addr}{sl:Array (Option Value)}{kV dc pm cd ct:Value}
theorem dg(b:qP x q st ps)(l:K.lookup f=some ⟨oc,od,.func (fO x q st kV dc pm an cd ct),sl⟩)(c:nD K cd q=true)(k:iU K (.ref f)=true):Dg K x q st f (fO x q st kV dc pm an cd ct) ps:=⟨k,EV l c k,(EV l c k).binds b⟩
theorem df(X:K.In h)(G:h.Ns fA mg)(b:qP x x st ps)(a:eN K fA x=some (some (.ref f)))(l:K.lookup f=some ⟨oc,od,.func (fO x x st kV dc pm an cd ct),sl⟩)(c:nD K cd x=true)(k:iU K (.ref f)=true):Df K mg x st f (fO x x st kV dc pm an cd ct) ps:=⟨dg b l c k,jU X G a⟩
theorem TQ{p0:Str}(h:∀kV dc pm an cd ct a0,bindArgs (fO x q st kV dc pm an cd ct) ⟨[a0],[]⟩=pure ([p0].zip [a0]):=by intros;rfl):qP x q st [p0]:=λa b c d e f=>aHh (h a b c d e f)
theorem FR{p0 p1:Str}(h:∀kV dc pm an cd ct a0 a1,bindArgs (fO x q st kV dc pm an cd ct) ⟨[a0,a1],[]⟩=pure ([p0,p1].zip [a0,a1]):=by intros;rfl):qP x q st [p0,p1]:=λa b c d e f=>aFa (h a b c d e f)
theorem HN{p0 p1 p2:Str}(h:∀kV dc pm an cd ct a0 a1 a2,bindArgs (fO x q st kV dc pm an cd ct) ⟨[a0,a1,a2],[]⟩=pure ([p0,p1,p2].zip [a0,a1,a2]):=by intros;rfl):qP x q st [p0,p1,p2]:=λa b c d e f=>aHg (h a b c d e f)
theorem bn4{p0 p1 p2 p3:Str}(h:∀kV dc pm an cd ct a0 a1 a2 a3,bindArgs (fO x q st kV dc pm an cd ct) ⟨[a0,a1,a2,a3],[]⟩=pure ([p0,p1,p2,p3].zip [a0,a1,a2,a3]):=by intros;rfl):qP x q st [p0,p1,p2,p3]:=λa b c d e f=>aHf (h a b c d e f)
theorem na{C:Addr}{f:Str}(h:fD K (.ref C) f=some none):aCd K C f:=h
end
end L2
namespace TL
open PySem PySem.Spec PyProof.Rows L2
section
variable{X:Cx}{e:Expr}{es:List Expr}{te:ET}{x:Str}{pos pos' p:Pos}
theorem cd{k n:Nat}{f:Addr}{fd:eI}{pn:List Str}{sp:mX}{t:AT}{st:Stmt}(F:bX X.prog X.w X.K X.mg X.base eR k f fd pn (bD X.K sp))(D:Df X.K X.mg x st f fd pn)(hr:Room n X.A)(ha:wT X (e::es) t)(hk:k<=n:=by decide)
  (hg:Gl X x:=by rfl) (hdb:(x==("__debug__":Str))=false:=by decide) (he:bV (e::es) X.env=(false,eval e X.env)::bV es X.env:=by rfl) (hpl:(backTo pos (bV es X.env)).any (·.1)=false:=by rfl):jD X (.Call (.Name x p) (e::es) [] pos) (jP sp t):=WU F D.m D.k D.d (hr.mono hk) ha λh=>rH F (hr.mono hk) hg D.m D.k D.d .nil Y7 h hdb he hpl
theorem cF{k n:Nat}{f:Addr}{fd:eI}{pn:List Str}{sp:KF}{t:AT}{st:Stmt}(F:bX X.prog X.w X.K X.mg X.base eR k f fd pn (fT X.K sp))(D:Df X.K X.mg x st f fd pn)(hr:Room n X.A)(ha:wT X (e::es) t)(hk:k<=n:=by decide)
  (hg:Gl X x:=by rfl) (hdb:(x==("__debug__":Str))=false:=by decide) (he:bV (e::es) X.env=(false,eval e X.env)::bV es X.env:=by rfl) (hpl:(backTo pos (bV es X.env)).any (·.1)=false:=by rfl):O3 X (.Call (.Name x p) (e::es) [] pos) (ZG sp t):=WM F D.m D.k D.d (hr.mono hk) ha λh=>rH F (hr.mono hk) hg D.m D.k D.d .nil Y7 h hdb he hpl
theorem sf{tg iter:Expr}{body:List Stmt}{g:GT}{tb:nI}{ti:IT}(he:IE X tg iter ti)(hg:T5 X tg g)(hb:qO X body tb)(hp:PassesOwn (model X.prog X.w) X.A X.env X.xe:=by exact PassesOwn.never)(hc:X.calm=true:=by rfl)(hs:∀x,foldedSetIterable iter X.env x=pure x:=by intro _;rfl):qU X (.For tg iter body [] pos) (VG ti g tb):=P6 he hg hb λh1 h2 h3=>Q2 hp hc h1 h2 h3 hs
theorem el{elt iter tg:Expr}{ifs:List Expr}{scope:Scope}{fr:List (Option Nat)}{N':List Str}{ti:IT}{g:GT}{tt:qA}{te:ET}(hi:IE X tg iter ti)(hY:∀b:BP,T5 (blk X scope N' b) tg g/\FF (blk X scope N' b) ifs tt/\jD (blk X scope N' b) elt te)(h:tF scope X.env.scope X.N N' fr=true:=by kernel_rfl)(hc:X.calm=true:=by rfl)(hs:∀x,foldedSetIterable iter X.env x=pure x:=by intro _;rfl):jD X (.ListComp elt [⟨tg,iter,ifs,0⟩] scope pos) (OD fr ti g tt te):=aFu hi hY λa b=>RA h hc a b hs
theorem fl{elt iter tg:Expr}{ifs:List Expr}{scope:Scope}{fr:List (Option Nat)}{N':List Str}{ti:IT}{g:GT}{tt:qA}{te:ET}(hi:IE X tg iter ti)(hY:∀b:BP,T5 (blk X scope N' b) tg g/\FF (blk X scope N' b) ifs tt/\jD (blk X scope N' b) elt te)(h:tF scope X.env.scope X.N N' fr=true:=by kernel_rfl)(hc:X.calm=true:=by rfl)(hs:∀x,foldedSetIterable iter X.env x=pure x:=by intro _;rfl):O3 X (.ListComp elt [⟨tg,iter,ifs,0⟩] scope pos) (fLc fr ti g tt te):=aFm hi hY λa b=>RA h hc a b hs
theorem cY{r:List V->Hp->VK->Prop}{f:List D->(D->Prop)->Prop}{t:AT}{T:String}(hf:tT X r f)(ha:wT X (e::es) t)(hc:lH X (.type T) r)(hm:X.mg x=none)(hv:bootBuiltins x=some (.type T))(hg:Gl X x:=by rfl)(hn:x≠"__name__":=by decide)(hdb:(x==("__debug__":Str))=false:=by decide)(he:bV (e::es) X.env=(false,eval e X.env)::bV es X.env:=by rfl)(hpl:(backTo pos (bV es X.env)).any (·.1)=false:=by rfl):jD X (.Call (.Name x p) (e::es) [] pos) (jP f t):=ZI hf ha λh=>oV hc hg hm hv h hn hdb he hpl
theorem cB{r:List V->Hp->VK->Prop}{f:List D->(D->Prop)->Prop}{t:AT}{T:String}(hf:tT X r f)(ha:wT X (e::es) t)(hc:lH X (.builtin T) r)(hm:X.mg x=none)(hv:bootBuiltins x=some (.builtin T))(hg:Gl X x:=by rfl)(hn:x≠"__name__":=by decide)(hdb:(x==("__debug__":Str))=false:=by decide)(he:bV (e::es) X.env=(false,eval e X.env)::bV es X.env:=by rfl)(hpl:(backTo pos (bV es X.env)).any (·.1)=false:=by rfl):jD X (.Call (.Name x p) (e::es) [] pos) (jP f t):=ZI hf ha λh=>mR hc hg hm hv h hn hdb he hpl
theorem so{p2:Pos}{t:AT}(i:Nat)(hN:X.N.Nodup)(h:wT X es t)(hi:X.N[i]?=some x:=by rfl)(hx:MH X.env.scope x:=by first | exact Or.inl rfl | exact Or.inr rfl)(hs:lA (.List es p2) (some (.Name x pos')) pos.line X.env=pure false:=by rfl)(hf:X.fn x=true\/X.env.scope.names.lookup x=some .local:=by first | exact .inl rfl | exact .inr rfl):qU X (.Assign [.Name x pos'] (.List es p2) pos) (aAd i t):=Z2 (i:=i) h λh=>vG hN hi hx h hs hf
theorem sn{p2:Pos}(i:Nat)(hN:X.N.Nodup)(hi:X.N[i]?=some x:=by rfl)(hx:MH X.env.scope x:=by first | exact Or.inl rfl | exact Or.inr rfl)(hs:lA (.Dict [] [] p2) (some (.Name x pos')) pos.line X.env=pure false:=by rfl)(hf:X.fn x=true\/X.env.scope.names.lookup x=some .local:=by first | exact .inl rfl | exact .inr rfl):qU X (.Assign [.Name x pos'] (.Dict [] [] p2) pos) (QP i):=U4 (i:=i) λh=>vG hN hi hx h hs hf
theorem sF{t:FT}(i:Nat)(hN:X.N.Nodup)(h:O3 X e t)(hi:X.N[i]?=some x:=by rfl)(hx:MH X.env.scope x:=by first | exact Or.inl rfl | exact Or.inr rfl)(hs:lA e (some (.Name x pos')) pos.line X.env=pure false:=by rfl)(hf:X.fn x=true\/X.env.scope.names.lookup x=some .local:=by first | exact .inl rfl | exact .inr rfl):qU X (.Assign [.Name x pos'] e pos) (F9 i t):=U3 (i:=i) h λh=>vG hN hi hx h hs hf
def ndB(l:List Str):Bool:=decide l.Nodup
theorem pk(i:Nat)(hN:ndB X.N=true:=by kernel_rfl)(hi:X.N[i]?=some x:=by rfl)(hx:MH X.env.scope x:=by first | exact Or.inl rfl | exact Or.inr rfl)(hf:X.fn x=true\/X.env.scope.names.lookup x=some .local:=by first | exact .inl rfl | exact .inr rfl):PG X (.Name x pos) (nF i):=LK (of_decide_eq_true hN) hi hx hf
theorem tv(h:jD X e te)(he:∀whole,isTrue e X.env whole=(do let v <- whole;standAt e.pos;holding [v] (truthy v)):=by intro _;rfl):ID X e (ME te):=ZW h λh=>aAk h he
end
end TL
namespace L2
open PySem PySem.Spec PyProof.Rows
section
variable{X:Cx}{a b:Expr}{te:TE}{pos:Pos}
theorem LC{x1}{rt:St->Hp->(Hp->XK)->Prop}(hq:DN X)(ha:PE X a te)(hb:RE X b rt)(hs:bV [a,b] X.env=(false,eval a X.env)::bV [b] X.env:=by rfl)(hs2:bV [b] X.env=(false,eval b X.env)::bV [] X.env:=by rfl):RE X (.Tuple [a,b] x1 pos) (λσ H W=>te σ H λ_ H1=>rt σ H1 W):=by
 intro pins s σ H W I h;refine wpAny_Tuple_spliced ?_;rw[hs];show wpAny _ _ (spliced ((false,eval a X.env)::backTo pos (bV [b] X.env))) _ _ s;refine Calls.spliced_cons (dW (ha pins s σ H _ I h) (λu s1 hz=>?_) λe s z=>absurd z (hq e s));obtain⟨x,H1,I1,r1,q1⟩:=hz
 have k:wpAny (model X.prog X.w) X.A (spliced (backTo pos (bV [b] X.env))) (λ_ _=>False) (λe s'=>∃H1 s1,dM X pins σ H1 s1/\FK X.prog X.w X.stack H1 s1 (W H1) e s') s1:=by
  rw[hs2];show wpAny _ _ (spliced ((false,eval b X.env)::backTo pos (bV [] X.env))) _ _ s1;exact Calls.spliced_cons (dW (hb pins s1 σ H1 W I1 q1) (λ_ _ z=>z.elim) λ_ _ z=>z)
 exact kJ k λus s2 z=>z.elim
end
end L2
namespace TL
open PySem PySem.Spec PyProof.Rows L2
section
variable{X:Cx}{e:Expr}{es:List Expr}{pos:Pos}{W:Hp->Prop}{t:List Sl->Prop}
theorem SW{r:List V->Hp->VK->Prop}{g:Expr}(h:PAx X W (e::es) t)(pc:∀{ta:TA},PA X (e::es) ta->PE X (.Call g (e::es) [] pos) (P0 r ta)):PEx X W (.Call g (e::es) [] pos) t:=by
 obtain⟨v,pa,k⟩:=h;exact⟨_,pc pa,λB p0 H ps σT σ QV o h w=>k B p0 H ps σT σ _ o h w⟩
end
end TL
namespace L2
open PySem PySem.Spec PyProof.Rows
section
variable{K:aG}{C J:Addr}{cd:ClassData}
theorem L5(hc:fG K J=some cd)(ht:hZ K (.ref J)=some (.type "type"))(hb:bF K J (.type "BaseException")=some true)(hm:bF K C (.ref J)=some false):dX K (.ref C) (.ref J)=some false:=by
 unfold dX;have e:UL K (.ref J) (.type "BaseException")=some true:=hb;rw[e,if_pos (by simp)];unfold tV;dsimp only;rw[hc,ht];show(if(true&&(some (Value.type "type")==some (Value.type "type")))=true then _ else _)=_;rw[if_pos (by simp)];exact hm
end
end L2
namespace K63
open PySem L2 TL
def top(i:Nat):Stmt:=PySem.Challenge.pw_leafjudge_k63_rules_refused.main.body.getD i (.Pass ⟨0,0,0,0⟩)
structure Cz(K:aG)(mg:Str->Option Value)(c_JudgeError c_TooMany c_NoPlace c_NoRow c_NoSuch c_NoLine c_NoText c_NoRule a0_NoRule:Addr)(f0_NoRule:eI):Prop where
 x_JudgeError:mg "JudgeError"=some (.ref c_JudgeError)
 x_TooMany:mg "TooMany"=some (.ref c_TooMany)
 x_NoPlace:mg "NoPlace"=some (.ref c_NoPlace)
 x_NoRow:mg "NoRow"=some (.ref c_NoRow)
 x_NoSuch:mg "NoSuch"=some (.ref c_NoSuch)
 x_NoLine:mg "NoLine"=some (.ref c_NoLine)
 x_NoText:mg "NoText"=some (.ref c_NoText)
 x_NoRule:mg "NoRule"=some (.ref c_NoRule)
 X_TooMany:UI K c_TooMany
 R_TooMany:aF0 K c_TooMany
 j_TooMany:dX K (.ref c_TooMany) (.ref c_JudgeError)=some true
 e_TooMany:dX K (.ref c_TooMany) (.ref c_TooMany)=some true
 v_TooMany:cT K (.ref c_TooMany) (.type "ValueError")=some true
 q_TooMany_TooMany:cT K (.ref c_TooMany) (.ref c_TooMany)=some true
 q_TooMany_NoPlace:cT K (.ref c_TooMany) (.ref c_NoPlace)=some false
 q_TooMany_NoRow:cT K (.ref c_TooMany) (.ref c_NoRow)=some false
 q_TooMany_NoSuch:cT K (.ref c_TooMany) (.ref c_NoSuch)=some false
 q_TooMany_NoLine:cT K (.ref c_TooMany) (.ref c_NoLine)=some false
 q_TooMany_NoText:cT K (.ref c_TooMany) (.ref c_NoText)=some false
 q_TooMany_NoRule:cT K (.ref c_TooMany) (.ref c_NoRule)=some false
 u_TooMany_NoRule:dX K (.ref c_TooMany) (.ref c_NoRule)=some false
 I_NoRule:aF5 K c_NoRule a0_NoRule
 T_NoRule:UJ K c_NoRule
 F0_NoRule:T7 K "__init__" "NoRule.__init__" (pX (top 17)) a0_NoRule f0_NoRule
 i_NoRule:tU K f0_NoRule ["self","case"] []
 X_NoRule:UI K c_NoRule
 j_NoRule:dX K (.ref c_NoRule) (.ref c_JudgeError)=some true
 e_NoRule:dX K (.ref c_NoRule) (.ref c_NoRule)=some true
 v_NoRule:cT K (.ref c_NoRule) (.type "ValueError")=some true
 q_NoRule_TooMany:cT K (.ref c_NoRule) (.ref c_TooMany)=some false
 q_NoRule_NoPlace:cT K (.ref c_NoRule) (.ref c_NoPlace)=some false
 q_NoRule_NoRow:cT K (.ref c_NoRule) (.ref c_NoRow)=some false
 q_NoRule_NoSuch:cT K (.ref c_NoRule) (.ref c_NoSuch)=some false
 q_NoRule_NoLine:cT K (.ref c_NoRule) (.ref c_NoLine)=some false
 q_NoRule_NoText:cT K (.ref c_NoRule) (.ref c_NoText)=some false
 q_NoRule_NoRule:cT K (.ref c_NoRule) (.ref c_NoRule)=some true
 u_NoRule_TooMany:dX K (.ref c_NoRule) (.ref c_TooMany)=some false
structure Txt(K:aG)(mg:Str->Option Value)(c_JudgeError c_TooMany c_NoPlace c_NoRow c_NoSuch c_NoLine c_NoText c_NoRule a0_NoRule:Addr)(f0_NoRule:eI)(a_0 a_1 a_2 a_3 a_4 a_5 a_6 a_7 a_8 a_9 a_10 a_11 a_12 a_13 a_14 a_15 a_16 a_17 a_18 a_19 a_20 a_21 a_22 a_23 a_24 a_25 a_26 a_27 a_28 a_29 a_30 a_31 a_32 a_33 a_34 a_35 a_36 a_37 a_38 a_39 a_40 a_41 a_42 a_43 a_44 a_45 a_46 a_47 a_48 a_49 a_law:Addr)(f_0 f_1 f_2 f_3 f_4 f_5 f_6 f_7 f_8 f_9 f_10 f_11 f_12 f_13 f_14 f_15 f_16 f_17 f_18 f_19 f_20 f_21 f_22 f_23 f_24 f_25 f_26 f_27 f_28 f_29 f_30 f_31 f_32 f_33 f_34 f_35 f_36 f_37 f_38 f_39 f_40 f_41 f_42 f_43 f_44 f_45 f_46 f_47 f_48 f_49 f_law:eI)(t_MOST_CASES t_MOST_RULES t_MOST_CASES_BACK t_MOST_CASES_SHORTENED:Tok):Prop extends Cz K mg c_JudgeError c_TooMany c_NoPlace c_NoRow c_NoSuch c_NoLine c_NoText c_NoRule a0_NoRule f0_NoRule where
 D_0:Df K mg "side_of" (top 1) a_0 f_0 ["form","question","stray","case"]
 D_1:Df K mg "field_asked" (top 2) a_1 f_1 ["form","question"]
 D_2:Df K mg "entries_to_yes" (top 3) a_2 f_2 ["question","stray","field"]
 D_3:Df K mg "values_held" (top 4) a_3 f_3 ["question","field"]
 D_4:Df K mg "parted" (top 5) a_4 f_4 ["form","question","stray","rows"]
 D_5:Df K mg "numbers_on" (top 6) a_5 f_5 ["side","sides"]
 D_6:Df K mg "rows_at" (top 8) a_6 f_6 ["rows","numbers"]
 D_7:Df K mg "many_cases" (top 20) a_7 f_7 ["form"]
 D_8:Df K mg "all_cases" (top 21) a_8 f_8 ["form"]
 D_9:Df K mg "entries_of" (top 22) a_9 f_9 ["field"]
 D_10:Df K mg "longer_by" (top 23) a_10 f_10 ["beginnings","entries"]
 D_11:Df K mg "is_leaf" (top 25) a_11 f_11 ["tree"]
 D_12:Df K mg "fits" (top 28) a_12 f_12 ["form","rule","case"]
 D_13:Df K mg "answered" (top 29) a_13 f_13 ["form","rules","case"]
 D_14:Df K mg "all_answered" (top 30) a_14 f_14 ["form","rules","most"]
 D_15:Df K mg "rules_of" (top 31) a_15 f_15 ["form","tree"]
 D_16:Df K mg "whole_lets" (top 32) a_16 f_16 ["form"]
 D_17:Df K mg "rules_within" (top 33) a_17 f_17 ["form","tree","lets"]
 D_18:Df K mg "with_let" (top 34) a_18 f_18 ["lets","number","let"]
 D_19:Df K mg "tree_of" (top 37) a_19 f_19 ["form","rules"]
 D_20:Df K mg "tree_for_all" (top 38) a_20 f_20 ["form","rows"]
 D_21:Df K mg "first_apart" (top 39) a_21 f_21 ["form","rows"]
 D_22:Df K mg "shortened" (top 42) a_22 f_22 ["form","rules"]
 D_23:Df K mg "widened" (top 43) a_23 f_23 ["form","rules","answers"]
 D_24:Df K mg "cases_against" (top 44) a_24 f_24 ["rule","cases","answers"]
 D_25:Df K mg "not_fitted" (top 45) a_25 f_25 ["form","rule","cases"]
 D_26:Df K mg "widest" (top 46) a_26 f_26 ["form","rule","against"]
 D_27:Df K mg "not_let" (top 47) a_27 f_27 ["form","rule"]
 D_28:Df K mg "wider" (top 48) a_28 f_28 ["form","rule","number","entry"]
 D_29:Df K mg "first_fitted" (top 49) a_29 f_29 ["form","rule","cases"]
 D_30:Df K mg "needed" (top 50) a_30 f_30 ["form","rules","answers"]
 D_31:Df K mg "case_for" (top 51) a_31 f_31 ["form","rules","number","answers"]
 D_32:Df K mg "without" (top 52) a_32 f_32 ["rules","number"]
 D_33:Df K mg "shows_of" (top 53) a_33 f_33 ["form","rules","answers"]
 D_34:Df K mg "more_of" (top 54) a_34 f_34 ["form","rule","against"]
 D_35:Df K mg "_law_tape" (top 56) a_35 f_35 ["_law_script"]
 D_36:Df K mg "_law_draw" (top 57) a_36 f_36 ["_law_tape_here","_law_many"]
 D_37:Df K mg "_law_names" (top 58) a_37 f_37 ["_law_tape_here","_law_many"]
 D_38:Df K mg "_law_form" (top 59) a_38 f_38 ["_law_tape_here","_law_fields","_law_values"]
 D_39:Df K mg "_law_whole" (top 60) a_39 f_39 ["_law_form_here"]
 D_40:Df K mg "_law_cases" (top 61) a_40 f_40 ["_law_form_here"]
 D_41:Df K mg "_law_part" (top 62) a_41 f_41 ["_law_tape_here","_law_values"]
 D_42:Df K mg "_law_rule" (top 63) a_42 f_42 ["_law_tape_here","_law_form_here"]
 D_43:Df K mg "_law_fits" (top 64) a_43 f_43 ["_law_rule_here","_law_case"]
 D_44:Df K mg "_law_answer" (top 65) a_44 f_44 ["_law_rules","_law_case"]
 D_45:Df K mg "_law_parted" (top 66) a_45 f_45 ["_law_tape_here","_law_form_here","_law_lets","_law_left"]
 D_46:Df K mg "_law_called" (top 67) a_46 f_46 ["_law_way","_law_form_here","_law_thing"]
 D_47:Df K mg "_law_told" (top 68) a_47 f_47 ["_law_way","_law_form_here","_law_thing"]
 D_48:Df K mg "_law_small" (top 69) a_48 f_48 ["_law_tape_here"]
 D_49:Df K mg "_law_great" (top 70) a_49 f_49 ["_law_tape_here"]
 D_law:Df K mg "law" (top 71) a_law f_law ["_law_script"]
 c_MOST_CASES:mg "MOST_CASES"=some (.int 2000 t_MOST_CASES)
 c_MOST_RULES:mg "MOST_RULES"=some (.int 60 t_MOST_RULES)
 c_MOST_CASES_BACK:mg "MOST_CASES_BACK"=some (.int 500 t_MOST_CASES_BACK)
 c_MOST_CASES_SHORTENED:mg "MOST_CASES_SHORTENED"=some (.int 300 t_MOST_CASES_SHORTENED)
 b_ValueError:mg "ValueError"=none
 b_all:mg "all"=none
 b_enumerate:mg "enumerate"=none
 b_int:mg "int"=none
 b_isinstance:mg "isinstance"=none
 b_len:mg "len"=none
 b_list:mg "list"=none
 b_max:mg "max"=none
 b_min:mg "min"=none
 b_range:mg "range"=none
 b_set:mg "set"=none
 b_tuple:mg "tuple"=none
 b_zip:mg "zip"=none
def iW:Str:="abcdefghijklmnopqrstuvwxyz"
def sgn(c:Nat):Bool:=Txt.contains iW ⟨#[c]⟩
def uS(z:Str):Bool:=decide (1<=z.length)&&decide (z.length<=8)&&z.cps.toList.all sgn
def nm:D->Bool
|.str z=>uS z
|_=>false
def txt:D->Str
|.str z=>z
|_=>""
def nms(d:D)(lo hi:Int):Bool:=match d with | .tuple ts=>decide (lo<=ts.length)&&decide ((ts.length:Int)<=hi)&&ts.all nm&&decide ((ts.map txt).Nodup) | _=>false
def fld:D->Bool
|.tuple [n,vs]=>nm n&&nms vs 2 5
|_=>false
def fst:D->D
|.tuple (n::_)=>n
|_=>.none
def wY(n:Nat)(ys:List Str):Prop:=ys.length=n/\(∀y∈ys,uS y=true)/\ys.Nodup
def kE(f:Str×List Str):D:=.tuple [.str f.1,.tuple (f.2.map aV)]
def eM(fs:List (Str×List Str))(an:List Str):D:=.tuple [.tuple (fs.map kE),.tuple (an.map aV)]
structure fK(fs:List (Str×List Str))(an:List Str):Prop where
 n1:1<=fs.length
 n5:fs.length<=5
 nd:wY fs.length (fs.map (·.1))
 vs:∀f∈fs,2<=f.2.length/\f.2.length<=5/\wY f.2.length f.2
 a2:2<=an.length
 a4:an.length<=4
 an:wY an.length an
def XN:KF:=λds Q=>∃ns:List Int,ds=[.list (ns.map bS)]/\ns.length<=63/\∀c:Int,(c=0\/c=1)->Q [.list (ns.map bS),.int 0,.int 0,.int c]
def uQ:mX:=λds Q=>∃(ns:List Int)(m:Int),ds=[iD ns,.int m]/\ns.length<=63/\0<m/\m<=10000/\∀r:Int,0<=r->r<m->Q (.int r)
def KZ:mX:=λds Q=>∃(ns:List Int)(m:Nat),ds=[iD ns,.int m]/\ns.length<=63/\1<=m/\m<=5/\∀ys,wY m ys->Q (.list (ys.map aV))
def XM:mX:=λds Q=>∃(ns:List Int)(f v:Nat),ds=[iD ns,.int f,.int v]/\ns.length<=63/\1<=f/\f<=5/\2<=v/\v<=5/\∀fs an,fK fs an->fs.length<=f->(∀x∈fs,x.2.length<=v)->Q (eM fs an)
theorem tP{α:Type}{xs:List α}{i:Int}(h0:0<=i)(h1:i<xs.length):∃a,a∈xs/\L2.atI xs i=some a/\xs[i.toNat]?=some a:=by
 have hi:i.toNat<xs.length:=by omega
 refine⟨xs[i.toNat],eV hi,?_,aF hi⟩;have:=L2.eD (xs:=xs) (j:=i.toNat) (v:=xs[i.toNat]) (aF hi)
 rwa [show((i.toNat:Nat):Int)=i by omega]at this
theorem iX(n:Nat):(fV n).length=n:=by unfold fV;simp
theorem mI{n k:Nat}{x:D}(h:(fV n)[k]?=some x):k<n/\x=.int k:=by
 unfold fV at h;rw[aH]at h;by_cases hk:k<n
 ·rw[iE hk]at h;cases h;exact⟨hk,rfl⟩
 ·rw[dD (by simpa using hk)]at h;cases h
theorem lT{α:Type}(xs:List α)(j:Nat):jZ xs none (some (j:Int))=xs.take j:=by
 unfold jZ;rw[HT.sIx_none,HT.sIx_nat,vB,zK];by_cases h:j<=xs.length
 ·rw[uK h]
 ·rw[BU (by omega),cX,jG (by omega)]
theorem tM{α:Type}(xs:List α)(i:Nat):jZ xs (some (i:Int)) none=xs.drop i:=by
 unfold jZ;rw[HT.sIx_none,HT.sIx_nat];by_cases h:i<=xs.length
 ·rw[uK h,jG (by rw[fH];omega)]
 ·rw[BU (by omega),IL (aN _),IL (by omega)];simp
theorem aBz{α:Type}(xs:List α)(i j:Nat):jZ xs (some (i:Int)) (some (j:Int))=(xs.drop i).take (j-i):=by
 unfold jZ;rw[HT.sIx_nat,HT.sIx_nat];apply gB;intro k;rw[jJ,jJ,xA,xA];by_cases hi:i<=xs.length
 ·rw[uK hi];by_cases hj:j<=xs.length
  ·rw[uK hj]
  ·rw[BU (by omega)];by_cases h1:k<xs.length-i
   ·rw[if_pos h1,if_pos (by omega)]
   ·rw[if_neg h1];by_cases h2:k<j-i
    ·rw[if_pos h2,dD (by omega)]
    ·rw[if_neg h2]
 ·rw[if_neg (by omega)];by_cases h2:k<j-i
  ·rw[if_pos h2,dD (by omega)]
  ·rw[if_neg h2]
theorem nQ{α β:Type}(f:α->β)(xs:List α)(lo hi:Option Int):jZ (xs.map f) lo hi=(jZ xs lo hi).map f:=by
 unfold jZ;rw[aE,wV,wW]
theorem RO{z:Str}(h1:1<=z.cps.toList.length)(h2:z.cps.toList.length<=8)(h3:∀c∈z.cps.toList,c∈iW.cps.toList):uS z=true:=by
 have e:z.length=z.cps.toList.length:=by simp[Str.length]
 unfold uS;rw[e,decide_eq_true h1,decide_eq_true h2];simp only[aCj,gI];intro c hc;unfold sgn;rw[SJ];exact decide_eq_true (h3 c hc)
theorem LO{z:Str}(h:uS z=true):1<=z.length/\z.length<=8/\∀c∈z.cps.toList,c∈iW.cps.toList:=by
 unfold uS at h;simp only[dA,decide_eq_true_eq,gI]at h;refine⟨h.1.1,h.1.2,λc hc=>?_⟩;have:=h.2 c hc;unfold sgn at this;rw[SJ]at this;exact of_decide_eq_true this
theorem nodup_range{α:Type}{n:Nat}(F:Nat->α)(inj:∀i j,i<n->j<n->F i=F j->i=j):((fN n).map F).Nodup:=by
 rw[List.Nodup,yS];have:(fN n).Nodup:=List.nodup_range;refine qX.imp_of_mem (λ{a b} ha hb hab e=>?_) this;exact hab (inj a b (by simpa using ha) (by simpa using hb) e)
theorem JS:iW.cps.toList.Nodup:=by decide +kernel
theorem yN:iW.cps.toList.length=26:=by decide +kernel
theorem V4{xs:List Nat}(nd:xs.Nodup){i j:Nat}{c:Nat}(h1:xs[i]?=some c)(h2:xs[j]?=some c):i=j:=by
 obtain⟨a1,a2⟩:=aD.mp h1;obtain⟨b1,b2⟩:=aD.mp h2;exact(UQ nd).mp (a2.trans b2.symm)
theorem F4:∀{ys:List D},(∀y∈ys,∃c,c∈iW.cps.toList/\y=.str ⟨#[c]⟩)->∃cs:List Nat,ys=cs.map (λc=>aV ⟨#[c]⟩)/\∀c∈cs,c∈iW.cps.toList
|[],_=>⟨[],rfl,λc h=>by simp at h⟩
|y::ys,h=>by
 obtain⟨c,hc,rfl⟩:=h y (aS ..);obtain⟨cs,rfl,h2⟩:=F4 (ys:=ys) λy hy=>h y (aO _ hy);refine⟨c::cs,rfl,λd hd=>?_⟩;rcases aY.mp hd with rfl | hd
 ·exact hc
 ·exact h2 d hd
theorem A3(cs:List Nat):(Txt.join ⟨#[]⟩ (cs.map λc=>⟨#[c]⟩)).cps.toList=cs:=by
 rw[JX,bT]
 induction cs with
 |nil=>rfl
 |cons c cs ih=>rw[bM,UC,ih];rfl
theorem TY{ys:List Str}{k:Nat}(h:k<ys.length):L2.atI (ys.map aV) (k:Int)=some (.str ys[k]):=L2.eD (by rw[aH,aF h];rfl)
theorem D6{te:ET}{u:nI}{DT:lZ}{σ:List Sl}{i:Nat}(ns:List Int)(hσ:σ[i]?=some (.val (iD ns)))(a:Int)(h:∀q:D->Prop,q (.int a)->te σ q)(ha:0<=a)(k:u DT σ):iM (wH i 1 te) u DT σ:=h _ ⟨⟨ns,hσ⟩,⟨a,rfl,ha⟩,k⟩
theorem wG{te:ET}{u:nI}{DT:lZ}{σ:List Sl}{i:Nat}(ns:List Int)(hσ:σ[i]?=some (.val (iD ns)))(a:Int)(h:∀q:D->Prop,q (.int a)->te σ q)(k:u DT σ):iM (wH i 2 te) u DT σ:=h _ ⟨⟨ns,hσ⟩,⟨a,rfl⟩,k⟩
theorem EI{te:ET}{DT:lZ}{σ:List Sl}{i:Nat}(ns:List Int)(hσ:σ[i]?=some (.val (iD ns)))(a:Int)(h:∀q:D->Prop,q (.int a)->te σ q)(k:DT.nx σ):wH i 2 te DT σ:=h _ ⟨⟨ns,hσ⟩,⟨a,rfl⟩,k⟩
theorem vE{c:qA}{te:ET}{u:nI}{DT:lZ}{σ:List Sl}{i:Nat}(C:Prop)(R:D->Prop)(h:∀q:Bool->Prop,(∀b,(b=true->C)->q b)->c σ q)(h1:C->∀q:D->Prop,(∀d,R d->q d)->te σ q)(d0:D)(h0:σ[i]?=some (.val d0))(r0:R d0)(k:∀d,R d->u DT (σ.set i (.val d))):iM (sIf c (D7 i te) kC) u DT σ:=by
 refine h _ λb hb=>?_
 cases b with
 |true=>
  rw[if_pos rfl];exact h1 (hb rfl) _ k
 |false=>
  rw[if_neg (by decide)]
  have e:σ.set i (.val d0)=σ:=by
   apply gB;intro j;by_cases hj:i=j
   ·subst hj;rw[bA (aD.mp h0).1,h0]
   ·rw[aU hj]
  have:=k d0 r0;rw[e]at this;exact this
theorem AV{n:Nat}(F:Nat->Str)(h:∀i,i<n->uS (F i)=true)(inj:∀i j,i<n->j<n->F i=F j->i=j):wY n ((fN n).map F):=
 ⟨by simp,λy hy=>by
  obtain⟨i,hi,rfl⟩:=aX.mp hy;exact h i (by simpa using hi),nodup_range F inj⟩
theorem CY{n:Nat}{ys:List Str}(h:wY n ys)(t:Nat){m:Nat}(hm:m<=n):wY m ((ys.drop t++ys.take t).take m):=by
 have hp:(ys.drop t++ys.take t).Perm ys:=by
  have:(ys.take t++ys.drop t).Perm ys:=by rw[jN]
  exact List.perm_append_comm.trans this
 refine⟨?_,λy hy=>h.2.1 y (hp.mem_iff.mp (fM hy)),(hp.nodup_iff.mpr h.2.2).sublist (qR _ _)⟩;rw[bI,hp.length_eq,h.1];omega
theorem NN{n:Nat}{ys:List Str}(h:wY n ys)(t:Nat):wY n (ys.drop t++ys.take t):=by
 have e:=CY h t (aN n)
 rwa [jG]at e
 rw[aZ,fH,bI,h.1];omega
theorem NO{n:Nat}{ys:List Str}(h:wY n ys){m:Nat}(hm:m<=n):wY m (ys.take m):=⟨by rw[bI,h.1];omega,λy hy=>h.2.1 y (fM hy),h.2.2.sublist (qR _ _)⟩
def zT:List Str:=["say","ask","is","upto","yes","no","all","in","and","put","out","tree"]
theorem aE7:wY 12 zT:=⟨rfl,by decide +kernel,by decide +kernel⟩
theorem HQ{ns:List Int}(h:0<ns.length)(i:Int):∃x:Int,L2.atI (ns.map bS) (i%((ns.map bS).length:Nat))=some (.int x):=by
 rw[aE];obtain⟨a,hm,ha,_⟩:=tP (xs:=ns.map bS) (i:=i%(ns.length:Nat)) (jY _ (by omega)) (by rw[aE];exact iV _ (by omega));obtain⟨b,hb,rfl⟩:=aX.mp hm;exact⟨b,ha⟩
@[irreducible] def OJ(i:Nat):Nat:=iW.cps.toList.getD i 0
theorem zX{i:Nat}(h:i<26):iW.cps.toList[i]?=some (OJ i):=by
 have hl:i<iW.cps.toList.length:=by rw[yN];exact h
 unfold OJ;rw[List.getD_eq_getElem?_getD,aF hl];rfl
theorem W2{i:Nat}(h:i<26):OJ i∈iW.cps.toList:=aR (zX h)
def xC(z:Str)(t k c:Nat):Str:=Txt.slice z none (some (t:Int))++⟨#[c]⟩++Txt.slice z (some ((t:Int)+1)) (some (k:Int))
theorem rA(z:Str)(t k c:Nat):(xC z t k c).cps.toList=z.cps.toList.take t++(c::(z.cps.toList.drop (t+1)).take (k-(t+1))):=by
 unfold xC;rw[uG,uG,sS,sS];have e2:(t:Int)+1=((t+1:Nat):Int):=by omega
 rw[e2,aBz,lT];simp
theorem RN{z:Str}(hz8:z.cps.toList.length=8)(hzl:∀c∈z.cps.toList,c∈iW.cps.toList){k m:Nat}(hk:1<=k)(hkm:k+m<=9):wY m ((fN m).map λj:Nat=>Txt.slice z none (some ((k:Int)+(j:Int)))):=by
 have e:∀j:Nat,(Txt.slice z none (some ((k:Int)+(j:Int)))).cps.toList=z.cps.toList.take (k+j):=λj=>by
  rw[sS];exact lT _ (k+j)
 refine AV _ (λi hi=>?_) λi j hi hj h=>?_
 ·refine RO ?_ ?_ λc hc=>?_
  ·rw[e,bI];omega
  ·rw[e,bI];omega
  ·rw[e]at hc;exact hzl c (fM hc)
 ·have e1:=e i;rw[h,e j]at e1;have:=congrArg kU e1;rw[bI,bI]at this;omega
theorem NM{z:Str}(hz8:z.cps.toList.length=8)(hzl:∀c∈z.cps.toList,c∈iW.cps.toList){k t s m:Nat}(hk:k<=8)(ht:t<k)(hm:m<=26):wY m ((fN m).map λj:Nat=>xC z t k (OJ ((s+j)%26))):=by
 refine AV _ (λi hi=>?_) λi j hi hj h=>?_
 ·have e:=rA z t k (OJ ((s+i)%26));refine RO ?_ ?_ λc hc=>?_
  ·rw[e,aZ,cE];omega
  ·rw[e,aZ,cE,bI,bI,fH];omega
  ·rw[e]at hc;rcases dO.mp hc with hc | hc
   ·exact hzl c (fM hc)
   ·rcases aY.mp hc with rfl | hc
    ·exact W2 (FO _ (by decide))
    ·exact hzl c (MN (fM hc))
 ·have e1:=rA z t k (OJ ((s+i)%26));have h':xC z t k (OJ ((s+i)%26))=xC z t k (OJ ((s+j)%26)):=h;rw[h',rA]at e1;have e2:=List.append_cancel_left e1;have e3:OJ ((s+j)%26)=OJ ((s+i)%26):=(List.cons.inj e2).1;have l1:=zX (i:=(s+i)%26) (FO _ (by decide));have l2:=zX (i:=(s+j)%26) (FO _ (by decide));rw[e3]at l2;have:=V4 JS l1 l2;omega
theorem IN(z:Str)(hz8:z.cps.toList.length=8)(t k c:Nat):(Txt.slice z none (some (t:Int))).length+1<=100000/\(Txt.slice z none (some (t:Int))++(⟨#[c]⟩:Str)).length+(Txt.slice z (some ((t:Int)+1)) (some (k:Int))).length<=100000:=by
 have a1:=Txt.slice_le z none (some (t:Int));have a2:=Txt.slice_le z (some ((t:Int)+1)) (some (k:Int));have a3:z.length=z.cps.toList.length:=by simp[Str.length]
 have a4:(Txt.slice z none (some (t:Int))++(⟨#[c]⟩:Str)).length=(Txt.slice z none (some (t:Int))).length+1:=by
  show((Txt.slice z none (some (t:Int))).cps++#[_]).size=_;rw[PC];rfl
 rw[a4];omega
def okV(f:Str×List Str)(d:D):Bool:=match d with | .none=>true | .str z=>decide (z∈f.2) | _=>false
def SI(an:List Str)(d:D):Bool:=match d with | .str z=>decide (z∈an) | _=>false
structure Cd(d:D):Prop where
 lay:d.canLay0=true
 dep:d.depth<=60
structure Th(n m:Nat)(d:D):Prop where
 bulk:d.bulk<=n
 fit:d.leavesShort 110=true
 shw:d.showable=true
 nodict:d.hasDict=false
 depth:d.depth<=m
 lay:d.canLay0=true
theorem sK{n m:Nat}:∀{ts:List D},(∀t∈ts,Th n m t)->BY ts<=ts.length*(n+1)/\HW 110 ts=true/\ML ts=true/\lD ts=false/\eK ts<=m/\fL ts=true
|[],_=>⟨dS _,rfl,rfl,rfl,dS _,rfl⟩
|t::ts,h=>by
 have a:=h t (aS ..);obtain⟨b1,b2,b3,b4,b5,b6⟩:=sK (ts:=ts) λx hx=>h x (aO _ hx);refine⟨?_,?_,?_,?_,?_,?_⟩
 ·show t.bulk+1+BY ts<=(ts.length+1)*(n+1);have:=a.bulk;rw[qW,vQ];omega
 ·show(t.leavesShort 110&&HW 110 ts)=true;rw[a.fit,b2];rfl
 ·show(t.showable&&ML ts)=true;rw[a.shw,b3];rfl
 ·show(t.hasDict||lD ts)=false;rw[a.nodict,b4];rfl
 ·show max t.depth (eK ts)<=m;exact Nat.max_le.mpr ⟨a.depth,b5⟩
 ·show(t.canLay0&&fL ts)=true;rw[a.lay,b6];rfl
theorem xF(n m k:Nat){N M:Nat}{ts:List D}(h:∀t∈ts,Th n m t)(hl:ts.length<=k)(hN:k*(n+1)<=N)(hM:m+1<=M):Th N M (.tuple ts):=by
 obtain⟨b1,b2,b3,b4,b5,b6⟩:=sK h;have:ts.length*(n+1)<=k*(n+1):=OX _ hl;exact⟨by show BY ts<=N;omega,b2,b3,b4,by show eK ts+1<=M;omega,b6⟩
theorem vW{n m:Nat}:Th n m .none:=⟨dS _,rfl,rfl,rfl,dS _,rfl⟩
theorem FY{z:Str}(hc:∀c∈z.cps.toList,c<1000):ZQ z=true:=by
 unfold ZQ;rw[<- UF,gI];intro c h1;have:=hc c h1;exact decide_eq_true (by omega)
theorem ZX{n m:Nat}{z:Str}(h:z.length<=n)(hc:∀c∈z.cps.toList,c<1000):Th n m (.str z):=by
 refine⟨h,?_,rfl,rfl,dS _,FY hc⟩;show(z.cps.toList.all λc=>decide (c<16^8))=true;rw[gI];intro c h1;have:=hc c h1;exact decide_eq_true (by omega)
theorem NW{c:Nat}(h:c∈iW.cps.toList):c<128:=by
 have:∀c∈iW.cps.toList,c<128:=by decide +kernel
 exact this c h
theorem GP{y:Str}(h:uS y=true):y.length<=8/\∀c∈y.cps.toList,c<128:=⟨(LO h).2.1,λc hc=>NW ((LO h).2.2 c hc)⟩
theorem kL{y:Str}(h:uS y=true){n m:Nat}(hn:8<=n):Th n m (.str y):=ZX (cP (GP h).1 hn) λc hc=>by have:=(GP h).2 c hc;omega
theorem D0{ys:List Str}(h:∀y∈ys,uS y=true){n m:Nat}(hn:8<=n):∀t∈ys.map aV,Th n m t:=λt ht=>by
 obtain⟨y,hy,rfl⟩:=aX.mp ht;exact kL (h y hy) hn
theorem FB{n m:Nat}:∀t∈([]:List D),Th n m t:=λt h=>by simp at h
theorem qM{n m:Nat}{a:D}{ts:List D}(h:Th n m a)(hs:∀t∈ts,Th n m t):∀t∈a::ts,Th n m t:=λt ht=>by
 rcases aY.mp ht with rfl | ht
 ·exact h
 ·exact hs t ht
theorem W6{n m:Nat}{as bs:List D}(h:∀t∈as,Th n m t)(hs:∀t∈bs,Th n m t):∀t∈as++bs,Th n m t:=λt ht=>(dO.mp ht).elim (h t) (hs t)
theorem Th.cd{n m:Nat}{d:D}(h:Th n m d)(hm:m<=60):Cd d:=⟨h.lay,cP h.depth hm⟩
section
variable{fs:List (Str×List Str)}{an:List Str}
theorem fK.name(F:fK fs an){f:Str×List Str}(h:f∈fs):uS f.1=true:=F.nd.2.1 _ (aX.mpr ⟨f,h,rfl⟩)
theorem fK.vals(F:fK fs an){f:Str×List Str}(h:f∈fs):∀y∈f.2,uS y=true:=(F.vs f h).2.2.2.1
end
theorem tK{x:D}{ts:List D}{Q:D->Prop}(h1:wM x (.tuple ts))(h2:Q (.bool (ER x (.tuple ts)))):aFr x (.tuple ts) Q:=by
 cases x<;>exact⟨h1,h2⟩
theorem T0(d:D)(ys:List Str):((ys.map aV).any λz=>cC z d)=SI ys d:=by
 induction ys with
 |nil=>cases d<;>rfl
 |cons y ys ih=>
  rw[bM,aCi,ih]
  cases d with
  |str z=>
   show((y==z)||decide (z∈ys))=decide (z∈y::ys);rw[eE];simp only[jV,beq_iff_eq,decide_eq_true_eq,aY];exact⟨λh=>h.imp Eq.symm id,λh=>h.imp Eq.symm id⟩
  |_=>rfl
theorem V2{ys:List Str}(h:∀y∈ys,uS y=true){d:D}(hd:Cd d):wM d (.tuple (ys.map aV)):=by
 obtain⟨_,_,_,_,b5,b6⟩:=sK (D0 h (aN 8) (m:=0));exact⟨b6,hd.lay,by have:=hd.dep;omega⟩
theorem JI{ys:List Str}(h:∀y∈ys,uS y=true){d:D}(hd:Cd d):wM d (.tuple (ys.map aV++[.none])):=by
 obtain⟨_,_,_,_,b5,b6⟩:=sK (W6 (D0 h (aN 8) (m:=0)) (qM vW FB));exact⟨b6,hd.lay,by have:=hd.dep;omega⟩
theorem ES:∀{ys:List Str}{z:Str}{m:Nat},m<ys.idxOf z->ys[m]?≠some z
|[],z,m,h=>by simp at h
|y::ys,z,m,h=>by
 rw[List.idxOf_cons]at h;by_cases e:y=z
 ·subst e;simp at h
 ·have e':(y==z)=false:=by simpa using e
  rw[e']at h;simp only[cond_false]at h
  cases m with
  |zero=>simpa using e
  |succ m=>
   rw[gZ];exact ES (by omega)
theorem AG{t:FT}{u:nI}{DT:lZ}{σ:List Sl}{i:Nat}(ts:List D)(h:∀q:List D->Prop,q ts->t σ q)(k:u DT (σ.set i (.own ts))):iM (F9 i t) u DT σ:=h _ k
def fS(fs:List (Str×List Str))(d:D):Bool:=match d with | .tuple ts=>decide (ts.length=fs.length)&&(fs.zip ts).all (λp=>okV p.1 p.2) | _=>false
section
variable{fs:List (Str×List Str)}{an:List Str}
theorem iT{cs:List D}(h:fS fs (.tuple cs)=true):cs.length=fs.length/\∀(k:Nat) f c,fs[k]?=some f->cs[k]?=some c->okV f c=true:=by
 unfold fS at h;simp only[dA,decide_eq_true_eq,gI]at h;refine⟨h.1,λk f c h1 h2=>?_⟩;exact h.2 (f,c) (aR ((jS (z:=(f,c))).mpr ⟨h1,h2⟩))
theorem MD{cs:List D}(hl:cs.length=fs.length)(h:∀(k:Nat) f c,fs[k]?=some f->cs[k]?=some c->okV f c=true):fS fs (.tuple cs)=true:=by
 unfold fS;simp only[dA,decide_eq_true_eq,gI];refine⟨hl,λp hp=>?_⟩;obtain⟨k,hk⟩:=bQ hp;obtain⟨h1,h2⟩:=jS.mp hk;exact h k p.1 p.2 h1 h2
theorem vN(F:fK fs an){cs:List D}(h:fS fs (.tuple cs)=true){n m:Nat}(hn:8<=n):∀c∈cs,Th n m c:=λc hc=>by
 obtain⟨hl,hv⟩:=iT h;obtain⟨k,hk⟩:=bQ hc;have hk':k<fs.length:=by rw[<- hl];exact(aD.mp hk).1
 have:=hv k fs[k] c (aF hk') hk
 cases c with
 |none=>exact vW
 |str z=>exact kL (F.vals (eV hk') z (of_decide_eq_true this)) hn
 |_=>cases this
end
def sU(r:List D×Str):D:=.tuple [.tuple r.1,.str r.2]
def qOk(f:Str×List Str)(k v:D):Bool:=match k,v with
|.str kk,.str z=>decide (z∈f.2)&&(decide (kk="is")||(decide (kk="upto")&&decide (f.2.idxOf z+1<f.2.length)))
|_,_=>false
def isN(n:D)(f:Str×List Str):Bool:=match n with | .str z=>decide (f.1=z) | _=>false
def N0(fs:List (Str×List Str))(d:D):Bool:=match d with
|.tuple [k,n,v]=>fs.any λf=>isN n f&&qOk f k v
|_=>false
def mkQ(k:Str)(f:Str×List Str)(z:Str):D:=.tuple [.str k,.str f.1,.str z]
theorem aBd{ys:List Str}{z:Str}{j:Nat}(h:ys[j]?=some z):ys.idxOf z<=j:=by
 by_cases q:ys.idxOf z<=j
 ·exact q
 ·exact absurd h (ES (by omega))
theorem aBa{fs:List (Str×List Str)}{f:Str×List Str}{k:Str}{z:Str}(hf:f∈fs)(h:qOk f (.str k) (.str z)=true):N0 fs (mkQ k f z)=true:=by
 show(fs.any λg=>isN (.str f.1) g&&qOk g (.str k) (.str z))=true;rw[oC];refine⟨f,hf,?_⟩;show(decide (f.1=f.1)&&qOk f (.str k) (.str z))=true;rw[h,decide_eq_true rfl];rfl
theorem aE9:uS "is"=true:=by decide +kernel
theorem V6:uS "upto"=true:=by decide +kernel
theorem ZY{fs:List (Str×List Str)}{an:List Str}(F:fK fs an){k:Str}(hk:uS k=true){f:Str×List Str}(hf:f∈fs){z:Str}(hz:z∈f.2):Th 27 1 (mkQ k f z):=
 xF 8 0 3 (qM (kL hk (aN _)) (qM (kL (F.name hf) (aN _)) (qM (kL (F.vals hf z hz) (aN _)) FB))) (aC rfl) (by decide) (by decide)
theorem CV{ys:List Str}(hy:∀y∈ys,uS y=true){z:Str}(hz:z∈ys):RI (ys.map aV) (.str z) (ys.idxOf z):=by
 have hzi:ys.idxOf z<ys.length:=mO.mpr hz;obtain⟨_,_,_,_,d5,d6⟩:=sK (D0 hy (aN 8) (m:=0));refine⟨d6,(kL (hy z hz) (aN 8) (m:=0)).lay,by omega,⟨.str z,?_,?_⟩,λm t hm ht=>?_⟩
 ·rw[aH,aF hzi,wZ hzi];rfl
 ·show(z==z)=true;simp
 ·rw[aH]at ht
  cases e2:ys[m]? with
  |none=>rw[e2]at ht;cases ht
  |some y=>
   rw[e2]at ht;cases ht;show(y==z)=false
   have:y≠z:=λq=>by
    subst q;exact ES hm e2
   simpa using this
inductive Tr | say (a:Str) | ask (k n v s:Str) (y m:Tr)
def oQ:Tr->D
|.say a=>.tuple [.str "say",.str a]
|.ask k n v s y m=>.tuple [.str "ask",.tuple [.str k,.str n,.str v],.str s,oQ y,oQ m]
def Tr.dep:Tr->Nat
|.say _=>0
|.ask _ _ _ _ y m=>max y.dep m.dep+1
def Tr.kn:Tr->Nat
|.say _=>0
|.ask _ _ _ _ y m=>y.kn+m.kn+1
def wS(fs:List (Str×List Str))(an:List Str):Tr->Prop
|.say a=>a∈an
|.ask k n v s y m=>N0 fs (.tuple [.str k,.str n,.str v])=true/\(s="yes"\/s="no")/\wS fs an y/\wS fs an m
theorem EQ{fs:List (Str×List Str)}{k n v:Str}(h:N0 fs (.tuple [.str k,.str n,.str v])=true):∃f∈fs,f.1=n/\v∈f.2/\(k="is"\/(k="upto"/\f.2.idxOf v+1<f.2.length)):=by
 obtain⟨f,hf,hq⟩:=oC.mp (h:(fs.any λf=>isN (.str n) f&&qOk f (.str k) (.str v))=true);rw[dA]at hq;have h2:(decide (v∈f.2)&&(decide (k="is")||(decide (k="upto")&&decide (f.2.idxOf v+1<f.2.length))))=true:=hq.2;simp only[dA,jV,decide_eq_true_eq]at h2;exact⟨f,hf,of_decide_eq_true hq.1,h2.1,h2.2⟩
theorem aA1:uS "yes"=true:=by decide +kernel
theorem aE8:uS "no"=true:=by decide +kernel
theorem aA2:uS "say"=true:=by decide +kernel
theorem aA3:uS "ask"=true:=by decide +kernel
theorem aGs{fs:List (Str×List Str)}{an:List Str}(F:fK fs an){k n v:Str}(h:N0 fs (.tuple [.str k,.str n,.str v])=true):Th 27 1 (.tuple [.str k,.str n,.str v]):=by
 obtain⟨f,hf,rfl,hv,hk⟩:=EQ h;refine ZY F ?_ hf hv;rcases hk with rfl | ⟨rfl,_⟩
 ·exact aE9
 ·exact V6
theorem DZ{fs:List (Str×List Str)}{an:List Str}(F:fK fs an):∀t:Tr,wS fs an t->Th (68*t.kn+18) (t.dep+1) (oQ t)
|.say a,h=>xF 8 0 2 (qM (kL aA2 (aN _)) (qM (kL (F.an.2.1 a h) (aN _)) FB)) (aC rfl) (by show 2*(8+1)<=68*0+18;decide) (aN _)
|.ask k n v s y m,h=>by
 obtain⟨hq,hs,hy,hm⟩:=h;have iy:=DZ F y hy;have im:=DZ F m hm;have q:=aGs F hq
 have sn:uS s=true:=by
  rcases hs with rfl | rfl
  ·exact aA1
  ·exact aE8
 have sl:=kL sn (n:=8) (m:=0) (aN _);have al:=kL aA3 (n:=8) (m:=0) (aN _);have e1:PyData.bulk (oQ (.ask k n v s y m))=(aV "ask").bulk+1+((aM [.str k,.str n,.str v]).bulk+1+((aV s).bulk+1+((oQ y).bulk+1+((oQ m).bulk+1+0)))):=rfl;have e2:PyData.depth (oQ (.ask k n v s y m))=max (aV "ask").depth (max (aM [.str k,.str n,.str v]).depth (max (aV s).depth (max (oQ y).depth (max (oQ m).depth 0))))+1:=rfl;refine⟨?_,?_,?_,?_,?_,?_⟩
 ·rw[e1];have a1:=iy.bulk;have a2:=im.bulk;have a3:=q.bulk;have a4:=sl.bulk;have a5:=al.bulk;show _<=68*(y.kn+m.kn+1)+18;omega
 ·show((aV "ask").leavesShort 110&&((aM [.str k,.str n,.str v]).leavesShort 110&&((aV s).leavesShort 110&&((oQ y).leavesShort 110&&((oQ m).leavesShort 110&&true)))))=true;rw[al.fit,q.fit,sl.fit,iy.fit,im.fit];rfl
 ·show((aV "ask").showable&&((aM [.str k,.str n,.str v]).showable&&((aV s).showable&&((oQ y).showable&&((oQ m).showable&&true)))))=true;rw[al.shw,q.shw,sl.shw,iy.shw,im.shw];rfl
 ·show((aV "ask").hasDict||((aM [.str k,.str n,.str v]).hasDict||((aV s).hasDict||((oQ y).hasDict||((oQ m).hasDict||false)))))=false;rw[al.nodict,q.nodict,sl.nodict,iy.nodict,im.nodict];rfl
 ·rw[e2];have a1:=iy.depth;have a2:=im.depth;have a3:=q.depth;have a4:=sl.depth;have a5:=al.depth;show _<=max y.dep m.dep+1+1;omega
 ·show((aV "ask").canLay0&&((aM [.str k,.str n,.str v]).canLay0&&((aV s).canLay0&&((oQ y).canLay0&&((oQ m).canLay0&&true)))))=true;rw[al.lay,q.lay,sl.lay,iy.lay,im.lay];rfl
theorem M5{c:qA}{tb u:nI}{DT:lZ}{σ:List Sl}(P:Nat->List Sl->Prop)(n0:Nat)(h0:P n0 σ)
  (hs:∀n σ',P n σ'->∃b:Bool,(∀q:Bool->Prop,q b->c σ' q)/\(if b=true then tb { DT with nx:=λσ2=>∃m,m<n/\P m σ2,ct:=λσ2=>∃m,m<n/\P m σ2,bk:=u DT } σ' else u DT σ')):iM (QM c tb) u DT σ:=
 ⟨P,⟨n0,h0⟩,λn σ' hp=>let ⟨_,h1,h2⟩:=hs n σ' hp;h1 _ h2⟩
def oX(f:Str×List Str)(k v st:Str)(c:D):Str:=match c with
|.none=>st
|.str z=>if k="is" then(if z=v then "yes" else "no")else if f.2.idxOf z<=f.2.idxOf v then "yes" else "no"
|_=>""
def lP(fs:List (Str×List Str))(k n v st:Str)(cs:List D):Str:=match fs[(fs.map (·.1)).idxOf n]?,cs[(fs.map (·.1)).idxOf n]? with
|some f,some c=>oX f k v st c
|_,_=>""
def aC2:mX:=λds Q=>∃(fs:List (Str×List Str))(an:List Str)(k n v st:Str)(cs:List D),ds=[eM fs an,.tuple [.str k,.str n,.str v],.str st,.tuple cs]/\fK fs an/\N0 fs (.tuple [.str k,.str n,.str v])=true/\(st="yes"\/st="no")/\fS fs (.tuple cs)=true/\Q (.str (lP fs k n v st cs))
def JH(fs:List (Str×List Str))(k n v st:Str)(rs:List (List D×Str))(w:Str)(x:D):Bool:=match x with
|.int i=>match L2.atI rs i with | some r=>decide (lP fs k n v st r.1=w) | none=>false
|_=>false
def sT(fs:List (Str×List Str))(k n v st:Str)(rs:List (List D×Str))(w:Str):List D:=(fV rs.length).filter (JH fs k n v st rs w)
theorem zU{fs:List (Str×List Str)}{an:List Str}(F:fK fs an){j:Nat}{f:Str×List Str}(h:fs[j]?=some f):(fs.map (·.1)).idxOf f.1=j:=by
 have hm:f.1∈fs.map (·.1):=aX.mpr ⟨f,aR h,rfl⟩;have hi:(fs.map (·.1)).idxOf f.1<(fs.map (·.1)).length:=mO.mpr hm;have h1:(fs.map (·.1))[(fs.map (·.1)).idxOf f.1]?=some f.1:=by rw[aF hi,wZ hi]
 have h2:(fs.map (·.1))[j]?=some f.1:=by rw[aH,h];rfl
 exact(UB hi F.nd.2.2).mp (h1.trans h2.symm)
theorem AF{fs:List (Str×List Str)}{an:List Str}(F:fK fs an){k n v st:Str}{cs:List D}{j:Nat}{f:Str×List Str}{c:D}(h1:fs[j]?=some f)(h2:cs[j]?=some c)(hn:f.1=n):lP fs k n v st cs=oX f k v st c:=by
 subst hn;unfold lP;rw[zU F h1,h1,h2]
def sdD(fs:List (Str×List Str))(k n v st:Str)(x:D):D:=match x with | .tuple [.tuple cs,_]=>.str (lP fs k n v st cs) | _=>.none
theorem wL{te:ET}{DT:lZ}{σ:List Sl}{i:Nat}{ts us:List D}(ho:σ[i]?=some (.own ts))(hz:ts.length+us.length<=100000)(h:∀q:D->Prop,q (.list us)->te σ q)(k:DT.nx (σ.set i (.own (ts++us)))):Y1 i te DT σ:=⟨ts,ho,h _ ⟨us,rfl,hz,k⟩⟩
theorem CU{fs:List (Str×List Str)}{k n v st:Str}{rs:List (List D×Str)}{w:Str}{j:Nat}{r:List D×Str}(h:rs[j]?=some r):JH fs k n v st rs w (.int (j:Int))=decide (lP fs k n v st r.1=w):=by
 show(match L2.atI rs (j:Int)with | some r=>decide (lP fs k n v st r.1=w) | none=>false)=_;rw[L2.eD h]
def A6(k v:Str)(f:Str×List Str):List Str:=if k="is" then[v]else f.2.take (f.2.idxOf v+1)
def aC1:mX:=λds Q=>∃(k n v:Str)(f:Str×List Str),ds=[.tuple [.str k,.str n,.str v],kE f]/\(∀y∈f.2,uS y=true)/\v∈f.2/\f.2.length<=5/\Q (.tuple ((A6 k v f).map aV))
theorem N4{f:Str×List Str}{k v st z:Str}(hz:z∈f.2):(if SI (A6 k v f) (.str z)=true then("yes":Str)else "no")=oX f k v st (.str z):=by
 show(if decide (z∈A6 k v f)=true then("yes":Str)else "no")=if k="is" then(if z=v then("yes":Str)else "no")else if f.2.idxOf z<=f.2.idxOf v then("yes":Str)else "no";unfold A6;by_cases hk:k="is"
 ·rw[if_pos hk,if_pos hk];by_cases e:z=v
  ·rw[if_pos e,if_pos (decide_eq_true (aW.mpr e))]
  ·rw[if_neg e,if_neg (λq=>e (aW.mp (of_decide_eq_true q)))]
 ·rw[if_neg hk,if_neg hk];have hi:f.2.idxOf z<f.2.length:=mO.mpr hz;by_cases e:f.2.idxOf z<=f.2.idxOf v
  ·rw[if_pos e,if_pos];refine decide_eq_true (aR (i:=f.2.idxOf z) ?_);rw[jJ,if_pos (by omega),aF hi,wZ hi]
  ·rw[if_neg e,if_neg];intro q;obtain⟨i,hi'⟩:=bQ (of_decide_eq_true q);have hl:=(aD.mp hi').1;rw[bI]at hl;rw[jJ,if_pos (by omega)]at hi';have:=aBd hi';omega
theorem G0{f:Str×List Str}{k v y:Str}(hv:v∈f.2)(h:y∈A6 k v f):y∈f.2:=by
 unfold A6 at h;split at h
 ·rw[aW.mp h];exact hv
 ·exact fM h
def nT(k v st:Str)(f:Str×List Str):List D:=(A6 k v f).map aV++(if st="yes" then[dY]else[])
def U6:mX:=λds Q=>∃(k n v st:Str)(f:Str×List Str),ds=[.tuple [.str k,.str n,.str v],.str st,kE f]/\(∀y∈f.2,uS y=true)/\v∈f.2/\f.2.length<=5/\Q (.tuple (nT k v st f))
def U7:mX:=λds Q=>∃(fs:List (Str×List Str))(an:List Str)(k n v:Str)(f:Str×List Str)(j:Nat),ds=[eM fs an,.tuple [.str k,.str n,.str v]]/\fK fs an/\fs[j]?=some f/\f.1=n/\Q (.int (j:Int))
theorem SM{k v:Str}{f:Str×List Str}(h:f.2.length<=5):(A6 k v f).length<=5:=by
 unfold A6;split
 ·show 1<=5;decide
 ·rw[bI];omega
theorem A5{k v st:Str}{f:Str×List Str}(hst:st="yes"\/st="no"){c:D}(hc:okV f c=true):(if ER c (.tuple (nT k v st f))=true then("yes":Str)else "no")=oX f k v st c:=by
 have e:ER c (.tuple (nT k v st f))=(SI (A6 k v f) c||((if st="yes" then[dY]else[]).any λz=>cC z c)):=by
  show((nT k v st f).any λz=>cC z c)=_;unfold nT;rw[List.any_append,T0]
 cases c with
 |none=>
  rw[e];rcases hst with rfl | rfl<;>rfl
 |str z=>
  have hz:z∈f.2:=of_decide_eq_true hc
  have e2:((if st="yes" then[dY]else[]).any λx=>cC x (.str z))=false:=by
   rcases hst with rfl | rfl<;>rfl
  rw[e,e2,qY];exact N4 hz
 |_=>cases hc
theorem GM{k v st:Str}{f:Str×List Str}(hf:∀y∈f.2,uS y=true)(hv:v∈f.2){d:D}(hd:Cd d):wM d (.tuple (nT k v st f)):=by
 unfold nT;split
 ·exact JI (λy hy=>hf y (G0 hv hy)) hd
 ·rw[dG];exact V2 (λy hy=>hf y (G0 hv hy)) hd
def onW(w:Str)(x:D):Bool:=match x with | .tuple [_,.str s]=>decide (s=w) | _=>false
def WI(ss:List Str)(w:Str)(x:D):Bool:=match x with | .int i=>(match L2.atI ss i with | some s=>decide (s=w) | none=>false) | _=>false
def atS(ss:List Str)(x:D):D:=match x with | .int i=>(match L2.atI ss i with | some s=>.str s | none=>.none) | _=>.none
def aBk(x:D):D:=match x with | .tuple [a,_]=>a | _=>x
theorem C5(ss:List Str):tL (ss.map aV)=(fV ss.length).map λx=>.tuple [x,atS ss x]:=by
 apply gB;intro i
 cases h:ss[i]? with
 |none=>
  have hl:=FQ.mp h;rw[dD (by rw[kW,aE];exact hl),dD (by rw[aE,iX];exact hl)]
 |some s=>
  have hl:=(aD.mp h).1;rw[oW (a:=.str s) (by rw[aH,h];rfl),aH];unfold fV;rw[aH,iE hl];show _=some (aM [.int (i:Int),match L2.atI ss (i:Int)with | some s=>.str s | none=>.none]);rw[L2.eD h]
theorem HC(ss:List Str)(w:Str):((tL (ss.map aV)).filter (onW w)).map aBk=(fV ss.length).filter (WI ss w):=by
 rw[C5,iH,bT];have e1:(aBk∘λx=>aM [x,atS ss x])=id:=by funext x;rfl
 have e2:(onW w∘λx=>aM [x,atS ss x])=WI ss w:=by
  funext x
  cases x with
  |int i=>
   show onW w (.tuple [.int i,(match L2.atI ss i with | some s=>aV s | none=>.none)])=(match L2.atI ss i with | some s=>decide (s=w) | none=>false);cases L2.atI ss i<;>rfl
  |_=>rfl
 rw[e1,e2,kT]
theorem K3{fs:List (Str×List Str)}{k n v st:Str}{rs:List (List D×Str)}(w:Str):(fV (rs.map λr=>lP fs k n v st r.1).length).filter (WI (rs.map λr=>lP fs k n v st r.1) w)=sT fs k n v st rs w:=by
 unfold sT;rw[aE];apply gA;intro x hx;obtain⟨j,hj⟩:=bQ hx;obtain⟨hjl,rfl⟩:=mI hj;have hr:rs[j]?=some rs[j]:=aF hjl;rw[CU hr];show(match L2.atI (rs.map λr=>lP fs k n v st r.1) (j:Int)with | some s=>decide (s=w) | none=>false)=_;rw[L2.eD (v:=lP fs k n v st rs[j].1) (by rw[aH,hr];rfl)]
def bN(f:Str×List Str):List D:=f.2.map aV++[.none]
def cH:List (List D)->List (List D)
|[]=>[[]]
|e::L=>e.flatMap λx=>(cH L).map (x::·)
def hX(bs:List (List D))(es:List D):List (List D):=bs.flatMap λb=>es.map λx=>b++[x]
theorem C3:∀(L:List (List D))(bs:List (List D)),L.foldl hX bs=bs.flatMap λb=>(cH L).map (b++·)
|[],bs=>by
 show bs=bs.flatMap λb=>[b++[]]
 induction bs with
 |nil=>rfl
 |cons b bs ih=>rw[eX,<- ih,dG];rfl
|e::L,bs=>by
 show L.foldl hX (hX bs e)=_;rw[C3 L];unfold hX;rw[List.flatMap_assoc];congr 1;funext b;show _=(e.flatMap λx=>(cH L).map (x::·)).map (b++·);rw[List.flatMap_map,List.map_flatMap];congr 1;funext x;rw[bT];congr 1;funext l;show b++[x]++l=b++(x::l);rw[jX];rfl
theorem rM(L:List (List D)):L.foldl hX [[]]=cH L:=by
 rw[C3];show(cH L).map ([]++·)++[]=_;rw[dG];exact kT _
def kZ:List (List D)->List D->Bool
|[],[]=>true
|e::L,x::c=>decide (x∈e)&&kZ L c
|_,_=>false
theorem iR:∀(L:List (List D))(c:List D),c∈cH L↔kZ L c=true
|[],[]=>by simp[cH,kZ]
|[],_::_=>by simp[cH,kZ]
|e::L,[]=>by simp[cH,kZ]
|e::L,x::c=>by
 have ih:=iR L c;show(x::c)∈(e.flatMap λx=>(cH L).map (x::·))↔(decide (x∈e)&&kZ L c)=true;rw[dA,decide_eq_true_eq,<- ih,oB];constructor
 ·rintro⟨y,hy,h⟩;obtain⟨d,hd,e'⟩:=aX.mp h;cases e';exact⟨hy,hd⟩
 ·rintro⟨hx,hc⟩;exact⟨x,hx,aX.mpr ⟨c,hc,rfl⟩⟩
theorem rT:∀{L:List (List D)}{c:List D},kZ L c=true->c.length=L.length/\∀(j:Nat) e x,L[j]?=some e->c[j]?=some x->x∈e
|[],[],_=>⟨rfl,λj e x h=>by simp at h⟩
|[],_::_,h=>by cases h
|_::_,[],h=>by cases h
|e::L,x::c,h=>by
 have h':(decide (x∈e)&&kZ L c)=true:=h;rw[dA,decide_eq_true_eq]at h';obtain⟨h1,h2⟩:=rT h'.2;refine⟨by rw[cE,cE,h1],λj e' x' he hx=>?_⟩
 cases j with
 |zero=>
  simp only[jA,Option.some.injEq]at he hx;subst he hx;exact h'.1
 |succ j=>
  simp only[gZ]at he hx;exact h2 j e' x' he hx
def fJ(L:List (List D)):Bool:=L.any aCt
theorem wK:∀L:List (List D),cH L=[]↔fJ L=true
|[]=>by simp[cH,fJ]
|e::L=>by
 have ih:=wK L;show(e.flatMap λx=>(cH L).map (x::·))=[]↔(e.isEmpty||L.any aCt)=true;rw[jV];constructor
 ·intro h
  cases e with
  |nil=>exact .inl rfl
  |cons x e=>
   rw[eX,List.append_eq_nil_iff]at h;exact .inr (ih.mp (List.map_eq_nil_iff.mp h.1))
 ·rintro(h | h)
  ·cases e with
   |nil=>rfl
   |cons x e=>cases h
  ·rw[ih.mpr h]
   induction e with
   |nil=>rfl
   |cons x e ih2=>rw[eX,ih2];rfl
theorem AL:∀(L:List (List D))(n:Nat),(∀e∈L,e.length<=n)->(cH L).length<=n^L.length
|[],n,_=>aN 1
|e::L,n,h=>by
 have ih:=AL L n λe he=>h e (aO _ he);have he:=h e (aS ..);show(e.flatMap λx=>(cH L).map (x::·)).length<=n^(L.length+1)
 have:(e.flatMap λx=>(cH L).map (x::·)).length=e.length*(cH L).length:=by
  clear he h
  induction e with
  |nil=>simp
  |cons x e ih=>rw[eX,aZ,ih,aE,cE,qW];omega
 rw[this,Nat.pow_succ,Nat.mul_comm (n^L.length)];exact nO he ih
def eJ:List (List D)->Nat->(D->Bool)->List (List D)
|[],_,_=>[]
|e::L,0,g=>e.filter g::L
|e::L,j+1,g=>e::eJ L j g
def TZ:List D->Nat->(D->Bool)->Bool
|[],_,_=>true
|x::_,0,g=>g x
|_::c,j+1,g=>TZ c j g
theorem tI:∀(L:List (List D))(j:Nat)(g:D->Bool),(cH L).filter (λc=>TZ c j g)=cH (eJ L j g)
|[],j,g=>rfl
|e::L,0,g=>by
 show(e.flatMap λx=>(cH L).map (x::·)).filter _=(e.filter g).flatMap λx=>(cH L).map (x::·)
 induction e with
 |nil=>rfl
 |cons x e ih=>
  rw[eX,fQ,ih,eW];by_cases hx:g x=true
  ·rw[if_pos hx,eX];congr 1;rw[kH];intro c hc;obtain⟨d,_,rfl⟩:=aX.mp hc;exact hx
  ·rw[if_neg hx]
   have:((cH L).map (x::·)).filter (λc=>TZ c 0 g)=[]:=by
    rw[fP];intro c hc;obtain⟨d,_,rfl⟩:=aX.mp hc;exact hx
   rw[this];rfl
|e::L,j+1,g=>by
 show(e.flatMap λx=>(cH L).map (x::·)).filter _=e.flatMap λx=>(cH (eJ L j g)).map (x::·);rw[<- tI L j g]
 induction e with
 |nil=>rfl
 |cons x e ih=>
  rw[eX,fQ,ih,eX];congr 1;rw[iH]
  rfl
theorem BC:∀(L:List (List D))(j:Nat)(g:D->Bool),(eJ L j g).length=L.length
|[],_,_=>rfl
|_::_,0,_=>rfl
|e::L,j+1,g=>by show(eJ L j g).length+1=L.length+1;rw[BC L j g]
theorem xV:∀(L:List (List D))(j:Nat)(g:D->Bool)(i:Nat),(eJ L j g)[i]?=if i=j then L[i]?.map (aF8 g)else L[i]?
|[],j,g,i=>by show([]:List (List D))[i]?=_;split<;>simp
|e::L,0,g,0=>rfl
|e::L,0,g,i+1=>rfl
|e::L,j+1,g,0=>rfl
|e::L,j+1,g,i+1=>by
 show(eJ L j g)[i]?=if i+1=j+1 then L[i]?.map (aF8 g)else L[i]?;rw[xV L j g i];by_cases h:i=j
 ·rw[if_pos h,if_pos (by omega)]
 ·rw[if_neg h,if_neg (by omega)]
theorem nX:∀{L:List (List D)}{j:Nat}{g:D->Bool}{e:List D},fJ L=false->L[j]?=some e->fJ (eJ L j g)=(e.filter g).isEmpty
|[],j,g,e,_,h=>by simp at h
|e0::L,0,g,e,hn,h=>by
 simp only[jA,Option.some.injEq]at h;subst h;have hn':(e0.isEmpty||fJ L)=false:=hn;rw[oP]at hn';show((e0.filter g).isEmpty||fJ L)=_;rw[hn'.2,qY]
|e0::L,j+1,g,e,hn,h=>by
 simp only[gZ]at h;have hn':(e0.isEmpty||fJ L)=false:=hn;rw[oP]at hn';show(e0.isEmpty||fJ (eJ L j g))=_;rw[hn'.1,Bool.false_or];exact nX hn'.2 h
theorem MG{g:D->Bool}{x:D}:∀{c:List D}{j:Nat},c[j]?=some x->TZ c j g=g x
|[],j,h=>by simp at h
|y::c,0,h=>by
 simp only[jA,Option.some.injEq]at h;subst h;rfl
|y::c,j+1,h=>by
 simp only[gZ]at h;exact MG (c:=c) (j:=j) h
def jx(fs:List (Str×List Str))(n:Str):Nat:=(fs.map (·.1)).idxOf n
def eF(fs:List (Str×List Str))(k n v s:Str)(x:D):Bool:=match fs[jx fs n]? with | some f=>decide (oX f k v s x="yes") | none=>false
def dQ(fs:List (Str×List Str)):Tr->List (List D)->List (List (List D)×Str)
|.say a,L=>if fJ L then[]else[(L,a)]
|.ask k n v s y m,L=>if fJ L then[]else dQ fs y (eJ L (jx fs n) (eF fs k n v s))++dQ fs m (eJ L (jx fs n) λx=>!eF fs k n v s x)
def cU(fs:List (Str×List Str))(L:List (List D)):Prop:=L.length=fs.length/\∀(j:Nat) f e,fs[j]?=some f->L[j]?=some e->∃p:D->Bool,e=(bN f).filter p
theorem cU.filt{fs:List (Str×List Str)}{L:List (List D)}(h:cU fs L)(j:Nat)(g:D->Bool):cU fs (eJ L j g):=by
 refine⟨by rw[BC];exact h.1,λi f e hf he=>?_⟩;rw[xV]at he;by_cases hij:i=j
 ·rw[if_pos hij]at he;obtain⟨e0,h0,rfl⟩:=bK.mp he;obtain⟨p,rfl⟩:=h.2 i f e0 hf h0;exact⟨λx=>g x&&p x,by rw[List.filter_filter]⟩
 ·rw[if_neg hij]at he;exact h.2 i f e hf he
theorem cU.whole(fs:List (Str×List Str)):cU fs (fs.map bN):=⟨aE _,λj f e hf he=>by
 rw[aH,hf]at he;cases he;exact⟨λ_=>true,(kH.mpr λ_ _=>rfl).symm⟩⟩
theorem rB(fs:List (Str×List Str)):fJ (fs.map bN)=false:=by
 unfold fJ;rw[UD];intro e he;obtain⟨f,_,rfl⟩:=aX.mp he;unfold bN;cases f.2<;>simp
theorem A2{fs:List (Str×List Str)}{t:Tr}{L:List (List D)}(h:fJ L=true):dQ fs t L=[]:=by cases t<;>exact if_pos h
theorem MF:∀{c:List D}{j:Nat}{g:D->Bool},j<c.length->TZ c j (λx=>!g x)=!TZ c j g
|[],j,g,h=>by simp at h
|_::_,0,g,_=>rfl
|_::c,j+1,g,h=>MF (c:=c) (by simpa using h)
def fZ(fs:List (Str×List Str)):Nat:=fs.foldl (λa f=>a*(f.2.length+1)) 1
def lR(bs:List (List D))(es:List D):List (List D):=(bs.map λb=>es.map λe=>b++[e]).flatten
def FC(fs:List (Str×List Str)):List (List D):=fs.foldl (λbs f=>lR bs (bN f)) [[]]
def U5:mX:=λds Q=>∃(fs:List (Str×List Str))(an:List Str),ds=[eM fs an]/\fK fs an/\Q (.int ((fZ fs:Nat):Int))
def XZ:KF:=λds Q=>∃(bs:List (List D))(es:List D),ds=[.list (bs.map aM),.tuple es]/\(∀b∈bs,b.length<=10)/\bs.length*es.length<=50000/\es.length<=10/\Q ((lR bs es).map aM)
def Z4:KF:=λds Q=>∃(fs:List (Str×List Str))(an:List Str),ds=[eM fs an]/\fK fs an/\fZ fs<=2000/\Q ((FC fs).map aM)
theorem A0(bs:List (List D))(es:List D):(lR bs es).length=bs.length*es.length:=by
 unfold lR
 induction bs with
 |nil=>simp
 |cons b bs ih=>
  rw[bM,UC,aZ,aE,ih,cE,qW,vQ];omega
theorem pC(fs:List (Str×List Str))(f:Str×List Str):fZ (fs++[f])=fZ fs*(f.2.length+1):=by unfold fZ;rw[lL];rfl
theorem yB(fs:List (Str×List Str))(f:Str×List Str):FC (fs++[f])=lR (FC fs) (bN f):=by unfold FC;rw[lL];rfl
theorem wC{α:Type}{P:List α->Prop}(h0:P [])(h1:∀l a,P l->P (l++[a])):∀l,P l:=λl=>by
 rw[<- List.reverse_reverse l]
 induction l.reverse with
 |nil=>exact h0
 |cons a r ih=>rw[List.reverse_cons];exact h1 _ _ ih
theorem pG:∀fs:List (Str×List Str),(FC fs).length=fZ fs:=wC rfl λfs f ih=>by
 rw[yB,pC,A0,ih];unfold bN;rw[aZ,aE];rfl
theorem JN{bs:List (List D)}{es:List D}{c:List D}(h:c∈lR bs es):∃b∈bs,∃e∈es,c=b++[e]:=by
 unfold lR at h;obtain⟨l,hl,hc⟩:=List.mem_flatten.mp h;obtain⟨b,hb,rfl⟩:=aX.mp hl;obtain⟨e,he,rfl⟩:=aX.mp hc;exact⟨b,hb,e,he,rfl⟩
theorem OP:∀(fs:List (Str×List Str)),∀c∈FC fs,fS fs (.tuple c)=true:=wC (λc hc=>by
  have:c=[]:=aW.mp hc;rw[this];rfl) λfs f ih c hc=>by
 rw[yB]at hc;obtain⟨b,hb,e,he,rfl⟩:=JN hc;obtain⟨h1,h2⟩:=iT (ih b hb);refine MD (by rw[aZ,aZ,h1];rfl) λk g x hg hx=>?_;by_cases hk:k<fs.length
 ·rw[dP hk]at hg;rw[dP (by omega)]at hx;exact h2 k g x hg hx
 ·rw[dZ (by omega)]at hg;rw[dZ (by omega),h1]at hx
  have hk0:k-fs.length=0:=by
   have:=(aD.mp hg).1;simp at this;omega
  rw[hk0]at hg hx;cases hg;cases hx;unfold bN at he;rcases dO.mp he with he | he
  ·obtain⟨z,hz,rfl⟩:=aX.mp he;exact decide_eq_true hz
  ·rw[aW.mp he];rfl
theorem NU:∀fs:List (Str×List Str),1<=fZ fs:=wC (aN _) λfs f ih=>by
 rw[pC];exact Nat.mul_pos ih (by omega)
theorem JP{fs:List (Str×List Str)}(k:Nat):fZ (fs.take k)<=fZ fs:=by
 have:∀gs hs:List (Str×List Str),fZ gs<=fZ (gs++hs):=λgs hs=>by
  refine wC (P:=λhs=>fZ gs<=fZ (gs++hs)) (by rw[dG];exact aN _) (λl a ih=>?_) hs;rw[<- jX,pC];exact cP ih (Nat.le_mul_of_pos_right _ (by omega))
 have h:=this (fs.take k) (fs.drop k)
 rwa [jN]at h
def aFc:Tr->Bool
|.say _=>true
|.ask _ _ _ _ _ _=>false
def QJ:mX:=λds Q=>∃t:Tr,ds=[oQ t]/\Q (.bool (aFc t))
def jW(L:List (List D)):D:=.tuple (L.map aM)
def cL(r:List (List D)×Str):D:=.tuple [jW r.1,.str r.2]
def iS(cs:List (List D)):D:=.list (cs.map aM)
def qN(fs:List (Str×List Str)):Prop:=(cH (fs.map bN)).length<=300/\(fs.map λf=>f.2.length).sum<=15/\fs.length<=5
def MX:mX:=λds Q=>∃f:Str×List Str,ds=[kE f]/\f.2.length<=5/\Q (.tuple (f.2.map aV++[.none]))
def K1:mX:=λds Q=>∃(fs:List (Str×List Str))(an:List Str),ds=[eM fs an]/\fK fs an/\Q (jW (fs.map bN))
def F1:mX:=K1
def XL:mX:=λds Q=>∃(fs:List (Str×List Str))(an:List Str),ds=[eM fs an]/\fK fs an/\qN fs/\Q (iS (cH (fs.map bN)))
def MI(fs:List (Str×List Str))(L:List (List D)):Prop:=L.length=fs.length/\∀e∈L,∀x∈e,(x=.none\/∃z,uS z=true/\x=.str z)
def XI:mX:=λds Q=>∃(fs:List (Str×List Str))(an:List Str)(r:List (List D)×Str)(c:List D),ds=[cL r,.tuple c]/\fK fs an/\MI fs r.1/\fS fs (.tuple c)=true/\Q (.bool (kZ r.1 c))
def vO:Option (List (List D)×Str)->D
|some r=>.str r.2
|none=>.none
def XH:mX:=λds Q=>∃(fs:List (Str×List Str))(an:List Str)(rs:List (List (List D)×Str))(c:List D),ds=[.list (rs.map cL),.tuple c]/\fK fs an/\(∀r∈rs,MI fs r.1)/\fS fs (.tuple c)=true/\Q (vO (rs.find? (λr=>kZ r.1 c)))
def AD:mX:=λds Q=>∃ns:List Int,ds=[.list (ns.map bS)]/\ns.length<=63/\Q (.bool true)
theorem pQ{x y:D}(h1:Cd x)(h2:Cd y):RJ x y:=⟨h1.lay,h2.lay,by have:=h1.dep;omega⟩
theorem E6{z:Str}(h:uS z=true):Cd (.str z):=(kL h (n:=8) (m:=0) (aN _)).cd (by decide)
def inX(x:D):D:=match x with | .tuple [x,.tuple l]=>.bool (decide (x∈l)) | _=>.none
theorem G6:∀(c:List D)(L:List (List D)),c.length=L.length->(!ER (.bool false) (.list ((qZ c (L.map aM)).map inX)))=kZ L c/\fL ((qZ c (L.map aM)).map inX)=true
|[],[],_=>⟨rfl,rfl⟩
|[],_::_,h=>by simp at h
|_::_,[],h=>by simp at h
|x::c,e::L,h=>by
 obtain⟨i2,i3⟩:=G6 c L (by simpa using h);have ez:qZ (x::c) ((e::L).map aM)=.tuple [x,.tuple e]::qZ c (L.map aM):=rfl;rw[ez,bM];refine⟨?_,i3⟩;show(!(cC (.bool (decide (x∈e))) (.bool false)||ER (.bool false) (.list _)))=(decide (x∈e)&&kZ L c);rw[Bool.not_or,i2];congr 1;cases decide (x∈e)<;>rfl
def BT(x:D):Prop:=x=.none\/∃z,uS z=true/\x=.str z
theorem BT.th{x:D}(h:BT x){n m:Nat}(hn:8<=n):Th n m x:=by
 rcases h with rfl | ⟨z,hz,rfl⟩
 ·exact vW
 ·exact kL hz hn
theorem EY{x y:D}(hx:BT x)(hy:BT y):cC x y=decide (x=y):=by
 rcases hx with rfl | ⟨z,hz,rfl⟩<;>rcases hy with rfl | ⟨w,hw,rfl⟩
 ·exact(decide_eq_true rfl).symm
 ·exact(decide_eq_false (λz=>nomatch z)).symm
 ·exact(decide_eq_false (λz=>nomatch z)).symm
 ·show(z==w)=_;rw[eE];simp
theorem rS{x:D}(hx:BT x):∀{ts:List D},(∀t∈ts,BT t)->(ts.any λz=>cC z x)=decide (x∈ts)
|[],_=>(decide_eq_false (by simp)).symm
|t::ts,h=>by
 rw[aCi,rS hx λt ht=>h t (aO _ ht),EY (h t (aS ..)) hx,eE];simp only[jV,decide_eq_true_eq,aY];exact⟨λz=>z.imp Eq.symm id,λz=>z.imp Eq.symm id⟩
theorem qI{x:D}(hx:BT x){ts:List D}(h:∀t∈ts,BT t):wM x (.list ts)/\wM x (.tuple ts):=by
 obtain⟨_,_,_,_,b5,b6⟩:=sK (n:=8) (m:=0) λt ht=>(h t ht).th (aN 8);have hc:=((hx.th (n:=8) (m:=0) (aN 8)).cd (by decide));exact⟨⟨b6,hc.lay,by have:=hc.dep;omega⟩,⟨b6,hc.lay,by have:=hc.dep;omega⟩⟩
section
variable{fs:List (Str×List Str)}{an:List Str}
theorem pF(F:fK fs an){f:Str×List Str}(hf:f∈fs):∀x∈bN f,BT x:=λx hx=>by
 rcases dO.mp hx with hx | hx
 ·obtain⟨z,hz,rfl⟩:=aX.mp hx;exact .inr ⟨z,F.vals hf z hz,rfl⟩
 ·rw[aW.mp hx];exact .inl rfl
theorem GN{f:Str×List Str}{x:D}(h:x∈bN f):okV f x=true:=by
 rcases dO.mp h with h | h
 ·obtain⟨z,hz,rfl⟩:=aX.mp h;exact decide_eq_true hz
 ·rw[aW.mp h];rfl
theorem cU.sub{L:List (List D)}(h:cU fs L){j:Nat}{f:Str×List Str}{e:List D}(hf:fs[j]?=some f)(he:L[j]?=some e):∀x∈e,x∈bN f:=λx hx=>by
 obtain⟨p,rfl⟩:=h.2 j f e hf he;exact(bO.mp hx).1
theorem lN{L:List (List D)}(h:cU fs L){c:List D}(hc:kZ L c=true):fS fs (.tuple c)=true:=by
 obtain⟨h1,h2⟩:=rT hc;refine MD (h1.trans h.1) λk f x hf hx=>?_;have hk:k<L.length:=by rw[h.1];exact(aD.mp hf).1
 have hL:L[k]?=some L[k]:=aF hk;exact GN (h.sub hf hL x (h2 k _ x hL hx))
theorem EO(F:fK fs an){k n v:Str}(h:N0 fs (.tuple [.str k,.str n,.str v])=true):∃f,fs[jx fs n]?=some f/\f∈fs/\f.1=n/\v∈f.2/\(k="is"\/k="upto"):=by
 obtain⟨f,hf,hfn,hv,hk⟩:=EQ h;obtain⟨j,hj⟩:=bQ hf;have:jx fs n=j:=by rw[<- hfn];exact zU F hj
 exact⟨f,by rw[this];exact hj,hf,hfn,hv,hk.imp id λz=>z.1⟩
theorem F6(F:fK fs an){k n v s:Str}{f:Str×List Str}(hf:fs[jx fs n]?=some f)(hs:s="yes"\/s="no"){x:D}(hx:x∈bN f):ER x (.tuple (nT k v s f))=eF fs k n v s x:=by
 unfold eF;rw[hf];show _=decide (oX f k v s x="yes");rw[<- A5 hs (GN hx)]
 cases ER x (.tuple (nT k v s f))with
 |true=>rfl
 |false=>rw[if_neg (by decide)];exact(decide_eq_false (by decide +kernel)).symm
theorem M3{f:Str×List Str}{k v s:Str}(hs:s="yes"\/s="no"){x:D}(hx:okV f x=true):oX f k v s x="yes"\/oX f k v s x="no":=by
 rw[<- A5 hs hx];split
 ·exact .inl rfl
 ·exact .inr rfl
theorem M2(F:fK fs an){k n v s:Str}(hq:N0 fs (.tuple [.str k,.str n,.str v])=true)(hs:s="yes"\/s="no"){c:List D}(hc:fS fs (.tuple c)=true):lP fs k n v s c=(if TZ c (jx fs n) (eF fs k n v s)then("yes":Str)else "no"):=by
 obtain⟨f,hf,hfm,hfn,hv,hk⟩:=EO F hq;obtain⟨hl,hcv⟩:=iT hc;have hj:jx fs n<c.length:=by rw[hl];exact(aD.mp hf).1
 have hx:c[jx fs n]?=some c[jx fs n]:=aF hj;have hok:=hcv _ f _ hf hx;rw[AF F hf hx hfn,MG hx];unfold eF;rw[hf];show _=if decide (oX f k v s c[jx fs n]="yes")=true then("yes":Str)else "no";rcases M3 (k:=k) (v:=v) hs hok with e | e
 ·rw[e,if_pos (decide_eq_true rfl)]
 ·rw[e,if_neg (by decide +kernel)]
end
theorem V9{fr:List (Option Nat)}{ti:IT}{tt:qA}{te:ET}{σ:List Sl}{Q:D->Prop}{ts:List D}(hti:tR ti σ ts)(hz:ts.length<=100000)(hp:∀(x:D)(q:Bool->Prop),x∈ts->(∀b,q b)->tt ((jT fr σ).set 0 (.val x)) q)
  (ht:∀(x:D)(q:D->Prop),x∈ts->q x->te ((jT fr σ).set 0 (.val x)) q) (hq:∀zs:List D,zs.Sublist ts->Q (.list zs)):OD fr ti (gN 0) tt te σ Q:=by
 refine hti _ ⟨hz,λk σ' ds=>(∀x,σ'.set 0 (.val x)=(jT fr σ).set 0 (.val x))/\ds.Sublist (ts.take k),⟨λ_=>rfl,yU.refl _⟩,λk x σ' ds hx h=>?_,λσ' ds h=>?_⟩
 ·obtain⟨h1,h2⟩:=h;have hm:x∈ts:=aR hx;have e:ts.take (k+1)=ts.take k++[x]:=by rw[cN,hx];rfl
  show tt (σ'.set 0 (.val x)) _;rw[h1 x];refine hp x _ hm λb=>?_
  cases b with
  |true=>
   rw[if_pos rfl];refine ht x _ hm ⟨λz=>set_set _ _ _ _,?_⟩;rw[e];exact h2.append (yU.refl _)
  |false=>
   rw[if_neg (by decide)];refine⟨λz=>set_set _ _ _ _,?_⟩;rw[e];exact h2.trans (FV _ _)
 ·have h2:ds.Sublist (ts.take ts.length):=h.2;rw[cX]at h2;exact hq ds h2
theorem OC{x y:D}(h:BT y):cC x y=decide (x=y):=by
 rcases h with rfl | ⟨z,hz,rfl⟩
 ·cases x<;>first | exact(decide_eq_true rfl).symm | exact(decide_eq_false (λz=>nomatch z)).symm
 ·cases x with
  |str w=>
   show(w==z)=_;rw[eE];simp
  |_=>exact(decide_eq_false (λz=>nomatch z)).symm
theorem wQ:∀{xs ys:List D},(∀y∈ys,BT y)->lB xs ys=decide (xs=ys)
|[],[],_=>(decide_eq_true rfl).symm
|[],_::_,_=>(decide_eq_false (by simp)).symm
|_::_,[],_=>(decide_eq_false (by simp)).symm
|x::xs,y::ys,h=>by
 show(cC x y&&lB xs ys)=_;rw[OC (h y (aS ..)),wQ λz hz=>h z (aO _ hz),eE];simp
theorem SV{xs es:List D}(h:xs.Sublist es):es.Nodup->es.filter (λe=>decide (e∈xs))=xs:=by
 induction h with
 |slnil=>intro _;rfl
 |cons a h ih=>
  intro hn;obtain⟨h1,h2⟩:=jB.mp hn;rw[IB (by simpa usingλz=>h1 (h.subset z))];exact ih h2
 |cons_cons a h ih=>
  rename_i l1 l2;intro hn;obtain⟨h1,h2⟩:=jB.mp hn;rw[IA (by simp)];congr 1;rw[<- ih h2];apply gA;intro e he;rw[ih h2,eE];simp only[decide_eq_true_eq,aY];exact⟨λz=>z.resolve_left λq=>h1 (q▸he),.inr⟩
def HR(fs:List (Str×List Str))(an:List Str)(r:List (List D)×Str):Prop:=cU fs r.1/\fJ r.1=false/\r.2∈an
def XJ:mX:=λds Q=>∃(ns:List Int)(fs:List (Str×List Str))(an:List Str)(f:Str×List Str),ds=[iD ns,.tuple (bN f)]/\ns.length<=63/\fK fs an/\f∈fs/\∀xs:List D,xs≠[]->xs.Sublist (bN f)->Q (.tuple xs)
def KY:mX:=λds Q=>∃(ns:List Int)(fs:List (Str×List Str))(an:List Str),ds=[iD ns,eM fs an]/\ns.length<=63/\fK fs an/\∀r,HR fs an r->Q (cL r)
section
variable{fs:List (Str×List Str)}{an:List Str}
theorem EZ(F:fK fs an){f:Str×List Str}(hf:f∈fs):(bN f).Nodup:=by
 have hd:=(F.vs f hf).2.2.2.2;unfold bN;rw[yT];refine⟨qX.map _ (λa b h z=>h (by injection z)) hd,by simp,λa ha b hb=>?_⟩;obtain⟨z,_,rfl⟩:=aX.mp ha;rw[aW.mp hb]
 exactλq=>nomatch q
theorem kQ(f:Str×List Str):(bN f).length=f.2.length+1:=by unfold bN;rw[aZ,aE];rfl
theorem KS(F:fK fs an){f:Str×List Str}(hf:f∈fs){xs:List D}(h:xs.Sublist (bN f)):(∀x∈xs,BT x)/\xs.length<=6:=by
 refine⟨λx hx=>pF F hf x (h.subset hx),?_⟩;have:=h.length_le;rw[kQ]at this;have:=(F.vs f hf).2.1;omega
theorem P1(F:fK fs an){f:Str×List Str}(hf:f∈fs){xs:List D}(h:xs.Sublist (bN f)):∃p:D->Bool,xs=(bN f).filter p:=⟨_,(SV h (EZ F hf)).symm⟩
theorem aA4(F:fK fs an){f:Str×List Str}(hf:f∈fs){xs:List D}(h:xs.Sublist (bN f)):Th 60 1 (.tuple xs):=by
 obtain⟨h1,h2⟩:=KS F hf h;exact xF 8 0 6 (λt ht=>(h1 t ht).th (aN 8)) h2 (by decide) (by decide)
end
def inB(x:D):Bool:=match x with | .tuple [.tuple l,x]=>decide (x∈l) | _=>false
theorem LY:∀(L:List (List D))(c:List D),c.length=L.length->(((qZ (L.map aM) c).map inB).all id)=kZ L c
|[],[],_=>rfl
|[],_::_,h=>by simp at h
|_::_,[],h=>by simp at h
|e::L,x::c,h=>by
 have ih:=LY L c (by simpa using h);show((decide (x∈e))&&((qZ (L.map aM) c).map inB).all id)=(decide (x∈e)&&kZ L c);rw[ih]
theorem RH{te:ET}{DT:lZ}{σ:List Sl}{i:Nat}(R:D->Prop)(h:∀q:D->Prop,(∀v,R v->q v)->te σ q)(k:∀v,R v->DT.nx (σ.set i (.val v))):D7 i te DT σ:=h _ k
def FG(fs:List (Str×List Str))(k:Nat)(L:List (List D)):Prop:=L.length=k/\∀(j:Nat) f e,fs[j]?=some f->L[j]?=some e->e≠[]/\e.Sublist (bN f)
theorem JT{fs:List (Str×List Str)}{an:List Str}(F:fK fs an){L:List (List D)}(h:FG fs fs.length L):cU fs L/\fJ L=false:=by
 refine⟨⟨h.1,λj f e hf he=>P1 F (aR hf) (h.2 j f e hf he).2⟩,?_⟩
 cases e:fJ L with
 |false=>rfl
 |true=>
  obtain⟨l,hl,hn⟩:=oC.mp e;obtain⟨j,hj⟩:=bQ hl;have hjl:j<fs.length:=by rw[<- h.1];exact(aD.mp hj).1
  exact absurd (UP.mp hn) (h.2 j _ l (aF hjl) hj).1
theorem GU{fs:List (Str×List Str)}{k:Nat}{L:List (List D)}(h:FG fs k L){f:Str×List Str}(hf:fs[k]?=some f){e:List D}(h1:e≠[])(h2:e.Sublist (bN f)):FG fs (k+1) (L++[e]):=by
 refine⟨by rw[aZ,h.1];rfl,λj g x hg hx=>?_⟩;by_cases hj:j<k
 ·rw[dP (by rw[h.1];exact hj)]at hx;exact h.2 j g x hg hx
 ·have hjk:j=k:=by
   have:=(aD.mp hx).1;rw[aZ,h.1]at this;have:j<k+1:=this;omega
  subst hjk;rw[dZ (by rw[h.1];exact aN _),h.1,Nat.sub_self]at hx;cases hx;rw[hf]at hg;cases hg;exact⟨h1,h2⟩
theorem GA{fs:List (Str×List Str)}{an:List Str}:∀{ys:List D},(∀y∈ys,∃r,HR fs an r/\y=cL r)->∃rs:List (List (List D)×Str),(∀r∈rs,HR fs an r)/\ys=rs.map cL
|[],_=>⟨[],(λ_ h=>by cases h),rfl⟩
|y::ys,h=>by
 obtain⟨c,hc,rfl⟩:=h y (aS ..);obtain⟨cs,hcs,rfl⟩:=GA λz hz=>h z (aO _ hz);refine⟨c::cs,λz hz=>?_,rfl⟩;rcases aY.mp hz with rfl | hz
 ·exact hc
 ·exact hcs z hz
section
variable{fs:List (Str×List Str)}{an:List Str}
theorem ZL(F:fK fs an){t:Tr}(h:wS fs an t)(hd:t.dep<=40):Cd (oQ t):=(DZ F t h).cd (by omega)
end
theorem mL:∀fs:List (Str×List Str),FC fs=cH (fs.map bN):=λfs=>by
 rw[<- rM]
 have:∀(gs:List (Str×List Str))(bs:List (List D)),gs.foldl (λbs f=>lR bs (bN f)) bs=(gs.map bN).foldl hX bs:=λgs=>by
  induction gs with
  |nil=>exactλ_=>rfl
  |cons g gs ih=>exactλbs=>by rw[mP,bM,mP,ih];congr 1
 exact this fs [[]]
theorem rL{fs:List (Str×List Str)}(S:qN fs):(cH (fs.map bN)).length<=300/\fZ fs<=300:=by
 have e:fZ fs=(cH (fs.map bN)).length:=by rw[<- mL,pG]
 rw[e];exact⟨S.1,S.1⟩
def B7(e:List D)(x:D):Nat:=e.idxOf x
def Bef(L:List (List D))(c d:List D):Prop:=∃j:Nat,(∀i,i<j->c[i]?=d[i]?)/\∃e x y,L[j]?=some e/\c[j]?=some x/\d[j]?=some y/\B7 e x<B7 e y
theorem uR{α β:Type}{R:β->β->Prop}{S:α->α->Prop}{f:α->List β}:∀{l:List α},l.Pairwise S->(∀a∈l,(f a).Pairwise R)->(∀a b,a∈l->b∈l->S a b->∀x∈f a,∀y∈f b,R x y)->(l.flatMap f).Pairwise R
|[],_,_,_=>qX.nil
|a::l,hs,h1,h2=>by
 rw[O6]at hs;rw[eX,MM];refine⟨h1 a (aS ..),uR hs.2 (λb hb=>h1 b (aO _ hb)) λb c hb hc=>h2 b c (aO _ hb) (aO _ hc),λx hx y hy=>?_⟩;obtain⟨b,hb,hy⟩:=oB.mp hy;exact h2 a b (aS ..) (aO _ hb) (hs.1 b hb) x hx y hy
theorem EF:∀{e:List D},e.Nodup->e.Pairwise λx y=>B7 e x<B7 e y:=λ{e} h=>by
 rw[List.pairwise_iff_getElem];intro i j hi hj hij;unfold B7;rw[h.idxOf_getElem i hi,h.idxOf_getElem j hj];exact hij
theorem vH:∀{L:List (List D)},(∀e∈L,e.Nodup)->(cH L).Pairwise (Bef L)
|[],_=>HZ _ _
|e::L,h=>by
 have ih:=vH λe he=>h e (aO _ he);show(e.flatMap λx=>(cH L).map (x::·)).Pairwise (Bef (e::L));refine uR (EF (h e (aS ..))) (λx _=>?_) λx y _ _ hxy c hc d hd=>?_
 ·rw[yS];refine ih.imp λ{c d} ⟨j,h1,e',x',y',h2,h3,h4,h5⟩=>⟨j+1,λi hi=>?_,e',x',y',by simpa using h2,by simpa using h3,by simpa using h4,h5⟩
  cases i with
  |zero=>rfl
  |succ i=>simpa using h1 i (by omega)
 ·obtain⟨c',_,rfl⟩:=aX.mp hc;obtain⟨d',_,rfl⟩:=aX.mp hd;exact⟨0,λi hi=>by omega,e,x,y,rfl,rfl,rfl,hxy⟩
theorem BI{fs:List (Str×List Str)}{an:List Str}(F:fK fs an){f:Str×List Str}(hf:f∈fs):(bN f).Nodup:=by
 unfold bN;rw[yT];refine⟨?_,by simp,λa ha b hb=>?_⟩
 ·have hnd:=(F.vs f hf).2.2.2.2;rw[DU]at hnd |-
  rw[yS];exact hnd.imp λh z=>h (by injection z)
 ·obtain⟨z,_,rfl⟩:=aX.mp ha;rw[aW.mp hb]
  exactλz=>nomatch z
def F2:mX:=λds Q=>∃(fs:List (Str×List Str))(an:List Str)(r:List (List D)×Str)(c:List D),ds=[eM fs an,cL r,.tuple c]/\fK fs an/\cU fs r.1/\fS fs (.tuple c)=true/\Q (.bool (kZ r.1 c))
def K2:mX:=λds Q=>∃(fs:List (Str×List Str))(an:List Str)(rs:List (List (List D)×Str))(c:List D),ds=[eM fs an,.list (rs.map cL),.tuple c]/\fK fs an/\(∀r∈rs,cU fs r.1)/\fS fs (.tuple c)=true/\Q (vO (rs.find? (λr=>kZ r.1 c)))
def nG(rs:List (List (List D)×Str))(c:List D):Str:=match rs.find? (λr=>kZ r.1 c)with | some r=>r.2 | none=>""
def rW(fs:List (Str×List Str))(rs:List (List (List D)×Str)):Prop:=∀c∈cH (fs.map bN),rs.find? (λr=>kZ r.1 c)≠none
theorem W5{fs:List (Str×List Str)}{rs:List (List (List D)×Str)}(h:rW fs rs){c:List D}(hc:c∈cH (fs.map bN)):vO (rs.find? (λr=>kZ r.1 c))=.str (nG rs c):=by
 unfold nG
 cases hx:rs.find? (λr=>kZ r.1 c)with
 |none=>exact absurd hx (h c hc)
 |some r=>rfl
theorem DM{fs:List (Str×List Str)}{an:List Str}{rs:List (List (List D)×Str)}(h:rW fs rs)(ha:∀r∈rs,r.2∈an){c:List D}(hc:c∈cH (fs.map bN)):nG rs c∈an:=by
 unfold nG
 cases hx:rs.find? (λr=>kZ r.1 c)with
 |none=>exact absurd hx (h c hc)
 |some r=>exact ha r (FP hx)
def QI(w:World):mX:=λds Q=>∃(fs:List (Str×List Str))(an:List Str)(rs:List (List (List D)×Str))(m:Nat),ds=[eM fs an,.list (rs.map cL),.int (m:Nat)]/\fK fs an/\qN fs/\(cH (fs.map bN)).length<=m/\(∀r∈rs,cU fs r.1)/\rW fs rs/\Q (pN w ((cH (fs.map bN)).map λc=>(.tuple c,.str (nG rs c))))
theorem LI{fs:List (Str×List Str)}{an:List Str}(F:fK fs an):(cH (fs.map bN)).Nodup:=by
 have h:=vH (L:=fs.map bN) λe he=>by
  obtain⟨f,hf,rfl⟩:=aX.mp he;exact BI F hf
 rw[DU];refine h.imp λ{c d} ⟨j,_,e,x,y,_,h3,h4,h5⟩ z=>?_;subst z;rw[h3]at h4;have:=Option.some.inj h4;subst this;omega
theorem GG{l:List (List D)}{g:List D->D}(hn:l.Nodup){k:Nat}{c:List D}(h:l[k]?=some c):B6 ((l.take k).map λc=>(aM c,g c)) (.tuple c) (g c)=(l.take (k+1)).map λc=>(aM c,g c):=by
 unfold B6
 have hnot:aM c∉((l.take k).map λc=>(aM c,g c)).map (·.1):=λz=>by
  obtain⟨kv,hkv,e⟩:=aX.mp z;obtain⟨c',hc',rfl⟩:=aX.mp hkv;have:c'=c:=by injection e
  subst this;obtain⟨i,hi⟩:=bQ hc';have hil:=(aD.mp hi).1;rw[bI]at hil;rw[jJ,if_pos (by omega)]at hi;have:=(UB (i:=i) (j:=k) (aD.mp hi).1 hn).mp (hi.trans h.symm);omega
 rw[if_neg hnot,cN,h,bY];rfl
theorem qL{fs:List (Str×List Str)}{an:List Str}(F:fK fs an){c:List D}(h:fS fs (.tuple c)=true):FH (.tuple c):=by
 have he:∀x∈c,hk x=true:=λx hx=>by
  obtain⟨hl,hv⟩:=iT h;obtain⟨k,hkx⟩:=bQ hx;have hk':k<fs.length:=by rw[<- hl];exact(aD.mp hkx).1
  have:=hv k fs[k] x (aF hk') hkx
  cases x with
  |none=>rfl
  |str z=>exact(kL (F.vals (eV hk') z (of_decide_eq_true this)) (n:=8) (m:=0) (aN _)).lay
  |_=>cases this
 have hall:∀{l:List D},(∀x∈l,hk x=true)->hkAll l=true:=λ{l}=>by
  induction l with
  |nil=>exactλ_=>rfl
  |cons a l ih=>
   intro hh;show(hk a&&hkAll l)=true;rw[hh a (aS ..),ih λx hx=>hh x (aO _ hx)];rfl
 have ht:=xF (N:=50) (M:=1) 8 0 5 (vN F h (aN 8)) (by rw[(iT h).1];exact F.n5) (by decide) (by decide);exact⟨⟨hall he,cP ht.depth (by decide)⟩,c,rfl⟩
theorem F8{w:World}{u:nI}{DT:lZ}{σ:List Sl}{i:Nat}(hi:i<σ.length)(hn:∀(j:Nat)(hs:List Int)(kvs:List (D×D)),σ[j]?≠some (.dic hs kvs))(k:u DT (σ.set i (HF w []))):iM (QP i) u DT σ:=⟨hi,hn,k⟩
theorem F7{w:World}{tk tv:ET}{u:nI}{DT:lZ}{σ:List Sl}{i:Nat}{kvs:List (D×D)}(k v:D)(h:σ[i]?=some (HF w kvs))(hv:∀q:D->Prop,q v->tv σ q)(hk:∀q:D->Prop,q k->tk σ q)(h1:FH k)(h2:∀kv∈kvs,nZ kv.1)(h3:kvs.length<=100000)(kk:u DT (σ.set i (HF w (B6 kvs k v)))):iM (QO w i tk tv) u DT σ:=⟨kvs,h,hv _ (hk _ ⟨h1,h2,h3,kk⟩)⟩
theorem HD{fs:List (Str×List Str)}{an:List Str}(F:fK fs an){c:List D}(h:fS fs (.tuple c)=true){j:Nat}{x:D}(hx:c[j]?=some x):BT x:=by
 obtain⟨hl,hv⟩:=iT h;have hj:j<fs.length:=by rw[<- hl];exact(aD.mp hx).1
 have:=hv j fs[j] x (aF hj) hx
 cases x with
 |none=>exact .inl rfl
 |str z=>exact .inr ⟨z,F.vals (eV hj) z (of_decide_eq_true this),rfl⟩
 |_=>cases this
theorem zN{c:qA}{ta u:nI}{DT:lZ}{σ:List Sl}(R:Bool->Prop)(P:List Sl->Prop)(h:∀q:Bool->Prop,(∀b,R b->q b)->c σ q)(ha:R true->∀DT':lZ,(∀σ',P σ'->DT'.nx σ')->ta DT' σ)(hb:R false->P σ)(hu:∀σ',P σ'->u DT σ'):iM (sIf c ta kC) u DT σ:=h _ λb hr=>by
 cases b with
 |true=>exact ha hr { DT with nx:=u DT } hu
 |false=>exact hu _ (hb hr)
def DW(fs:List (Str×List Str))(L:List (List D))(j:Nat)(x:D):List (List D):=L.set j (match fs[j]?,L[j]? with | some f,some e=>(bN f).filter λy=>decide (y∈e)||decide (y=x) | _,_=>[])
section
variable{fs:List (Str×List Str)}{L:List (List D)}{j:Nat}{x:D}
theorem KO{f:Str×List Str}{e:List D}(hf:fs[j]?=some f)(he:L[j]?=some e):DW fs L j x=L.set j ((bN f).filter λy=>decide (y∈e)||decide (y=x)):=by
 unfold DW;rw[hf,he]
theorem KN(hL:cU fs L)(hj:j<fs.length):cU fs (DW fs L j x):=by
 have hf:fs[j]?=some fs[j]:=aF hj;have hl:j<L.length:=by rw[hL.1];exact hj
 have he:L[j]?=some L[j]:=aF hl;rw[KO hf he];refine⟨by rw[XC];exact hL.1,λi g e hg hi=>?_⟩;by_cases hij:j=i
 ·subst hij;rw[bA hl]at hi;rw[hf]at hg;cases hg;cases hi;exact⟨_,rfl⟩
 ·rw[aU hij]at hi;exact hL.2 i g e hg hi
end
def rJ(fs:List (Str×List Str))(L:List (List D)):List (Nat×D):=(fN fs.length).flatMap λj=>match fs[j]?,L[j]? with | some f,some e=>((bN f).filter λx=>!decide (x∈e)).map λx=>(j,x) | _,_=>[]
theorem AY{fs:List (Str×List Str)}{L:List (List D)}(hL:cU fs L){j:Nat}{x:D}:(j,x)∈rJ fs L↔∃f e,fs[j]?=some f/\L[j]?=some e/\x∈bN f/\x∉e:=by
 unfold rJ;rw[oB];constructor
 ·rintro⟨i,hi,h⟩;have hil:=lQ.mp hi;have hf:fs[i]?=some fs[i]:=aF hil;have hll:i<L.length:=by rw[hL.1];exact hil
  have he:L[i]?=some L[i]:=aF hll;rw[hf,he]at h;obtain⟨y,hy,e⟩:=aX.mp h;injection e with e1 e2
  subst e1 e2;obtain⟨y1,y2⟩:=bO.mp hy;exact⟨_,_,hf,he,y1,of_decide_eq_false (by simpa using y2)⟩
 ·rintro⟨f,e,hf,he,h1,h2⟩;refine⟨j,lQ.mpr (aD.mp hf).1,?_⟩;rw[hf,he];exact aX.mpr ⟨x,bO.mpr ⟨h1,by rw[decide_eq_false h2];rfl⟩,rfl⟩
abbrev Rl:=List (List D)×Str
def UG(rs:List Rl)(c:List D):Option Rl:=rs.find? λr=>kZ r.1 c
section
variable{ans:List D->Str}
theorem L4{A B:List Rl}{c:List D}:UG (A++B) c=(UG A c).or (UG B c):=by unfold UG;rw[qT]
def T9(all:List (List D))(ans:List D->Str)(ws:List Rl):Prop:=∀c∈all,∃q,UG ws c=some q/\q.2=ans c
def aH3(all:List (List D))(ans:List D->Str)(ws:List Rl)(k:Nat):Prop:=∃w,ws[k]?=some w/\∃c∈all,kZ w.1 c=true/\vO (UG (ws.take k++ws.drop (k+1)) c)≠.str (ans c)
theorem MA{all:List (List D)}{ws:List Rl}{k:Nat}(ha:T9 all ans ws)(hk:k<ws.length)(hn:¬aH3 all ans ws k):T9 all ans (ws.take k++ws.drop (k+1)):=λc hc=>by
 have hw:ws[k]?=some ws[k]:=aF hk;have hsplit:ws=ws.take k++ws[k]::ws.drop (k+1):=by rw[<- mC hk,jN]
 have done:∀o:Option Rl,vO o=.str (ans c)->∃q,o=some q/\q.2=ans c:=λo ho=>by
  cases o with
  |none=>cases ho
  |some q=>exact⟨q,rfl,by injection ho⟩
 cases hx:kZ ws[k].1 c with
 |true=>
  refine done _ (Classical.byContradiction λz=>hn ⟨_,hw,c,hc,hx,z⟩)
 |false=>
  obtain⟨q,h1,h2⟩:=ha c hc;rw[hsplit,L4]at h1;have e:UG (ws[k]::ws.drop (k+1)) c=UG (ws.drop (k+1)) c:=List.find?_cons_of_neg (by rw[hx];decide);rw[e,<- L4]at h1;exact⟨q,h1,h2⟩
end
theorem WP{cs:List (List D)}{p:List D->Bool}{i:Nat}{c:List D}(hi:cs[i]?=some c)(hno:∀d∈cs.take i,p d=false)(hc:p c=true):cs.find? p=some c:=by
 have hl:=(aD.mp hi).1
 have e:cs=cs.take i++c::cs.drop (i+1):=by
  have:cs[i]=c:=(aD.mp hi).2;rw[<- this,<- mC hl,jN]
 rw[e,qT,jK.mpr λd hd=>by rw[hno d hd];decide];exact sG hc
def aDx:Option (List D)->D
|some c=>.tuple c
|none=>.none
def QA:mX:=λds Q=>∃(fs:List (Str×List Str))(an:List Str)(r:List (List D)×Str)(cs:List (List D)),ds=[eM fs an,cL r,iS cs]/\fK fs an/\cU fs r.1/\(∀c∈cs,fS fs (.tuple c)=true)/\Q (aDx (cs.find? (kZ r.1)))
def QE:mX:=λds Q=>∃(fs:List (Str×List Str))(an:List Str)(r:List (List D)×Str)(cs:List (List D)),ds=[eM fs an,cL r,iS cs]/\fK fs an/\cU fs r.1/\(∀c∈cs,fS fs (.tuple c)=true)/\cs.length<=300/\Q (iS (cs.filter λc=>!kZ r.1 c))
def P8:KF:=λds Q=>∃(rs:List D)(k:Nat),ds=[.list rs,.int (k:Int)]/\rs.length<=1000/\Q (rs.take k++rs.drop (k+1))
def QF(w:World):mX:=λds Q=>∃(fs:List (Str×List Str))(an:List Str)(r:List (List D)×Str)(cs:List (List D))(ans:List D->Str)(kvs:List (D×D)),ds=[cL r,iS cs,pN w kvs]/\fK fs an/\(∀c∈cs,uS (ans c)=true/\uS r.2=true)/\(∀c∈cs,fS fs (.tuple c)=true)/\cs.length<=300/\(∀c∈cs,FH (.tuple c)/\(∀kv∈kvs,nZ kv.1)/\(.tuple c,.str (ans c))∈kvs)/\Q (iS (cs.filter λc=>!decide (ans c=r.2)))
theorem _root_.L2.Room.u9{k:Nat}{A:Around}(r:Room k A):A.units+9<cLine:=by have:=r.un;omega
def K0:mX:=λds Q=>∃(L:List (List D))(j:Nat)(e:List D),ds=[jW L,.int (j:Int),.tuple e]/\j<L.length/\L.length<=5/\Q (jW (L.set j e))
def QB:mX:=λds Q=>∃(fs:List (Str×List Str))(an:List Str)(r:Rl)(j:Nat)(f:Str×List Str)(x:D),ds=[eM fs an,cL r,.int (j:Int),x]/\fK fs an/\cU fs r.1/\fs[j]?=some f/\x∈bN f/\Q (cL (DW fs r.1 j x,r.2))
def pD(p:Nat×D):D:=.tuple [.int (p.1:Int),p.2]
def QC:mX:=λds Q=>∃(fs:List (Str×List Str))(an:List Str)(r:Rl),ds=[eM fs an,cL r]/\fK fs an/\cU fs r.1/\Q (.list ((rJ fs r.1).map pD))
def XT:mX:=λds Q=>∃(fs:List (Str×List Str))(an:List Str)(r:Rl)(ag:List (List D)),ds=[eM fs an,cL r,iS ag]/\fK fs an/\cU fs r.1/\(∀c∈ag,fS fs (.tuple c)=true)/\∀L,cU fs L->Q (cL (L,r.2))
def GQ(fs:List (Str×List Str))(L:List (List D))(i:Nat):List (Nat×D):=(fN i).flatMap λj=>match fs[j]?,L[j]? with | some f,some e=>((bN f).filter λx=>!decide (x∈e)).map λx=>(j,x) | _,_=>[]
theorem NP{fs:List (Str×List Str)}{L:List (List D)}{i:Nat}{f:Str×List Str}{e:List D}(hf:fs[i]?=some f)(he:L[i]?=some e):GQ fs L (i+1)=GQ fs L i++((bN f).filter λx=>!decide (x∈e)).map λx=>(i,x):=by
 unfold GQ;rw[B0,pK,IK,hf,he]
def kP(all:List (List D))(ans:List D->Str):List (D×D):=all.map λc=>(aM c,aV (ans c))
theorem EN(all:List (List D))(ans:List D->Str):(kP all ans).map (·.1)=all.map aM:=by unfold kP;rw[bT];rfl
def P9(w:World):mX:=λds Q=>∃(fs:List (Str×List Str))(an:List Str)(rs:List Rl)(k:Nat)(r:Rl)(all:List (List D))(ans:List D->Str),ds=[eM fs an,.list (rs.map cL),.int (k:Int),pN w (kP all ans)]/\fK fs an/\(∀r∈rs,cU fs r.1/\r.2∈an)/\rs[k]?=some r/\rs.length<=20/\(∀c∈all,fS fs (.tuple c)=true/\ans c∈an)/\∀d,Q d
def XS(w:World):KF:=λds Q=>∃(fs:List (Str×List Str))(an:List Str)(rs:List Rl)(all:List (List D))(ans:List D->Str),ds=[eM fs an,.list (rs.map cL),pN w (kP all ans)]/\fK fs an/\(∀r∈rs,cU fs r.1/\r.2∈an)/\rs.length<=20/\(∀c∈all,fS fs (.tuple c)=true/\ans c∈an)/\all.length<=300/\∀us:List Rl,(∀r∈us,cU fs r.1/\r.2∈an)->us.length<=20->Q (us.map cL)
def XU(w:World):mX:=λds Q=>∃(fs:List (Str×List Str))(an:List Str)(rs:List Rl)(all:List (List D))(ans:List D->Str),ds=[eM fs an,.list (rs.map cL),pN w (kP all ans)]/\fK fs an/\(∀r∈rs,cU fs r.1/\r.2∈an)/\rs.length<=20/\(∀c∈all,fS fs (.tuple c)=true/\ans c∈an)/\all.length<=300/\∀us:List Rl,(∀r∈us,cU fs r.1/\r.2∈an)->us.length<=20->Q (.list (us.map cL))
theorem R8{fs:List (Str×List Str)}{an:List Str}(F:fK fs an){all:List (List D)}{ans:List D->Str}(hc:∀c∈all,fS fs (.tuple c)=true/\ans c∈an){c:List D}(h:c∈all):FH (.tuple c)/\(∀kv∈kP all ans,nZ kv.1)/\(aM c,aV (ans c))∈kP all ans:=
 ⟨qL F (hc c h).1,λkv hkv=>by
  obtain⟨c,hcm,rfl⟩:=aX.mp hkv;exact(qL F (hc c hcm).1).1,aX.mpr ⟨c,h,rfl⟩⟩
def RZ(fs:List (Str×List Str))(L:List (List D))(ag:List (List D))(p:Nat×D):D:=.tuple [.int (p.1:Int),p.2,aDx (ag.find? (kZ (DW fs L p.1 p.2)))]
def XO:KF:=λds Q=>∃(fs:List (Str×List Str))(an:List Str)(r:Rl)(ag:List (List D)),ds=[eM fs an,cL r,iS ag]/\fK fs an/\cU fs r.1/\(∀c∈ag,fS fs (.tuple c)=true)/\Q ((rJ fs r.1).map (RZ fs r.1 ag))
theorem JL{fs:List (Str×List Str)}{an:List Str}(F:fK fs an)(L:List (List D)):(rJ fs L).length<=1000:=by
 have h:∀n,n<=fs.length->(GQ fs L n).length<=10*n:=λn=>by
  induction n with
  |zero=>exactλ_=>aN _
  |succ n ih=>
   intro hn;have:=ih (by omega);unfold GQ at this |-
   rw[B0,pK,aZ,IK];have hf:fs[n]?=some fs[n]:=aF (by omega);rw[hf];have v5:=(F.vs _ (eV (show n<fs.length by omega))).2.1;have el:=kQ fs[n]
   cases L[n]? with
   |none=>show _+0<=_;omega
   |some e=>
    show _+(((bN fs[n]).filter λx=>!decide (x∈e)).map λx=>(n,x)).length<=_;have:=eB (λx=>!decide (x∈e)) (bN fs[n]);rw[aE];omega
 have:=h fs.length (aN _);have n5:=F.n5;show(GQ fs L fs.length).length<=1000;omega
def XQ(w:World):mX:=λds Q=>∃(fs:List (Str×List Str))(an:List Str)(rs:List Rl)(all:List (List D))(ans:List D->Str),ds=[eM fs an,.list (rs.map cL),pN w (kP all ans)]/\fK fs an/\(∀r∈rs,cU fs r.1/\r.2∈an)/\rs.length<=20/\(∀c∈all,fS fs (.tuple c)=true/\ans c∈an)/\all.length<=300/\∀ts:List D,Q (.list ts)
def XV:mX:=λds Q=>∃(fs:List (Str×List Str))(an:List Str)(rs:List Rl),ds=[eM fs an,.list (rs.map cL)]/\fK fs an/\qN fs/\(∀r∈rs,cU fs r.1/\r.2∈an)/\rs.length<=20/\rW fs rs/\∀us ts:List D,Q (.tuple [.list us,.list ts])
theorem cU.e{fs:List (Str×List Str)}{an:List Str}(F:fK fs an){L:List (List D)}(h:cU fs L):MI fs L:=⟨h.1,λe he x hx=>by
 obtain⟨j,hj⟩:=bQ he;have hl:j<fs.length:=by rw[<- h.1];exact(aD.mp hj).1
 have hf:fs[j]?=some fs[j]:=aF hl;exact pF F (eV hl) x (h.sub hf hj x hx)⟩
theorem TB{i:Int}:Cd (.int i):=⟨rfl,dS _⟩
theorem NL{f:Str×List Str}{x:D}(hx:x∈bN f):B7 (bN f) x<=B7 (bN f) .none:=by
 have hn:dY∉f.2.map aV:=λz=>by obtain⟨_,_,e⟩:=aX.mp z;cases e
 have e:B7 (bN f) .none=f.2.length:=by
  unfold B7 bN;rw[List.idxOf_append,if_neg hn,aE];simp
 rw[e];have:=mO.mpr hx;unfold B7;unfold bN at this |-
 rw[aZ,aE,oA]at this;omega
theorem SN{fs:List (Str×List Str)}{an:List Str}(F:fK fs an){c:List D}{l:List (List D)}(hs:(c::l).Sublist (cH (fs.map bN))){j:Nat}(h1:∀i,i<j->∀d∈l,d[i]?=c[i]?){d:List D}(hd:d∈l)(h2:d[j]?≠c[j]?):∃f v,fs[j]?=some f/\v∈f.2/\c[j]?=some (.str v):=by
 have hp:=(vH (L:=fs.map bN) λe he=>by
  obtain⟨f,hf,rfl⟩:=aX.mp he;exact BI F hf).sublist hs
 rw[O6]at hp;obtain⟨k,k1,e,x,y,k2,k3,k4,k5⟩:=hp.1 d hd
 have hk:k=j:=by
  rcases Nat.lt_trichotomy k j with hlt | he | hgt
  ·have:=h1 k hlt d hd;rw[k3,k4]at this;have:=Option.some.inj this;subst this;omega
  ·exact he
  ·exact absurd (k1 j hgt).symm h2
 subst hk;rw[aH]at k2;obtain⟨f,hf,rfl⟩:=bK.mp k2;have hcm:c∈cH (fs.map bN):=hs.subset (aS ..);have hdm:d∈cH (fs.map bN):=hs.subset (aO _ hd);have hxm:=(rT ((iR _ c).mp hcm)).2 k _ x (by rw[aH,hf];rfl) k3;have hym:=(rT ((iR _ d).mp hdm)).2 k _ y (by rw[aH,hf];rfl) k4;have hyl:=NL hym;rcases dO.mp hxm with hx | hx
 ·obtain⟨v,hv,rfl⟩:=aX.mp hx;exact⟨f,v,hf,hv,k3⟩
 ·rw[aW.mp hx]at k5;omega
def aB0(l:List (List D))(e:List D)(j:Nat):Nat:=(e.filter λx=>decide (∃c∈l,c[j]?=some x)).length
def mu(l:List (List D)):List (List D)->Nat->Nat
|[],_=>0
|e::L,j=>aB0 l e j+mu l L (j+1)
theorem mD{α:Type}{p q:α->Bool}:∀{l:List α},(∀x∈l,p x=true->q x=true)->(l.filter p).length<=(l.filter q).length
|[],_=>aN _
|x::l,h=>by
 have ih:=mD (l:=l) λy hy=>h y (aO _ hy);rw[eW,eW]
 cases hp:p x with
 |true=>rw[if_pos rfl,if_pos (h x (aS ..) hp)];simpa using ih
 |false=>
  rw[if_neg (by decide)];split
  ·simp;omega
  ·exact ih
theorem uU{α:Type}{p q:α->Bool}:∀{l:List α},(∀x∈l,p x=true->q x=true)->(∃x∈l,q x=true/\p x=false)->(l.filter p).length<(l.filter q).length
|[],_,⟨x,hx,_⟩=>by cases hx
|x::l,h,⟨y,hy,hq,hp⟩=>by
 have h':=λy hy=>h y (aO x hy);have m:=mD (l:=l) h';rw[eW,eW];rcases aY.mp hy with rfl | hy
 ·rw[if_pos hq,if_neg (by rw[hp];decide)];simp;omega
 ·have ih:=uU (l:=l) h' ⟨y,hy,hq,hp⟩
  cases hpx:p x with
  |true=>rw[if_pos rfl,if_pos (h x (aS ..) hpx)];simpa using ih
  |false=>
   rw[if_neg (by decide)];split
   ·simp;omega
   ·exact ih
theorem LP{l l':List (List D)}(h:∀c∈l,c∈l'):∀(L:List (List D))(j:Nat),mu l L j<=mu l' L j
|[],_=>aN _
|e::L,j=>Nat.add_le_add (mD λx _ hx=>decide_eq_true (let ⟨c,hc,hx⟩:=of_decide_eq_true hx;⟨c,h c hc,hx⟩)) (LP h L (j+1))
theorem RW{l l':List (List D)}(h:∀c∈l,c∈l'){e:List D}{x:D}:∀{L:List (List D)}{i j:Nat},L[i]?=some e->x∈e->(∃c∈l',c[j+i]?=some x)->(∀c∈l,c[j+i]?≠some x)->mu l L j<mu l' L j
|[],i,j,he,_,_,_=>by simp at he
|e0::L,0,j,he,hx,h1,h2=>by
 simp only[jA,Option.some.injEq]at he;subst he;refine Nat.add_lt_add_of_lt_of_le (uU (λy _ hy=>decide_eq_true (let ⟨c,hc,hy⟩:=of_decide_eq_true hy;⟨c,h c hc,hy⟩)) ⟨x,hx,decide_eq_true h1,decide_eq_false λ⟨c,hc,z⟩=>h2 c hc z⟩) (LP h L (j+1))
|e0::L,i+1,j,he,hx,h1,h2=>by
 simp only[gZ]at he;have ej:j+(i+1)=j+1+i:=by omega
 rw[ej]at h1;refine Nat.add_lt_add_of_le_of_lt (mD λy _ hy=>decide_eq_true (let ⟨c,hc,hy⟩:=of_decide_eq_true hy;⟨c,h c hc,hy⟩)) (RW h he hx h1 λc hc=>by rw[<- ej];exact h2 c hc)
def sW{α:Type}(l:List α)(p:α->Bool):List Nat:=(fN l.length).filter λj=>match l[j]? with | some a=>p a | none=>false
theorem JB{α:Type}(a:α)(l:List α)(p:α->Bool):sW (a::l) p=(if p a then[0]else[])++(sW l p).map (·+1):=by
 unfold sW;rw[cE,List.range_succ_eq_map,eW]
 have e:((fN l.length).map Nat.succ).filter (λj=>match(a::l)[j]? with | some a=>p a | none=>false)=((fN l.length).filter λj=>match l[j]? with | some a=>p a | none=>false).map (·+1):=by
  rw[iH];rfl
 rw[e];show(if p a=true then _ else _)=_;split<;>rfl
theorem CS{α:Type}(p:α->Bool):∀l:List α,(sW l p).map (λj=>l[j]?)=(l.filter p).map some
|[]=>rfl
|a::l=>by
 rw[JB,bY,bT,eW];have e:((λj=>(a::l)[j]?)∘λx=>x+1)=λj=>l[j]?:=by funext j;rfl
 rw[e,CS p l]
 cases hp:p a with
 |true=>rw[if_pos rfl,if_pos rfl];rfl
 |false=>rw[if_neg (by decide),if_neg (by decide)];rfl
theorem CM(fs:List (Str×List Str))(k n v st:Str)(rs:List (List D×Str))(w:Str):sT fs k n v st rs w=(sW rs λr=>decide (lP fs k n v st r.1=w)).map λ(j:Nat)=>.int (j:Int):=by
 unfold sT sW fV;rw[iH];congr 1;apply gA;intro j hj;have hjl:j<rs.length:=by simpa using hj
 show JH fs k n v st rs w (.int (j:Int))=_;rw[aF hjl,CU (aF hjl)]
def nE(l:List (List D))(ans:List D->Str):List D:=l.map λc=>sU (c,ans c)
def aC0:mX:=λds Q=>∃(w:Str)(ss:List Str),ds=[.str w,.list (ss.map aV)]/\ss.length<=500/\Q (.list ((fV ss.length).filter (WI ss w)))
def Z6:mX:=λds Q=>∃(fs:List (Str×List Str))(an:List Str)(k n v st:Str)(rs:List (List D×Str)),ds=[eM fs an,.tuple [.str k,.str n,.str v],.str st,.list (rs.map sU)]/\fK fs an/\N0 fs (.tuple [.str k,.str n,.str v])=true/\(st="yes"\/st="no")/\(∀r∈rs,fS fs (.tuple r.1)=true)/\rs.length<=500 /\
 Q (.tuple [.list (sT fs k n v st rs "yes"),.list (sT fs k n v st rs "no")])
def Z5:mX:=λds Q=>∃(rs:List (List D×Str))(p:List D×Str->Bool),ds=[.list (rs.map sU),.list ((sW rs p).map λ(j:Nat)=>.int (j:Int))]/\rs.length<=500/\Q (.list ((rs.filter p).map sU))
def zY(fs:List (Str×List Str))(an:List Str)(n:Nat)(t:Tr):Prop:=wS fs an t/\t.dep<=n
def XX:mX:=λds Q=>∃(fs:List (Str×List Str))(an:List Str)(rs:List (List (List D)×Str)),ds=[eM fs an,.list (rs.map cL)]/\fK fs an/\qN fs/\(∀r∈rs,cU fs r.1/\r.2∈an)/\rW fs rs/\∀t,zY fs an 20 t->Q (oQ t)
def sQ(dd:Nat):mX:=λds Q=>∃(fs:List (Str×List Str))(an:List Str)(l:List (List D))(ans:List D->Str),ds=[eM fs an,.list (nE l ans)]/\fK fs an/\qN fs/\l≠[]/\l.Sublist (cH (fs.map bN))/\(∀c∈l,ans c∈an)/\mu l (fs.map bN) 0<dd/\mu l (fs.map bN) 0<=20 /\
 ∀t,zY fs an (mu l (fs.map bN) 0) t->Q (oQ t)
def XW:mX:=sQ 21
theorem RQ{ds:List D}{Q:D->Prop}(h:sQ 0 ds Q):False:=by
 obtain⟨_,_,_,_,_,_,_,_,_,_,h,_⟩:=h;omega
def QG:mX:=λds Q=>∃(fs:List (Str×List Str))(an:List Str)(c:List D)(l:List (List D))(ans:List D->Str),ds=[eM fs an,.list (nE (c::l) ans)]/\fK fs an/\qN fs/\(c::l).Sublist (cH (fs.map bN))/\(∃d∈l,d≠c) /\
 ∀(j:Nat)(f:Str×List Str)(v:Str),fs[j]?=some f->v∈f.2->c[j]?=some (.str v)->(∃d∈l,d[j]?≠some (.str v))->Q (.tuple [.str "is",.str f.1,.str v])
def VI(rs:List (List D×Str))(x:D):D:=match x with | .int i=>(match L2.atI rs i with | some r=>sU r | none=>.none) | _=>.none
theorem LA{rs:List (List D×Str)}{j:Nat}{r:List D×Str}(h:rs[j]?=some r):VI rs (.int (j:Int))=sU r:=by
 show(match L2.atI rs (j:Int)with | some r=>sU r | none=>.none)=_;rw[L2.eD h]
theorem GJ{α:Type}{l:List α}{p:α->Bool}{j:Nat}(h:j∈sW l p):j<l.length:=by
 have:=(bO.mp h).1;simpa using this
theorem Q5{α:Type}(l:List α)(p:α->Bool):(sW l p).length<=l.length:=by
 have:=eB (λj=>match l[j]? with | some a=>p a | none=>false) (fN l.length);rw[qS]at this;exact this
theorem M8(rs:List (List D×Str))(p:List D×Str->Bool):((sW rs p).map λ(j:Nat)=>bS (j:Int)).map (VI rs)=(rs.filter p).map sU:=by
 have h:=congrArg (λz=>z.map λo:Option (List D×Str)=>match o with | some r=>sU r | none=>.none) (CS p rs);rw[bT,bT]at h;rw[bT];refine Eq.trans ?_ h;apply mF;intro j hj;have hjl:=GJ hj;have hr:rs[j]?=some rs[j]:=aF hjl;show VI rs (.int (j:Int))=(match rs[j]? with | some r=>sU r | none=>.none);rw[LA hr,hr]
theorem RU:∀(l:List (List D))(fs:List (Str×List Str))(j:Nat),mu l (fs.map bN) j<=(fs.map λf=>f.2.length).sum+fs.length
|l,[],j=>dS _
|l,f::fs,j=>by
 have h1:=eB (λx=>decide (∃c∈l,c[j]?=some x)) (bN f);have h2:(bN f).length=f.2.length+1:=by unfold bN;rw[aZ,aE];rfl
 have h3:=RU l fs (j+1);show aB0 l (bN f) j+mu l (fs.map bN) (j+1)<=(f.2.length+(fs.map λf=>f.2.length).sum)+(fs.length+1);unfold aB0;omega
theorem RV{fs:List (Str×List Str)}(S:qN fs)(l:List (List D)):mu l (fs.map bN) 0<=20:=by
 have h1:=RU l fs 0;have:=S.2.1;have:=S.2.2;omega
theorem C8:∀(ys l:List Str)(z:Str),z∈ys.foldl mW l↔z∈l\/z∈ys
|[],l,z=>by simp
|y::ys,l,z=>by rw[mP,C8 ys,C6,aY,or_assoc]
theorem aBx(y:Str)(ys:List Str):(dd (y::ys)).length=1↔∀z∈ys,z=y:=by
 constructor
 ·intro h z hz;obtain⟨a,ha⟩:=List.length_eq_one_iff.mp h
  have m:∀x,x∈y::ys->x=a:=λx hx=>by
   have:x∈dd (y::ys):=(C8 _ _ _).mpr (.inr hx);rw[ha]at this;exact aW.mp this
  rw[m z (aO _ hz),m y (aS ..)]
 ·intro h
  have:∀l:List Str,(∀z∈l,z=y)->l.foldl mW [y]=[y]:=λl=>by
   induction l with
   |nil=>exactλ_=>rfl
   |cons a l ih=>
    intro hh;rw[mP,hh a (aS ..)];have e:mW [y] y=[y]:=by unfold mW;rw[if_pos (aW.mpr rfl)]
    rw[e];exact ih λz hz=>hh z (aO _ hz)
  show(ys.foldl mW (mW [] y)).length=1;have e:mW [] y=[y]:=by unfold mW;rw[if_neg (by simp)];rfl
  rw[e,this ys h];rfl
theorem D5{fs:List (Str×List Str)}{an:List Str}(F:fK fs an){j:Nat}{f:Str×List Str}{v:Str}(hf:fs[j]?=some f)(hv:v∈f.2){c:List D}(hc:fS fs (.tuple c)=true):lP fs "is" f.1 v "no" c=(if c[j]?=some (.str v)then("yes":Str)else "no")/\TZ c (jx fs f.1) (eF fs "is" f.1 v "no")=decide (c[j]?=some (.str v))/\N0 fs (.tuple [.str "is",.str f.1,.str v])=true:=by
 have hfm:=aR hf
 have hq:N0 fs (.tuple [.str "is",.str f.1,.str v])=true:=aBa hfm (by
  show(decide (v∈f.2)&&(decide (("is":Str)="is")||_))=true;rw[decide_eq_true hv];rfl)
 obtain⟨hl,hcv⟩:=iT hc;have hjc:j<c.length:=by rw[hl];exact(aD.mp hf).1
 have hcj:c[j]?=some c[j]:=aF hjc;have hok:=hcv j f _ hf hcj
 have e1:lP fs "is" f.1 v "no" c=(if c[j]?=some (.str v)then("yes":Str)else "no"):=by
  rw[AF F hf hcj rfl,hcj]
  generalize c[j]=x at hok
  cases x with
  |none=>rw[if_neg (by intro z;cases z)];rfl
  |str z=>
   have e0:oX f "is" v "no" (.str z)=if z=v then("yes":Str)else "no":=by
    unfold oX;dsimp only;rw[if_pos rfl]
   rw[e0];by_cases e:z=v
   ·rw[if_pos e,if_pos (by rw[e])]
   ·rw[if_neg e,if_neg (by intro q;injection q with q;injection q with q;exact e q)]
  |_=>cases hok
 refine⟨e1,?_,hq⟩;have e2:=M2 F hq (.inr rfl) hc;rw[e1]at e2;have ny:¬("no":Str)="yes":=by decide +kernel
 by_cases h:c[j]?=some (.str v)
 ·rw[if_pos h]at e2;rw[decide_eq_true h]
  cases hb:TZ c (jx fs f.1) (eF fs "is" f.1 v "no")with
  |true=>rfl
  |false=>rw[hb,if_neg (by decide)]at e2;exact absurd e2.symm ny
 ·rw[if_neg h]at e2;rw[decide_eq_false h]
  cases hb:TZ c (jx fs f.1) (eF fs "is" f.1 v "no")with
  |false=>rfl
  |true=>rw[hb,if_pos rfl]at e2;exact absurd e2 ny
theorem BB{α:Type}(p:α->Bool):∀l:List α,(l.filter p).length+(l.filter λx=>!p x).length=l.length
|[]=>rfl
|a::l=>by
 have:=BB p l;rw[eW,eW,cE];cases p a<;>simp<;>omega
def B5(ans:List D->Str)(c:List D):List D×Str:=(c,ans c)
theorem wI(l:List (List D))(ans:List D->Str):nE l ans=(l.map (B5 ans)).map sU:=by unfold nE;rw[bT];rfl
theorem M7(l:List (List D))(ans:List D->Str)(p:List D->Bool):((l.map (B5 ans)).filter λr=>p r.1)=(l.filter p).map (B5 ans):=by
 rw[iH];rfl
theorem GC(c:List D)(l:List (List D))(ans:List D->Str):L2.atI (nE (c::l) ans) 0=some (sU (c,ans c)):=L2.eD (xs:=nE (c::l) ans) (j:=0) rfl
noncomputable instance decD:DecidableEq PyData:=λ_ _=>Classical.propDecidable _
section
variable{fs:List (Str×List Str)}{an:List Str}
theorem AK{L:List (List D)}{j:Nat}(hj:j<L.length)(g:D->Bool):(cH (eJ L j g)).length+(cH (eJ L j λx=>!g x)).length=(cH L).length:=by
 rw[<- tI,<- tI,<- BB (λc=>TZ c j g) (cH L)];congr 2;apply gA;intro c hc;exact MF (by rw[(rT ((iR L c).mp hc)).1];exact hj)
theorem uB:∀(t:Tr){L:List (List D)},wS fs an t->fK fs an->cU fs L->(dQ fs t L).length<=(cH L).length
|.say a,L,_,_,_=>by
 show(if fJ L then[]else[(L,a)]:List (List (List D)×Str)).length<=_
 cases hn:fJ L with
 |true=>exact dS _
 |false=>
  have:cH L≠[]:=λz=>by rw[(wK L).mp z]at hn;cases hn
  rw[if_neg (by decide)];exact jE.mpr this
|.ask k n v s y m,L,ht,F,hL=>by
 obtain⟨f,hf,_⟩:=EO F ht.1;have hj:jx fs n<L.length:=by rw[hL.1];exact(aD.mp hf).1
 have h1:=uB y ht.2.2.1 F (hL.filt (jx fs n) (eF fs k n v s));have h2:=uB m ht.2.2.2 F (hL.filt (jx fs n) λx=>!eF fs k n v s x);have h3:=AK hj (eF fs k n v s);show(if fJ L then[]else dQ fs y (eJ L (jx fs n) (eF fs k n v s))++dQ fs m (eJ L (jx fs n) λx=>!eF fs k n v s x)).length<=_;split
 ·exact dS _
 ·rw[aZ];omega
end
theorem tD{fs:List (Str×List Str)}{an:List Str}(F:fK fs an){L:List (List D)}(hL:cU fs L):(cH L).length<=7776:=by
 have h1:=AL L 6 λe he=>by
  obtain⟨j,hj⟩:=bQ he;have hjl:j<fs.length:=by rw[<- hL.1];exact(aD.mp hj).1
  obtain⟨p,rfl⟩:=hL.2 j _ e (aF hjl) hj;have h2:=eB p (bN fs[j]);have h3:=(F.vs _ (eV hjl)).2.1;have h4:=kQ fs[j];omega
 have h2:6^L.length<=6^5:=OW (by decide) (by rw[hL.1];exact F.n5);omega
def kR:Tr->List Str
|.say a=>[a]
|.ask _ _ _ _ y m=>kR y++kR m
def HS(fs:List (Str×List Str)):Tr->List (List D)->Prop
|.say _,L=>fJ L=false
|.ask k n v s y m,L=>fJ L=false/\HS fs y (eJ L (jx fs n) (eF fs k n v s))/\HS fs m (eJ L (jx fs n) λx=>!eF fs k n v s x)
def HV(fs:List (Str×List Str))(P:Nat->Prop):Tr->Prop
|.say _=>True
|.ask _ n _ _ y m=>P (jx fs n)/\HV fs P y/\HV fs P m
theorem pE{e:List D}{g:D->Bool}:∀{L:List (List D)}{j:Nat},L[j]?=some e->eJ L j g=L.set j (e.filter g)
|[],_,h=>by simp at h
|e0::L,0,h=>by
 simp only[jA,Option.some.injEq]at h;subst h;rfl
|e0::L,j+1,h=>by
 simp only[gZ]at h;show e0::eJ L j g=e0::L.set j _;rw[pE h]
theorem J5{e:List D}{g:D->Bool}{L:List (List D)}{j:Nat}(h:L[j]?=some e)(hg:∀x∈e,g x=true):eJ L j g=L:=by
 rw[pE h,kH.mpr hg];apply gB;intro i;by_cases hij:j=i
 ·subst hij;rw[bA (aD.mp h).1,h]
 ·rw[aU hij]
theorem G7{e:List D}{g:D->Bool}{L:List (List D)}{j:Nat}(h:L[j]?=some e)(hg:∀x∈e,g x=false):fJ (eJ L j g)=true:=by
 rw[pE h,fP.mpr λx hx=>by rw[hg x hx];decide];unfold fJ;rw[oC];exact⟨[],aR (i:=j) (bA (aD.mp h).1),rfl⟩
section
variable{fs:List (Str×List Str)}{P:Nat->Prop}
theorem HS.some:∀{t:Tr}{L:List (List D)},HS fs t L->fJ L=false
|.say _,_,h=>h
|.ask _ _ _ _ _ _,_,h=>h.1
theorem HV.mono{P':Nat->Prop}(hp:∀j,P j->P' j):∀{t:Tr},HV fs P t->HV fs P' t
|.say _,_=>trivial
|.ask _ _ _ _ _ _,h=>⟨hp _ h.1,HV.mono hp h.2.1,HV.mono hp h.2.2⟩
theorem A9:∀{t:Tr}{L:List (List D)},HS fs t L->(dQ fs t L).map (·.2)=kR t
|.say a,L,h=>by
 show(if fJ L then[]else[(L,a)]:List (List (List D)×Str)).map (·.2)=[a];rw[show fJ L=false from h];rfl
|.ask k n v s y m,L,h=>by
 show(if fJ L then[]else dQ fs y (eJ L (jx fs n) (eF fs k n v s))++dQ fs m (eJ L (jx fs n) λx=>!eF fs k n v s x)).map (·.2)=kR y++kR m;rw[h.1,if_neg (by decide),bY,A9 h.2.1,A9 h.2.2]
theorem A8{t:Tr}{L:List (List D)}(h:HS fs t L):(dQ fs t L).length=(kR t).length:=by
 have:=congrArg kU (A9 h)
 rwa [aE]at this
end
def IC(L:List (List D)):Nat:=(L.map λe=>e.length-1).sum
theorem AA{e e':List D}:∀{L:List (List D)}{j:Nat},L[j]?=some e->1<=e'.length->e'.length<e.length->IC (L.set j e')<IC L
|[],_,h,_,_=>by simp at h
|e0::L,0,h,h1,h2=>by
 simp only[jA,Option.some.injEq]at h;subst h;show e'.length-1+IC L<e0.length-1+IC L;omega
|e0::L,j+1,h,h1,h2=>by
 simp only[gZ]at h;have:=AA h h1 h2;show e0.length-1+IC (L.set j e')<e0.length-1+IC L;omega
theorem AM(e:List D)(L:List (List D)):(cH (e::L)).length=e.length*(cH L).length:=by
 show(e.flatMap λx=>(cH L).map (x::·)).length=_
 induction e with
 |nil=>simp
 |cons x e ih=>rw[eX,aZ,ih,aE,cE,qW];omega
theorem vI:∀(L:List (List D))(a:Nat),L.foldl (λa e=>a*e.length) a=a*(cH L).length
|[],a=>by show a=a*1;omega
|e::L,a=>by rw[mP,vI L,AM,Nat.mul_assoc]
structure tQ(fs:List (Str×List Str))(an:List Str)(L:List (List D))(n:Nat)(t:Tr):Prop where
 ok:wS fs an t
 asks:HV fs (λj=>∃e,L[j]?=some e/\2<=e.length) t
 full:HS fs t L
 cnt:(kR t).length=n
 dep:t.dep<=IC L
theorem CT:∀{L:List (List D)},(∀e∈L,e.length<=1)->(cH L).length<=1
|[],_=>aN _
|e::L,h=>by
 rw[AM];have h1:=h e (aS ..);have h2:=CT λx hx=>h x (aO _ hx);exact nO h1 h2
def fB(v s:Str):List D:=if s="yes" then[.str v,.none]else[.str v]
theorem tJ{a:D}:∀{l:List D},l.Nodup->a∈l->l.filter (λx=>decide (x=a))=[a]
|[],_,h=>by cases h
|b::l,hn,h=>by
 rw[jB]at hn;rw[eW];by_cases e:b=a
 ·subst e;rw[if_pos (decide_eq_true rfl),fP.mpr λx hx z=>hn.1 (by rw[<- of_decide_eq_true z];exact hx)]
 ·rw[if_neg (by simpa using e)];exact tJ hn.2 ((aY.mp h).resolve_left λz=>e z.symm)
section
variable{fs:List (Str×List Str)}{an:List Str}
theorem sJ:¬("no":Str)="yes":=by decide +kernel
theorem M1{n v s:Str}{f:Str×List Str}(hf:fs[jx fs n]?=some f)(hs:s="yes"\/s="no"){x:D}(hx:x∈bN f):eF fs "is" n v s x=decide (x∈fB v s):=by
 unfold eF;rw[hf];rcases dO.mp hx with hx | hx
 ·obtain⟨z,_,rfl⟩:=aX.mp hx;show decide ((if("is":Str)="is" then(if z=v then("yes":Str)else "no")else(if f.2.idxOf z<=f.2.idxOf v then "yes" else "no"))="yes")=_;rw[if_pos rfl];unfold fB;by_cases e:z=v
  ·subst e;rw[if_pos rfl,decide_eq_true rfl,decide_eq_true];split<;>exact aS ..
  ·rw[if_neg e,decide_eq_false sJ,decide_eq_false];intro h;split at h
   ·rcases aY.mp h with h | h
    ·exact e (by injection h)
    ·have:=aW.mp h;cases this
   ·exact e (by have:=aW.mp h;injection this)
 ·rw[aW.mp hx];show decide (s="yes")=_;unfold fB;rcases hs with rfl | rfl
  ·rw[if_pos rfl,decide_eq_true rfl,decide_eq_true (aO _ (aW.mpr rfl))]
  ·rw[if_neg sJ,decide_eq_false sJ,decide_eq_false λh=>by have:=aW.mp h;cases this]
theorem N8(F:fK fs an){f:Str×List Str}(hf:f∈fs){e:List D}{p:D->Bool}(he:e=(bN f).filter p){v s:Str}(hv:aV v∈e)(hs:s="yes"->dY∈e):e.filter (λx=>decide (x∈fB v s))=fB v s:=by
 have hnd:e.Nodup:=by rw[he];exact(EZ F hf).sublist mG
 have hsplit:e=(f.2.map aV).filter p++[dY].filter p:=by rw[he];unfold bN;rw[fQ]
 have noN:∀x∈(f.2.map aV).filter p,x≠.none:=λx hx=>by
  obtain⟨z,_,rfl⟩:=aX.mp (bO.mp hx).1
  exactλz=>nomatch z
 unfold fB;by_cases h:s="yes"
 ·rw[if_pos h];have hN:=hs h;have hp:p .none=true:=by rw[he]at hN;exact(bO.mp hN).2
  have hB:[dY].filter p=[.none]:=by rw[eW,hp];rfl
  rw[hB]at hsplit;rw[hsplit,fQ]
  have hvA:aV v∈(f.2.map aV).filter p:=by
   rw[hsplit]at hv;rcases dO.mp hv with h | h
   ·exact h
   ·have:=aW.mp h;cases this
  have hndA:((f.2.map aV).filter p).Nodup:=hnd.sublist (by rw[hsplit];exact FV ..)
  have e1:((f.2.map aV).filter p).filter (λx=>decide (x∈[aV v,.none]))=[.str v]:=by
   rw[<- tJ hndA hvA];apply gA;intro x hx;rw[eE,decide_eq_true_eq,decide_eq_true_eq];exact⟨λh=>(aY.mp h).elim id λh=>absurd (aW.mp h) (noN x hx),λh=>by rw[h];exact aS ..⟩
  rw[e1,eW,if_pos (decide_eq_true (aO _ (aW.mpr rfl)))]
  rfl
 ·rw[if_neg h];refine Eq.trans (gA λx _=>?_) (tJ hnd hv);rw[eE,decide_eq_true_eq,decide_eq_true_eq];exact⟨λh=>aW.mp h,λh=>aW.mpr h⟩
theorem aBb{f:Str×List Str}(hf:f∈fs){v:Str}(hv:v∈f.2):N0 fs (.tuple [.str "is",.str f.1,.str v])=true:=by
 show(fs.any λg=>isN (.str f.1) g&&qOk g (.str "is") (.str v))=true;refine oC.mpr ⟨f,hf,?_⟩;show(decide (f.1=f.1)&&(decide (v∈f.2)&&(decide (("is":Str)="is")||_)))=true;rw[decide_eq_true rfl,decide_eq_true hv,decide_eq_true rfl];rfl
theorem aFb(F:fK fs an){j:Nat}{f:Str×List Str}(hf:fs[j]?=some f):jx fs f.1=j:=zU F hf
theorem RF(F:fK fs an){L:List (List D)}(hL:cU fs L)(hn:fJ L=false){j:Nat}{f:Str×List Str}{e:List D}(hf:fs[j]?=some f)(he:L[j]?=some e){v s:Str}(hv:v∈f.2)(hve:aV v∈e)(hs:s="yes"\/s="no")(hse:s="yes"->dY∈e)(hr:e.filter (λx=>!decide (x∈fB v s))≠[]) :
  eJ L j (eF fs "is" f.1 v s)=L.set j (fB v s)/\eJ L j (λx=>!eF fs "is" f.1 v s x)=L.set j (e.filter λx=>!decide (x∈fB v s))/\IC (L.set j (fB v s))<IC L/\IC (L.set j (e.filter λx=>!decide (x∈fB v s)))<IC L/\fJ (L.set j (fB v s))=false/\fJ (L.set j (e.filter λx=>!decide (x∈fB v s)))=false /\
  ∀{n1 n2:Nat}{y m:Tr},tQ fs an (L.set j (fB v s)) n1 y->tQ fs an (L.set j (e.filter λx=>!decide (x∈fB v s))) n2 m->tQ fs an L (n1+n2) (.ask "is" f.1 v s y m):=by
 have hfm:=aR hf;obtain⟨p,hp⟩:=hL.2 j f e hf he;have hj:=aFb F hf;have hf':fs[jx fs f.1]?=some f:=by rw[hj];exact hf
 have hG:∀x∈e,eF fs "is" f.1 v s x=decide (x∈fB v s):=λx hx=>M1 hf' hs (hL.sub hf he x hx);have e1:e.filter (eF fs "is" f.1 v s)=fB v s:=Eq.trans (gA λx hx=>hG x hx) (N8 F hfm hp hve hse);have e2:e.filter (λx=>!eF fs "is" f.1 v s x)=e.filter λx=>!decide (x∈fB v s):=gA λx hx=>by rw[hG x hx]
 have f1:eJ L j (eF fs "is" f.1 v s)=L.set j (fB v s):=by rw[pE he,e1]
 have f2:eJ L j (λx=>!eF fs "is" f.1 v s x)=L.set j (e.filter λx=>!decide (x∈fB v s)):=by rw[pE he,e2]
 have l12:=BB (eF fs "is" f.1 v s) e;rw[e1,e2]at l12;have ls:1<=(fB v s).length:=by unfold fB;split<;>exact Nat.succ_le_succ (dS _)
 have lr:1<=(e.filter λx=>!decide (x∈fB v s)).length:=jE.mpr hr;have hjl:=(aD.mp he).1;have w1:=AA he ls (by omega);have w2:=AA he lr (by omega);have n1:fJ (L.set j (fB v s))=false:=by rw[<- f1,nX hn he,e1];unfold fB;split<;>rfl
 have n2:fJ (L.set j (e.filter λx=>!decide (x∈fB v s)))=false:=by
  rw[<- f2,nX hn he,e2]
  cases hx:e.filter λx=>!decide (x∈fB v s)with
  |nil=>exact absurd hx hr
  |cons _ _=>rfl
 refine⟨f1,f2,w1,w2,n1,n2,λ{n1 n2 y m} hy hm=>⟨⟨aBb hfm hv,hs,hy.ok,hm.ok⟩,⟨⟨e,by rw[hj];exact he,by omega⟩,hy.asks.mono ?_,hm.asks.mono ?_⟩,⟨hn,by rw[hj,f1];exact hy.full,by rw[hj,f2];exact hm.full⟩,?_,?_⟩⟩
 ·rintro i ⟨d,h1,h2⟩;by_cases hij:j=i
  ·subst hij;exact⟨e,he,by omega⟩
  ·rw[aU hij]at h1;exact⟨d,h1,h2⟩
 ·rintro i ⟨d,h1,h2⟩;by_cases hij:j=i
  ·subst hij;exact⟨e,he,by omega⟩
  ·rw[aU hij]at h1;exact⟨d,h1,h2⟩
 ·show(kR y++kR m).length=_;rw[aZ,hy.cnt,hm.cnt]
 ·have h1:=hy.dep;have h2:=hm.dep;show max y.dep m.dep+1<=_;omega
end
def mH(L:List (List D)):List Nat:=(fN L.length).filter λj=>match L[j]? with | some e=>decide (1<e.length) | none=>false
def sP(dd:Nat):mX:=λds Q=>∃(ns:List Int)(fs:List (Str×List Str))(an:List Str)(L:List (List D))(n:Nat),ds=[iD ns,eM fs an,jW L,.int (n:Int)]/\ns.length<=63/\fK fs an/\cU fs L/\fJ L=false/\1<=n/\n<=(cH L).length/\IC L<dd/\∀t,tQ fs an L n t->Q (oQ t)
def XG:mX:=sP 26
theorem RP{ds:List D}{Q:D->Prop}(h:sP 0 ds Q):False:=by
 obtain⟨_,_,_,_,_,_,_,_,_,_,_,_,h,_⟩:=h;omega
theorem MC(l:List Nat):Cd (.list (l.map λ(j:Nat)=>bS (j:Int))):=by
 have h:∀l:List Nat,fL (l.map λ(j:Nat)=>bS (j:Int))=true/\eK (l.map λ(j:Nat)=>bS (j:Int))=0:=λl=>by
  induction l with
  |nil=>exact⟨rfl,rfl⟩
  |cons a l ih=>
   refine⟨?_,?_⟩
   ·show(true&&fL (l.map λ(j:Nat)=>bS (j:Int)))=true;rw[ih.1];rfl
   ·show max 0 (eK (l.map λ(j:Nat)=>bS (j:Int)))=0;rw[ih.2];rfl
 exact⟨(h l).1,by show eK (l.map λ(j:Nat)=>bS (j:Int))+1<=60;rw[(h l).2];decide⟩
theorem M0{L:List (List D)}{j:Nat}(h:j∈mH L):∃e,L[j]?=some e/\1<e.length:=by
 have:=(bO.mp h).2
 cases hx:L[j]? with
 |none=>rw[hx]at this;cases this
 |some e=>rw[hx]at this;exact⟨e,rfl,of_decide_eq_true this⟩
theorem MZ{L:List (List D)}(h:mH L=[]):∀e∈L,e.length<=1:=λe he=>by
 obtain⟨j,hj⟩:=bQ he;have hjl:=(aD.mp hj).1;have:=fP.mp h j (lQ.mpr hjl);rw[hj]at this;simpa using this
theorem RD{fs:List (Str×List Str)}{an:List Str}{L:List (List D)}{a:Str}(ha:a∈an)(hn:fJ L=false):tQ fs an L 1 (.say a):=⟨ha,trivial,hn,rfl,dS _⟩
theorem VA{L:List (List D)}{j:Nat}{d:List D}(hj:j<L.length):(L.map aM).take j++[.tuple d]++(L.map aM).drop (j+1)=(L.set j d).map aM:=by
 rw[IJ,jR,if_pos (by rw[aE];exact hj),jX];rfl
theorem xN{a:D}:∀{l:List D},l.Nodup->2<=l.length->∃x∈l,x≠a
|[],_,h=>by cases h
|[b],_,h=>by have:2<=1:=h;omega
|b::c::l,hn,_=>by
 by_cases e:b=a
 ·refine⟨c,aO _ (aS ..),λz=>?_⟩;rw[jB]at hn;exact hn.1 (by rw[e,<- z];exact aS ..)
 ·exact⟨b,aS ..,e⟩
def sR(dd:Nat):KF:=λds Q=>∃(fs:List (Str×List Str))(an:List Str)(t:Tr)(L:List (List D)),ds=[eM fs an,oQ t,jW L]/\fK fs an/\wS fs an t/\cU fs L/\fJ L=false/\t.dep<dd/\(cH L).length<=7776/\Q ((dQ fs t L).map cL)
def QH:KF:=sR 30
theorem RT{ds:List D}{Q:List D->Prop}(h:sR 0 ds Q):False:=by
 obtain⟨_,_,_,_,_,_,_,_,_,h,_⟩:=h;omega
def XY:KF:=λds Q=>∃(fs:List (Str×List Str))(an:List Str)(t:Tr),ds=[eM fs an,oQ t]/\fK fs an/\wS fs an t/\t.dep<=29/\(dQ fs t (fs.map bN)).length<=60/\Q ((dQ fs t (fs.map bN)).map cL)
theorem xL(e:List D)(L:List (List D)):(cH (e::L)).length=e.length*(cH L).length:=by
 show(e.flatMap λx=>(cH L).map (x::·)).length=e.length*(cH L).length
 induction e with
 |nil=>simp
 |cons x e ih=>rw[eX,aZ,aE,ih,cE,qW,vQ,Nat.add_comm]
theorem xK:∀(L:List (List D)),(∀e∈L,e≠[])->∀i,(cH (L.take i)).length<=(cH L).length
|[],_,i=>by rw[List.take_nil];exact aN _
|e::L,h,0=>by
 have h0:=xK L (λx hx=>h x (aO _ hx)) 0;have he:0<e.length:=jE.mpr (h e (aS ..));rw[xL];rw[ZR]at h0 |-
 exact cP h0 (Nat.le_mul_of_pos_left _ he)
|e::L,h,i+1=>by
 have h0:=xK L (λx hx=>h x (aO _ hx)) i;rw[OY,xL,xL];exact nO (aN _) h0
theorem wF{g:D->Bool}:∀{L:List (List D)}{j:Nat}{e:List D},L[j]?=some e->L.set j (e.filter g)=eJ L j g
|_::_,0,_,h=>by cases h;rfl
|x::L,j+1,e,h=>by
 show x::L.set j _=x::eJ L j g;rw[wF (L:=L) h]
def Fst(fs:List (Str×List Str))(rs:List Rl)(k:Nat)(c:List D):Prop:=(cH (fs.map bN))[k]?=some c/\(∀c'∈(cH (fs.map bN)).take k,rs.find? (λr=>kZ r.1 c')≠none)/\rs.find? (λr=>kZ r.1 c)=none
def xM(C:Addr):D:=.dict [(.int (C:Nat),.none)]
def xR(C:Addr)(c:List D):D:=.dict [(.int (C:Nat),.tuple c)]
def Ref(fs:List (Str×List Str))(rs:List Rl)(m:Nat)(cM cR:Addr)(ED:D->Prop):Prop:=(m<fZ fs/\ED (xM cM))\/(fZ fs<=m/\∃k c,Fst fs rs k c/\ED (xR cR c))
def mst(wy:Nat):Nat:=if wy=0 then 300 else 500
def nK(cM cR:Addr):mX:=λds ED=>∃(fs:List (Str×List Str))(an:List Str)(rs:List Rl)(m:Nat),ds=[eM fs an,.list (rs.map cL),.int (m:Nat)]/\fK fs an/\(∀r∈rs,cU fs r.1)/\m<=500/\Ref fs rs m cM cR ED
def uP(cM cR:Addr):mX:=λds ED=>∃(fs:List (Str×List Str))(an:List Str)(rs:List Rl),ds=[eM fs an,.list (rs.map cL)]/\fK fs an/\(∀r∈rs,cU fs r.1)/\Ref fs rs 300 cM cR ED
def yG(cM cR:Addr):mX:=λds ED=>∃(fs:List (Str×List Str))(an:List Str)(rs:List Rl),ds=[eM fs an,.list (rs.map cL)]/\fK fs an/\(∀r∈rs,cU fs r.1)/\Ref fs rs 500 cM cR ED
def wB(cM cR:Addr):mX:=λds ED=>∃(fs:List (Str×List Str))(an:List Str)(t:Tr),ds=[eM fs an,oQ t]/\fK fs an/\wS fs an t/\t.dep<=29/\60<(dQ fs t (fs.map bN)).length/\ED (xM cM)
def XF:mX:=λds Q=>∃(wy:Nat)(fs:List (Str×List Str))(an:List Str)(th:D),ds=[.int (wy:Nat),eM fs an,th]/\fK fs an /\
 ((wy<2/\∃rs:List Rl,th=.list (rs.map cL)/\qN fs/\(∀r∈rs,cU fs r.1/\r.2∈an)/\rs.length<=20/\rW fs rs/\∀n:Nat,Q (.int (n:Nat))) \/
  (wy=2/\∃t:Tr,th=oQ t/\wS fs an t/\t.dep<=29/\(dQ fs t (fs.map bN)).length<=60/\Q (.int ((dQ fs t (fs.map bN)).length:Nat))))
def rZ(cM cR:Addr):mX:=λds ED=>∃(wy:Nat)(fs:List (Str×List Str))(an:List Str)(th:D),ds=[.int (wy:Nat),eM fs an,th]/\fK fs an /\
 ((wy<2/\∃rs:List Rl,th=.list (rs.map cL)/\(∀r∈rs,cU fs r.1)/\Ref fs rs (mst wy) cM cR ED) \/
  (wy=2/\∃t:Tr,th=oQ t/\wS fs an t/\t.dep<=29/\60<(dQ fs t (fs.map bN)).length/\ED (xM cM)))
def KW:mX:=λds Q=>∃(wy:Nat)(fs:List (Str×List Str))(an:List Str)(th:D),ds=[.int (wy:Nat),eM fs an,th]/\fK fs an /\
 ((wy<2/\∃rs:List Rl,th=.list (rs.map cL)/\(∀r∈rs,cU fs r.1/\r.2∈an)/\rs.length<=20/\((mst wy<fZ fs/\Q (.tuple [.str "many",.none]))\/(fZ fs<=mst wy/\∃k c,Fst fs rs k c/\Q (.tuple [.str "rule",.tuple c]))\/(qN fs/\rW fs rs/\∀n:Nat,Q (.tuple [.str "told",.int (n:Nat)])))) \/
  (wy=2/\∃t:Tr,th=oQ t/\wS fs an t/\t.dep<=29/\(60<(dQ fs t (fs.map bN)).length->Q (.tuple [.str "many",.none]))/\((dQ fs t (fs.map bN)).length<=60->Q (.tuple [.str "told",.int ((dQ fs t (fs.map bN)).length:Nat)]))))
theorem N7{fs:List (Str×List Str)}{an:List Str}(F:fK fs an){c:List D}(h:fS fs (.tuple c)=true):BA c=true:=by
 unfold BA;rw[gI];intro x hx;obtain⟨hl,hv⟩:=iT h;obtain⟨k,hkx⟩:=bQ hx;have hk':k<fs.length:=by rw[<- hl];exact(aD.mp hkx).1
 have:=hv k fs[k] x (aF hk') hkx
 cases x with
 |none=>rfl
 |str z=>rfl
 |_=>cases this
def XE:mX:=λds Q=>∃ns:List Int,ds=[iD ns]/\ns.length<=63/\Q (.bool true)
def XD:mX:=λds Q=>∃ns:List Int,ds=[iD ns]/\ns.length<=63/\Q (.bool true)
theorem Z7{fs:List (Str×List Str)}(h3:fs.length<=3)(h5:∀f∈fs,f.2.length<=3):qN fs:=by
 have h1:=AL (fs.map bN) 4 λe he=>by
  obtain⟨f,hf,rfl⟩:=aX.mp he;have:=h5 f hf;have:=kQ f;omega
 rw[aE]at h1;have h2:4^fs.length<=4^3:=OW (by decide) h3
 have hs:∀l:List (Str×List Str),(∀f∈l,f.2.length<=3)->(l.map λf=>f.2.length).sum<=3*l.length:=λl=>by
  induction l with
  |nil=>exactλ_=>aN _
  |cons f l ih=>
   intro h;have a:=ih λx hx=>h x (aO _ hx);have b:=h f (aS ..);show f.2.length+(l.map λf=>f.2.length).sum<=3*(l.length+1);omega
 have:=hs fs h5;exact⟨by omega,by omega,by omega⟩
theorem TD{fs:List (Str×List Str)}{an:List Str}(F:fK fs an){l:List (List D)}(h:∀c∈l,fS fs (.tuple c)=true):Cd (iS l):=by
 obtain⟨_,_,_,_,b5,b6⟩:=sK (n:=50) (m:=1) (ts:=l.map aM) λt ht=>by
  obtain⟨c,hc,rfl⟩:=aX.mp ht;exact xF (N:=50) (M:=1) 8 0 5 (vN F (h c hc) (aN 8)) (by rw[(iT (h c hc)).1];exact F.n5) (by decide) (by decide)
 exact⟨b6,by show _+1<=60;omega⟩
theorem HK{fs:List (Str×List Str)}{an:List Str}(F:fK fs an){c:List D}(h:fS fs (.tuple c)=true){z:Str}(hz:uS z=true):Cd (.tuple [.str z,.tuple c]):=by
 have a:Th 50 1 (.tuple c):=xF (N:=50) (M:=1) 8 0 5 (vN F h (aN 8)) (by rw[(iT h).1];exact F.n5) (by decide) (by decide);have b:Th 50 1 (.str z):=kL hz (by decide)
 obtain⟨_,_,_,_,b5,b6⟩:=sK (n:=50) (m:=1) (ts:=[.str z,.tuple c]) λt ht=>by
  rcases aY.mp ht with rfl | ht
  ·exact b
  ·rw[aW.mp ht];exact a
 exact⟨b6,by show _+1<=60;omega⟩
theorem SS{p:List D->Bool}{c:List D}{t:List (List D)}:∀{l:List (List D)},l.filter p=c::t->∃k,l[k]?=some c/\(∀c'∈l.take k,p c'=false)/\p c=true
|a::l,h=>by
 cases ha:p a with
 |true=>
  rw[IA ha]at h;injection h with h1 h2
  subst h1;exact⟨0,rfl,λc' hc=>absurd hc (by simp),ha⟩
 |false=>
  rw[IB (by rw[ha];decide)]at h;obtain⟨k,h1,h2,h3⟩:=SS h;refine⟨k+1,h1,λc' hc=>?_,h3⟩;rw[OY]at hc;rcases aY.mp hc with rfl | hc
  ·exact ha
  ·exact h2 c' hc
def uW(fs:List (Str×List Str))(rs:List Rl):List (List D):=(cH (fs.map bN)).filter λc=>(rs.find? λr=>kZ r.1 c).isNone
theorem TW{fs:List (Str×List Str)}{rs:List Rl}(h:uW fs rs=[]):rW fs rs:=λc hc z=>by
 have:=fP.mp h c hc;rw[z]at this;exact this rfl
theorem DJ{fs:List (Str×List Str)}{rs:List Rl}{c:List D}{t:List (List D)}(h:uW fs rs=c::t):∃k,Fst fs rs k c:=by
 obtain⟨k,h1,h2,h3⟩:=SS h;exact⟨k,h1,λc' hc z=>(by have:=h2 c' hc;rw[z]at this;cases this),Option.isNone_iff_eq_none.mp h3⟩
theorem nW:∀{l:List D},(∀x∈l,cC x x=true)->lB l l=true
|[],_=>rfl
|a::l,h=>by
 show(cC a a&&lB l l)=true;rw[h a (aS ..),nW λx hx=>h x (aO _ hx)];rfl
theorem HB{fs:List (Str×List Str)}{an:List Str}(F:fK fs an){c:List D}(h:fS fs (.tuple c)=true)(z:Str):cC (.tuple [.str z,.tuple c]) (.tuple [.str z,.tuple c])=true:=by
 have hc:cC (.tuple c) (.tuple c)=true:=nW λx hx=>by
  obtain⟨hl,hv⟩:=iT h;obtain⟨k,hkx⟩:=bQ hx;have hk':k<fs.length:=by rw[<- hl];exact(aD.mp hkx).1
  have:=hv k fs[k] x (aF hk') hkx
  cases x with
  |none=>rfl
  |str z=>exact beq_self_eq_true z
  |_=>cases this
 refine nW (l:=[.str z,.tuple c]) λx hx=>?_;rcases aY.mp hx with rfl | hx
 ·exact beq_self_eq_true z
 ·rw[aW.mp hx];exact hc
theorem GI{α β:Type}:∀(ys:List β)(P:Nat->β->α->Prop),(∀k y,ys[k]?=some y->∃f,P k y f)->∃fs:List α,fs.length=ys.length/\∀k y f,ys[k]?=some y->fs[k]?=some f->P k y f
|[],_,_=>⟨[],rfl,λk y f h=>by simp at h⟩
|y::ys,P,h=>by
 obtain⟨f,hf⟩:=h 0 y rfl;obtain⟨fs,h1,h2⟩:=GI ys (λk=>P (k+1)) λk y hk=>h (k+1) y hk;refine⟨f::fs,by rw[cE,cE,h1],λk y' f' hy hf'=>?_⟩
 cases k with
 |zero=>cases hy;cases hf';exact hf
 |succ k=>exact h2 k y' f' hy hf'
def SZ:List (List Nat):=[[3,3,3,3],[2,2,2,2,2],[3,3,3,4],[4,4,4,3],[3,3,4,4],[4,4,4,4],[4,4,4,5],[4,3,5,5],[2,3,3,3,3],[2,2,2,5,3],[3,3,3,3,3]]
def mnS(s:List Nat):Nat:=s.foldl (λa n=>a*(n+1)) 1
theorem ZO:∀s∈SZ,1<=s.length/\s.length<=5/\(∀n∈s,2<=n/\n<=5)/\(mnS s<=300->s.sum<=15):=by decide
structure yR(fs:List (Str×List Str))(s:List Nat):Prop where
 form:fK fs ["yes","no"]
 sz:fs.map (λf=>f.2.length)=s
theorem yR.many{fs:List (Str×List Str)}{s:List Nat}(h:yR fs s):fZ fs=mnS s:=by
 rw[<- h.sz];unfold fZ mnS;rw[List.foldl_map]
theorem yR.small{fs:List (Str×List Str)}{s:List Nat}(h:yR fs s)(hs:s∈SZ)(hm:fZ fs<=300):qN fs:=by
 have e:(cH (fs.map bN)).length=fZ fs:=by rw[<- mL,pG]
 obtain⟨_,_,_,h4⟩:=ZO s hs;refine⟨by omega,?_,h.form.n5⟩;rw[h.sz];exact h4 (by rw[<- h.many];exact hm)
theorem F3{p:Nat}{ns:List Str}{s:List Nat}(hn:wY p ns)(hs:1<=s.length/\s.length<=5/\∀n∈s,2<=n/\n<=5){ys:List D}(hl:ys.length=s.length)(h:∀(k:Nat)(y:D),ys[k]?=some y->∃(z:Str)(m:Nat)(vs:List Str),ns[k]?=some z/\s[k]?=some m/\wY m vs/\y=kE (z,vs)):∃fs,ys=fs.map kE/\yR fs s:=by
 obtain⟨fs,h1,h2⟩:=GI (α:=Str×List Str) ys (λk y f=>∃m,ns[k]?=some f.1/\s[k]?=some m/\wY m f.2/\y=kE f) λk y hy=>by
  obtain⟨z,m,vs,a,b,c,d⟩:=h k y hy;exact⟨(z,vs),m,a,b,c,d⟩
 obtain⟨s1,s5,sn⟩:=hs
 have at_:∀k f,fs[k]?=some f->∃m,ns[k]?=some f.1/\s[k]?=some m/\wY m f.2/\ys[k]?=some (kE f):=λk f hf=>by
  have hk:=(aD.mp hf).1;have hy:ys[k]?=some (ys[k]'(by omega)):=aF (by omega);obtain⟨m,a,b,c,d⟩:=h2 k _ f hy hf;exact⟨m,a,b,c,by rw[hy,d]⟩
 have en:fs.map (·.1)=ns.take fs.length:=by
  apply gB;intro k;rw[aH,jJ];by_cases hk:k<fs.length
  ·rw[if_pos hk,aF hk];obtain⟨m,a,_⟩:=at_ k fs[k] (aF hk);exact a.symm
  ·rw[if_neg hk,dD (by omega)];rfl
 have ez:fs.map (λf=>f.2.length)=s:=by
  apply gB;intro k;rw[aH];by_cases hk:k<fs.length
  ·rw[aF hk];obtain⟨m,_,b,c,_⟩:=at_ k fs[k] (aF hk);rw[b];exact congrArg some c.1
  ·rw[dD (by omega),dD (by omega)];rfl
 refine⟨fs,?_,⟨⟨by omega,by omega,⟨by rw[aE],λy hy=>?_,?_⟩,λf hf=>?_,by decide,by decide,⟨rfl,by decide +kernel,by decide +kernel⟩⟩,ez⟩⟩
 ·apply gB;intro k;rw[aH];by_cases hk:k<fs.length
  ·rw[aF hk];obtain⟨_,_,_,_,d⟩:=at_ k fs[k] (aF hk);exact d
  ·rw[dD (by omega),dD (by omega)];rfl
 ·rw[en]at hy;exact hn.2.1 y (fM hy)
 ·rw[en];exact hn.2.2.sublist (qR _ _)
 ·obtain⟨k,hk⟩:=bQ hf;obtain⟨m,_,b,c,_⟩:=at_ k f hk;have:=sn m (aR b);rw[c.1];exact⟨this.1,this.2,c⟩
def tN(fs:List (Str×List Str))(j:Nat):List (List D):=eJ (fs.map bN) j λx=>!decide (x=.none)
theorem WV(f:Str×List Str):(bN f).filter (λx=>!decide (x=dY))=f.2.map aV:=by
 unfold bN;rw[fQ,kH.mpr λx hx=>by obtain⟨z,_,rfl⟩:=aX.mp hx;simp];simp
theorem aB2{fs:List (Str×List Str)}{j:Nat}{f:Str×List Str}(h:fs[j]?=some f):tN fs j=(fs.map bN).take j++f.2.map aV::(fs.map bN).drop (j+1):=by
 unfold tN;have hl:=(aD.mp h).1;rw[<- wF (e:=bN f) (by rw[aH,h];rfl),WV,jR,if_pos (by rw[aE];exact hl)]
theorem BQ:∀(L:List (List D))(j:Nat)(v:List D),L[j]?=some (v++[.none])->dY∉v->(cH L).filter (λc=>!kZ (eJ L j λx=>!decide (x=.none)) c)=cH (L.set j [.none])
|e::L,0,v,h,hv=>by
 have h:e=v++[.none]:=Option.some.inj h;subst h
 have e1:(v++[dY]).filter (λx=>!decide (x=dY))=v:=by
  rw[fQ,kH.mpr λx hx=>by simp;intro z;subst z;exact hv hx];simp
 show((v++[dY]).flatMap λx=>(cH L).map (x::·)).filter (λc=>!kZ ((v++[dY]).filter (λx=>!decide (x=dY))::L) c)=[dY].flatMap λx=>(cH L).map (x::·);rw[e1,pK,fQ,fP.mpr,List.nil_append]
 ·apply kH.mpr;intro c hc;obtain⟨x,hx,hc⟩:=oB.mp hc;obtain⟨d,hd,rfl⟩:=aX.mp hc;rw[aW.mp hx];show(!(decide (dY∈v)&&kZ L d))=true;rw[decide_eq_false hv];rfl
 ·intro c hc;obtain⟨x,hx,hc⟩:=oB.mp hc;obtain⟨d,hd,rfl⟩:=aX.mp hc;show¬(!(decide (x∈v)&&kZ L d))=true;rw[decide_eq_true hx,(iR L d).mp hd];decide
|e::L,j+1,v,h,hv=>by
 have ih:=BQ L j v h hv;show(e.flatMap λx=>(cH L).map (x::·)).filter (λc=>!kZ (e::eJ L j λx=>!decide (x=.none)) c)=e.flatMap λx=>(cH (L.set j [.none])).map (x::·);rw[<- ih,List.filter_flatMap];rw[UR,UR];congr 1;apply mF;intro x hx;rw[iH];congr 1;apply gA;intro c _;show(!(decide (x∈e)&&kZ _ c))=_;rw[decide_eq_true hx];rfl
def hdD(e:List D):D:=e.headD .none
theorem CQ:∀(L:List (List D)),(∀e∈L,e≠[])->∃t,cH L=L.map hdD::t
|[],_=>⟨[],rfl⟩
|e::L,h=>by
 obtain⟨t,ht⟩:=CQ L λx hx=>h x (aO _ hx)
 cases e with
 |nil=>exact absurd rfl (h [] (aS ..))
 |cons a e=>
  refine⟨t.map (a::·)++e.flatMap λx=>(cH L).map (x::·),?_⟩;show((a::e).flatMap λx=>(cH L).map (x::·))=_;rw[eX]
  conv=>lhs;arg 1;rw[ht,bM]
  rfl
theorem TM{fs:List (Str×List Str)}{j:Nat}(hj:j<fs.length)(a:Str):∃t,uW fs [(tN fs j,a)]=((fs.map bN).map hdD).set j .none::t:=by
 have hf:fs[j]?=some fs[j]:=aF hj
 have e1:uW fs [(tN fs j,a)]=cH ((fs.map bN).set j [.none]):=by
  rw[<- BQ (fs.map bN) j (fs[j].2.map aV) (by rw[aH,hf];rfl) (by simp)];unfold uW;apply gA;intro c _;show(List.find? (λr=>kZ r.1 c) [(tN fs j,a)]).isNone=_
  cases hx:kZ (tN fs j) c with
  |true=>
   show(match kZ (tN fs j) c with | true=>some (tN fs j,a) | false=>none).isNone=!kZ (tN fs j) c;rw[hx];rfl
  |false=>
   show(match kZ (tN fs j) c with | true=>some (tN fs j,a) | false=>none).isNone=!kZ (tN fs j) c;rw[hx];rfl
 obtain⟨t,ht⟩:=CQ ((fs.map bN).set j [.none]) λe he=>by
  rcases List.mem_or_eq_of_mem_set he with he | rfl
  ·obtain⟨f,_,rfl⟩:=aX.mp he;unfold bN;simp
  ·simp
 refine⟨t,?_⟩;rw[e1,ht,IJ];rfl
theorem T2(fs:List (Str×List Str))(L:List (List D))(a b:Str):rW fs [(L,a),(fs.map bN,b)]:=λc hc z=>by
 have:=jK.mp z (fs.map bN,b) (by simp);exact this ((iR _ c).mp hc)
theorem S8{α:Type}(v:List α)(x:α):jZ (v++[x]) none (some (-1))=v:=by
 unfold jZ;rw[HT.sIx_none]
 have e:HT.sIx (v++[x]).length (v++[x]).length (some (-1))=v.length:=by
  rw[aZ];show _=_;unfold HT.sIx;simp
  try omega
 rw[e,vB,zK,List.take_append_of_le_length (aN _),cX]
def O2(s:List Nat):D:=.list (s.map λ(n:Nat)=>bS (n:Int))
theorem OO{fs:List (Str×List Str)}{an:List Str}(F:fK fs an){k n v s:Str}{y m b:Tr}{L:List (List D)}(hq:N0 fs (.tuple [.str k,.str n,.str v])=true)(hl:L.length=fs.length)(hf:HS fs (.ask k n v s y m) L):(dQ fs (.ask k n v s (.ask k n v s y b) m) L).length=(kR (.ask k n v s y m)).length:=by
 obtain⟨f,hj,_⟩:=EO F hq;have hjl:jx fs n<L.length:=by rw[hl];exact(aD.mp hj).1
 have he:L[jx fs n]?=some L[jx fs n]:=aF hjl;obtain⟨h0,hy,hm⟩:=hf;have e1:(eJ L (jx fs n) (eF fs k n v s))[jx fs n]?=some (L[jx fs n].filter (eF fs k n v s)):=by rw[xV,if_pos rfl,he];rfl
 have a:=J5 (g:=eF fs k n v s) e1 λx hx=>(bO.mp hx).2;have c:=G7 (g:=λx=>!eF fs k n v s x) e1 λx hx=>by rw[(bO.mp hx).2];rfl
 show(if fJ L then[]else(if fJ (eJ L (jx fs n) (eF fs k n v s))then[]else dQ fs y (eJ (eJ L (jx fs n) (eF fs k n v s)) (jx fs n) (eF fs k n v s))++dQ fs b (eJ (eJ L (jx fs n) (eF fs k n v s)) (jx fs n) λx=>!eF fs k n v s x))++dQ fs m (eJ L (jx fs n) λx=>!eF fs k n v s x)).length=(kR y++kR m).length;rw[if_neg (by rw[h0];decide),if_neg (by rw[hy.some];decide),a,A2 c,dG,aZ,aZ,A8 hy,A8 hm]
theorem MQ{fs:List (Str×List Str)}{s:List Nat}(h:yR fs s):IC (fs.map bN)=s.sum:=by
 rw[<- h.sz];unfold IC;rw[bT];congr 1;apply mF;intro f _;have:=kQ f;show(bN f).length-1=f.2.length;omega
theorem R0{α:Type}{l:List α}{k:Nat}{x:α}(h:x∈l.take k++l.drop (k+1)):x∈l:=(dO.mp h).elim fM MN
end K63
namespace K63
set_option maxHeartbeats 4000000
open PySem L2 TL
theorem VC:cQ ["self","case"] ["self","case"] (bJ (pX (top 17))):=⟨rfl,rfl,rfl,by decide +kernel,rfl,by decide +kernel,by decide +kernel⟩
theorem aC4:cQ ["field"] ["field"] (bJ (top 22)):=oK
theorem aC6:cQ ["form","many","field"] ["form"] (bJ (top 20)):=oK
theorem YZ:cQ ["beginnings","entries","longer","beginning","entry"] ["beginnings","entries"] (bJ (top 23)):=oK
theorem aC5:cQ ["form","cases","field"] ["form"] (bJ (top 21)):=oK
theorem YD:cQ ["_law_script","_law_way"] ["_law_script"] (bJ (top 56)):=oK
theorem YC:cQ ["_law_tape_here","_law_many","_law_script","_law_spot","_law_cell","_law_left","_law_mixed"] ["_law_tape_here","_law_many"] (bJ (top 57)):=oK
theorem YB:cQ ["_law_tape_here","_law_many","_law_letters","_law_way","_law_some","_law_turn","_law_base","_law_size","_law_names_here","_law_at","_law_start"] ["_law_tape_here","_law_many"] (bJ (top 58)):=oK
theorem YA:cQ ["_law_tape_here","_law_fields","_law_values","_law_many","_law_names_here","_law_some","_law_k","_law_size","_law_words"] ["_law_tape_here","_law_fields","_law_values"] (bJ (top 59)):=oK
theorem X9:cQ ["_law_form_here"] ["_law_form_here"] (bJ (top 60)):=oK
theorem X8:cQ ["_law_form_here","_law_cases_here","_law_values","_law_longer","_law_case"] ["_law_form_here"] (bJ (top 61)):=oK
theorem YX:cQ ["form","rule","case"] ["form","rule","case"] (bJ (top 28)):=oK
theorem YW:cQ ["form","rules","case","rule"] ["form","rules","case"] (bJ (top 29)):=oK
theorem X7:cQ ["_law_tape_here","_law_values","_law_part_here"] ["_law_tape_here","_law_values"] (bJ (top 62)):=oK
theorem X6:cQ ["_law_tape_here","_law_form_here","_law_lets","_law_values","_law_part_here"] ["_law_tape_here","_law_form_here"] (bJ (top 63)):=oK
theorem X5:cQ ["_law_rule_here","_law_case"] ["_law_rule_here","_law_case"] (bJ (top 64)):=oK
theorem X4:cQ ["_law_rules","_law_case","_law_rule_here"] ["_law_rules","_law_case"] (bJ (top 65)):=oK
theorem YJ:cQ ["form","rule","cases","case"] ["form","rule","cases"] (bJ (top 49)):=oK
theorem YN:cQ ["form","rule","cases"] ["form","rule","cases"] (bJ (top 45)):=oK
theorem YO:cQ ["rule","cases","answers"] ["rule","cases","answers"] (bJ (top 44)):=oK
theorem YL:cQ ["form","rule","told","number","field"] ["form","rule"] (bJ (top 47)):=oK
theorem YK:cQ ["form","rule","number","entry","let","more"] ["form","rule","number","entry"] (bJ (top 48)):=oK
theorem YG:cQ ["rules","number"] ["rules","number"] (bJ (top 52)):=oK
theorem YE:cQ ["form","rule","against"] ["form","rule","against"] (bJ (top 54)):=oK
theorem YT:cQ ["lets","number","let"] ["lets","number","let"] (bJ (top 34)):=oK
theorem K9:cQ ["form","rules","most","answers","case"] ["form","rules","most"] (bJ (top 30)):=oK
theorem YY:cQ ["tree"] ["tree"] (bJ (top 25)):=oK
theorem aDa:cQ ["question","field"] ["question","field"] (bJ (top 4)):=oK
theorem aDc:cQ ["form","question"] ["form","question"] (bJ (top 2)):=oK
theorem aDb:cQ ["question","stray","field"] ["question","stray","field"] (bJ (top 3)):=oK
theorem aDd:cQ ["form","question","stray","case","number"] ["form","question","stray","case"] (bJ (top 1)):=oK
theorem aC8:cQ ["side","sides"] ["side","sides"] (bJ (top 6)):=oK
theorem aC9:cQ ["form","question","stray","rows","sides"] ["form","question","stray","rows"] (bJ (top 5)):=oK
theorem aC7:cQ ["rows","numbers"] ["rows","numbers"] (bJ (top 8)):=oK
theorem YR:cQ ["form","rows","case","number"] ["form","rows"] (bJ (top 39)):=oK
theorem YV:cQ ["form"] ["form"] (bJ (top 32)):=oK
theorem YU:cQ ["form","tree","lets","number","held","yes","no","rules","let","part"] ["form","tree","lets"] (bJ (top 33)):=oK
theorem K8:cQ ["form","tree","rules"] ["form","tree"] (bJ (top 31)):=oK
theorem X3:cQ ["_law_tape_here","_law_form_here","_law_lets","_law_left","_law_sizes","_law_at","_law_values","_law_value","_law_stray","_law_some","_law_rest","_law_inside","_law_outside","_law_room","_law_k","_law_part_here","_law_least_one","_law_most_one","_law_one","_law_yes"] ["_law_tape_here","_law_form_here","_law_lets","_law_left"] (bJ (top 66)):=oK
theorem YM:cQ ["form","rule","against","told","number","entry","wide"] ["form","rule","against"] (bJ (top 46)):=oK
theorem YH:cQ ["form","rules","number","answers","others","case"] ["form","rules","number","answers"] (bJ (top 51)):=oK
theorem YI:cQ ["form","rules","answers","told","number"] ["form","rules","answers"] (bJ (top 50)):=oK
theorem YQ:cQ ["form","rules","answers","told","left","rule","wide"] ["form","rules","answers"] (bJ (top 43)):=oK
theorem YF:cQ ["form","rules","answers","shows","left","number","rule","more"] ["form","rules","answers"] (bJ (top 53)):=oK
theorem K6:cQ ["form","rules","answers","found"] ["form","rules"] (bJ (top 42)):=oK
theorem YS:cQ ["form","rows","question","sides","yes","no"] ["form","rows"] (bJ (top 38)):=oK
theorem K7:cQ ["form","rules","answers"] ["form","rules"] (bJ (top 37)):=oK
theorem K5:cQ ["_law_way","_law_form_here","_law_thing"] ["_law_way","_law_form_here","_law_thing"] (bJ (top 67)):=oK
theorem X2:cQ ["_law_way","_law_form_here","_law_thing","_law_told_here","e"] ["_law_way","_law_form_here","_law_thing"] (bJ (top 68)):=oK
theorem X1:cQ ["_law_tape_here","_law_form_here","_law_rules","_law_bare","_law_way","_law_told_here"] ["_law_tape_here"] (bJ (top 69)):=oK
theorem X0:cQ ["_law_tape_here","_law_names_here","_law_sizes","_law_some","_law_form_here","_law_whole_here","_law_many","_law_values","_law_at","_law_part_here","_law_rules","_law_bare","_law_way","_law_due","_law_told_here"] ["_law_tape_here"] (bJ (top 70)):=oK
theorem QL:cQ ["_law_script","_law_tape_here","_law_names_here","_law_form_here","_law_many","_law_tree","_law_bare","_law_told_here"] ["_law_script"] (bJ (top 71)):=oK
section
variable{P:bE}{w:World}{K:aG}{mg:Str->Option Value}{base:Heap}{c_JudgeError c_TooMany c_NoPlace c_NoRow c_NoSuch c_NoLine c_NoText c_NoRule a0_NoRule:Addr}{f0_NoRule:eI}{a_0 a_1 a_2 a_3 a_4 a_5 a_6 a_7 a_8 a_9 a_10 a_11 a_12 a_13 a_14 a_15 a_16 a_17 a_18 a_19 a_20 a_21 a_22 a_23 a_24 a_25 a_26 a_27 a_28 a_29 a_30 a_31 a_32 a_33 a_34 a_35 a_36 a_37 a_38 a_39 a_40 a_41 a_42 a_43 a_44 a_45 a_46 a_47 a_48 a_49 a_law:Addr}{f_0 f_1 f_2 f_3 f_4 f_5 f_6 f_7 f_8 f_9 f_10 f_11 f_12 f_13 f_14 f_15 f_16 f_17 f_18 f_19 f_20 f_21 f_22 f_23 f_24 f_25 f_26 f_27 f_28 f_29 f_30 f_31 f_32 f_33 f_34 f_35 f_36 f_37 f_38 f_39 f_40 f_41 f_42 f_43 f_44 f_45 f_46 f_47 f_48 f_49 f_law:eI}{t_MOST_CASES t_MOST_RULES t_MOST_CASES_BACK t_MOST_CASES_SHORTENED:Tok}(T:Txt K mg c_JudgeError c_TooMany c_NoPlace c_NoRow c_NoSuch c_NoLine c_NoText c_NoRule a0_NoRule f0_NoRule a_0 a_1 a_2 a_3 a_4 a_5 a_6 a_7 a_8 a_9 a_10 a_11 a_12 a_13 a_14 a_15 a_16 a_17 a_18 a_19 a_20 a_21 a_22 a_23 a_24 a_25 a_26 a_27 a_28 a_29 a_30 a_31 a_32 a_33 a_34 a_35 a_36 a_37 a_38 a_39 a_40 a_41 a_42 a_43 a_44 a_45 a_46 a_47 a_48 a_49 a_law f_0 f_1 f_2 f_3 f_4 f_5 f_6 f_7 f_8 f_9 f_10 f_11 f_12 f_13 f_14 f_15 f_16 f_17 f_18 f_19 f_20 f_21 f_22 f_23 f_24 f_25 f_26 f_27 f_28 f_29 f_30 f_31 f_32 f_33 f_34 f_35 f_36 f_37 f_38 f_39 f_40 f_41 f_42 f_43 f_44 f_45 f_46 f_47 f_48 f_49 f_law t_MOST_CASES t_MOST_RULES t_MOST_CASES_BACK t_MOST_CASES_SHORTENED)
include T
theorem AS:bX P w K mg base eR 1 a0_NoRule f0_NoRule ["self","case"] (IU c_NoRule):=WN T.F0_NoRule VC T.T_NoRule rfl
theorem aG4:bX P w K mg base eR 1 a_9 f_9 ["field"] (bD K MX):=by
 refine pZ T.D_9.F aC4 (λds Q h=>by obtain⟨f,rfl,hf,h⟩:=h;rfl) λcdv Ar outer s H E hr ds Q h=>?_;obtain⟨f,rfl,hf,h⟩:=h;have nd:=aC4.nd;refine⟨_,(bG (dL (dN cG fY (cS bR eG (aL 0) aP) (dI (aA jH aK))))),?_⟩;show aDf _ _ [.val (kE f)];refine⟨_,rfl,_,rfl,aC rfl,?_,h⟩;rw[aE];simp only[cE,iG];omega
theorem aG6
  (F_9:bX P w K mg base eR 1 a_9 f_9 ["field"] (bD K MX)):bX P w K mg base eR 2 a_7 f_7 ["form"] (bD K U5):=by
 refine pZ T.D_7.F aC6 (λds Q h=>by obtain⟨fs,an,rfl,F,h⟩:=h;rfl) λcdv Ar outer s H E hr ds Q h=>?_;obtain⟨fs,an,rfl,F,h⟩:=h;have nd:=aC6.nd;refine⟨_,(aQ (ss 1 nd aP)
 (aQ (sf (fU (cS bR eG (aL 0) aP)) (dH (pn 2 nd))
 (bG (ss 1 nd (dN mJ yK (aL 1) (cB kF (aA (cd F_9 T.D_9 hr (aA (aL 2) aK)) aK) cW T.b_len gU)))))
 (bG (dL (aL 1))))),?_⟩
 show iM _ _ _ [.val (eM fs an),.un,.un];refine cV (.int 1) (λq hq=>hq) ?_
 refine hJ (ts:=fs.map kE) (λR h=>⟨_,rfl,_,rfl,_,rfl,h⟩)
  (λk σ=>∃s2:Sl,σ=[.val (eM fs an),.val (.int ((fZ (fs.take k):Nat):Int)),s2]) ⟨_,rfl⟩ (λk x σ' hx hP=>?_) λσ' hP=>?_
 ·obtain⟨s2,rfl⟩:=hP;rw[aH]at hx;obtain⟨f,hfk,rfl⟩:=bK.mp hx;have v5:=(F.vs f (aR hfk)).2.1;have el:(f.2.map aV++[dY]).length=f.2.length+1:=by rw[aZ,aE];rfl
  refine mT (.int ((fZ (fs.take (k+1)):Nat):Int)) (λq hq=>⟨_,rfl,_,rfl,f,rfl,v5,?_⟩) ⟨_,rfl⟩;refine⟨.inr ⟨by omega,by rw[el];omega⟩,?_⟩;have e:fs.take (k+1)=fs.take k++[f]:=by rw[cN,hfk];rfl
  rw[e,pC]at hq;show q (.int (((fZ (fs.take k):Nat):Int)*(((f.2.map aV++[dY]).length:Nat):Int)));rw[el,<- uL];exact hq
 ·obtain⟨s2,rfl⟩:=hP;rw[aE,cX];exact⟨_,rfl,h⟩
theorem aE4:bX P w K mg base eR 1 a_10 f_10 ["beginnings","entries"] (fT K XZ):=by
 refine ZD T.D_10.F YZ (λds Q h=>by obtain⟨bs,es,rfl,hb,hz,he,h⟩:=h;rfl) λcdv Ar outer s H E hr ds Q h=>?_;obtain⟨bs,es,rfl,hb,hz,he,h⟩:=h;have nd:=YZ.nd;refine⟨_,(aQ (so 2 nd aK)
 (aQ (sf (fU (aL 0)) (dH (pn 3 nd))
 (bG (sf (fU (aL 1)) (dH (pn 4 nd))
 (bG (xG (i:=2) (pv 2) (dN cG fY (aL 3) (dI (aA (aL 4) aK))) (pb:=λh=>oR (sB eO iQ iP nM (pv 2) h)))))))
 (bG (qF (pv 2))))),?_⟩
 show iM _ _ _ [.val (.list (bs.map aM)),.val (.tuple es),.un,.un,.un];refine mQ [] (by decide) (λq hq=>hq) ?_
 refine hJ (ts:=bs.map aM) (λR h=>⟨_,rfl,_,rfl,h⟩)
  (λk σ=>∃s3 s4:Sl,σ=[.val (.list (bs.map aM)),.val (.tuple es),.own ((lR (bs.take k) es).map aM),s3,s4]) ⟨_,_,rfl⟩ (λk x σ' hx hP=>?_) λσ' hP=>?_
 ·obtain⟨s3,s4,rfl⟩:=hP;rw[aH]at hx;obtain⟨b,hbk,rfl⟩:=bK.mp hx;have hkl:=(aD.mp hbk).1;have hbl:=hb b (aR hbk)
  have hl1:(lR (bs.take k) es).length<=50000:=by
   rw[A0,bI];exact cP (OX _ (by omega)) hz
  have e:bs.take (k+1)=bs.take k++[b]:=by rw[cN,hbk];rfl
  have e2:lR (bs.take (k+1)) es=lR (bs.take k) es++es.map λx=>b++[x]:=by
   unfold lR;rw[e,bY,List.flatten_append];show _++[es.map λx=>b++[x]].flatten=_;rw[List.flatten_singleton]
  refine aFn (ts:=es) (λR h=>⟨_,rfl,_,rfl,h⟩)
   (λj σ=>∃s4:Sl,σ=[.val (.list (bs.map aM)),.val (.tuple es),.own ((lR (bs.take k) es++(es.take j).map λx=>b++[x]).map aM),.val (.tuple b),s4]) ⟨s4,by rw[ZR,pM,dG];rfl⟩ (λj x σ' hx hP=>?_) λσ' hP=>?_
  ·obtain⟨s4,rfl⟩:=hP;refine zQ (ts:=(lR (bs.take k) es++(es.take j).map λx=>b++[x]).map aM) (.tuple (b++[x])) rfl (by rw[aE,aZ,aE,bI];omega) (λq hq=>⟨_,rfl,_,rfl,aC rfl,?_,hq⟩) ⟨.val x,?_⟩
   ·simp only[cE,iG];omega
   ·rw[cN,hx];show _=[_,_,Sl.own ((lR (bs.take k) es++(es.take j++[x]).map λx=>b++[x]).map aM),_,_];rw[bY (l₁:=es.take j),<- jX,bY (l₂:=[x].map λx=>b++[x])];rfl
  ·obtain⟨s4,rfl⟩:=hP;rw[cX,<- e2];exact⟨_,_,rfl⟩
 ·obtain⟨s3,s4,rfl⟩:=hP;rw[aE,cX];exact⟨_,rfl,h⟩
theorem aG5
  (F_9:bX P w K mg base eR 1 a_9 f_9 ["field"] (bD K MX))
  (F_10:bX P w K mg base eR 1 a_10 f_10 ["beginnings","entries"] (fT K XZ))
  (F_7:bX P w K mg base eR 2 a_7 f_7 ["form"] (bD K U5)):bX P w K mg base eR 3 a_8 f_8 ["form"] (fT K Z4):=by
 refine ZD T.D_8.F aC5 (λds Q h=>by obtain⟨fs,an,rfl,F,hm,h⟩:=h;rfl) λcdv Ar outer s H E hr ds Q h=>?_;obtain⟨fs,an,rfl,F,hm,h⟩:=h;have nd:=aC5.nd;refine⟨_,(aQ (gT (dE nU sD (cd F_7 T.D_7 hr (aA (aL 0) aK)) (rN rfl T.c_MOST_CASES))
 (bG wA)
 eY)
 (aQ (so 1 nd (aA (dI aK) aK))
 (aQ (sf (fU (cS bR eG (aL 0) aP)) (dH (pn 2 nd))
 (lE 1 (bG (sF 1 nd (cF F_10 T.D_10 hr (aA (aL 1) (aA (cd F_9 T.D_9 hr (aA (aL 2) aK)) aK)))))))
 (bG (qF (pv 1)))))),?_⟩
 show iM _ _ _ [.val (eM fs an),.un,.un];refine gL (λb=>b=false) (λq hq=>⟨_,rfl,fs,an,rfl,F,hq _ (decide_eq_false (by omega))⟩) (λhT=>by cases hT) λ_=>?_
 try unfold kC
 dsimp only;refine mQ [.tuple []] (by decide) (λq hq=>⟨aC rfl,hq⟩) ?_
 refine hJ (ts:=fs.map kE) (λR h=>⟨_,rfl,_,rfl,_,rfl,h⟩)
  (λk σ=>∃s2:Sl,σ=[.val (eM fs an),.own ((FC (fs.take k)).map aM),s2]) ⟨_,rfl⟩ (λk x σ' hx hP=>?_) λσ' hP=>?_
 ·obtain⟨s2,rfl⟩:=hP;rw[aH]at hx;obtain⟨f,hfk,rfl⟩:=bK.mp hx;have v5:=(F.vs f (aR hfk)).2.1;have n5:=F.n5;have e:fs.take (k+1)=fs.take k++[f]:=by rw[cN,hfk];rfl
  have hmk:fZ (fs.take k)<=2000:=cP (JP k) hm;refine⟨_,rfl,?_⟩;refine⟨_,rfl,_,rfl,f,rfl,v5,FC (fs.take k),bN f,rfl,λc hc=>?_,?_,?_,?_⟩
  ·have:=(iT (OP _ c hc)).1;rw[bI]at this;omega
  ·rw[pG];unfold bN;rw[aZ,aE];exact cP (nO hmk (show f.2.length+1<=6 by omega)) (by decide)
  ·unfold bN;rw[aZ,aE];simp only[cE,iG];omega
  ·rw[e,yB];exact⟨_,rfl⟩
 ·obtain⟨s2,rfl⟩:=hP;rw[aE,cX];exact⟨_,rfl,h⟩
theorem aEf:bX P w K mg base eR 1 a_35 f_35 ["_law_script"] (fT K XN):=by
 refine ZD T.D_35.F YD (λds Q h=>by obtain⟨ns,rfl,hl,h⟩:=h;rfl) λcdv Ar outer s H E hr ds Q h=>?_;obtain⟨ns,rfl,hl,h⟩:=h;have nd:=YD.nd;refine⟨_,(aQ (ss 1 nd aP)
 (aQ (gT (dE nU sD (cB kF (aA (aL 0) aK) cW T.b_len gU) aP)
 (bG (ss 1 nd (dN oY LN (cS bR eG (aL 0) aP) aP)))
 eY)
 (bG (zM (SR (aA (fC iK nL (aL 0) gM (gD aP)) (aA aP (aA aP (aA (aL 1) aK))))))))),?_⟩
 show iM _ _ _ [.val (.list (ns.map bS)),.un];refine cV (.int 0) (λq hq=>hq) ?_;refine vE (0<ns.length) (λd=>∃c:Int,d=.int c/\(c=0\/c=1)) (λq hq=>⟨_,rfl,hq _ λhb=>?_⟩) (λhn q hq=>?_) (.int 0) rfl ⟨0,rfl,.inl rfl⟩ ?_
 ·have hb':((ns.map bS).length:Int)>0:=of_decide_eq_true hb;rw[aE]at hb';omega
 ·have e:L2.atI (ns.map bS) 0=some (.int ns[0]):=L2.eD (j:=0) (by rw[aH,aF hn];rfl);refine⟨_,rfl,_,e,(show(0:Int)<2 by decide),hq _ ⟨_,rfl,?_⟩⟩;omega
 rintro _ ⟨c,rfl,hc⟩
 have ecut:jZ (ns.map bS) none (some 63)=ns.map bS:=by
  have:=lT (ns.map bS) 63;rw[jG (by rw[aE];exact hl)]at this;exact this
 refine⟨_,rfl,_,rfl,(aC rfl),?_⟩;rw[ecut];exact h c hc
theorem aEe:bX P w K mg base eR 1 a_36 f_36 ["_law_tape_here","_law_many"] (bD K uQ):=by
 refine pZ T.D_36.F YC (λds Q h=>by obtain⟨ns,m,rfl,hl,hm0,hm1,h⟩:=h;rfl) λcdv Ar outer s H E hr ds Q h=>?_;obtain⟨ns,m,rfl,hl,hm0,hm1,h⟩:=h;have nd:=YC.nd;refine⟨_,(aQ (ss 2 nd (wP (i:=0) 0 (AO bR (pv 0) rG (by intro _ _;rfl))))
 (aQ (ss 3 nd (wP (i:=0) 1 (AO bR (pv 0) rG (by intro _ _;rfl))))
 (aQ (vD (i:=0) 1 (dN cG fY (aL 3) aP) (EG (pv 0) rG wE) (λhe hg=>EE he hg))
 (aQ (ss 4 nd aP)
 (aQ (gT (dE nU sD (cB kF (aA (aL 2) aK) cW T.b_len gU) aP)
 (bG (ss 4 nd (cS bR eG (aL 2) (dN oY LN (L8 (dE nV sZ (wP (i:=0) 3 (AO bR (pv 0) rG (by intro _ _;rfl))) aP) (dN EH LN (aL 3) aP) (aL 3)) (cB kF (aA (aL 2) aK) cW T.b_len gU)))))
 eY)
 (aQ (gT (dE nV sZ (wP (i:=0) 3 (AO bR (pv 0) rG (by intro _ _;rfl))) aP)
 (aQ (gT (dE nV sZ (dN oY LN (aL 3) aP) aP)
 (bG (vD (i:=0) 2 (dN EH LN (aL 4) aP) (EG (pv 0) rG wE) (λhe hg=>EE he hg)))
 eY)
 (aQ (ss 5 nd (wP (i:=0) 2 (AO bR (pv 0) rG (by intro _ _;rfl))))
 (aQ (vD (i:=0) 2 (dN EH LN (aL 5) (aL 1)) (EG (pv 0) rG wE) (λhe hg=>EE he hg))
 (bG (dL (dN oY LN (aL 5) (aL 1)))))))
 eY)
 (aQ (ss 6 nd (dN oY LN (dN mJ yK (dN cG fY (dN oY LN (aL 4) aP) aP) (dN cG fY (dN cG fY (dN mJ yK (dN oY LN (aL 3) aP) aP) aP) (aL 3))) aP))
 (aQ (ss 6 nd (dN oY LN (dN cG fY (dN cG fY (dN mJ yK (aL 6) (aL 6)) (dN mJ yK aP (aL 6))) (aL 3)) aP))
 (bG (dL (dN oY LN (dN oY LN (dN mJ yK (aL 6) aP) aP) (aL 1)))))))))))),?_⟩
 show iM _ _ _ [.val (iD ns),.val (.int m),.un,.un,.un,.un,.un];have p60:(0:Int)<60:=by decide
 refine cV (.list (ns.map bS)) (λq hq=>⟨ns,rfl,hq⟩) ?_;refine dF (λd=>∃a:Int,d=.int a/\0<=a) (λq hq=>⟨ns,rfl,λa ha=>hq _ ⟨a,rfl,ha⟩⟩) ?_;rintro _ ⟨a,rfl,ha⟩;refine D6 ns rfl (a+1) (λq hq=>⟨_,rfl,hq⟩) (by omega) ?_;refine cV (.int 0) (λq hq=>hq) ?_;refine vE (0<ns.length) (λd=>∃c:Int,d=.int c) (λq hq=>⟨_,rfl,hq _ λhb=>?_⟩) (λhn q hq=>?_) (.int 0) rfl ⟨0,rfl⟩ ?_
 ·have hb':((ns.map bS).length:Int)>0:=of_decide_eq_true hb;rw[aE]at hb';omega
 ·have hp:(0:Int)<((ns.map bS).length:Nat):=by rw[aE];omega
  refine⟨_,rfl,ns,rfl,λc hc=>?_⟩;show(if decide (c=1)=true then _ else _);split
  ·obtain⟨x,hx⟩:=HQ hn (a / 60);exact⟨_,rfl,⟨by decide,by decide⟩,_,rfl,hp,_,hx,hq _ ⟨x,rfl⟩⟩
  ·obtain⟨x,hx⟩:=HQ hn a;exact⟨_,rfl,_,rfl,hp,_,hx,hq _ ⟨x,rfl⟩⟩
 rintro _ ⟨c,rfl⟩;refine gL (λ_=>True) (λq hq=>⟨ns,rfl,λw hw=>hq _ trivial⟩) (λ_=>?_) λ_=>?_
 ·refine gL (λ_=>True) (λq hq=>⟨_,rfl,p60,hq _ trivial⟩) (λ_=>?_) λ_=>?_
  ·refine EI ns rfl (c / 2) (λq hq=>⟨_,rfl,⟨by decide,by decide⟩,hq⟩) ?_;dsimp only;refine dF (λd=>∃b:Int,d=.int b) (λq hq=>⟨ns,rfl,λb=>hq _ ⟨b,rfl⟩⟩) ?_;rintro _ ⟨b,rfl⟩;refine wG ns rfl (b / m) (λq hq=>⟨_,rfl,_,rfl,⟨hm0,by omega⟩,hq⟩) ?_;exact⟨_,rfl,_,rfl,hm0,h _ (jY _ (by omega)) (iV _ hm0)⟩
  ·unfold kC;dsimp only;refine dF (λd=>∃b:Int,d=.int b) (λq hq=>⟨ns,rfl,λb=>hq _ ⟨b,rfl⟩⟩) ?_;rintro _ ⟨b,rfl⟩;refine wG ns rfl (b / m) (λq hq=>⟨_,rfl,_,rfl,⟨hm0,by omega⟩,hq⟩) ?_;exact⟨_,rfl,_,rfl,hm0,h _ (jY _ (by omega)) (iV _ hm0)⟩
 ·unfold kC;dsimp only;have q1:(0:Int)<1000003:=by decide
  have q2:(0:Int)<997:=by decide
  have q3:(0:Int)<1000033:=by decide
  have q4:(0:Int)<999983:=by decide
  have q5:(0:Int)<65537:=by decide
  have c0:(0:Int)<=c%1000003/\c%1000003<1000003:=⟨jY _ (by decide),iV _ (by decide)⟩;have a0:(0:Int)<=a%997/\a%997<997:=⟨jY _ (by decide),iV _ (by decide)⟩;refine dF (λd=>∃x:Int,d=.int x/\0<=x/\x<1000033) (λq hq=>⟨_,rfl,q1,_,rfl,q2,.inr ⟨by decide,by decide⟩,_,rfl,.inl ⟨by omega,by omega⟩,q3,hq _ ⟨_,rfl,jY _ (by decide),iV _ (by decide)⟩⟩) ?_;rintro _ ⟨x,rfl,x0,x1⟩;refine dF (λd=>∃x:Int,d=.int x/\0<=x/\x<999983) (λq hq=>⟨_,rfl,_,rfl,.inl ⟨by omega,by omega⟩,_,rfl,.inl ⟨by decide,by decide⟩,_,rfl,q4,hq _ ⟨_,rfl,jY _ (by decide),iV _ (by decide)⟩⟩) ?_;rintro _ ⟨y,rfl,y0,y1⟩;exact⟨_,rfl,.inl ⟨by omega,by omega⟩,q5,_,rfl,hm0,h _ (jY _ (by omega)) (iV _ hm0)⟩
theorem aEd
  (F_36:bX P w K mg base eR 1 a_36 f_36 ["_law_tape_here","_law_many"] (bD K uQ)):bX P w K mg base eR 2 a_37 f_37 ["_law_tape_here","_law_many"] (bD K KZ):=by
 refine pZ T.D_37.F YB (λds Q h=>by obtain⟨ns,m,rfl,hl,hm1,hm5,h⟩:=h;rfl) λcdv Ar outer s H E hr ds Q h=>?_;obtain⟨ns,m,rfl,hl,hm1,hm5,h⟩:=h;have nd:=YB.nd;refine⟨_,(aQ (ss 2 nd eU)
 (aQ (ss 3 nd (cd F_36 T.D_36 hr (aA (aL 0) (aA aP aK))))
 (aQ (gT (dE nV sZ (aL 3) aP)
 (aQ (U2 (i:=4) nd rfl (by first | exact Or.inl rfl | exact Or.inr rfl) (jM (DL rfl)))
 (aQ (ss 5 nd (cd F_36 T.D_36 hr (aA (aL 0) (aA aP aK))))
 (bG (dL (fC iK nL (dN cG fY (fC iK nL (aL 4) (gD (aL 5)) gM) (fC iK nL (aL 4) gM (gD (aL 5)))) gM (gD (aL 1)))))))
 eY)
 (aQ (ss 6 nd (WR eU (aA (el (fr:=[none,some 2,some 0]) (N':=["_law_k","_law_letters","_law_tape_here"]) (lF (aA aP aK) (λh=>kD rfl T.b_range h)) (λb=>⟨(dH (pk 0)),kX,(cS bR eG (aL 1) (cd F_36 T.D_36 hr (aA (aL 2) (aA aP aK))))⟩)) aK) (λh ha=>sB PySem.F.plainAttrs_str PySem.F.slot_str_join PySem.F.type_str_join V8 h ha)))
 (aQ (gT (dE nV sZ (aL 3) aP)
 (aQ (ss 7 nd (dN cG fY aP (cd F_36 T.D_36 hr (aA (aL 0) (aA (dN vK JJ aP (aL 1)) aK)))))
 (aQ (sO (i:=8) (fr:=[none,some 6,some 7]) (N':=["_law_k","_law_base","_law_size"]) (lF (aA (aL 1) aK) (λh=>kD rfl T.b_range h)) (λb=>⟨(dH (pk 0)),kX,(fC iK nL (aL 1) gM (gD (dN cG fY (aL 2) (aL 0))))⟩) (λhi hY=>qH (show tF _ (bJ (top 58)) ["_law_tape_here","_law_many","_law_letters","_law_way","_law_some","_law_turn","_law_base","_law_size","_law_names_here","_law_at","_law_start"] ["_law_k","_law_base","_law_size"] [none,some 6,some 7]=true from by decide +kernel) nd rfl (by first | exact Or.inl rfl | exact Or.inr rfl) rfl hi hY rfl))
 (aQ (ss 5 nd (cd F_36 T.D_36 hr (aA (aL 0) (aA (aL 1) aK))))
 (aQ (dL (dN cG fY (fC iK nL (aL 8) (gD (aL 5)) gM) (fC iK nL (aL 8) gM (gD (aL 5)))))
 (lE 8 eY)))))
 eY)
 (aQ (ss 7 nd (dN cG fY aP (cd F_36 T.D_36 hr (aA (aL 0) (aA aP aK)))))
 (aQ (ss 9 nd (cd F_36 T.D_36 hr (aA (aL 0) (aA (aL 7) aK))))
 (aQ (ss 10 nd (cd F_36 T.D_36 hr (aA (aL 0) (aA aP aK))))
 (bG (dL (el (fr:=[none,some 6,some 2,some 7,some 9,some 10]) (N':=["_law_k","_law_base","_law_letters","_law_size","_law_at","_law_start"]) (lF (aA (aL 1) aK) (λh=>kD rfl T.b_range h)) (λb=>⟨(dH (pk 0)),kX,(dN cG fY (dN cG fY (fC iK nL (aL 1) gM (gD (aL 4))) (cS bR eG (aL 2) (dN oY LN (dN cG fY (aL 5) (aL 0)) aP))) (fC iK nL (aL 1) (gD (dN cG fY (aL 4) aP)) (gD (aL 3))))⟩)))))))))))),?_⟩
 show iM _ _ _ [.val (iD ns),.val (.int m),.un,.un,.un,.un,.un,.un,.un,.un,.un];refine cV (.str iW) (λq hq=>hq) ?_;refine dF (λd=>∃w:Int,d=.int w) (λq hq=>⟨_,rfl,ns,4,rfl,hl,by decide,by decide,λr _ _=>hq _ ⟨r,rfl⟩⟩) ?_;rintro _ ⟨w,rfl⟩;have nat:∀r:Int,0<=r->∃t:Nat,bS r=.int (t:Int)/\r=(t:Int):=λr h0=>⟨r.toNat,by rw[gR h0],(gR h0).symm⟩;refine gL (λb=>b=decide (w=0)) (λq hq=>⟨_,rfl,hq _ rfl⟩) (λ_=>?_) λ_=>?_
 ·refine cV (.list (zT.map aV)) (λq hq=>⟨by decide,hq⟩) ?_;refine dF (λd=>∃t:Nat,d=.int (t:Int)) (λq hq=>⟨_,rfl,ns,12,rfl,hl,by decide,by decide,λr h0 _=>hq _ ((nat r h0).imp λ_ e=>e.1)⟩) ?_;rintro _ ⟨t,rfl⟩;refine⟨_,rfl,_,rfl,_,rfl,_,rfl,?_,_,rfl,?_⟩
  ·rw[nQ,nQ,aE,aE,tM,lT,fH,bI];show 12-t+min t 12<=100000;omega
  ·show Q (.list (jZ (jZ (zT.map aV) (some (t:Int)) none++jZ (zT.map aV) none (some (t:Int))) none (some (m:Int))));rw[nQ,nQ,<- bY,nQ,tM,lT,lT];exact h _ (CY aE7 t (by omega))
 ·unfold kC;dsimp only;refine dF (λd=>∃z:Str,d=.str z/\z.cps.toList.length=8/\∀c∈z.cps.toList,c∈iW.cps.toList) (λq hq=>?_) ?_
  ·refine⟨_,rfl,?_⟩;refine JV (ts:=fV 8) (λR h=>⟨8,rfl,by decide,by decide,h⟩) (λ_ _ y=>∃c,c∈iW.cps.toList/\y=.str ⟨#[c]⟩) (by decide) (λj x q hx hq=>?_) λys hl' hy=>?_
   ·refine⟨_,rfl,_,rfl,ns,26,rfl,hl,by decide,by decide,λr h0 h1=>?_⟩;obtain⟨c,hc,hcc,_⟩:=tP (xs:=iW.cps.toList) (i:=r) h0 (by rw[yN];exact h1);exact⟨by decide,c,hcc,hq _ ⟨c,hc,rfl⟩⟩
   ·obtain⟨cs,rfl,hcl⟩:=F4 (ys:=ys) λy hy'=>by
     obtain⟨j,hj,rfl⟩:=MO.mp hy';have hjt:j<(fV 8).length:=by rw[<- hl'];exact hj
     exact hy j (fV 8)[j] _ (aF hjt) (aF hj)
    have hl8:cs.length=8:=by rw[aE,iX]at hl';exact hl'
    refine⟨cs.map λc=>⟨#[c]⟩,by rw[bT];rfl,?_,hq _ ⟨_,rfl,?_,?_⟩⟩
    ·rw[aE,bT,hl8]
     have:(MP ((λx:Str=>x.length)∘λc=>(⟨#[c]⟩:Str)) cs).sum=cs.length:=by
      clear hl8 hl' hy hcl
      induction cs with
      |nil=>rfl
      |cons a l ih=>rw[bM,List.sum_cons,ih,cE];show 1+_=_;omega
     rw[this,hl8];decide
    ·rw[show(Txt.join (Str.ofString "") (cs.map λc=>⟨#[c]⟩)).cps.toList=cs from A3 cs];exact hl8
    ·rw[show(Txt.join (Str.ofString "") (cs.map λc=>⟨#[c]⟩)).cps.toList=cs from A3 cs];exact hcl
  rintro _ ⟨z,rfl,hz8,hzl⟩
  have hz:z.length<=100000:=by
   have:z.length=z.cps.toList.length:=by simp[Str.length]
   omega
  refine gL (λb=>b=decide (w=1)) (λq hq=>⟨_,rfl,hq _ rfl⟩) (λ_=>?_) λ_=>?_
  ·refine dF (λd=>∃k:Nat,d=.int (k:Int)/\1<=k/\k+m<=9) (λq hq=>⟨_,rfl,_,rfl,ns,9-(m:Int),rfl,hl,by omega,by omega,λr h0 h1=>hq _ ⟨(1+r).toNat,by rw[gR (by omega)],by omega,by omega⟩⟩) ?_;rintro _ ⟨k,rfl,hk1,hk9⟩;refine cV (.list (((fN m).map λj:Nat=>Txt.slice z none (some ((k:Int)+(j:Int)))).map aV)) (λq hq=>?_) ?_
   ·refine mU (ts:=fV m) (λR h=>⟨_,rfl,(m:Int),rfl,by omega,by omega,by simpa using h⟩) (λx=>match x with | .int j=>.str (Txt.slice z none (some ((k:Int)+j))) | _=>.none) (by rw[iX];omega) (λx q hx hq=>?_) ?_
    ·obtain⟨j,hj,rfl⟩:=aX.mp hx;exact⟨_,rfl,_,rfl,_,rfl,hz,hq⟩
    ·unfold fV;rw[bT];rw[bT]at hq;exact hq
   refine dF (λd=>∃t:Nat,d=.int (t:Int)) (λq hq=>⟨_,rfl,_,rfl,ns,(m:Int),rfl,hl,by omega,by omega,λr h0 _=>hq _ ((nat r h0).imp λ_ e=>e.1)⟩) ?_;rintro _ ⟨t,rfl⟩;have hnb:=RN hz8 hzl hk1 hk9
   have fin:∀ys:List Str,wY m ys->(jZ (ys.map aV) (some (t:Int)) none).length+(jZ (ys.map aV) none (some (t:Int))).length<=100000/\Q (.list (jZ (ys.map aV) (some (t:Int)) none++jZ (ys.map aV) none (some (t:Int)))):=λys hy=>by
    have h1:=hy.1;rw[nQ,nQ,<- bY,aE,aE,tM,lT,fH,bI];exact⟨by omega,h _ (NN hy t)⟩
   exact⟨_,rfl,_,rfl,_,rfl,_,rfl,fin _ hnb⟩
  ·try unfold kC
   dsimp only;refine dF (λd=>∃k:Nat,d=.int (k:Int)/\1<=k/\k<=8) (λq hq=>⟨_,rfl,ns,8,rfl,hl,by decide,by decide,λr h0 h1=>hq _ ⟨(1+r).toNat,by rw[gR (by omega)],by omega,by omega⟩⟩) ?_;rintro _ ⟨k,rfl,hk1,hk8⟩;refine dF (λd=>∃t:Nat,d=.int (t:Int)/\t<k) (λq hq=>⟨_,rfl,_,rfl,ns,(k:Int),rfl,hl,by omega,by omega,λr h0 h1=>hq _ ⟨r.toNat,by rw[gR h0],by omega⟩⟩) ?_;rintro _ ⟨t,rfl,htk⟩;refine dF (λd=>∃s:Nat,d=.int (s:Int)) (λq hq=>⟨_,rfl,ns,26,rfl,hl,by decide,by decide,λr h0 _=>hq _ ((nat r h0).imp λ_ e=>e.1)⟩) ?_;rintro _ ⟨s,rfl⟩;refine mU (ts:=fV m) (λR h=>⟨_,rfl,(m:Int),rfl,by omega,by omega,by simpa using h⟩) (λx=>match x with | .int j=>.str (xC z t k (OJ ((s+j.toNat)%26))) | _=>.none) (by rw[iX];omega) (λx q hx hq=>?_) ?_
   ·obtain⟨j,hj,rfl⟩:=aX.mp hx;have e:((s:Int)+(j:Int))%26=(((s+j)%26:Nat):Int):=by omega
    have hc:=zX (i:=(s+j)%26) (FO _ (by decide));have hca:L2.atI iW.cps.toList (((s:Int)+(j:Int))%26)=some (OJ ((s+j)%26)):=by rw[e];exact L2.eD hc
    obtain⟨w1,w2⟩:=IN z hz8 t k (OJ ((s+j)%26));exact⟨_,rfl,_,rfl,hz,_,rfl,_,rfl,_,rfl,(show(0:Int)<26 by decide),by decide,_,hca,w1,_,rfl,_,rfl,_,rfl,hz,w2,hq⟩
   ·unfold fV;rw[bT];have:=h _ (NM hz8 hzl (k:=k) (t:=t) (s:=s) (m:=m) hk8 htk (by omega));rw[bT]at this;exact this
theorem aEc
  (F_36:bX P w K mg base eR 1 a_36 f_36 ["_law_tape_here","_law_many"] (bD K uQ))
  (F_37:bX P w K mg base eR 2 a_37 f_37 ["_law_tape_here","_law_many"] (bD K KZ)):bX P w K mg base eR 3 a_38 f_38 ["_law_tape_here","_law_fields","_law_values"] (bD K XM):=by
 refine pZ T.D_38.F YA (λds Q h=>by obtain⟨ns,f,v,rfl,hl,hf1,hf5,hv2,hv5,h⟩:=h;rfl) λcdv Ar outer s H E hr ds Q h=>?_;obtain⟨ns,f,v,rfl,hl,hf1,hf5,hv2,hv5,h⟩:=h;have nd:=YA.nd;refine⟨_,(aQ (ss 3 nd (dN cG fY aP (cd F_36 T.D_36 hr (aA (aL 0) (aA (aL 1) aK)))))
 (aQ (ss 4 nd (cd F_37 T.D_37 hr (aA (aL 0) (aA (aL 3) aK))))
 (aQ (so 5 nd aK)
 (aQ (sf (lF (aA (aL 3) aK) (λh=>kD rfl T.b_range h)) (dH (pn 6 nd))
 (aQ (ss 7 nd (dN cG fY aP (cd F_36 T.D_36 hr (aA (aL 0) (aA (dN vK JJ (aL 2) aP) aK)))))
 (aQ (ss 8 nd (aL 4))
 (aQ (gT (oN (uO (dE nU sD (aL 7) (aL 3)) (pW (dE nU sD (cd F_36 T.D_36 hr (aA (aL 0) (aA aP aK))) aP))))
 (bG (ss 8 nd (cd F_37 T.D_37 hr (aA (aL 0) (aA (aL 7) aK)))))
 eY)
 (bG (xG (i:=5) (pv 5) (dI (aA (cS bR eG (aL 4) (aL 6)) (aA (cY kB (aA (fC iK nL (aL 8) gM (gD (aL 7))) aK) eQ T.b_tuple iZ) aK))) (pb:=λh=>oR (sB eO iQ iP nM (pv 5) h))))))))
 (lE 5 (bG (dL (dI (aA (cY kB (aA (aL 5) aK) eQ T.b_tuple iZ) (aA (cY kB (aA (cd F_37 T.D_37 hr (aA (aL 0) (aA (dN cG fY aP (cd F_36 T.D_36 hr (aA (aL 0) (aA aP aK)))) aK))) aK) eQ T.b_tuple iZ) aK)))))))))),?_⟩
 show iM _ _ _ [.val (iD ns),.val (.int f),.val (.int v),.un,.un,.un,.un,.un,.un];refine dF (λd=>∃m:Nat,d=.int (m:Int)/\1<=m/\m<=f) (λq hq=>⟨_,rfl,_,rfl,ns,(f:Int),rfl,hl,by omega,by omega,λr h0 h1=>hq _ ⟨(1+r).toNat,by rw[gR (by omega)],by omega,by omega⟩⟩) ?_;rintro _ ⟨m,rfl,hm1,hmf⟩;refine dF (λd=>∃ys,wY m ys/\d=.list (ys.map aV)) (λq hq=>⟨_,rfl,_,rfl,ns,m,rfl,hl,hm1,by omega,λys hy=>hq _ ⟨ys,hy,rfl⟩⟩) ?_;rintro _ ⟨ys,hy,rfl⟩;refine mQ [] (by decide) (λq hq=>hq) ?_
 refine hJ (ts:=fV m) (λR h=>⟨_,rfl,(m:Int),rfl,by omega,by omega,by simpa using h⟩)
  (λj σ=>∃(fs:List (Str×List Str))(s6 s7 s8:Sl),σ=[.val (iD ns),.val (.int f),.val (.int v),.val (.int m),.val (.list (ys.map aV)),.own (fs.map kE),s6,s7,s8]/\fs.map (·.1)=ys.take j/\∀x∈fs,2<=x.2.length/\x.2.length<=v/\wY x.2.length x.2) ⟨[],_,_,_,rfl,by simp,λx hx=>by simp at hx⟩ (λj x σ' hx hP=>?_) λσ' hP=>?_
 ·obtain⟨hj,rfl⟩:=mI hx;obtain⟨fs,s6,s7,s8,rfl,hfn,hfv⟩:=hP;have hjy:j<ys.length:=by rw[hy.1];exact hj
  have hfl:fs.length<=j:=by
   have:=congrArg kU hfn;rw[aE,bI]at this;omega
  refine dF (λd=>∃k:Nat,d=.int (k:Int)/\2<=k/\k<=v) (λq hq=>⟨_,rfl,_,rfl,ns,(v:Int)-1,rfl,hl,by omega,by omega,λr h0 h1=>hq _ ⟨(2+r).toNat,by rw[gR (by omega)],by omega,by omega⟩⟩) ?_;rintro _ ⟨k,rfl,hk2,hkv⟩;refine cV (.list (ys.map aV)) (λq hq=>⟨_,rfl,hq⟩) ?_
  have fin:∀(ws:List Str)(n:Nat),wY n ws->k<=n->∃(fs':List (Str×List Str)),fs'.map (·.1)=ys.take (j+1)/\(∀x∈fs',2<=x.2.length/\x.2.length<=v/\wY x.2.length x.2)/\fs'.map kE=fs.map kE++[kE (ys[j],ws.take k)]:=λws n hw hkn=>by
   have hk:=NO hw hkn;refine⟨fs++[(ys[j],ws.take k)],?_,λx hx=>?_,by rw[bY];rfl⟩
   ·rw[bY,hfn,cN,aF hjy];rfl
   ·rcases dO.mp hx with hx | hx
    ·exact hfv x hx
    ·rw[aW.mp hx];show 2<=(ws.take k).length/\(ws.take k).length<=v/\wY (ws.take k).length (ws.take k);rw[hk.1];exact⟨hk2,hkv,hk⟩
  have hya:L2.atI (ys.map aV) (j:Int)=some (.str ys[j]):=TY hjy;refine gL (λb=>b=false->k<=m) (λq hq=>?_) (λ_=>?_) λhF=>?_
  ·refine⟨_,rfl,_,rfl,?_⟩;show(if decide ((k:Int)>(m:Int))=true then _ else _);by_cases e:(k:Int)>(m:Int)
   ·rw[if_pos (decide_eq_true e)];exact hq _ λz=>by cases z
   ·rw[if_neg (by simpa using e)];exact⟨_,rfl,ns,4,rfl,hl,by decide,by decide,λr _ _=>hq _ λ_=>by omega⟩
  ·refine⟨_,rfl,_,rfl,ns,k,rfl,hl,by omega,by omega,λws hw=>?_⟩;obtain⟨fs',h1,h2,h3⟩:=fin ws k hw (aN _);refine zQ (ts:=fs.map kE) (kE (ys[j],ws.take k)) rfl (by rw[aE];omega) (λq hq=>⟨_,rfl,_,rfl,_,hya,_,rfl,_,rfl,?_⟩) ⟨fs',_,_,_,by rw[h3];rfl,h1,h2⟩;show _/\q (.tuple [.str ys[j],.tuple (jZ (ws.map aV) none (some (k:Int)))]);rw[nQ,lT];exact⟨(aC rfl),hq⟩
  ·unfold kC;dsimp only;obtain⟨fs',h1,h2,h3⟩:=fin ys m hy (hF rfl);refine zQ (ts:=fs.map kE) (kE (ys[j],ys.take k)) rfl (by rw[aE];omega) (λq hq=>⟨_,rfl,_,rfl,_,hya,_,rfl,_,rfl,?_⟩) ⟨fs',_,_,_,by rw[h3];rfl,h1,h2⟩;show _/\q (.tuple [.str ys[j],.tuple (jZ (ys.map aV) none (some (k:Int)))]);rw[nQ,lT];exact⟨(aC rfl),hq⟩
 ·obtain⟨fs,s6,s7,s8,rfl,hfn,hfv⟩:=hP;rw[iX,jG (by rw[hy.1];exact aN _)]at hfn
  have hfl:fs.length=m:=by
   have:=congrArg kU hfn;rw[aE,hy.1]at this;exact this
  refine⟨_,rfl,_,rfl,_,rfl,_,rfl,ns,3,rfl,hl,by decide,by decide,λr h0 h1=>⟨ns,(2+r).toNat,by rw[gR (by omega)],hl,by omega,by omega,λan ha=>⟨(aC rfl),?_⟩⟩⟩;have hal:=ha.1;refine h fs an ⟨by omega,by omega,by rw[hfn,hfl];exact hy,λx hx=>?_,by omega,by omega,by rw[hal];exact ha⟩ (by omega) λx hx=>(hfv x hx).2.1;obtain⟨x1,x2,x3⟩:=hfv x hx;exact⟨x1,by omega,x3⟩
theorem aEb:bX P w K mg base eR 1 a_39 f_39 ["_law_form_here"] (bD K F1):=by
 refine pZ T.D_39.F X9 (λds Q h=>by obtain⟨fs,an,rfl,F,h⟩:=h;rfl) λcdv Ar outer s H E hr ds Q h=>?_;obtain⟨fs,an,rfl,F,h⟩:=h;have nd:=X9.nd;refine⟨_,(bG (dL (cY kB (aA (el (fr:=[none]) (N':=["_law_field"]) (fU (cS bR eG (aL 0) aP)) (λb=>⟨(dH (pk 0)),kX,(dN cG fY (cS bR eG (aL 0) aP) (dI (aA jH aK)))⟩)) aK) eQ T.b_tuple iZ))),?_⟩;have n5:=F.n5;have e:(fs.map kE).map (λx=>match x with | .tuple [_,.tuple vs]=>.tuple (vs++[.none]) | _=>x)=(fs.map bN).map aM:=by rw[bT,bT];rfl
 show jP (f1 tG) _ _ Q;dsimp only[jP,nY,vP];refine mU (ts:=fs.map kE) (λR h=>⟨_,rfl,_,rfl,_,rfl,h⟩) (λx=>match x with | .tuple [_,.tuple vs]=>.tuple (vs++[.none]) | _=>x) (by rw[aE];omega) (λx q hx hq=>?_) ?_
 ·obtain⟨f,hf,rfl⟩:=aX.mp hx;have v5:=(F.vs f hf).2.1;exact⟨_,rfl,_,rfl,(aC rfl),by rw[aE];show _+1<=_;omega,hq⟩
 ·show Q (.tuple _);rw[e];exact h
theorem aEa
  (F_39:bX P w K mg base eR 1 a_39 f_39 ["_law_form_here"] (bD K F1)):bX P w K mg base eR 2 a_40 f_40 ["_law_form_here"] (bD K XL):=by
 refine pZ T.D_40.F X8 (λds Q h=>by obtain⟨fs,an,rfl,F,S,h⟩:=h;rfl) λcdv Ar outer s H E hr ds Q h=>?_;obtain⟨fs,an,rfl,F,S,h⟩:=h;have nd:=X8.nd;refine⟨_,(aQ (ss 1 nd (jM (aA (dI aK) aK)))
 (aQ (sf (fU (cd F_39 T.D_39 hr (aA (aL 0) aK))) (dH (pn 2 nd))
 (aQ (so 3 nd aK)
 (aQ (sf (fU (aL 1)) (dH (pn 4 nd))
 (bG (D3 (i:=3) (pv 3) (el (fr:=[none,some 4]) (N':=["_law_value","_law_case"]) (fU (aL 2)) (λb=>⟨(dH (pk 0)),kX,(dN cG fY (aL 1) (dI (aA (aL 0) aK)))⟩)) (pb:=λh=>oR (sB eO qC qB EK (pv 3) h)))))
 (lE 3 (bG (ss 1 nd (aL 3)))))))
 (bG (dL (aL 1))))),?_⟩
 show iM _ _ _ [.val (eM fs an),.un,.un,.un,.un]
 have hlen:∀i,(((fs.map bN).take i).foldl hX [[]]).length<=300:=λi=>by
  rw[rM];exact cP (xK (fs.map bN) (λe he=>by obtain⟨f,_,rfl⟩:=aX.mp he;unfold bN;simp) i) S.1
 have v5:∀f∈fs,f.2.length<=5:=λf hf=>(F.vs f hf).2.1;have n5:=F.n5;refine cV (iS [[]]) (λq hq=>⟨(aC rfl),(aC rfl),hq⟩) ?_
 refine hJ (ts:=(fs.map bN).map aM) (λR h=>⟨_,rfl,fs,an,rfl,F,_,rfl,h⟩)
  (λi σ=>∃s2 s3 s4:Sl,σ=[.val (eM fs an),.val (iS (((fs.map bN).take i).foldl hX [[]])),s2,s3,s4]) ⟨_,_,_,rfl⟩ (λi x σ' hx hP=>?_) λσ' hP=>?_
 ·obtain⟨s2,s3,s4,rfl⟩:=hP;rw[aH]at hx;obtain⟨e,hei,rfl⟩:=bK.mp hx;have h0:=hlen i;have h1:=hlen (i+1);have es:((fs.map bN).take (i+1)).foldl hX [[]]=hX (((fs.map bN).take i).foldl hX [[]]) e:=by rw[cN,hei];show(_++[e]).foldl hX [[]]=_;rw[lL];rfl
  rw[es]at h1
  have hel:e.length<=6:=by
   obtain⟨f,hf,rfl⟩:=aX.mp (aR hei);have:=v5 f hf;unfold bN;rw[aZ,aE];show _+1<=6;omega
  have hcl:∀c∈(((fs.map bN).take i).foldl hX [[]]),c.length<=5:=λc hc=>by
   rw[rM,iR]at hc;rw[(rT hc).1,bI,aE];omega
  generalize ((fs.map bN).take i).foldl hX [[]]=cs at h0 h1 es hcl
  refine mQ [] (aC rfl) (λq hq=>hq) ?_
  refine hJ (ts:=cs.map aM) (λR h=>⟨_,rfl,_,rfl,h⟩)
   (λj σ=>∃s4:Sl,σ=[.val (eM fs an),.val (iS cs),.val (.tuple e),.own ((hX (cs.take j) e).map aM),s4]) ⟨_,rfl⟩ (λj x σ' hx hP=>?_) λσ' hP=>?_
  ·obtain⟨s4,rfl⟩:=hP;rw[aH]at hx;obtain⟨c,hcj,rfl⟩:=bK.mp hx;have hc3:=hcl c (aR hcj)
   have hlj:(hX (cs.take j) e).length<=2000:=by
    have:∀l:List (List D),(hX l e).length=l.length*e.length:=λl=>by
     unfold hX
     induction l with
     |nil=>simp
     |cons a l ih=>rw[eX,aZ,ih,aE,cE,qW];omega
    rw[this,bI];have h6:min j cs.length*e.length<=300*6:=nO (by omega) hel;omega
   refine wL (ts:=(hX (cs.take j) e).map aM) (us:=(e.map λx=>c++[x]).map aM) rfl (by rw[aE,aE,aE];omega) (λq hq=>?_) ⟨.val (.tuple c),?_⟩
   ·refine mU (ts:=e) (λR h=>⟨_,rfl,_,rfl,h⟩) (λx=>.tuple (c++[x])) (by omega) (λx q hx hq=>⟨_,rfl,_,rfl,(aC rfl),by show _+1<=_;omega,hq⟩) ?_;rw[bT]at hq;exact hq
   ·have e2:hX (cs.take (j+1)) e=hX (cs.take j) e++e.map λx=>c++[x]:=by
     rw[cN,hcj];unfold hX;rw[pK];show _++((e.map λx=>c++[x])++[])=_;rw[dG]
    rw[e2,bY];rfl
  ·obtain⟨s4,rfl⟩:=hP;refine⟨_,rfl,?_⟩;refine mT (iS (hX cs e)) (λq hq=>⟨_,rfl,?_⟩) ⟨_,_,_,by rw[es];rfl⟩;rw[aE,cX];exact hq
 ·obtain⟨s2,s3,s4,rfl⟩:=hP;rw[aE,cX,rM];exact⟨_,rfl,h⟩
theorem aE2:bX P w K mg base eR 1 a_12 f_12 ["form","rule","case"] (bD K F2):=by
 refine pZ T.D_12.F YX (λds Q h=>by obtain⟨fs,an,r,c,rfl,F,hL,hc,h⟩:=h;rfl) λcdv Ar outer s H E hr ds Q h=>?_;obtain⟨fs,an,r,c,rfl,F,hL,hc,h⟩:=h;have nd:=YX.nd;refine⟨_,(bG (dL (cB ZM (aA (el (fr:=[none,none]) (N':=["let","entry"]) (SG (aA (cS bR eG (aL 1) aP) (aA (aL 2) aK)) (λh=>Q6 rfl T.b_zip h)) (λb=>⟨(pS (sX rfl (iY (pk 0) (iY (pk 1) pP)))),kX,(rO (xO hr) CW (aL 1) (aL 0))⟩)) aK) (wR rfl) T.b_all TV))),?_⟩;obtain⟨L,a⟩:=r;obtain⟨hcl,hcv⟩:=iT hc;have n5:=F.n5;have hL1:L.length=fs.length:=hL.1
 have each:∀e x,.tuple [e,x]∈qZ (L.map aM) c->∃l,e=.tuple l/\BT x/\∀t∈l,BT t:=λe x hm=>by
  obtain⟨i,hi⟩:=bQ hm;obtain⟨e',x',h2,h1,he⟩:=vR hi;simp only[aM.injEq,List.cons.injEq,and_true]at he;obtain⟨rfl,rfl⟩:=he;rw[aH]at h2;obtain⟨l,hl,rfl⟩:=bK.mp h2;have hil:i<fs.length:=by rw[<- hL1];exact(aD.mp hl).1
  have hf:fs[i]?=some fs[i]:=aF hil;have hfm:=eV hil;refine⟨l,rfl,?_,λt ht=>pF F hfm t (hL.sub hf hl t ht)⟩;have:=hcv i _ x hf h1
  cases x with
  |none=>exact .inl rfl
  |str z=>exact .inr ⟨z,F.vals hfm z (of_decide_eq_true this),rfl⟩
  |_=>cases this
 show jP (f1 aBi) _ _ Q;dsimp only[jP,nY,vP];refine EL (ts:=qZ (L.map aM) c) (λR h=>⟨_,rfl,_,rfl,_,rfl,_,_,rfl,h⟩) (λx=>.bool (inB x)) (by rw[sI];rw[aE];omega) (λx hx=>?_) (λe x q hm hq=>?_) ?_
 ·obtain⟨i,hi⟩:=bQ hx;obtain⟨x',e',_,_,rfl⟩:=vR hi;exact⟨_,_,rfl⟩
 ·obtain⟨l,rfl,hx,hl⟩:=each e x hm;refine⟨_,rfl,_,rfl,tK (qI hx hl).2 ?_⟩;show q (.bool (l.any λz=>cC z x));rw[rS hx hl];exact hq
 ·refine⟨(qZ (L.map aM) c).map inB,by rw[bT];rfl,?_⟩;rw[LY L c (hcl.trans hL1.symm)];exact h
theorem aE1
  (F_12:bX P w K mg base eR 1 a_12 f_12 ["form","rule","case"] (bD K F2)):bX P w K mg base eR 2 a_13 f_13 ["form","rules","case"] (bD K K2):=by
 refine pZ T.D_13.F YW (λds Q h=>by obtain⟨fs,an,rs,c,rfl,F,hL,hc,h⟩:=h;rfl) λcdv Ar outer s H E hr ds Q h=>?_;obtain⟨fs,an,rs,c,rfl,F,hL,hc,h⟩:=h;have nd:=YW.nd;refine⟨_,(aQ (sf (fU (aL 1)) (dH (pn 3 nd))
 (bG (gT (tv (cd F_12 T.D_12 hr (aA (aL 0) (aA (aL 3) (aA (aL 2) aK)))))
 (bG (dL (cS bR eG (aL 3) aP)))
 eY)))
 (bG (dL jH))),?_⟩
 show iM _ _ _ [.val (eM fs an),.val (.list (rs.map cL)),.val (.tuple c),.un]
 refine hJ (ts:=rs.map cL) (λR h=>⟨_,rfl,_,rfl,h⟩)
  (λi σ=>∃s2:Sl,σ=[.val (eM fs an),.val (.list (rs.map cL)),.val (.tuple c),s2]/\∀r∈rs.take i,kZ r.1 c=false) ⟨_,rfl,λr hr=>by simp at hr⟩ (λi x σ' hx hP=>?_) λσ' hP=>?_
 ·obtain⟨s2,rfl,hno⟩:=hP;rw[aH]at hx;obtain⟨r,hri,rfl⟩:=bK.mp hx;have hrm:=aR hri;refine jL (λb=>b=kZ r.1 c) (λq hq=>⟨_,rfl,_,rfl,_,rfl,fs,an,r,c,rfl,F,hL r hrm,hc,hq _ rfl⟩) (λhT=>?_) λhF=>?_
  ·have e:rs.find? (λr=>kZ r.1 c)=some r:=by
    have hil:=(aD.mp hri).1
    have e0:rs=rs.take i++(r::rs.drop (i+1)):=by
     have e1:rs[i]=r:=(aD.mp hri).2;rw[<- e1,<- mC hil,jN]
    rw[e0,qT]
    have e2:(rs.take i).find? (λr=>kZ r.1 c)=none:=by
     rw[jK];intro r' hr' hx';rw[hno r' hr']at hx';cases hx'
    rw[e2,UN,sG (by exact hT.symm)]
   rw[e]at h;exact⟨_,rfl,_,rfl,h⟩
  ·refine⟨_,rfl,λr' hr'=>?_⟩;rw[cN,hri]at hr';rcases dO.mp hr' with hr' | hr'
   ·exact hno r' hr'
   ·rw[aW.mp hr'];exact hF.symm
 ·obtain⟨s2,rfl,hno⟩:=hP;rw[aE,cX]at hno
  have e:rs.find? (λr=>kZ r.1 c)=none:=by
   rw[jK];intro r' hr' hx';rw[hno r' hr']at hx';cases hx'
  rw[e]at h;exact h
theorem aD9
  (F_36:bX P w K mg base eR 1 a_36 f_36 ["_law_tape_here","_law_many"] (bD K uQ)):bX P w K mg base eR 2 a_41 f_41 ["_law_tape_here","_law_values"] (bD K XJ):=by
 refine pZ T.D_41.F X7 (λds Q h=>by obtain⟨ns,fs,an,f,rfl,hl,F,hf,h⟩:=h;rfl) λcdv Ar outer s H E hr ds Q h=>?_;obtain⟨ns,fs,an,f,rfl,hl,F,hf,h⟩:=h;have nd:=X7.nd;refine⟨_,(aQ (ss 2 nd (cY kB (aA (el (fr:=[none,some 0]) (N':=["_law_value","_law_tape_here"]) (fU (aL 1)) (λb=>⟨(dH (pk 0)),(oJ (dE nV sZ (cd F_36 T.D_36 hr (aA (aL 1) (aA aP aK))) aP)),(aL 0)⟩)) aK) eQ T.b_tuple iZ))
 (aQ (gT (dE (oE hr) jC (aL 2) (dI aK))
 (bG (ss 2 nd (dI (aA (cS bR eG (aL 1) (cd F_36 T.D_36 hr (aA (aL 0) (aA (cB kF (aA (aL 1) aK) cW T.b_len gU) aK)))) aK))))
 eY)
 (bG (dL (aL 2))))),?_⟩
 show iM _ _ _ [.val (iD ns),.val (.tuple (bN f)),.un];have v5:=(F.vs f hf).2.1;have hel:=kQ f;refine dF (λd=>∃xs:List D,xs.Sublist (bN f)/\d=.tuple xs) (λq hq=>?_) ?_
 ·show jP (f1 tG) _ _ q;dsimp only[jP,nY,vP];refine V9 (ts:=bN f) (λR h=>⟨_,rfl,_,rfl,h⟩) (by omega) (λx q hx hq=>⟨_,rfl,ns,2,rfl,hl,by decide,by decide,λr _ _=>hq _⟩) (λx q hx hq=>⟨_,rfl,hq⟩) λzs hz=>hq _ ⟨zs,hz,rfl⟩
 rintro _ ⟨xs,hxs,rfl⟩;obtain⟨hE,h6⟩:=KS F hf hxs;have cd0:Cd (.tuple []):=⟨rfl,by decide⟩;refine gL (λb=>b=decide (xs=[])) (λq hq=>⟨_,rfl,(aC rfl),pQ ((aA4 F hf hxs).cd (by decide)) cd0,hq _ (wQ (λy hy=>by simp at hy))⟩) (λhT=>?_) λhF=>?_
 ·obtain⟨r,hr⟩:∃e,e=bN f:=⟨_,rfl⟩;refine RH (λd=>∃x,x∈bN f/\d=.tuple [x]) (λq hq=>⟨_,rfl,_,rfl,_,rfl,ns,_,rfl,hl,by omega,by omega,λr h0 h1=>?_⟩) ?_
  ·obtain⟨x,hm,ha,_⟩:=tP (xs:=bN f) (i:=r) h0 h1;exact⟨_,ha,(aC rfl),hq _ ⟨x,hm,rfl⟩⟩
  ·rintro _ ⟨x,hx,rfl⟩;exact⟨_,rfl,h [x] (by simp) (List.singleton_sublist.mpr hx)⟩
 ·try unfold kC
  dsimp only;have hne:xs≠[]:=of_decide_eq_false hF.symm;exact⟨_,rfl,h xs hne hxs⟩
theorem aD8
  (F_36:bX P w K mg base eR 1 a_36 f_36 ["_law_tape_here","_law_many"] (bD K uQ))
  (F_41:bX P w K mg base eR 2 a_41 f_41 ["_law_tape_here","_law_values"] (bD K XJ))
  (F_39:bX P w K mg base eR 1 a_39 f_39 ["_law_form_here"] (bD K F1)):bX P w K mg base eR 3 a_42 f_42 ["_law_tape_here","_law_form_here"] (bD K KY):=by
 refine pZ T.D_42.F X6 (λds Q h=>by obtain⟨ns,fs,an,rfl,hl,F,h⟩:=h;rfl) λcdv Ar outer s H E hr ds Q h=>?_;obtain⟨ns,fs,an,rfl,hl,F,h⟩:=h;have nd:=X6.nd;refine⟨_,(aQ (so 2 nd aK)
 (aQ (sf (fU (cd F_39 T.D_39 hr (aA (aL 1) aK))) (dH (pn 3 nd))
 (aQ (ss 4 nd (aL 3))
 (aQ (gT (dE nU sD (cd F_36 T.D_36 hr (aA (aL 0) (aA aP aK))) aP)
 (bG (ss 4 nd (cd F_41 T.D_41 hr (aA (aL 0) (aA (aL 3) aK)))))
 eY)
 (bG (xG (i:=2) (pv 2) (aL 4) (pb:=λh=>oR (sB eO iQ iP nM (pv 2) h)))))))
 (lE 2 (bG (dL (dI (aA (cY kB (aA (aL 2) aK) eQ T.b_tuple iZ) (aA (cS bR eG (cS bR eG (aL 1) aP) (cd F_36 T.D_36 hr (aA (aL 0) (aA (cB kF (aA (cS bR eG (aL 1) aP) aK) cW T.b_len gU) aK)))) aK)))))))),?_⟩
 show iM _ _ _ [.val (iD ns),.val (eM fs an),.un,.un,.un];have n5:=F.n5;refine mQ [] (aC rfl) (λq hq=>hq) ?_
 refine hJ (ts:=(fs.map bN).map aM) (λR h=>⟨_,rfl,fs,an,rfl,F,_,rfl,h⟩)
  (λk σ=>∃(L:List (List D))(s3 s4:Sl),σ=[.val (iD ns),.val (eM fs an),.own (L.map aM),s3,s4]/\FG fs k L) ⟨[],_,_,rfl,rfl,λj f e _ he=>by simp at he⟩ (λk x σ' hx hP=>?_) λσ' hP=>?_
 ·obtain⟨L,s3,s4,rfl,hL⟩:=hP;rw[aH]at hx;obtain⟨e,hei,rfl⟩:=bK.mp hx;rw[aH]at hei;obtain⟨f,hf,rfl⟩:=bK.mp hei;have hfm:=aR hf;have hk:=(aD.mp hf).1;have hne:bN f≠[]:=λz=>by have:=kQ f;rw[z]at this;cases this
  refine cV (.tuple (bN f)) (λq hq=>⟨_,rfl,hq⟩) ?_;refine vE True (λd=>∃e:List D,e≠[]/\e.Sublist (bN f)/\d=.tuple e) (λq hq=>⟨_,rfl,ns,4,rfl,hl,by decide,by decide,λr _ _=>hq _ λ_=>trivial⟩) (λ_ q hq=>⟨_,rfl,_,rfl,ns,fs,an,f,rfl,hl,F,hfm,λxs h1 h2=>hq _ ⟨xs,h1,h2,rfl⟩⟩) (.tuple (bN f)) rfl ⟨_,hne,yU.refl _,rfl⟩ ?_;rintro _ ⟨e,he1,he2,rfl⟩;refine zQ (ts:=L.map aM) (.tuple e) rfl (by rw[aE,hL.1];omega) (λq hq=>⟨_,rfl,hq⟩) ⟨L++[e],.val (.tuple (bN f)),.val (.tuple e),?_,GU hL hf he1 he2⟩;rw[bY];rfl
 ·obtain⟨L,s3,s4,rfl,hL⟩:=hP;rw[aE,aE]at hL;obtain⟨hO,hN⟩:=JT F hL;have a2:=F.a2;have a4:=F.a4;refine⟨_,rfl,_,rfl,_,rfl,_,rfl,_,rfl,_,rfl,_,rfl,ns,_,rfl,hl,by rw[aE];omega,by rw[aE];omega,λr h0 h1=>?_⟩;obtain⟨x,hm,ha,_⟩:=tP (xs:=an.map aV) (i:=r) h0 h1;obtain⟨a,haa,rfl⟩:=aX.mp hm;exact⟨_,ha,(aC rfl),h (L,a) ⟨hO,hN,haa⟩⟩
theorem aD7:bX P w K mg base eR 1 a_43 f_43 ["_law_rule_here","_law_case"] (bD K XI):=by
 refine pZ T.D_43.F X5 (λds Q h=>by obtain⟨fs,an,r,c,rfl,F,hL,hc,h⟩:=h;rfl) λcdv Ar outer s H E hr ds Q h=>?_;obtain⟨fs,an,r,c,rfl,F,hL,hc,h⟩:=h;have nd:=X5.nd;refine⟨_,(bG (dL (rO (oS hr) jC C4 (el (fr:=[none,none]) (N':=["_law_value","_law_part_here"]) (SG (aA (aL 1) (aA (cS bR eG (aL 0) aP) aK)) (λh=>Q6 rfl T.b_zip h)) (λb=>⟨(pS (sX rfl (iY (pk 0) (iY (pk 1) pP)))),kX,(rO (xO hr) CW (aL 0) (aL 1))⟩))))),?_⟩;obtain⟨L,a⟩:=r;obtain⟨hcl,hcv⟩:=iT hc;have n5:=F.n5;have hL1:L.length=fs.length:=hL.1
 have each:∀x e,.tuple [x,e]∈qZ c (L.map aM)->∃l,e=.tuple l/\BT x/\∀t∈l,BT t:=λx e hm=>by
  obtain⟨i,hi⟩:=bQ hm;obtain⟨x',e',h1,h2,he⟩:=vR hi;simp only[aM.injEq,List.cons.injEq,and_true]at he;obtain⟨rfl,rfl⟩:=he;rw[aH]at h2;obtain⟨l,hl,rfl⟩:=bK.mp h2;have hil:i<fs.length:=by rw[<- hL1];exact(aD.mp hl).1
  have hf:fs[i]?=some fs[i]:=aF hil;have hfm:=eV hil;refine⟨l,rfl,?_,hL.2 l (aR hl)⟩;have:=hcv i _ x hf h1
  cases x with
  |none=>exact .inl rfl
  |str z=>exact .inr ⟨z,F.vals hfm z (of_decide_eq_true this),rfl⟩
  |_=>cases this
 obtain⟨a2,a3⟩:=G6 c L (hcl.trans hL1.symm);show UH _ _ _ _ Q;dsimp only[UH,eC];refine EL (ts:=qZ c (L.map aM)) (λR h=>⟨_,rfl,_,rfl,_,rfl,_,_,rfl,h⟩) inX (by rw[sI,aE];omega) (λx hx=>?_) (λx e q hm hq=>?_) ?_
 ·obtain⟨i,hi⟩:=bQ hx;obtain⟨x',e',_,_,rfl⟩:=vR hi;exact⟨_,_,rfl⟩
 ·obtain⟨l,rfl,hx,hl⟩:=each x e hm;refine⟨_,rfl,_,rfl,tK (qI hx hl).2 ?_⟩;show q (.bool (l.any λz=>cC z x));rw[rS hx hl];exact hq
 ·refine⟨⟨a3,rfl,by show min _ 0<=60;omega⟩,?_⟩;show Q (.bool (!ER (.bool false) (.list _)));rw[a2];exact h
theorem aD6
  (F_43:bX P w K mg base eR 1 a_43 f_43 ["_law_rule_here","_law_case"] (bD K XI)):bX P w K mg base eR 2 a_44 f_44 ["_law_rules","_law_case"] (bD K XH):=by
 refine pZ T.D_44.F X4 (λds Q h=>by obtain⟨fs,an,rs,c,rfl,F,hL,hc,h⟩:=h;rfl) λcdv Ar outer s H E hr ds Q h=>?_;obtain⟨fs,an,rs,c,rfl,F,hL,hc,h⟩:=h;have nd:=X4.nd;refine⟨_,(aQ (sf (fU (aL 0)) (dH (pn 2 nd))
 (bG (gT (tv (cd F_43 T.D_43 hr (aA (aL 2) (aA (aL 1) aK))))
 (bG (dL (cS bR eG (aL 2) aP)))
 eY)))
 (bG (dL jH))),?_⟩
 show iM _ _ _ [.val (.list (rs.map cL)),.val (.tuple c),.un]
 refine hJ (ts:=rs.map cL) (λR h=>⟨_,rfl,_,rfl,h⟩)
  (λi σ=>∃s2:Sl,σ=[.val (.list (rs.map cL)),.val (.tuple c),s2]/\∀r∈rs.take i,kZ r.1 c=false) ⟨_,rfl,λr hr=>by simp at hr⟩ (λi x σ' hx hP=>?_) λσ' hP=>?_
 ·obtain⟨s2,rfl,hno⟩:=hP;rw[aH]at hx;obtain⟨r,hri,rfl⟩:=bK.mp hx;have hrm:=aR hri;refine jL (λb=>b=kZ r.1 c) (λq hq=>⟨_,rfl,_,rfl,fs,an,r,c,rfl,F,hL r hrm,hc,hq _ rfl⟩) (λhT=>?_) λhF=>?_
  ·have e:rs.find? (λr=>kZ r.1 c)=some r:=by
    have hil:=(aD.mp hri).1
    have e0:rs=rs.take i++(r::rs.drop (i+1)):=by
     have e1:rs[i]=r:=(aD.mp hri).2;rw[<- e1,<- mC hil,jN]
    rw[e0,qT]
    have e2:(rs.take i).find? (λr=>kZ r.1 c)=none:=by
     rw[jK];intro r' hr' hx';rw[hno r' hr']at hx';cases hx'
    rw[e2,UN,sG (by exact hT.symm)]
   rw[e]at h;exact⟨_,rfl,_,rfl,h⟩
  ·refine⟨_,rfl,λr' hr'=>?_⟩;rw[cN,hri]at hr';rcases dO.mp hr' with hr' | hr'
   ·exact hno r' hr'
   ·rw[aW.mp hr'];exact hF.symm
 ·obtain⟨s2,rfl,hno⟩:=hP;rw[aE,cX]at hno
  have e:rs.find? (λr=>kZ r.1 c)=none:=by
   rw[jK];intro r' hr' hx';rw[hno r' hr']at hx';cases hx'
  rw[e]at h;exact h
theorem aEl
  (F_12:bX P w K mg base eR 1 a_12 f_12 ["form","rule","case"] (bD K F2)):bX P w K mg base eR 2 a_29 f_29 ["form","rule","cases"] (bD K QA):=by
 refine pZ T.D_29.F YJ (λds Q h=>by obtain⟨fs,an,r,cs,rfl,F,hL,hc,h⟩:=h;rfl) λcdv Ar outer s H E hr ds Q h=>?_;obtain⟨fs,an,r,cs,rfl,F,hL,hc,h⟩:=h;have nd:=YJ.nd;refine⟨_,(aQ (sf (fU (aL 2)) (dH (pn 3 nd))
 (bG (gT (tv (cd F_12 T.D_12 hr (aA (aL 0) (aA (aL 1) (aA (aL 3) aK)))))
 (bG (dL (aL 3)))
 eY)))
 (bG (dL jH))),?_⟩
 show iM _ _ _ [.val (eM fs an),.val (cL r),.val (iS cs),.un]
 refine hJ (ts:=cs.map aM) (λR h=>⟨_,rfl,_,rfl,h⟩)
  (λi σ=>∃s3:Sl,σ=[.val (eM fs an),.val (cL r),.val (iS cs),s3]/\∀c∈cs.take i,kZ r.1 c=false) ⟨_,rfl,λc hc=>by simp at hc⟩ (λi x σ' hx hP=>?_) λσ' hP=>?_
 ·obtain⟨s3,rfl,hno⟩:=hP;rw[aH]at hx;obtain⟨c,hci,rfl⟩:=bK.mp hx;have hcm:=aR hci;refine jL (λb=>b=kZ r.1 c) (λq hq=>⟨_,rfl,_,rfl,_,rfl,fs,an,r,c,rfl,F,hL,hc c hcm,hq _ rfl⟩) (λhT=>?_) λhF=>?_
  ·have e:cs.find? (kZ r.1)=some c:=WP hci hno hT.symm;rw[e]at h;exact⟨_,rfl,h⟩
  ·refine⟨_,rfl,λd hd=>?_⟩;rw[cN,hci]at hd;rcases dO.mp hd with hd | hd
   ·exact hno d hd
   ·have:d=c:=by simpa using hd
    rw[this];exact hF.symm
 ·obtain⟨s3,rfl,hno⟩:=hP;rw[aE,cX]at hno;have e:cs.find? (kZ r.1)=none:=jK.mpr λc hc=>by rw[hno c hc];decide
  rw[e]at h;exact h
theorem aEp
  (F_12:bX P w K mg base eR 1 a_12 f_12 ["form","rule","case"] (bD K F2)):bX P w K mg base eR 2 a_25 f_25 ["form","rule","cases"] (bD K QE):=by
 refine pZ T.D_25.F YN (λds Q h=>by obtain⟨fs,an,r,cs,rfl,F,hL,hc,hl,h⟩:=h;rfl) λcdv Ar outer s H E hr ds Q h=>?_;obtain⟨fs,an,r,cs,rfl,F,hL,hc,hl,h⟩:=h;have nd:=YN.nd;refine⟨_,(bG (dL (el (fr:=[none,some 0,some 1]) (N':=["case","form","rule"]) (fU (aL 2)) (λb=>⟨(dH (pk 0)),(oJ (AC (tv (cd F_12 T.D_12 hr (aA (aL 1) (aA (aL 2) (aA (aL 0) aK))))))),(aL 0)⟩)))),?_⟩;refine lX (ts:=cs.map aM) (λR h=>⟨_,rfl,_,rfl,h⟩) (λx=>match x with | .tuple c=>!kZ r.1 c | _=>false) id (by rw[aE];omega) (λx q hx hq=>?_) (λx q hx hq=>⟨_,rfl,hq⟩) ?_
 ·obtain⟨c,hcm,rfl⟩:=aX.mp hx;exact⟨_,rfl,_,rfl,_,rfl,fs,an,r,c,rfl,F,hL,hc c hcm,hq⟩
 ·rw[kT,iH];exact h
theorem aEq:bX P w K mg base eR 1 a_24 f_24 ["rule","cases","answers"] (bD K (QF w)):=by
 refine pZ T.D_24.F YO (λds Q h=>by obtain⟨fs,an,r,cs,ans,kvs,rfl,F,ha,hc,hl,hk,h⟩:=h;rfl) λcdv Ar outer s H E hr ds Q h=>?_;obtain⟨fs,an,r,cs,ans,kvs,rfl,F,ha,hc,hl,hk,h⟩:=h;have nd:=YO.nd;refine⟨_,(bG (dL (el (fr:=[none,some 2,some 0]) (N':=["case","answers","rule"]) (fU (aL 1)) (λb=>⟨(dH (pk 0)),(oJ (dE (sY hr) jC (G9 (w:=w) rfl hr.u9 (aL 1) (aL 0)) (cS bR eG (aL 2) aP))),(aL 0)⟩)))),?_⟩;refine lX (ts:=cs.map aM) (λR h=>⟨_,rfl,_,rfl,h⟩) (λx=>match x with | .tuple c=>!decide (ans c=r.2) | _=>false) id (by rw[aE];omega) (λx q hx hq=>?_) (λx q hx hq=>⟨_,rfl,hq⟩) ?_
 ·obtain⟨c,hcm,rfl⟩:=aX.mp hx;obtain⟨h1,h2,h3⟩:=hk c hcm;refine⟨_,rfl,_,rfl,kvs,rfl,h1,h2,_,h3,_,rfl,_,rfl,pQ (E6 (ha c hcm).1) (E6 (ha c hcm).2),?_⟩;show q (!(ans c==r.2));rw[show(ans c==r.2)=decide (ans c=r.2) by rw[eE];simp];exact hq
 ·rw[kT,iH];exact h
theorem aEn
  (F_9:bX P w K mg base eR 1 a_9 f_9 ["field"] (bD K MX)):bX P w K mg base eR 2 a_27 f_27 ["form","rule"] (bD K QC):=by
 refine pZ T.D_27.F YL (λds Q h=>by obtain⟨fs,an,r,rfl,F,hL,h⟩:=h;rfl) λcdv Ar outer s H E hr ds Q h=>?_;obtain⟨fs,an,r,rfl,F,hL,h⟩:=h;have nd:=YL.nd;refine⟨_,(aQ (so 2 nd aK)
 (aQ (sf (SH (aA (cS bR eG (aL 0) aP) aK) (λh=>Q7 rfl T.b_enumerate h)) (pS (sX rfl (iY (pn 3 nd) (iY (pn 4 nd) pP))))
 (bG (D3 (i:=2) (pv 2) (el (fr:=[none,some 3,some 1]) (N':=["entry","number","rule"]) (fU (cd F_9 T.D_9 hr (aA (aL 4) aK))) (λb=>⟨(dH (pk 0)),(oJ (dE (oS hr) jC (aL 0) (cS bR eG (cS bR eG (aL 2) aP) (aL 1)))),(dI (aA (aL 1) (aA (aL 0) aK)))⟩)) (pb:=λh=>oR (sB eO qC qB EK (pv 2) h)))))
 (lE 2 (bG (dL (aL 2)))))),?_⟩
 show iM _ _ _ [.val (eM fs an),.val (cL r),.un,.un,.un];have n5:=F.n5;refine mQ [] (aC rfl) (λq hq=>hq) ?_
 refine hJ (ts:=tL (fs.map kE)) (λR h=>⟨_,rfl,_,rfl,_,rfl,h⟩)
  (λi σ=>∃(us:List (Nat×D))(s3 s4:Sl),σ=[.val (eM fs an),.val (cL r),.own (us.map pD),s3,s4]/\us=GQ fs r.1 i/\us.length<=10*i) ⟨[],_,_,rfl,rfl,aN _⟩ (λi x σ' hx hP=>?_) λσ' hP=>?_
 ·obtain⟨us,s3,s4,rfl,hus,hul⟩:=hP
  have hil:i<fs.length:=by
   have:=(aD.mp hx).1;rw[kW,aE]at this;exact this
  have hf:fs[i]?=some fs[i]:=aF hil;have hfm:=eV hil;rw[oW (a:=kE fs[i]) (by rw[aH,hf];rfl)]at hx;cases hx;have hl:i<r.1.length:=by rw[hL.1];exact hil
  have he:r.1[i]?=some r.1[i]:=aF hl;have hE:=pF F hfm;have hEe:∀y∈r.1[i],BT y:=λy hy=>hE y (hL.sub hf he y hy);have v5:=(F.vs _ hfm).2.1;have el:=kQ fs[i];have hLa:L2.atI (r.1.map aM) (i:Int)=some (.tuple r.1[i]):=L2.eD (by rw[aH,he];rfl);have hnl:GQ fs r.1 (i+1)=us++((bN fs[i]).filter λx=>!decide (x∈r.1[i])).map λx=>(i,x):=by rw[hus];exact NP hf he
  have hfl:=eB (λx=>!decide (x∈r.1[i])) (bN fs[i]);refine⟨_,_,rfl,?_⟩;refine wL (us:=(((bN fs[i]).filter λx=>!decide (x∈r.1[i])).map λx=>((i,x):Nat×D)).map pD) rfl (by rw[aE,aE,aE];omega) (λq hq=>?_) ⟨_,_,_,by rw[<- bY];rfl,hnl.symm,by rw[aZ,aE];omega⟩;refine lX (ts:=bN fs[i]) (λR h=>⟨_,rfl,_,rfl,v5,_,rfl,h⟩) (λx=>!decide (x∈r.1[i])) (λx=>pD (i,x)) (by omega) (λy q hy hq=>?_) (λy q hy hq=>⟨_,rfl,_,rfl,(aC rfl),hq⟩) ?_
  ·refine⟨_,rfl,_,rfl,_,rfl,_,rfl,_,hLa,(qI (hE y hy) hEe).2,?_⟩;show q (!(r.1[i].any λz=>cC z y));rw[rS (hE y hy) hEe];exact hq
  ·rw[bT]at hq;exact hq
 ·obtain⟨us,s3,s4,rfl,hus,hul⟩:=hP;rw[kW,aE]at hus;have:us=rJ fs r.1:=hus;subst this;exact⟨_,rfl,_,rfl,h⟩
theorem aEm
  (F_9:bX P w K mg base eR 1 a_9 f_9 ["field"] (bD K MX))
  (F_18:bX P w K mg base eR 1 a_18 f_18 ["lets","number","let"] (bD K K0)):bX P w K mg base eR 2 a_28 f_28 ["form","rule","number","entry"] (bD K QB):=by
 refine pZ T.D_28.F YK (λds Q h=>by obtain⟨fs,an,r,j,f,x,rfl,F,hL,hf,hx,h⟩:=h;rfl) λcdv Ar outer s H E hr ds Q h=>?_;obtain⟨fs,an,r,j,f,x,rfl,F,hL,hf,hx,h⟩:=h;have nd:=YK.nd;refine⟨_,(aQ (ss 4 nd (cS bR eG (cS bR eG (aL 1) aP) (aL 2)))
 (aQ (ss 5 nd (cY kB (aA (el (fr:=[none,some 4,some 3]) (N':=["found","let","entry"]) (fU (cd F_9 T.D_9 hr (aA (cS bR eG (cS bR eG (aL 0) aP) (aL 2)) aK))) (λb=>⟨(dH (pk 0)),(oJ (oN (uO (dE (xO hr) CW (aL 0) (aL 1)) (pW (dE (oE hr) jC (aL 0) (aL 2)))))),(aL 0)⟩)) aK) eQ T.b_tuple iZ))
 (bG (dL (dI (aA (cd F_18 T.D_18 hr (aA (cS bR eG (aL 1) aP) (aA (aL 2) (aA (aL 5) aK)))) (aA (cS bR eG (aL 1) aP) aK))))))),?_⟩
 show iM _ _ _ [.val (eM fs an),.val (cL r),.val (.int (j:Int)),.val x,.un,.un];have n5:=F.n5;have hfm:=aR hf;have hjl:=(aD.mp hf).1;have hl:j<r.1.length:=by rw[hL.1];exact hjl
 have he:r.1[j]?=some r.1[j]:=aF hl;have hsub:=hL.sub hf he;have hE:=pF F hfm;have v5:=(F.vs f hfm).2.1;have el:=kQ f;rw[KO hf he]at h;have hEe:∀y∈r.1[j],BT y:=λy hy=>hE y (hsub y hy);have hfa:L2.atI (fs.map kE) (j:Int)=some (kE f):=L2.eD (by rw[aH,hf];rfl);have hLa:L2.atI (r.1.map aM) (j:Int)=some (.tuple r.1[j]):=L2.eD (by rw[aH,he];rfl);refine cV (.tuple r.1[j]) (λq hq=>⟨_,rfl,_,rfl,_,rfl,_,hLa,hq⟩) ?_;refine cV (.tuple ((bN f).filter λy=>decide (y∈r.1[j])||decide (y=x))) (λq hq=>?_) ?_
 ·show jP (f1 tG) _ _ q;dsimp only[jP,nY,vP];refine lX (ts:=bN f) (λR h=>⟨_,rfl,_,rfl,_,rfl,_,hfa,f,rfl,v5,_,rfl,h⟩) (λy=>decide (y∈r.1[j])||decide (y=x)) id (by omega) (λy q hy hq=>?_) (λy q hy hq=>⟨_,rfl,hq⟩) ?_
  ·refine⟨_,rfl,_,rfl,tK (qI (hE y hy) hEe).2 ?_⟩;show(if(r.1[j].any λz=>cC z y)=true then q true else _);rw[rS (hE y hy) hEe];by_cases e:y∈r.1[j]
   ·rw[decide_eq_true e]at hq |-
    rw[if_pos rfl];exact hq
   ·rw[decide_eq_false e]at hq |-
    rw[if_neg (by decide)];refine⟨_,rfl,_,rfl,pQ (((hE y hy).th (n:=8) (m:=0) (aN 8)).cd (by decide)) (((hE x hx).th (n:=8) (m:=0) (aN 8)).cd (by decide)),?_⟩;show q (cC y x);rw[EY (hE y hy) (hE x hx)];exact hq
  ·rw[kT];exact hq
 exact⟨_,rfl,_,rfl,_,rfl,_,rfl,r.1,j,_,rfl,hl,by rw[hL.1];exact n5,_,rfl,_,rfl,(aC rfl),h⟩
theorem aEi:bX P w K mg base eR 1 a_32 f_32 ["rules","number"] (fT K P8):=by
 refine ZD T.D_32.F YG (λds Q h=>by obtain⟨rs,k,rfl,hl,h⟩:=h;rfl) λcdv Ar outer s H E hr ds Q h=>?_;obtain⟨rs,k,rfl,hl,h⟩:=h;have nd:=YG.nd;refine⟨_,(bG (zM (aBj (fC iK nL (aL 0) gM (gD (aL 1))) (fC iK nL (aL 0) (gD (dN cG fY (aL 1) aP)) gM)))),?_⟩;refine⟨_,rfl,_,rfl,_,rfl,_,rfl,_,_,rfl,rfl,?_⟩;rw[lT,show((k:Int)+1)=((k+1:Nat):Int) by omega,tM];exact⟨by rw[bI,fH];omega,h⟩
theorem aEg
  (F_29:bX P w K mg base eR 2 a_29 f_29 ["form","rule","cases"] (bD K QA))
  (F_27:bX P w K mg base eR 2 a_27 f_27 ["form","rule"] (bD K QC))
  (F_28:bX P w K mg base eR 2 a_28 f_28 ["form","rule","number","entry"] (bD K QB)):bX P w K mg base eR 3 a_34 f_34 ["form","rule","against"] (fT K XO):=by
 refine ZD T.D_34.F YE (λds Q h=>by obtain⟨fs,an,r,ag,rfl,F,hL,hc,h⟩:=h;rfl) λcdv Ar outer s H E hr ds Q h=>?_;obtain⟨fs,an,r,ag,rfl,F,hL,hc,h⟩:=h;have nd:=YE.nd;refine⟨_,(bG (zM (fl (fr:=[none,none,some 0,some 2,some 1]) (N':=["number","entry","form","against","rule"]) (fU (cd F_27 T.D_27 hr (aA (aL 0) (aA (aL 1) aK)))) (λb=>⟨(pS (sX rfl (iY (pk 0) (iY (pk 1) pP)))),kX,(dI (aA (aL 0) (aA (aL 1) (aA (cd F_29 T.D_29 hr (aA (aL 2) (aA (cd F_28 T.D_28 hr (aA (aL 2) (aA (aL 4) (aA (aL 0) (aA (aL 1) aK))))) (aA (aL 3) aK)))) aK))))⟩)))),?_⟩;have hln:=JL F r.1;refine aBl (EL (ts:=(rJ fs r.1).map pD) (λR h=>⟨_,rfl,_,rfl,fs,an,r,rfl,F,hL,_,rfl,h⟩) (λx=>match x with | .tuple [.int j,y]=>RZ fs r.1 ag (j.toNat,y) | _=>.none) (by rw[aE];omega) (λx hx=>?_) (λa b q hx hq=>?_) ?_)
 ·obtain⟨p,_,rfl⟩:=aX.mp hx;exact⟨_,_,rfl⟩
 ·obtain⟨⟨j,y⟩,hp,e⟩:=aX.mp hx;cases e;obtain⟨f,e,hf,he,hxf,hxe⟩:=(AY hL).mp hp;have hjl:=(aD.mp hf).1;refine⟨_,rfl,_,rfl,_,rfl,_,rfl,_,rfl,_,rfl,_,rfl,fs,an,r,j,f,y,rfl,F,hL,hf,hxf,_,rfl,fs,an,(DW fs r.1 j y,r.2),ag,rfl,F,KN hL hjl,hc,(aC rfl),hq⟩
 ·show Q _;rw[bT];exact h
theorem aEw:bX P w K mg base eR 1 a_18 f_18 ["lets","number","let"] (bD K K0):=by
 refine pZ T.D_18.F YT (λds Q h=>by obtain⟨L,j,e,rfl,hj,hl,h⟩:=h;rfl) λcdv Ar outer s H E hr ds Q h=>?_;obtain⟨L,j,e,rfl,hj,hl,h⟩:=h;have nd:=YT.nd;refine⟨_,(bG (dL (dN cG fY (dN cG fY (fC iK nL (aL 0) gM (gD (aL 1))) (dI (aA (aL 2) aK))) (fC iK nL (aL 0) (gD (dN cG fY (aL 1) aP)) gM)))),?_⟩;have e2:(j:Int)+1=((j+1:Nat):Int):=by omega
 refine⟨_,rfl,_,rfl,_,rfl,(aC rfl),?_⟩;show _/\_;refine⟨by rw[lT,bI];simp only[cE,iG,aE];omega,_,rfl,_,rfl,?_⟩;show _/\Q (.tuple (jZ (L.map aM) none (some (j:Int))++[.tuple e]++jZ (L.map aM) (some ((j:Int)+1)) none));rw[lT,e2,tM]
 have es:(L.map aM).take j++[.tuple e]++(L.map aM).drop (j+1)=(L.set j e).map aM:=by
  rw[IJ,jR,if_pos (by rw[aE];exact hj),jX];rfl
 rw[es];refine⟨?_,h⟩;rw[aZ,bI,fH,aE];simp only[cE,iG];omega
theorem aE0
  (F_8:bX P w K mg base eR 3 a_8 f_8 ["form"] (fT K Z4))
  (F_13:bX P w K mg base eR 2 a_13 f_13 ["form","rules","case"] (bD K K2))
  (F_7:bX P w K mg base eR 2 a_7 f_7 ["form"] (bD K U5)):bX P w K mg base eR 4 a_14 f_14 ["form","rules","most"] (bD K (QI w)):=by
 refine pZ T.D_14.F K9 (λds Q h=>by obtain⟨fs,an,rs,m,rfl,F,S,hm,hL,hA,h⟩:=h;rfl) λcdv Ar outer s H E hr ds Q h=>?_;obtain⟨fs,an,rs,m,rfl,F,S,hm,hL,hA,h⟩:=h;have nd:=K9.nd;refine⟨_,(aQ (gT (dE nU sD (cd F_7 T.D_7 hr (aA (aL 0) aK)) (aL 2))
 (bG wA)
 eY)
 (aQ (sn 3 nd)
 (aQ (sf (fU (BD (cF F_8 T.D_8 hr (aA (aL 0) aK)))) (dH (pn 4 nd))
 (aQ (F0 (i:=3) hr.u9 (pv 3) (aL 4) (cd F_13 T.D_13 hr (aA (aL 0) (aA (aL 1) (aA (aL 4) aK)))))
 (bG (gT (dE AQ GO (HA (i:=3) hr.u9 (pv 3) (aL 4) (by intro _ _;rfl)) jH)
 (bG wA)
 eY))))
 (CL 3 (bG (dL (aL 3))))))),?_⟩
 show iM _ _ _ [.val (eM fs an),.val (.list (rs.map cL)),.val (.int (m:Nat)),.un,.un];obtain⟨p1,p2⟩:=rL S;have hmc:fZ fs<=m:=by rw[<- pG,mL];exact hm
 refine gL (λb=>b=false) (λq hq=>⟨_,rfl,fs,an,rfl,F,_,rfl,hq _ (decide_eq_false (by omega))⟩) (λhT=>by cases hT) λ_=>?_
 try unfold kC
 dsimp only;refine F8 (w:=w) (show 3<5 by decide) (λj hs kvs hj=>?_) ?_
 ·rcases j with _ | _ | _ | _ | _ | j<;>simp at hj
 have keyT:∀c∈cH (fs.map bN),FH (.tuple c):=λc hc=>qL F (lN (cU.whole fs) ((iR _ c).mp hc))
 have keys:∀k,∀kv∈((cH (fs.map bN)).take k).map (λc=>(aM c,aV (nG rs c))),nZ kv.1:=λk kv hkv=>by
  obtain⟨c,hc,rfl⟩:=aX.mp hkv;exact(keyT c (fM hc)).1
 refine hJ (ts:=(cH (fs.map bN)).map aM) (λR h=>⟨_,rfl,fs,an,rfl,F,by omega,_,rfl,by rw[mL];exact h⟩)
  (λk σ=>∃s4:Sl,σ=[.val (eM fs an),.val (.list (rs.map cL)),.val (.int (m:Nat)),HF w (((cH (fs.map bN)).take k).map λc=>(aM c,aV (nG rs c))),s4]) ⟨_,rfl⟩ (λk x σ' hx hP=>?_) λσ' hP=>?_
 ·obtain⟨s4,rfl⟩:=hP;rw[aH]at hx;obtain⟨c,hck,rfl⟩:=bK.mp hx;have hcm:=aR hck;have hcc:=lN (cU.whole fs) ((iR _ c).mp hcm);have hkl:(((cH (fs.map bN)).take k).map λc=>(aM c,aV (nG rs c))).length<=300:=by rw[aE,bI];omega
  refine F7 (w:=w) (.tuple c) (.str (nG rs c)) rfl (λq hq=>⟨_,rfl,_,rfl,_,rfl,fs,an,rs,c,rfl,F,hL,hcc,by rw[W5 hA hcm];exact hq⟩) (λq hq=>⟨_,rfl,hq⟩) (keyT c hcm) (keys k) (by omega) ?_;rw[GG (LI F) hck];have hin:(aM c,aV (nG rs c))∈((cH (fs.map bN)).take (k+1)).map λc=>(aM c,aV (nG rs c)):=aX.mpr ⟨c,by rw[cN,hck];simp,rfl⟩;refine jL (λb=>b=false) (λq hq=>⟨_,rfl,_,rfl,keyT c hcm,keys (k+1),_,hin,hq _ rfl⟩) (λhT=>by cases hT) λ_=>⟨_,rfl⟩
 ·obtain⟨s4,rfl⟩:=hP;rw[aE,cX];exact⟨_,_,rfl,_,rfl,h⟩
theorem aE3:bX P w K mg base eR 1 a_11 f_11 ["tree"] (bD K QJ):=by
 refine pZ T.D_11.F YY (λds Q h=>by obtain⟨t,rfl,h⟩:=h;rfl) λcdv Ar outer s H E hr ds Q h=>?_;obtain⟨t,rfl,h⟩:=h;have nd:=YY.nd;refine⟨_,(bG (dL (rO nV sZ (cS bR eG (aL 0) aP) eU))),?_⟩
 cases t with
 |say a=>exact⟨_,rfl,_,rfl,h⟩
 |ask k n v s y m=>exact⟨_,rfl,_,rfl,h⟩
theorem aHa:bX P w K mg base eR 1 a_3 f_3 ["question","field"] (bD K aC1):=by
 refine pZ T.D_3.F aDa (λds Q h=>by obtain⟨k,n,v,f,rfl,hn,hv,hl,h⟩:=h;rfl) λcdv Ar outer s H E hr ds Q h=>?_;obtain⟨k,n,v,f,rfl,hn,hv,hl,h⟩:=h;have nd:=aDa.nd;refine⟨_,(aQ (gT (dE nV sZ (cS bR eG (aL 0) aP) eU)
 (bG (dL (dI (aA (cS bR eG (aL 0) aP) aK))))
 eY)
 (bG (dL (fC iK nL (cS bR eG (aL 1) aP) gM (gD (dN cG fY (S0 (cS bR eG (aL 1) aP) (aA (cS bR eG (aL 0) aP) aK) (λh ha=>sB PySem.F.plainAttrs_tuple PySem.F.slot_tuple_index PySem.F.type_tuple_index (RY hr) h ha)) aP)))))),?_⟩
 show iM _ _ _ [.val (.tuple [.str k,.str n,.str v]),.val (kE f)];unfold A6 at h;refine gL (λb=>b=decide (k="is")) (λq hq=>⟨_,rfl,_,rfl,hq _ rfl⟩) (λhT=>?_) λhF=>?_
 ·rw[if_pos (of_decide_eq_true hT.symm)]at h;exact⟨_,rfl,_,rfl,aC rfl,h⟩
 ·try unfold kC
  dsimp only;rw[if_neg (of_decide_eq_false hF.symm)]at h;refine⟨_,rfl,_,rfl,_,rfl,_,rfl,_,rfl,_,rfl,_,rfl,_,_,rfl,CV hn hv,?_⟩;show Q (.tuple (jZ (f.2.map aV) none (some ((f.2.idxOf v:Int)+1))));have e:((f.2.idxOf v:Nat):Int)+1=((f.2.idxOf v+1:Nat):Int):=rfl;rw[e,nQ,lT];exact h
theorem aHc:bX P w K mg base eR 1 a_1 f_1 ["form","question"] (bD K U7):=by
 refine pZ T.D_1.F aDc (λds Q h=>by obtain⟨fs,an,k,n,v,f0,j,rfl,F,hj,hfn,h⟩:=h;rfl) λcdv Ar outer s H E hr ds Q h=>?_;obtain⟨fs,an,k,n,v,f0,j,rfl,F,hj,hfn,h⟩:=h;have nd:=aDc.nd;refine⟨_,(bG (dL (OB (el (fr:=[none]) (N':=["field"]) (fU (cS bR eG (aL 0) aP)) (λb=>⟨(dH (pk 0)),kX,(cS bR eG (aL 0) aP)⟩)) (aA (cS bR eG (aL 1) aP) aK) (λh ha=>sB eO PySem.F.slot_list_index PySem.F.type_list_index (NQ hr) h ha)))),?_⟩;have n5:=F.n5;have hjl:=(aD.mp hj).1;have ej:(fs.map (·.1)).idxOf n=j:=by rw[<- hfn];exact zU F hj
 have hnm:n∈fs.map (·.1):=aX.mpr ⟨f0,aR hj,hfn⟩;show E1 _ _ _ Q;dsimp only[E1];refine mU (ts:=fs.map kE) (λR h=>⟨_,rfl,_,rfl,_,rfl,h⟩) fst (by rw[aE];omega) (λx q hx hq=>?_) ?_
 ·obtain⟨f,hf,rfl⟩:=aX.mp hx;exact⟨_,rfl,_,rfl,hq⟩
 ·have e:(fs.map kE).map fst=(fs.map (·.1)).map aV:=by rw[bT,bT];rfl
  rw[e];have:=CV F.nd.2.1 hnm;rw[ej]at this;exact⟨_,rfl,_,rfl,_,rfl,_,j,rfl,this,by omega,h⟩
theorem aHb
  (F_3:bX P w K mg base eR 1 a_3 f_3 ["question","field"] (bD K aC1)):bX P w K mg base eR 2 a_2 f_2 ["question","stray","field"] (bD K U6):=by
 refine pZ T.D_2.F aDb (λds Q h=>by obtain⟨k,n,v,st,f,rfl,hn,hv,hl,h⟩:=h;rfl) λcdv Ar outer s H E hr ds Q h=>?_;obtain⟨k,n,v,st,f,rfl,hn,hv,hl,h⟩:=h;have nd:=aDb.nd;refine⟨_,(bG (dL (dN cG fY (cd F_3 T.D_3 hr (aA (aL 0) (aA (aL 2) aK))) (L8 (dE nV sZ (aL 1) eU) (dI (aA jH aK)) (dI aK))))),?_⟩;have hhl:=SM (k:=k) (v:=v) hl;refine⟨_,rfl,_,rfl,k,n,v,f,rfl,hn,hv,hl,_,rfl,?_⟩;unfold nT at h;show(if decide (st="yes")=true then _ else _);by_cases e:st="yes"
 ·rw[if_pos (decide_eq_true e)];rw[if_pos e]at h;exact⟨aC rfl,by rw[aE];show _+1<=_;omega,h⟩
 ·rw[if_neg (by simpa using e)];rw[if_neg e]at h;exact⟨aC rfl,by rw[aE];show _+0<=_;omega,h⟩
theorem aHd
  (F_2:bX P w K mg base eR 2 a_2 f_2 ["question","stray","field"] (bD K U6))
  (F_1:bX P w K mg base eR 1 a_1 f_1 ["form","question"] (bD K U7)):bX P w K mg base eR 3 a_0 f_0 ["form","question","stray","case"] (bD K aC2):=by
 refine pZ T.D_0.F aDd (λds Q h=>by obtain⟨fs,an,k,n,v,st,cs,rfl,F,hq,hst,hc,h⟩:=h;rfl) λcdv Ar outer s H E hr ds Q h=>?_;obtain⟨fs,an,k,n,v,st,cs,rfl,F,hq,hst,hc,h⟩:=h;have nd:=aDd.nd;refine⟨_,(aQ (ss 4 nd (cd F_1 T.D_1 hr (aA (aL 0) (aA (aL 1) aK))))
 (bG (dL (L8 (dE (xO hr) CW (cS bR eG (aL 3) (aL 4)) (cd F_2 T.D_2 hr (aA (aL 1) (aA (aL 2) (aA (cS bR eG (cS bR eG (aL 0) aP) (aL 4)) aK))))) eU eU)))),?_⟩
 show iM _ _ _ [.val (eM fs an),.val (.tuple [.str k,.str n,.str v]),.val (.str st),.val (.tuple cs),.un];obtain⟨hcl,hcv⟩:=iT hc;obtain⟨f0,hf0,hfn,hv0,hk0⟩:=EQ hq;obtain⟨j,hj⟩:=bQ hf0;have hjl:=(aD.mp hj).1;have hcj:cs[j]?=some cs[j]:=aF (by omega)
 generalize hcc:cs[j]=c at hcj
 have hca:L2.atI cs (j:Int)=some c:=L2.eD hcj;have hfa:L2.atI (fs.map kE) (j:Int)=some (kE f0):=L2.eD (by rw[aH,hj];rfl);have hok:=hcv j f0 c hj hcj;rw[AF F hj hcj hfn]at h
 have hcd:Cd c:=by
  cases c with
  |none=>exact(vW (n:=8) (m:=0)).cd (by decide)
  |str z=>exact(kL (F.vals hf0 z (of_decide_eq_true hok)) (n:=8) (m:=0) (aN _)).cd (by decide)
  |_=>cases hok
 refine cV (.int (j:Int)) (λq hq=>⟨_,rfl,_,rfl,fs,an,k,n,v,f0,j,rfl,F,hj,hfn,hq⟩) ?_;refine⟨_,rfl,_,rfl,_,hca,_,rfl,_,rfl,_,rfl,_,rfl,_,rfl,_,hfa,k,n,v,st,f0,rfl,F.vals hf0,hv0,(F.vs f0 hf0).2.1,tK (GM (F.vals hf0) hv0 hcd) ?_⟩;rw[<- A5 hst hok]at h;show(if ER c (.tuple (nT k v st f0))=true then _ else _)
 cases hb:ER c (.tuple (nT k v st f0))with
 |true=>rw[if_pos rfl];rw[hb,if_pos rfl]at h;exact h
 |false=>rw[if_neg (by decide)];rw[hb,if_neg (by decide)]at h;exact h
theorem aG8:bX P w K mg base eR 1 a_5 f_5 ["side","sides"] (bD K aC0):=by
 refine pZ T.D_5.F aC8 (λds Q h=>by obtain⟨w,ss,rfl,hl,h⟩:=h;rfl) λcdv Ar outer s H E hr ds Q h=>?_;obtain⟨w,ss,rfl,hl,h⟩:=h;have nd:=aC8.nd;refine⟨_,(bG (dL (el (fr:=[none,none,some 0]) (N':=["number","found","side"]) (LX (aA (aL 1) aK) (λh=>LJ rfl T.b_enumerate h)) (λb=>⟨(pS (sX rfl (iY (pk 0) (iY (pk 1) pP)))),(oJ (dE nV sZ (aL 1) (aL 2))),(aL 0)⟩)))),?_⟩;rw[<- HC]at h;refine R3 (ts:=tL (ss.map aV)) (λR h=>⟨_,rfl,_,rfl,h⟩) (onW w) aBk (by rw[kW,aE];omega) (λx hx=>?_) (λa b q hm hq=>?_) (λa b q hm hq=>?_) h
 ·rw[C5]at hx;obtain⟨y,_,rfl⟩:=aX.mp hx;exact⟨_,_,rfl⟩
 ·obtain⟨i,hi⟩:=bQ hm;have hil:=(aD.mp hi).1;rw[kW,aE]at hil;rw[oW (a:=.str ss[i]) (by rw[aH,aF hil];rfl)]at hi;cases hi;exact⟨_,rfl,_,rfl,hq⟩
 ·exact⟨_,rfl,hq⟩
theorem aG9
  (F_5:bX P w K mg base eR 1 a_5 f_5 ["side","sides"] (bD K aC0))
  (F_0:bX P w K mg base eR 3 a_0 f_0 ["form","question","stray","case"] (bD K aC2)):bX P w K mg base eR 4 a_4 f_4 ["form","question","stray","rows"] (bD K Z6):=by
 refine pZ T.D_4.F aC9 (λds Q h=>by obtain⟨fs,an,k,n,v,st,rs,rfl,F,hq,hst,hok,hrl,h⟩:=h;rfl) λcdv Ar outer s H E hr ds Q h=>?_;obtain⟨fs,an,k,n,v,st,rs,rfl,F,hq,hst,hok,hrl,h⟩:=h;have nd:=aC9.nd;refine⟨_,(aQ (sO (i:=4) (fr:=[none,some 0,some 1,some 2]) (N':=["row","form","question","stray"]) (fU (aL 3)) (λb=>⟨(dH (pk 0)),kX,(cd F_0 T.D_0 hr (aA (aL 1) (aA (aL 2) (aA (aL 3) (aA (cS bR eG (aL 0) aP) aK)))))⟩) (λhi hY=>qH (show tF _ (bJ (top 5)) ["form","question","stray","rows","sides"] ["row","form","question","stray"] [none,some 0,some 1,some 2]=true from by decide +kernel) nd rfl (by first | exact Or.inl rfl | exact Or.inr rfl) rfl hi hY rfl))
 (bG (dL (dI (aA (cd F_5 T.D_5 hr (aA eU (aA (aL 4) aK))) (aA (cd F_5 T.D_5 hr (aA eU (aA (aL 4) aK))) aK)))))),?_⟩
 show iM _ _ _ [.val (eM fs an),.val (.tuple [.str k,.str n,.str v]),.val (.str st),.val (.list (rs.map sU)),.un];have e:(rs.map sU).map (sdD fs k n v st)=(rs.map λr=>lP fs k n v st r.1).map aV:=by rw[bT,bT];rfl
 refine cV (.list ((rs.map λr=>lP fs k n v st r.1).map aV)) (λq hq'=>?_) ?_
 ·refine mU (ts:=rs.map sU) (λR h=>⟨_,rfl,_,rfl,h⟩) (sdD fs k n v st) (by rw[aE];omega) (λx q hx hq'=>?_) ?_
  ·obtain⟨r,hr,rfl⟩:=aX.mp hx;exact⟨_,rfl,_,rfl,_,rfl,_,rfl,_,rfl,fs,an,k,n,v,st,r.1,rfl,F,hq,hst,hok r hr,hq'⟩
  ·rw[e];exact hq'
 rw[<- K3,<- K3]at h;exact⟨_,rfl,"yes",_,rfl,by rw[aE];exact hrl,_,rfl,"no",_,rfl,by rw[aE];exact hrl,(aC rfl),h⟩
theorem aG7:bX P w K mg base eR 1 a_6 f_6 ["rows","numbers"] (bD K Z5):=by
 refine pZ T.D_6.F aC7 (λds Q h=>by obtain⟨rs,p,rfl,hl,h⟩:=h;rfl) λcdv Ar outer s H E hr ds Q h=>?_;obtain⟨rs,p,rfl,hl,h⟩:=h;have nd:=aC7.nd;refine⟨_,(bG (dL (el (fr:=[none,some 0]) (N':=["number","rows"]) (fU (aL 1)) (λb=>⟨(dH (pk 0)),kX,(cS bR eG (aL 1) (aL 0))⟩)))),?_⟩;refine mU (ts:=(sW rs p).map λ(j:Nat)=>.int (j:Int)) (λR h=>⟨_,rfl,_,rfl,h⟩) (VI rs) (by rw[aE];have:=Q5 rs p;omega) (λx q hx hq=>?_) (by rw[M8];exact h);obtain⟨j,hj,rfl⟩:=aX.mp hx;have hjl:=GJ hj;have hr:rs[j]?=some rs[j]:=aF hjl;rw[LA hr]at hq;exact⟨_,rfl,_,rfl,_,L2.eD (by rw[aH,hr];rfl),hq⟩
theorem aEt:bX P w K mg base eR 1 a_21 f_21 ["form","rows"] (bD K QG):=by
 refine pZ T.D_21.F YR (λds Q h=>by obtain⟨fs,an,c,l,ans,rfl,F,S,hs,hd,h⟩:=h;rfl) λcdv Ar outer s H E hr ds Q h=>?_;obtain⟨fs,an,c,l,ans,rfl,F,S,hs,hd,h⟩:=h;have nd:=YR.nd;refine⟨_,(aQ (ss 2 nd (cS bR eG (cS bR eG (aL 1) aP) aP))
 (aQ (ss 3 nd aP)
 (aQ (P2 (tv (cB ZM (aA (el (fr:=[none,some 3,some 2]) (N':=["row","number","case"]) (fU (aL 1)) (λb=>⟨(dH (pk 0)),kX,(rO (oE hr) jC (cS bR eG (cS bR eG (aL 0) aP) (aL 1)) (cS bR eG (aL 2) (aL 1)))⟩)) aK) (wR rfl) T.b_all TV))
 (bG (Z3 (i:=3) aP (λh=>aAm nd rfl (by first | exact Or.inl rfl | exact Or.inr rfl) h aBc))) (λhc hb=>QZ PassesOwn.never hc hb))
 (bG (dL (dI (aA eU (aA (cS bR eG (cS bR eG (cS bR eG (aL 0) aP) (aL 3)) aP) (aA (cS bR eG (aL 2) (aL 3)) aK))))))))),?_⟩
 show iM _ _ _ [.val (eM fs an),.val (.list (nE (c::l) ans)),.un,.un];have n5:=F.n5;obtain⟨p1,p2⟩:=rL S;have hlen:(c::l).length<=300:=cP hs.length_le p1;have hcase:∀d∈c::l,fS fs (.tuple d)=true:=λd hd=>lN (cU.whole fs) ((iR _ d).mp (hs.subset hd));have hcl:∀d∈c::l,d.length=fs.length:=λd hd=>(iT (hcase d hd)).1;have hc0:=hcl c (aS ..);refine cV (.tuple c) (λq hq=>⟨_,rfl,(⟨_,GC c l ans,⟨_,rfl,hq⟩⟩:FJ (nE (c::l) ans) 0 _)⟩) ?_;refine cV (.int ((0:Nat):Int)) (λq hq=>hq) ?_;refine M5 (λn σ=>∃m:Nat,σ=[.val (eM fs an),.val (.list (nE (c::l) ans)),.val (.tuple c),.val (.int (m:Int))]/\n=fs.length-m/\m<fs.length/\∀i,i<m->∀d∈l,d[i]?=c[i]?) fs.length ⟨0,rfl,rfl,F.n1,λi hi=>by omega⟩ λn σ' hP=>?_;obtain⟨m,rfl,rfl,hm,hall⟩:=hP;have hcm:c[m]?=some c[m]:=aF (by omega);refine⟨(c::l).all λd=>decide (d[m]?=c[m]?),λq hq=>?_,?_⟩
 ·show jP (f1 aBi) _ _ _;dsimp only[jP,nY,vP];refine mU (ts:=nE (c::l) ans) (λR h=>⟨_,rfl,_,rfl,h⟩) (λx=>match x with | .tuple [.tuple d,_]=>.bool (decide (d[m]?=c[m]?)) | _=>.none) (by unfold nE;rw[aE];omega) (λx q hx hq=>?_) ?_
  ·obtain⟨d,hdm,rfl⟩:=aX.mp hx;have hdl:=hcl d hdm;have hdj:d[m]?=some d[m]:=aF (by omega);have e1:=HD F (hcase d hdm) hdj;have e2:=HD F (hcase c (aS ..)) hcm;refine⟨_,rfl,_,rfl,_,rfl,_,L2.eD hdj,_,rfl,_,rfl,_,L2.eD hcm,pQ ((e1.th (n:=8) (m:=0) (aN 8)).cd (by decide)) ((e2.th (n:=8) (m:=0) (aN 8)).cd (by decide)),?_⟩;show q (.bool (cC d[m] c[m]));rw[EY e1 e2];have hq':q (.bool (decide (d[m]?=c[m]?))):=hq;rw[hdj,hcm]at hq';simpa using hq'
  ·refine⟨(c::l).map λd=>decide (d[m]?=c[m]?),?_,?_⟩
   ·unfold nE;rw[bT,bT];rfl
   ·rw[List.all_map];exact hq
 ·cases hb:(c::l).all λd=>decide (d[m]?=c[m]?)with
  |true=>
   rw[if_pos rfl];have hal:∀d∈l,d[m]?=c[m]?:=λd hd=>of_decide_eq_true (gI.mp hb d (aO _ hd))
   have hnew:∀i,i<m+1->∀d∈l,d[i]?=c[i]?:=λi hi d hd=>by
    by_cases e:i=m
    ·rw[e];exact hal d hd
    ·exact hall i (by omega) d hd
   have hm1:m+1<fs.length:=by
    by_cases e:m+1<fs.length
    ·exact e
    ·obtain⟨d,hdl,hdc⟩:=hd;refine absurd (gB λi=>?_) hdc;by_cases e2:i<m+1
     ·exact hnew i e2 d hdl
     ·rw[dD (by rw[hcl d (aO _ hdl)];omega),dD (by omega)]
   exact⟨_,rfl,_,rfl,fs.length-(m+1),by omega,m+1,rfl,rfl,hm1,hnew⟩
  |false=>
   rw[if_neg (by decide)]
   obtain⟨d,hdm,hdn⟩:∃d∈l,d[m]?≠c[m]?:=by
    obtain⟨d,hdm,hdd⟩:=List.all_eq_false.mp hb;have hne:d[m]?≠c[m]?:=λz=>hdd (decide_eq_true z);rcases aY.mp hdm with rfl | hdm
    ·exact absurd rfl hne
    ·exact⟨d,hdm,hne⟩
   obtain⟨f,v,hf,hv,hcv⟩:=SN F hs hall hdm hdn;have hfa:L2.atI (fs.map kE) (m:Int)=some (kE f):=L2.eD (by rw[aH,hf];rfl);exact⟨_,rfl,_,rfl,_,rfl,_,hfa,_,rfl,_,rfl,_,rfl,_,L2.eD hcv,(aC rfl),h m f v hf hv hcv ⟨d,hdm,by rw[<- hcv];exact hdn⟩⟩
theorem aEy
  (F_9:bX P w K mg base eR 1 a_9 f_9 ["field"] (bD K MX)):bX P w K mg base eR 2 a_16 f_16 ["form"] (bD K K1):=by
 refine pZ T.D_16.F YV (λds Q h=>by obtain⟨fs,an,rfl,F,h⟩:=h;rfl) λcdv Ar outer s H E hr ds Q h=>?_;obtain⟨fs,an,rfl,F,h⟩:=h;have nd:=YV.nd;refine⟨_,(bG (dL (cY kB (aA (el (fr:=[none]) (N':=["field"]) (fU (cS bR eG (aL 0) aP)) (λb=>⟨(dH (pk 0)),kX,(cd F_9 T.D_9 hr (aA (aL 0) aK))⟩)) aK) eQ T.b_tuple iZ))),?_⟩;have n5:=F.n5;have e:(fs.map kE).map (λx=>match x with | .tuple [_,.tuple vs]=>.tuple (vs++[.none]) | _=>x)=(fs.map bN).map aM:=by rw[bT,bT];rfl
 show jP (f1 tG) _ _ Q;dsimp only[jP,nY,vP];refine mU (ts:=fs.map kE) (λR h=>⟨_,rfl,_,rfl,_,rfl,h⟩) (λx=>match x with | .tuple [_,.tuple vs]=>.tuple (vs++[.none]) | _=>x) (by rw[aE];omega) (λx q hx hq=>?_) ?_
 ·obtain⟨f,hf,rfl⟩:=aX.mp hx;have v5:=(F.vs f hf).2.1;exact⟨_,rfl,f,rfl,v5,hq⟩
 ·show Q (.tuple _);rw[e];exact h
theorem UZ(dd:Nat)
  (F_2:bX P w K mg base eR 2 a_2 f_2 ["question","stray","field"] (bD K U6))
  (F_1:bX P w K mg base eR 1 a_1 f_1 ["form","question"] (bD K U7))
  (F_11:bX P w K mg base eR 1 a_11 f_11 ["tree"] (bD K QJ))
  (F_18:bX P w K mg base eR 1 a_18 f_18 ["lets","number","let"] (bD K K0))
  (F_17:bX P w K mg base eR (3+dd) a_17 f_17 ["form","tree","lets"] (fT K (sR dd))):bX P w K mg base eR (3+dd+1) a_17 f_17 ["form","tree","lets"] (fT K (sR (dd+1))):=by
 refine ZD T.D_17.F YU (λds Q h=>by obtain⟨fs,an,t,L,rfl,F,ht,hL,hn,htd,ht5,h⟩:=h;rfl) λcdv Ar outer s H E hr ds Q h=>?_;obtain⟨fs,an,t,L,rfl,F,ht,hL,hn,htd,ht5,h⟩:=h;have nd:=YU.nd;refine⟨_,(aQ (gT (tv (cd (hk:=by omega) F_11 T.D_11 hr (aA (aL 1) aK)))
 (bG (zM (SR (aA (dI (aA (aL 2) (aA (cS bR eG (aL 1) aP) aK))) aK))))
 eY)
 (aQ (ss 3 nd (cd (hk:=by omega) F_1 T.D_1 hr (aA (aL 0) (aA (cS bR eG (aL 1) aP) aK))))
 (aQ (ss 4 nd (cd (hk:=by omega) F_2 T.D_2 hr (aA (cS bR eG (aL 1) aP) (aA (cS bR eG (aL 1) aP) (aA (cS bR eG (cS bR eG (aL 0) aP) (aL 3)) aK)))))
 (aQ (ss 5 nd (cY kB (aA (el (fr:=[none,some 4]) (N':=["entry","held"]) (fU (cS bR eG (aL 2) (aL 3))) (λb=>⟨(dH (pk 0)),(oJ (dE (xO hr) CW (aL 0) (aL 1))),(aL 0)⟩)) aK) eQ T.b_tuple iZ))
 (aQ (ss 6 nd (cY kB (aA (el (fr:=[none,some 4]) (N':=["entry","held"]) (fU (cS bR eG (aL 2) (aL 3))) (λb=>⟨(dH (pk 0)),(oJ (dE (oS hr) jC (aL 0) (aL 1))),(aL 0)⟩)) aK) eQ T.b_tuple iZ))
 (aQ (so 7 nd aK)
 (aQ (sf (fU (dI (aA (dI (aA (aL 5) (aA (cS bR eG (aL 1) aP) aK))) (aA (dI (aA (aL 6) (aA (cS bR eG (aL 1) aP) aK))) aK)))) (pS (sX rfl (iY (pn 8 nd) (iY (pn 9 nd) pP))))
 (bG (gT (dE nU sD (cB kF (aA (aL 8) aK) cW T.b_len gU) aP)
 (bG (D3 (i:=7) (pv 7) (BD (cF (hk:=by omega) F_17 T.D_17 hr (aA (aL 0) (aA (aL 9) (aA (cd (hk:=by omega) F_18 T.D_18 hr (aA (aL 2) (aA (aL 3) (aA (aL 8) aK)))) aK))))) (pb:=λh=>oR (sB eO qC qB EK (pv 7) h))))
 eY)))
 (bG (qF (pv 7)))))))))),?_⟩
 show iM _ _ _ [.val (eM fs an),.val (oQ t),.val (jW L),.un,.un,.un,.un,.un,.un,.un];have n5:=F.n5
 cases t with
 |say a=>
  refine gL (λb=>b=true) (λq hq=>⟨_,rfl,.say a,rfl,hq _ rfl⟩) (λ_=>?_) λhF=>by cases hF
  have e:dQ fs (.say a) L=[(L,a)]:=by show(if fJ L then[]else _)=_;rw[hn];rfl
  rw[e]at h;exact⟨_,rfl,_,rfl,_,rfl,(aC rfl),(aC rfl),h⟩
 |ask k n v s y m=>
  refine gL (λb=>b=false) (λq hq=>⟨_,rfl,.ask k n v s y m,rfl,hq _ rfl⟩) (λhT=>by cases hT) λ_=>?_
  try unfold kC
  dsimp only;obtain⟨hq,hs,hy,hm⟩:=ht;have e1:(Tr.ask k n v s y m).dep=max y.dep m.dep+1:=rfl;obtain⟨f,hf,hfm,hfn,hv,hk⟩:=EO F hq;have v5:=(F.vs f hfm).2.1;have hjl:jx fs n<L.length:=by rw[hL.1];exact(aD.mp hf).1
  have hLl:L.length<=5:=by rw[hL.1];exact n5
  obtain⟨e,he⟩:∃e,L[jx fs n]?=some e:=⟨_,aF hjl⟩;have hsub:=hL.sub hf he;have hent:∀x∈e,BT x:=λx hx=>pF F hfm x (hsub x hx)
  have hel:e.length<=6:=by
   obtain⟨p,rfl⟩:=hL.2 _ f e hf he;have h5:=eB p (bN f);have h6:(bN f).length=f.2.length+1:=by unfold bN;rw[aZ,aE];rfl
   omega
  have hfa:L2.atI (fs.map kE) ((jx fs n:Nat):Int)=some (kE f):=L2.eD (by rw[aH,hf];rfl);have hLa:L2.atI (L.map aM) ((jx fs n:Nat):Int)=some (.tuple e):=L2.eD (by rw[aH,he];rfl);refine cV (.int ((jx fs n:Nat):Int)) (λq hq'=>⟨_,rfl,_,rfl,_,rfl,fs,an,k,n,v,f,jx fs n,rfl,F,hf,hfn,hq'⟩) ?_;refine cV (.tuple (nT k v s f)) (λq hq'=>⟨_,rfl,_,rfl,_,rfl,_,rfl,_,rfl,_,rfl,_,rfl,_,hfa,k,n,v,s,f,rfl,F.vals hfm,hv,v5,hq'⟩) ?_;have okx:∀x∈e,wM x (.tuple (nT k v s f)):=λx hx=>GM (F.vals hfm) hv (((hent x hx).th (n:=8) (m:=0) (aN 8)).cd (by decide));refine cV (.tuple (e.filter (eF fs k n v s))) (λq hq'=>?_) ?_
  ·show jP (f1 tG) _ _ q;dsimp only[jP,nY,vP];refine lX (ts:=e) (λR h=>⟨_,rfl,_,rfl,_,hLa,_,rfl,h⟩) (eF fs k n v s) id (by omega) (λx q hx hq=>⟨_,rfl,_,rfl,tK (okx x hx) ?_⟩) (λx q hx hq=>⟨_,rfl,hq⟩) ?_
   ·show q (ER x (.tuple (nT k v s f)));rw[F6 F hf hs (hsub x hx)];exact hq
   ·rw[kT];exact hq'
  refine cV (.tuple (e.filter λx=>!eF fs k n v s x)) (λq hq'=>?_) ?_
  ·show jP (f1 tG) _ _ q;dsimp only[jP,nY,vP];refine lX (ts:=e) (λR h=>⟨_,rfl,_,rfl,_,hLa,_,rfl,h⟩) (λx=>!eF fs k n v s x) id (by omega) (λx q hx hq=>⟨_,rfl,_,rfl,okx x hx,?_⟩) (λx q hx hq=>⟨_,rfl,hq⟩) ?_
   ·show q (!ER x (.tuple (nT k v s f)));rw[F6 F hf hs (hsub x hx)];exact hq
   ·rw[kT];exact hq'
  refine mQ [] (aC rfl) (λq hq=>hq) ?_
  have eT:dQ fs (.ask k n v s y m) L=dQ fs y (eJ L (jx fs n) (eF fs k n v s))++dQ fs m (eJ L (jx fs n) λx=>!eF fs k n v s x):=by
   show(if fJ L then[]else _)=_;rw[hn];rfl
  rw[eT]at h;have p2:=AK hjl (eF fs k n v s);have ly:=uB (an:=an) y hy F (hL.filt (jx fs n) (eF fs k n v s));have lm:=uB (an:=an) m hm F (hL.filt (jx fs n) λx=>!eF fs k n v s x)
  have emp:∀(g:D->Bool)(u:Tr),¬((e.filter g).length:Int)>0->dQ fs u (eJ L (jx fs n) g)=[]:=λg u hz=>A2 (by
   rw[nX hn he]
   cases hx:e.filter g with
   |nil=>rfl
   |cons a b=>rw[hx]at hz;simp at hz)
  have ful:∀g:D->Bool,((e.filter g).length:Int)>0->fJ (eJ L (jx fs n) g)=false:=λg hz=>by
   rw[nX hn he]
   cases hx:e.filter g with
   |nil=>rw[hx]at hz;simp at hz
   |cons a b=>rfl
  refine hJ (ts:=[.tuple [.tuple (e.filter (eF fs k n v s)),oQ y],.tuple [.tuple (e.filter λx=>!eF fs k n v s x),oQ m]]) (λR h=>⟨_,rfl,_,rfl,_,rfl,(aC rfl),_,rfl,_,rfl,_,rfl,(aC rfl),(aC rfl),_,rfl,h⟩)
   (λi σ=>∃s8 s9:Sl,σ=[.val (eM fs an),.val (oQ (.ask k n v s y m)),.val (jW L),.val (.int ((jx fs n:Nat):Int)),.val (.tuple (nT k v s f)),.val (.tuple (e.filter (eF fs k n v s))),.val (.tuple (e.filter λx=>!eF fs k n v s x)),.own (((if 0<i then dQ fs y (eJ L (jx fs n) (eF fs k n v s))else[])++(if 1<i then dQ fs m (eJ L (jx fs n) λx=>!eF fs k n v s x)else[])).map cL),s8,s9]) ⟨_,_,rfl⟩ (λi x σ' hx hP=>?_) λσ' hP=>?_
  ·obtain⟨s8,s9,rfl⟩:=hP
   match i,hx with
   |0,hx=>
    cases hx;refine⟨_,_,rfl,?_⟩;refine jL (λb=>b=decide (((e.filter (eF fs k n v s)).length:Int)>0)) (λq hq=>⟨_,rfl,hq _ rfl⟩) (λhT=>?_) λhF=>?_
    ·have hz:=of_decide_eq_true hT.symm;refine wL (ts:=[]) (us:=(dQ fs y (eJ L (jx fs n) (eF fs k n v s))).map cL) rfl (by rw[aE];show 0+_<=_;omega) (λq hq'=>⟨_,rfl,_,rfl,_,rfl,_,rfl,_,rfl,L,jx fs n,e.filter (eF fs k n v s),rfl,(aD.mp he).1,hLl,by rw[wF he];exact⟨fs,an,y,_,rfl,F,hy,hL.filt _ _,ful _ hz,by omega,by omega,hq'⟩⟩) ⟨.val (.tuple (e.filter (eF fs k n v s))),.val (oQ y),?_⟩;show _=[_,_,_,_,_,_,_,Sl.own ((dQ fs y _++[]).map cL),_,_];rw[dG];rfl
    ·have hz:=emp (eF fs k n v s) y (of_decide_eq_false hF.symm);refine⟨.val (.tuple (e.filter (eF fs k n v s))),.val (oQ y),?_⟩;show _=[_,_,_,_,_,_,_,Sl.own ((dQ fs y _++[]).map cL),_,_];rw[hz];rfl
   |1,hx=>
    cases hx;refine⟨_,_,rfl,?_⟩;refine jL (λb=>b=decide (((e.filter λx=>!eF fs k n v s x).length:Int)>0)) (λq hq=>⟨_,rfl,hq _ rfl⟩) (λhT=>?_) λhF=>?_
    ·have hz:=of_decide_eq_true hT.symm;refine wL (ts:=(dQ fs y (eJ L (jx fs n) (eF fs k n v s))++[]).map cL) (us:=(dQ fs m (eJ L (jx fs n) λx=>!eF fs k n v s x)).map cL) rfl (by rw[dG,aE,aE];omega) (λq hq'=>⟨_,rfl,_,rfl,_,rfl,_,rfl,_,rfl,L,jx fs n,e.filter (λx=>!eF fs k n v s x),rfl,(aD.mp he).1,hLl,by rw[wF he];exact⟨fs,an,m,_,rfl,F,hm,hL.filt _ _,ful _ hz,by omega,by omega,hq'⟩⟩) ⟨.val (.tuple (e.filter λx=>!eF fs k n v s x)),.val (oQ m),?_⟩;show _=[_,_,_,_,_,_,_,Sl.own ((dQ fs y _++dQ fs m _).map cL),_,_];simp only[dG,bY];rfl
    ·have hz:=emp (λx=>!eF fs k n v s x) m (of_decide_eq_false hF.symm);refine⟨.val (.tuple (e.filter λx=>!eF fs k n v s x)),.val (oQ m),?_⟩;show _=[_,_,_,_,_,_,_,Sl.own ((dQ fs y _++dQ fs m _).map cL),_,_];rw[hz];rfl
  ·obtain⟨s8,s9,rfl⟩:=hP;exact⟨_,rfl,h⟩
theorem aEx
  (F_2:bX P w K mg base eR 2 a_2 f_2 ["question","stray","field"] (bD K U6))
  (F_1:bX P w K mg base eR 1 a_1 f_1 ["form","question"] (bD K U7))
  (F_11:bX P w K mg base eR 1 a_11 f_11 ["tree"] (bD K QJ))
  (F_18:bX P w K mg base eR 1 a_18 f_18 ["lets","number","let"] (bD K K0)):bX P w K mg base eR 33 a_17 f_17 ["form","tree","lets"] (fT K QH):=by
 have h:∀dd:Nat,bX P w K mg base eR (3+dd) a_17 f_17 ["form","tree","lets"] (fT K (sR dd)):=λdd=>by
  induction dd with
  |zero=>exact WO N6 λds Q h=>RT h
  |succ dd ih=>exact UZ T dd F_2 F_1 F_11 F_18 ih
 exact h 30
theorem aEz
  (F_17:bX P w K mg base eR 33 a_17 f_17 ["form","tree","lets"] (fT K QH))
  (F_16:bX P w K mg base eR 2 a_16 f_16 ["form"] (bD K K1)):bX P w K mg base eR 34 a_15 f_15 ["form","tree"] (fT K XY):=by
 refine ZD T.D_15.F K8 (λds Q h=>by obtain⟨fs,an,t,rfl,F,ht,htd,h60,h⟩:=h;rfl) λcdv Ar outer s H E hr ds Q h=>?_;obtain⟨fs,an,t,rfl,F,ht,htd,h60,h⟩:=h;have nd:=K8.nd;refine⟨_,(aQ (sF 2 nd (cF F_17 T.D_17 hr (aA (aL 0) (aA (aL 1) (aA (cd F_16 T.D_16 hr (aA (aL 0) aK)) aK)))))
 (aQ (gT (xE 2 (dE nU sD (cB kF (aA (aL 2) aK) cW T.b_len gU) (rN rfl T.c_MOST_RULES)))
 (bG wA)
 eY)
 (bG (qF (pv 2))))),?_⟩
 show iM _ _ _ [.val (eM fs an),.val (oQ t),.un];refine AG ((dQ fs t (fs.map bN)).map cL) (λq hq=>⟨_,rfl,_,rfl,_,rfl,fs,an,rfl,F,fs,an,t,fs.map bN,rfl,F,ht,cU.whole fs,rB fs,by omega,tD F (cU.whole fs),hq⟩) ?_;refine gL (λb=>b=false) (λq hq=>⟨_,rfl,_,rfl,hq _ (decide_eq_false ?_)⟩) (λhT=>by cases hT) λ_=>?_
 ·rw[aE];omega
 try unfold kC
 dsimp only;exact⟨_,rfl,h⟩
theorem UX(dd:Nat)
  (F_36:bX P w K mg base eR 1 a_36 f_36 ["_law_tape_here","_law_many"] (bD K uQ))
  (F_45:bX P w K mg base eR (2+dd) a_45 f_45 ["_law_tape_here","_law_form_here","_law_lets","_law_left"] (bD K (sP dd))):bX P w K mg base eR (2+dd+1) a_45 f_45 ["_law_tape_here","_law_form_here","_law_lets","_law_left"] (bD K (sP (dd+1))):=by
 refine pZ T.D_45.F X3 (λds Q h=>by obtain⟨ns,fs,an,L,n,rfl,hl,F,hL,hNil,hn1,hnm,hw,h⟩:=h;rfl) λcdv Ar outer s H E hr ds Q h=>?_;obtain⟨ns,fs,an,L,n,rfl,hl,F,hL,hNil,hn1,hnm,hw,h⟩:=h;have nd:=X3.nd;refine⟨_,(aQ (sO (i:=4) (fr:=[none,some 2]) (N':=["_law_at","_law_lets"]) (lF (aA (cB kF (aA (aL 2) aK) cW T.b_len gU) aK) (λh=>kD rfl T.b_range h)) (λb=>⟨(dH (pk 0)),(oJ (dE nU sD (cB kF (aA (cS bR eG (aL 1) (aL 0)) aK) cW T.b_len gU) aP)),(aL 0)⟩) (λhi hY=>qH (show tF _ (bJ (top 66)) ["_law_tape_here","_law_form_here","_law_lets","_law_left","_law_sizes","_law_at","_law_values","_law_value","_law_stray","_law_some","_law_rest","_law_inside","_law_outside","_law_room","_law_k","_law_part_here","_law_least_one","_law_most_one","_law_one","_law_yes"] ["_law_at","_law_lets"] [none,some 2]=true from by decide +kernel) nd rfl (by first | exact Or.inl rfl | exact Or.inr rfl) rfl hi hY rfl))
 (aQ (gT (oN (uO (dE (oE hr) jC (aL 3) aP) (pW (dE (oE hr) jC (aL 4) (jM aK)))))
 (bG (dL (dI (aA eU (aA (cS bR eG (cS bR eG (aL 1) aP) (cd (hk:=by omega) F_36 T.D_36 hr (aA (aL 0) (aA (cB kF (aA (cS bR eG (aL 1) aP) aK) cW T.b_len gU) aK)))) aK)))))
 eY)
 (aQ (ss 5 nd (cS bR eG (aL 4) (cd (hk:=by omega) F_36 T.D_36 hr (aA (aL 0) (aA (cB kF (aA (aL 4) aK) cW T.b_len gU) aK)))))
 (aQ (sO (i:=6) (fr:=[none]) (N':=["_law_value"]) (fU (cS bR eG (aL 2) (aL 5))) (λb=>⟨(dH (pk 0)),(oJ (dE NH RK (aL 0) jH)),(aL 0)⟩) (λhi hY=>qH (show tF _ (bJ (top 66)) ["_law_tape_here","_law_form_here","_law_lets","_law_left","_law_sizes","_law_at","_law_values","_law_value","_law_stray","_law_some","_law_rest","_law_inside","_law_outside","_law_room","_law_k","_law_part_here","_law_least_one","_law_most_one","_law_one","_law_yes"] ["_law_value"] [none]=true from by decide +kernel) nd rfl (by first | exact Or.inl rfl | exact Or.inr rfl) rfl hi hY rfl))
 (aQ (ss 7 nd (cS bR eG (aL 6) (cd (hk:=by omega) F_36 T.D_36 hr (aA (aL 0) (aA (cB kF (aA (aL 6) aK) cW T.b_len gU) aK)))))
 (aQ (ss 8 nd eU)
 (aQ (ss 9 nd (dI (aA (aL 7) aK)))
 (aQ (gT (oN (xD (dE (xO hr) CW jH (cS bR eG (aL 2) (aL 5))) (tZ (oN (uO (dE nV sZ (cB kF (aA (aL 6) aK) cW T.b_len gU) aP) (pW (oN (xD (dE nV sZ (cd (hk:=by omega) F_36 T.D_36 hr (aA (aL 0) (aA aP aK))) aP) (tZ (dE nU sD (cB kF (aA (aL 6) aK) cW T.b_len gU) aP))))))))))
 (aQ (ss 8 nd (cS bR eG (jM (aA eU (aA eU aK))) (cY TK (aA (rO nU sD (cB kF (aA (aL 6) aK) cW T.b_len gU) aP) aK) yA T.b_int KC)))
 (bG (ss 9 nd (fC iK nL (dI (aA (aL 7) (aA jH aK))) gM (gD (dN cG fY aP (cY TK (aA (rO nU sD (cB kF (aA (aL 6) aK) cW T.b_len gU) aP) aK) yA T.b_int KC)))))))
 eY)
 (aQ (ss 10 nd (cY kB (aA (el (fr:=[none,some 9]) (N':=["_law_one","_law_some"]) (fU (cS bR eG (aL 2) (aL 5))) (λb=>⟨(dH (pk 0)),(oJ (dE (oS hr) jC (aL 0) (aL 1))),(aL 0)⟩)) aK) eQ T.b_tuple iZ))
 (aQ (ss 11 nd (dN cG fY (dN cG fY (fC iK nL (aL 2) gM (gD (aL 5))) (dI (aA (aL 9) aK))) (fC iK nL (aL 2) (gD (dN cG fY (aL 5) aP)) gM)))
 (aQ (ss 12 nd (dN cG fY (dN cG fY (fC iK nL (aL 2) gM (gD (aL 5))) (dI (aA (aL 10) aK))) (fC iK nL (aL 2) (gD (dN cG fY (aL 5) aP)) gM)))
 (aQ (so 13 nd (aA aP (aA aP aK)))
 (aQ (sf (lF (aA aP aK) (λh=>kD rfl T.b_range h)) (dH (pn 14 nd))
 (bG (sf (fU (cS bR eG (jM (aA (aL 11) (aA (aL 12) aK))) (aL 14))) (dH (pn 15 nd))
 (bG (Z1 (i:=13) (pv 13) (aL 14) (dN mJ yK (SX (pv 13) (aL 14)) (cB kF (aA (aL 15) aK) cW T.b_len gU)) (λhe hi=>EE he (EG (pv 13) hi wE)))))))
 (lE 13 (aQ (ss 16 nd (cB TH (aA aP (aA (dN vK JJ (aL 3) (cS bR eG (aL 13) aP)) aK)) (DD rfl) T.b_max TU))
 (aQ (ss 17 nd (cB TF (aA (cS bR eG (aL 13) aP) (aA (dN vK JJ (aL 3) aP) aK)) (DB rfl) T.b_min TR))
 (aQ (ss 18 nd (cB TF (aA (aL 17) (aA (dN cG fY (aL 16) (cd (hk:=by omega) F_36 T.D_36 hr (aA (aL 0) (aA (cB TH (aA aP (aA (dN cG fY (dN vK JJ (aL 17) (aL 16)) aP) aK)) (DD rfl) T.b_max TU) aK)))) aK)) (DB rfl) T.b_min TR))
 (aQ (ss 19 nd (cd (hk:=by omega) F_45 T.D_45 hr (aA (aL 0) (aA (aL 1) (aA (aL 11) (aA (aL 18) aK))))))
 (bG (dL (dI (aA eU (aA (dI (aA eU (aA (cS bR eG (cS bR eG (cS bR eG (aL 1) aP) (aL 5)) aP) (aA (aL 7) aK)))) (aA (aL 8) (aA (aL 19) (aA (cd (hk:=by omega) F_45 T.D_45 hr (aA (aL 0) (aA (aL 1) (aA (aL 12) (aA (dN vK JJ (aL 3) (aL 18)) aK))))) aK)))))))))))))))))))))))))),?_⟩
 show iM _ _ _ [.val (iD ns),.val (eM fs an),.val (jW L),.val (.int (n:Int)),.un,.un,.un,.un,.un,.un,.un,.un,.un,.un,.un,.un,.un,.un,.un,.un];have n5:=F.n5;have a2:=F.a2;have a4:=F.a4;have hL5:L.length<=5:=by rw[hL.1];exact n5
 have p7:=tD F hL;refine cV (.list ((mH L).map λ(j:Nat)=>bS (j:Int))) (λq hq=>?_) ?_
 ·refine lX (ts:=fV L.length) (λR h=>⟨_,rfl,((L.map aM).length:Int),rfl,by omega,by rw[aE];omega,by rw[aE];exact h⟩) (λx=>match x with | .int k=>(match L[k.toNat]? with | some e=>decide (1<e.length) | none=>false) | _=>false) id (by rw[iX];omega) (λx q hx hq=>?_) (λx q hx hq=>⟨_,rfl,hq⟩) ?_
  ·obtain⟨k,hk,rfl⟩:=aX.mp hx;have hkl:=lQ.mp hk;have he:L[k]?=some L[k]:=aF hkl;refine⟨_,rfl,_,rfl,_,L2.eD (by rw[aH,he];rfl),?_⟩;show q (decide ((L[k].length:Int)>1));have hq':q (match L[k]? with | some e=>decide (1<e.length) | none=>false):=hq;rw[he]at hq'
   rwa [show decide ((L[k].length:Int)>1)=decide (1<L[k].length)from by rw[eE,decide_eq_true_eq,decide_eq_true_eq];omega]
  ·rw[kT];unfold fV;rw[iH];exact hq
 refine gL (λb=>b=(decide (n=1)||(mH L).isEmpty)) (λq hq=>?_) (λhT=>?_) λhF=>?_
 ·refine⟨_,rfl,pQ TB TB,?_⟩;show(if((n:Int)==1)=true then q true else _);by_cases h1:n=1
  ·subst h1;rw[if_pos (by rfl)];exact hq _ (by simp)
  ·rw[if_neg (by simp;omega)];refine⟨_,rfl,(aC rfl),pQ (MC _) (MC []),hq _ ?_⟩;rw[decide_eq_false h1];show cC (.list ((mH L).map λ(j:Nat)=>bS (j:Int))) (.list [])=_;cases mH L<;>rfl
 ·have hn1:n=1:=by
   rcases(jV _ _).mp hT.symm with h | h
   ·exact of_decide_eq_true h
   ·have:=CT (MZ (UP.mp h));omega
  subst hn1;refine⟨_,rfl,_,rfl,_,rfl,_,rfl,_,rfl,ns,_,rfl,hl,by rw[aE];omega,by rw[aE];omega,λi h0 h1=>?_⟩;obtain⟨t,hm,ha,_⟩:=tP (xs:=an.map aV) (i:=i) h0 h1;obtain⟨z,hz,rfl⟩:=aX.mp hm;exact⟨_,ha,(aC rfl),h (.say z) (RD hz hNil)⟩
 try unfold kC
 dsimp only;have hF':=(oP.mp hF.symm);have hn2:2<=n:=by have:=of_decide_eq_false hF'.1;omega
 have hsz:mH L≠[]:=λz=>by rw[z]at hF';cases hF'.2
 have hszl:1<=(mH L).length/\(mH L).length<=5:=⟨jE.mpr hsz,cP (eB _ _) (by rw[qS];exact hL5)⟩;refine dF (λd=>∃j,j∈mH L/\d=.int ((j:Nat):Int)) (λq hq=>⟨_,rfl,_,rfl,_,rfl,ns,_,rfl,hl,by rw[aE];omega,by rw[aE];omega,λi h0 h1=>?_⟩) ?_
 ·obtain⟨t,hm,ha,_⟩:=tP (xs:=(mH L).map λ(j:Nat)=>bS (j:Int)) (i:=i) h0 h1;obtain⟨j,hj,rfl⟩:=aX.mp hm;exact⟨_,ha,hq _ ⟨j,hj,rfl⟩⟩
 rintro _ ⟨j,hj,rfl⟩;obtain⟨e,he,he2⟩:=M0 hj;have hjl:=(aD.mp he).1;have hf:fs[j]?=some (fs[j]'(by rw[<- hL.1];exact hjl)):=aF _
 generalize fs[j]'(by rw[<- hL.1];exact hjl)=f at hf
 have hfm:=aR hf;have hE:=pF F hfm;have hsub:=hL.sub hf he;have hEe:∀x∈e,BT x:=λx hx=>hE x (hsub x hx);obtain⟨p,hp⟩:=hL.2 j f e hf he;have hnd:e.Nodup:=by rw[hp];exact(EZ F hfm).sublist mG
 have v5:=(F.vs f hfm).2.1
 have hel:e.length<=6:=by
  have h1:=eB p (bN f);have h2:=kQ f;rw[hp];omega
 have hLa:L2.atI (L.map aM) (j:Int)=some (.tuple e):=L2.eD (by rw[aH,he];rfl);have hfa:L2.atI (fs.map kE) (j:Int)=some (kE f):=L2.eD (by rw[aH,hf];rfl);refine cV (.list (e.filter λx=>!gE x)) (λq hq=>?_) ?_
 ·refine lX (ts:=e) (λR h=>⟨_,rfl,_,rfl,_,hLa,_,rfl,h⟩) (λx=>!gE x) id (by omega) (λx q hx hq=>⟨_,rfl,hq⟩) (λx q hx hq=>⟨_,rfl,hq⟩) ?_;rw[kT];exact hq
 obtain⟨x0,hx0,hx0n⟩:=xN (a:=dY) hnd he2
 have hstr:∀x∈e,x≠.none->∃v,x=.str v/\v∈f.2:=λx hx hn=>by
  rcases dO.mp (hsub x hx)with h | h
  ·obtain⟨z,hz,rfl⟩:=aX.mp h;exact⟨z,rfl,hz⟩
  ·exact absurd (aW.mp h) hn
 have isn:∀x∈e,(!gE x)=true↔x≠.none:=λx hx=>by
  rcases hEe x hx with rfl | ⟨z,_,rfl⟩
  ·exact⟨(λz=>by cases z),λz=>absurd rfl z⟩
  ·exact⟨(λ_ z=>nomatch z),λ_=>rfl⟩
 have hvl:1<=(e.filter λx=>!gE x).length:=jE.mpr λz=>by
  have:=fP.mp z x0 hx0;exact this ((isn x0 hx0).mpr hx0n)
 have hvl6:(e.filter λx=>!gE x).length<=6:=cP (eB _ _) hel;refine dF (λd=>∃v,d=.str v/\.str v∈e/\v∈f.2) (λq hq=>⟨_,rfl,_,rfl,_,rfl,ns,_,rfl,hl,by show 0<(((e.filter λx=>!gE x).length:Nat):Int);omega,by show(((e.filter λx=>!gE x).length:Nat):Int)<=10000;omega,λi h0 h1=>?_⟩) ?_
 ·obtain⟨t,hm,ha,_⟩:=tP (xs:=e.filter λx=>!gE x) (i:=i) h0 h1;obtain⟨m1,m2⟩:=bO.mp hm;obtain⟨v,rfl,hv⟩:=hstr t m1 ((isn t m1).mp m2);exact⟨_,ha,hq _ ⟨v,rfl,m1,hv⟩⟩
 rintro _ ⟨v,rfl,hve,hvf⟩;refine cV (.str "no") (λq hq=>hq) ?_;refine cV (.tuple [.str v]) (λq hq=>⟨_,rfl,(aC rfl),hq⟩) ?_
 have rest1:∀s:Str,s="no"->e.filter (λx=>!decide (x∈fB v s))≠[]:=λs hs z=>by
  obtain⟨x,hx,hxn⟩:=xN (a:=aV v) hnd he2;refine fP.mp z x hx ?_;unfold fB;rw[if_neg (by rw[hs];exact sJ),decide_eq_false λh=>hxn (aW.mp h)];rfl
 have rest2:∀s:Str,s="yes"->1<(e.filter λx=>!gE x).length->e.filter (λx=>!decide (x∈fB v s))≠[]:=λs hs h1 z=>by
  obtain⟨x,hx,hxn⟩:=xN (a:=aV v) (hnd.sublist mG) h1;obtain⟨m1,m2⟩:=bO.mp hx;refine fP.mp z x m1 ?_;unfold fB;rw[if_pos hs,decide_eq_false λh=>?_]
  ·rfl
  ·rcases aY.mp h with h | h
   ·exact hxn h
   ·exact(isn x m1).mp m2 (aW.mp h)
 refine zN (λb=>b=true->dY∈e) (λσ=>∃s:Str,(s="yes"\/s="no")/\(s="yes"->dY∈e)/\e.filter (λx=>!decide (x∈fB v s))≠[]/\σ=[.val (iD ns),.val (eM fs an),.val (jW L),.val (.int (n:Int)),.val (.list ((mH L).map λ(j:Nat)=>bS (j:Int))),.val (.int (j:Int)),.val (.list (e.filter λx=>!gE x)),.val (.str v),.val (.str s),.val (.tuple (fB v s)),.un,.un,.un,.un,.un,.un,.un,.un,.un,.un]) (λq hq=>?_) (λhT DT' hD=>?_) (λ_=>⟨"no",.inr rfl,λz=>absurd z sJ,rest1 _ rfl,by unfold fB;rw[if_neg sJ];rfl⟩) ?_
 ·refine⟨_,rfl,_,rfl,_,hLa,(qI (.inl rfl) hEe).2,?_⟩;show(if(e.any λz=>cC z .none)=true then _ else q false);rw[rS (.inl rfl) hEe];by_cases hN:dY∈e
  ·rw[if_pos (decide_eq_true hN)];refine⟨_,rfl,?_⟩;show(if decide (((e.filter λx=>!gE x).length:Int)=1)=true then q true else _);by_cases h1:((e.filter λx=>!gE x).length:Int)=1
   ·rw[if_pos (decide_eq_true h1)];exact hq _ λ_=>hN
   ·rw[if_neg (by rw[decide_eq_false h1];decide)];refine⟨_,rfl,ns,2,rfl,hl,by decide,by decide,λi _ _=>?_⟩;show(if decide (i=0)=true then _ else q false);by_cases h2:i=0
    ·rw[if_pos (decide_eq_true h2)];exact⟨_,rfl,hq _ λ_=>hN⟩
    ·rw[if_neg (by rw[decide_eq_false h2];decide)];exact hq _ λ_=>hN
  ·rw[if_neg (by rw[decide_eq_false hN];decide)];exact hq _ λz=>by cases z
 ·have hN:=hT rfl;by_cases h1:1<(e.filter λx=>!gE x).length
  ·have hb:decide ((1:Int)<((e.filter λx=>!gE x).length:Int))=true:=decide_eq_true (by omega);refine cV (.str "yes") (λq hq=>⟨(aC rfl),_,rfl,?_⟩) ?_
   ·show fIx (.list [.str "no",.str "yes"]) (.int (if decide ((1:Int)<((e.filter λx=>!gE x).length:Int))then 1 else 0)) q;rw[hb];exact⟨_,L2.eD (j:=1) rfl,hq⟩
   refine mT (.tuple [.str v,.none]) (λq hq=>⟨_,rfl,(aC rfl),_,rfl,?_⟩) (hD _ ⟨"yes",.inl rfl,λ_=>hN,rest2 _ rfl h1,by unfold fB;rw[if_pos rfl];rfl⟩);show q (.tuple (jZ [.str v,.none] none (some (1+(if decide ((1:Int)<((e.filter λx=>!gE x).length:Int))then 1 else 0)))));rw[hb];exact hq
  ·have hb:decide ((1:Int)<((e.filter λx=>!gE x).length:Int))=false:=decide_eq_false (by omega);refine cV (.str "no") (λq hq=>⟨(aC rfl),_,rfl,?_⟩) ?_
   ·show fIx (.list [.str "no",.str "yes"]) (.int (if decide ((1:Int)<((e.filter λx=>!gE x).length:Int))then 1 else 0)) q;rw[hb];exact⟨_,L2.eD (j:=0) rfl,hq⟩
   refine mT (.tuple [.str v]) (λq hq=>⟨_,rfl,(aC rfl),_,rfl,?_⟩) (hD _ ⟨"no",.inr rfl,λz=>absurd z sJ,rest1 _ rfl,by unfold fB;rw[if_neg sJ];rfl⟩);show q (.tuple (jZ [.str v,.none] none (some (1+(if decide ((1:Int)<((e.filter λx=>!gE x).length:Int))then 1 else 0)))));rw[hb];exact hq
 rintro _ ⟨s,hs,hsN,hrest,rfl⟩;obtain⟨g1,g2,w1,w2,nA,nB,mk⟩:=RF F hL hNil hf he hvf hve hs hsN hrest
 have hsE:∀t∈fB v s,BT t:=λt ht=>by
  unfold fB at ht;have hv:BT (.str v):=hEe _ hve;split at ht
  ·rcases aY.mp ht with rfl | ht
   ·exact hv
   ·rw[aW.mp ht];exact .inl rfl
  ·rw[aW.mp ht];exact hv
 refine cV (.tuple (e.filter λx=>!decide (x∈fB v s))) (λq hq=>?_) ?_
 ·show jP (f1 tG) _ _ q;dsimp only[jP,nY,vP];refine lX (ts:=e) (λR h=>⟨_,rfl,_,rfl,_,hLa,_,rfl,h⟩) (λx=>!decide (x∈fB v s)) id (by omega) (λx q hx hq=>⟨_,rfl,_,rfl,(qI (hEe x hx) hsE).2,?_⟩) (λx q hx hq=>⟨_,rfl,hq⟩) ?_
  ·show q (!((fB v s).any λz=>cC z x));rw[rS (hEe x hx) hsE];exact hq
  ·rw[kT];exact hq
 have e2:(j:Int)+1=((j+1:Nat):Int):=by omega
 have lets:∀(d:List D)(q:D->Prop),q (jW (L.set j d))->((L.map aM).take j).length+1<=100000/\((L.map aM).take j++[aM d]).length+((L.map aM).drop (j+1)).length<=100000/\q (aM ((L.map aM).take j++[aM d]++(L.map aM).drop (j+1))):=λd q hq=>by
  rw[VA hjl];refine⟨by rw[bI,aE];omega,?_,hq⟩;rw[aZ,bI,fH,aE];simp only[cE,iG];omega
 have part:∀(d:List D)(q:D->Prop),q (jW (L.set j d))->aBm (.tuple (jZ (L.map aM) none (some (j:Int)))) (.tuple [.tuple d]) λx=>aBm x (.tuple (jZ (L.map aM) (some ((j:Int)+1)) none)) q:=λd q hq=>by
  rw[lT,e2,tM];obtain⟨l1,l2,l3⟩:=lets d q hq;exact⟨l1,l2,l3⟩
 refine cV (jW (L.set j (fB v s))) (λq hq=>⟨_,rfl,_,rfl,_,rfl,(aC rfl),?_⟩) ?_
 ·obtain⟨l1,l2⟩:=part (fB v s) q hq;exact⟨l1,_,rfl,_,rfl,l2⟩
 refine cV (jW (L.set j (e.filter λx=>!decide (x∈fB v s)))) (λq hq=>⟨_,rfl,_,rfl,_,rfl,(aC rfl),?_⟩) ?_
 ·obtain⟨l1,l2⟩:=part (e.filter λx=>!decide (x∈fB v s)) q hq;exact⟨l1,_,rfl,_,rfl,l2⟩
 have hL1:cU fs (L.set j (fB v s)):=by rw[<- g1];exact hL.filt _ _
 have hL2:cU fs (L.set j (e.filter λx=>!decide (x∈fB v s))):=by rw[<- g2];exact hL.filt _ _
 have q1:=tD F hL1;have q2:=tD F hL2;have q12:=AK hjl (eF fs "is" f.1 v s);rw[g1,g2]at q12
 generalize L.set j (fB v s)=A1 at *
 generalize L.set j (e.filter λx=>!decide (x∈fB v s))=B1 at *
 have six:∀{M:List (List D)},cU fs M->∀e'∈M,e'.length<=6:=λ{M} hM e' he'=>by
  obtain⟨i,hi⟩:=bQ he';have hil:i<fs.length:=by rw[<- hM.1];exact(aD.mp hi).1
  obtain⟨p,rfl⟩:=hM.2 i _ e' (aF hil) hi;have h1:=eB p (bN fs[i]);have h2:=kQ fs[i];have h3:=(F.vs _ (eV hil)).2.1;omega
 have hA6:=six hL1;have hB6:=six hL2;have pA:1<=(cH A1).length:=jE.mpr λz=>by rw[(wK A1).mp z]at nA;cases nA
 have pB:1<=(cH B1).length:=jE.mpr λz=>by rw[(wK B1).mp z]at nB;cases nB
 refine mQ [.int 1,.int 1] (aC rfl) (λq hq=>hq) ?_
 refine hJ (ts:=fV 2) (λR h=>⟨2,rfl,by decide,by decide,h⟩)
  (λi σ=>∃s14 s15:Sl,σ=[.val (iD ns),.val (eM fs an),.val (jW L),.val (.int (n:Int)),.val (.list ((mH L).map λ(j:Nat)=>bS (j:Int))),.val (.int (j:Int)),.val (.list (e.filter λx=>!gE x)),.val (.str v),.val (.str s),.val (.tuple (fB v s)),.val (.tuple (e.filter λx=>!decide (x∈fB v s))),.val (jW A1),.val (jW B1),.own [.int (if 1<=i then((cH A1).length:Int)else 1),.int (if 2<=i then((cH B1).length:Int)else 1)],s14,s15,.un,.un,.un,.un]) ⟨_,_,rfl⟩ (λi x σ' hx hP=>?_) λσ' hP=>?_
 ·obtain⟨s14,s15,rfl⟩:=hP;obtain⟨hi2,rfl⟩:=mI hx;rcases i with _ | _ | i
  ·refine⟨_,rfl,_,rfl,(aC rfl),_,rfl,_,L2.eD (j:=0) rfl,A1.map aM,rfl,λi' σ=>∃s15:Sl,σ=[.val (iD ns),.val (eM fs an),.val (jW L),.val (.int (n:Int)),.val (.list ((mH L).map λ(j:Nat)=>bS (j:Int))),.val (.int (j:Int)),.val (.list (e.filter λx=>!gE x)),.val (.str v),.val (.str s),.val (.tuple (fB v s)),.val (.tuple (e.filter λx=>!decide (x∈fB v s))),.val (jW A1),.val (jW B1),.own [.int (((A1.take i').foldl (λa e=>a*e.length) 1:Nat):Int),.int 1],.val (.int ((0:Nat):Int)),s15,.un,.un,.un,.un],⟨_,rfl⟩,λi' x σ' hx hP=>?_,λσ' hP=>?_⟩
   ·obtain⟨s15,rfl⟩:=hP;rw[aH]at hx;obtain⟨e',he',rfl⟩:=bK.mp hx;have h6:=hA6 e' (aR he');refine⟨_,rfl,_,rfl,_,rfl,((0:Nat):Int),_,rfl,L2.eD (j:=0) rfl,_,rfl,.inr ⟨by omega,by omega⟩,_,rfl,0,rfl,by show 0<2;decide,.val (.tuple e'),?_⟩
    have e1:(((A1.take (i'+1)).foldl (λa e=>a*e.length) 1:Nat):Int)=(((A1.take i').foldl (λa e=>a*e.length) 1:Nat):Int)*(e'.length:Int):=by
     rw[cN,he',lL];exact uL _ _
    rw[e1];rfl
   ·obtain⟨s15,rfl⟩:=hP;rw[aE,cX,vI,vQ];exact⟨_,_,rfl⟩
  ·refine⟨_,rfl,_,rfl,(aC rfl),_,rfl,_,L2.eD (j:=1) rfl,B1.map aM,rfl,λi' σ=>∃s15:Sl,σ=[.val (iD ns),.val (eM fs an),.val (jW L),.val (.int (n:Int)),.val (.list ((mH L).map λ(j:Nat)=>bS (j:Int))),.val (.int (j:Int)),.val (.list (e.filter λx=>!gE x)),.val (.str v),.val (.str s),.val (.tuple (fB v s)),.val (.tuple (e.filter λx=>!decide (x∈fB v s))),.val (jW A1),.val (jW B1),.own [.int ((cH A1).length:Int),.int (((B1.take i').foldl (λa e=>a*e.length) 1:Nat):Int)],.val (.int ((1:Nat):Int)),s15,.un,.un,.un,.un],⟨_,rfl⟩,λi' x σ' hx hP=>?_,λσ' hP=>?_⟩
   ·obtain⟨s15,rfl⟩:=hP;rw[aH]at hx;obtain⟨e',he',rfl⟩:=bK.mp hx;have h6:=hB6 e' (aR he');refine⟨_,rfl,_,rfl,_,rfl,((1:Nat):Int),_,rfl,L2.eD (j:=1) rfl,_,rfl,.inr ⟨by omega,by omega⟩,_,rfl,1,rfl,by show 1<2;decide,.val (.tuple e'),?_⟩
    have e1:(((B1.take (i'+1)).foldl (λa e=>a*e.length) 1:Nat):Int)=(((B1.take i').foldl (λa e=>a*e.length) 1:Nat):Int)*(e'.length:Int):=by
     rw[cN,he',lL];exact uL _ _
    rw[e1];rfl
   ·obtain⟨s15,rfl⟩:=hP;rw[aE,cX,vI,vQ];exact⟨_,_,rfl⟩
  ·omega
 obtain⟨s14,s15,rfl⟩:=hP;refine⟨_,rfl,?_⟩
 generalize hpA:(cH A1).length=PA at *
 generalize hpB:(cH B1).length=PB at *
 refine dF (λd=>∃x:Int,d=.int x/\1<=x/\(n:Int)-PB<=x/\(x=1\/x=(n:Int)-PB)) (λq hq=>⟨_,rfl,_,rfl,_,L2.eD (j:=1) rfl,?_⟩) ?_
 ·show q (.int (if(n:Int)-PB>1 then(n:Int)-PB else 1));refine hq _ ⟨_,rfl,?_⟩;split<;>omega
 rintro _ ⟨lo,rfl,lo1,lo2,lo3⟩;refine dF (λd=>∃x:Int,d=.int x/\x<=PA/\x<=(n:Int)-1/\(x=PA\/x=(n:Int)-1)) (λq hq=>⟨_,rfl,_,L2.eD (j:=0) rfl,_,rfl,?_⟩) ?_
 ·show q (.int (if(n:Int)-1<(PA:Int)then(n:Int)-1 else(PA:Int)));refine hq _ ⟨_,rfl,?_⟩;split<;>omega
 rintro _ ⟨hi,rfl,hi1,hi2,hi3⟩;have lohi:lo<=hi:=by omega
 refine dF (λd=>∃x:Nat,d=.int (x:Int)/\lo<=x/\x<=hi) (λq hq=>⟨_,rfl,_,rfl,_,rfl,_,rfl,_,rfl,ns,(if hi-lo+1>1 then hi-lo+1 else 1),rfl,hl,by split<;>omega,by split<;>omega,λi h0 h1=>?_⟩) ?_
 ·show q (.int (if lo+i<hi then lo+i else hi));have:0<=(if lo+i<hi then lo+i else hi):=by split<;>omega
  obtain⟨m,hm⟩:=Int.eq_ofNat_of_zero_le this;refine hq _ ⟨m,by rw[hm],?_⟩;split at hm<;>omega
 rintro _ ⟨one,rfl,one1,one2⟩;refine dF (λd=>∃y,tQ fs an A1 one y/\d=oQ y) (λq hq=>⟨_,rfl,_,rfl,_,rfl,_,rfl,ns,fs,an,A1,one,rfl,hl,F,hL1,nA,by omega,by omega,by omega,λt ht=>hq _ ⟨t,ht,rfl⟩⟩) ?_;rintro _ ⟨y,hy,rfl⟩;refine⟨_,rfl,_,rfl,_,rfl,_,hfa,_,rfl,_,rfl,(aC rfl),_,rfl,_,rfl,_,rfl,_,rfl,_,rfl,_,rfl,_,rfl,ns,fs,an,B1,n-one,?_,hl,F,hL2,nB,by omega,by omega,by omega,λm hm=>⟨(aC rfl),?_⟩⟩
 ·rw[show((n-one:Nat):Int)=(n:Int)-(one:Int) by omega]
 ·have:=mk hy hm;rw[show one+(n-one)=n by omega]at this;exact h _ this
theorem aD5
  (F_36:bX P w K mg base eR 1 a_36 f_36 ["_law_tape_here","_law_many"] (bD K uQ)):bX P w K mg base eR 28 a_45 f_45 ["_law_tape_here","_law_form_here","_law_lets","_law_left"] (bD K XG):=by
 have h:∀dd:Nat,bX P w K mg base eR (2+dd) a_45 f_45 ["_law_tape_here","_law_form_here","_law_lets","_law_left"] (bD K (sP dd)):=λdd=>by
  induction dd with
  |zero=>exact SU G5 λds Q h=>RP h
  |succ dd ih=>exact UX T dd F_36 ih
 exact h 26
theorem aEo
  (F_29:bX P w K mg base eR 2 a_29 f_29 ["form","rule","cases"] (bD K QA))
  (F_27:bX P w K mg base eR 2 a_27 f_27 ["form","rule"] (bD K QC))
  (F_28:bX P w K mg base eR 2 a_28 f_28 ["form","rule","number","entry"] (bD K QB)):bX P w K mg base eR 3 a_26 f_26 ["form","rule","against"] (bD K XT):=by
 refine pZ T.D_26.F YM (λds Q h=>by obtain⟨fs,an,r,ag,rfl,F,hL,hc,h⟩:=h;rfl) λcdv Ar outer s H E hr ds Q h=>?_;obtain⟨fs,an,r,ag,rfl,F,hL,hc,h⟩:=h;have nd:=YM.nd;refine⟨_,(aQ (ss 3 nd (aL 1))
 (aQ (sf (fU (cd F_27 T.D_27 hr (aA (aL 0) (aA (aL 1) aK)))) (pS (sX rfl (iY (pn 4 nd) (iY (pn 5 nd) pP))))
 (aQ (ss 6 nd (cd F_28 T.D_28 hr (aA (aL 0) (aA (aL 3) (aA (aL 4) (aA (aL 5) aK))))))
 (bG (gT (dE AQ GO (cd F_29 T.D_29 hr (aA (aL 0) (aA (aL 6) (aA (aL 2) aK)))) jH)
 (bG (ss 3 nd (aL 6)))
 eY))))
 (bG (dL (aL 3))))),?_⟩
 show iM _ _ _ [.val (eM fs an),.val (cL r),.val (iS ag),.un,.un,.un,.un];refine cV (cL r) (λq hq=>⟨_,rfl,hq⟩) ?_
 refine hJ (ts:=(rJ fs r.1).map pD) (λR h=>⟨_,rfl,_,rfl,fs,an,r,rfl,F,hL,_,rfl,h⟩)
  (λi σ=>∃(L:List (List D))(s4 s5 s6:Sl),σ=[.val (eM fs an),.val (cL r),.val (iS ag),.val (cL (L,r.2)),s4,s5,s6]/\cU fs L) ⟨r.1,_,_,_,rfl,hL⟩ (λi x σ' hx hP=>?_) λσ' hP=>?_
 ·obtain⟨L,s4,s5,s6,rfl,hLo⟩:=hP;obtain⟨⟨j,y⟩,hp,rfl⟩:=aX.mp (aR hx);obtain⟨f,e,hf,_,hy,_⟩:=(AY hL).mp hp;have hW:=KN (x:=y) hLo (aD.mp hf).1;refine⟨_,_,rfl,?_⟩;refine cV (cL (DW fs L j y,r.2)) (λq hq=>⟨_,rfl,_,rfl,_,rfl,_,rfl,fs,an,(L,r.2),j,f,y,rfl,F,hLo,hf,hy,hq⟩) ?_;exact jL (λ_=>True) (λq hq=>⟨_,rfl,_,rfl,_,rfl,fs,an,(DW fs L j y,r.2),ag,rfl,F,hW,hc,hq _ trivial⟩) (λ_=>mT (cL (DW fs L j y,r.2)) (λq hq=>⟨_,rfl,hq⟩) ⟨_,_,_,_,rfl,hW⟩) λ_=>⟨L,_,_,_,rfl,hLo⟩
 ·obtain⟨L,s4,s5,s6,rfl,hLo⟩:=hP;exact⟨_,rfl,h L hLo⟩
theorem aEj
  (F_13:bX P w K mg base eR 2 a_13 f_13 ["form","rules","case"] (bD K K2))
  (F_12:bX P w K mg base eR 1 a_12 f_12 ["form","rule","case"] (bD K F2))
  (F_32:bX P w K mg base eR 1 a_32 f_32 ["rules","number"] (fT K P8)):bX P w K mg base eR 3 a_31 f_31 ["form","rules","number","answers"] (bD K (P9 w)):=by
 refine pZ T.D_31.F YH (λds Q h=>by obtain⟨fs,an,rs,k,r,all,ans,rfl,F,hR,hk,hl,hc,h⟩:=h;rfl) λcdv Ar outer s H E hr ds Q h=>?_;obtain⟨fs,an,rs,k,r,all,ans,rfl,F,hR,hk,hl,hc,h⟩:=h;have nd:=YH.nd;refine⟨_,(aQ (ss 4 nd (BD (cF F_32 T.D_32 hr (aA (aL 1) (aA (aL 2) aK)))))
 (aQ (sf (WG (aL 3)) (dH (pn 5 nd))
 (bG (gT (oN (xD (tv (cd F_12 T.D_12 hr (aA (aL 0) (aA (cS bR eG (aL 1) (aL 2)) (aA (aL 5) aK))))) (tZ (dE (sY hr) jC (cd F_13 T.D_13 hr (aA (aL 0) (aA (aL 4) (aA (aL 5) aK)))) (G9 (w:=w) rfl hr.u9 (aL 3) (aL 5))))))
 (bG (dL (aL 5)))
 eY)))
 (bG (dL jH)))),?_⟩
 show iM _ _ _ [.val (eM fs an),.val (.list (rs.map cL)),.val (.int (k:Int)),.val (pN w (kP all ans)),.un,.un];have hka:L2.atI (rs.map cL) (k:Int)=some (cL r):=L2.eD (by rw[aH,hk];rfl);have hrm:=hR r (aR hk);have eo:(rs.map cL).take k++(rs.map cL).drop (k+1)=(rs.take k++rs.drop (k+1)).map cL:=by rw[bY,wV,wW]
 have hO:∀q∈rs.take k++rs.drop (k+1),cU fs q.1/\q.2∈an:=λq hq=>hR q (R0 hq)
 have keys:∀kv∈kP all ans,nZ kv.1:=λkv hkv=>by
  obtain⟨c,hcm,rfl⟩:=aX.mp hkv;exact(qL F (hc c hcm).1).1
 refine cV (.list ((rs.take k++rs.drop (k+1)).map cL)) (λq hq=>⟨_,rfl,_,rfl,rs.map cL,k,rfl,by rw[aE];omega,by rw[eo];exact hq⟩) ?_
 refine hJ (ts:=all.map aM) (λR h=>⟨_,rfl,kP all ans,rfl,by rw[EN];exact h⟩)
  (λi σ=>∃s5:Sl,σ=[.val (eM fs an),.val (.list (rs.map cL)),.val (.int (k:Int)),.val (pN w (kP all ans)),.val (.list ((rs.take k++rs.drop (k+1)).map cL)),s5]) ⟨_,rfl⟩ (λi x σ' hx hP=>?_) λσ' hP=>?_
 ·obtain⟨s5,rfl⟩:=hP;obtain⟨c,hcm,rfl⟩:=aX.mp (aR hx);obtain⟨h1,h2⟩:=hc c hcm;have hin:(aM c,aV (ans c))∈kP all ans:=aX.mpr ⟨c,hcm,rfl⟩
  have cdA:Cd (vO (UG (rs.take k++rs.drop (k+1)) c)):=by
   cases hf:UG (rs.take k++rs.drop (k+1)) c with
   |none=>exact(vW (n:=8) (m:=0)).cd (by decide)
   |some q=>exact E6 (F.an.2.1 _ (hO q (FP hf)).2)
  refine jL (λ_=>True) (λq hq=>?_) (λ_=>⟨_,rfl,h _⟩) λ_=>⟨_,rfl⟩;refine⟨_,rfl,_,rfl,_,rfl,_,hka,_,rfl,fs,an,r,c,rfl,F,hrm.1,h1,?_⟩;show(if kZ r.1 c=true then _ else q false)
  cases hx:kZ r.1 c with
  |false=>rw[if_neg (by decide)];exact hq _ trivial
  |true=>
   rw[if_pos rfl];exact⟨_,rfl,_,rfl,_,rfl,fs,an,_,c,rfl,F,λq hq=>(hO q hq).1,h1,_,rfl,_,rfl,kP all ans,rfl,qL F h1,keys,_,hin,pQ cdA (E6 (F.an.2.1 _ h2)),hq _ trivial⟩
 ·obtain⟨s5,rfl⟩:=hP;exact h _
theorem aEk
  (F_31:bX P w K mg base eR 3 a_31 f_31 ["form","rules","number","answers"] (bD K (P9 w)))
  (F_32:bX P w K mg base eR 1 a_32 f_32 ["rules","number"] (fT K P8)):bX P w K mg base eR 4 a_30 f_30 ["form","rules","answers"] (fT K (XS w)):=by
 refine ZD T.D_30.F YI (λds Q h=>by obtain⟨fs,an,rs,all,ans,rfl,F,hR,hl,hc,ha,h⟩:=h;rfl) λcdv Ar outer s H E hr ds Q h=>?_;obtain⟨fs,an,rs,all,ans,rfl,F,hR,hl,hc,ha,h⟩:=h;have nd:=YI.nd;refine⟨_,(aQ (sF 3 nd (WL (aL 1) (pc:=λh=>oV rR rfl T.b_list uF h)))
 (aQ (sf (WF (aA (dN vK JJ (cB kF (aA (aL 1) aK) cW T.b_len gU) aP) (aA (J8 aP) (aA (J8 aP) aK))) (λh=>VU rfl T.b_range h)) (dH (pn 4 nd))
 (bG (gT (xE 3 (dE AQ GO (cd F_31 T.D_31 hr (aA (aL 0) (aA (aL 3) (aA (aL 4) (aA (aL 2) aK))))) jH))
 (lE 3 (bG (sF 3 nd (cF F_32 T.D_32 hr (aA (aL 3) (aA (aL 4) aK))))))
 eY)))
 (bG (qF (pv 3))))),?_⟩
 show iM _ _ _ [.val (eM fs an),.val (.list (rs.map cL)),.val (pN w (kP all ans)),.un,.un];have hlen:(rs.map cL).length=rs.length:=aE ..;refine AG (rs.map cL) (λq hq=>⟨_,rfl,_,.inl rfl,hq⟩) ?_
 refine hJ (ts:=yP ((rs.length:Int)-1)) (λR h=>⟨_,rfl,(rs.length:Int)-1,by rw[hlen],by omega,by omega,h⟩)
  (λi σ=>∃(us:List Rl)(s4:Sl),σ=[.val (eM fs an),.val (.list (rs.map cL)),.val (pN w (kP all ans)),.own (us.map cL),s4]/\rs.length-i<=us.length/\us.length<=20/\∀r∈us,cU fs r.1/\r.2∈an) ⟨rs,_,rfl,aN _,hl,hR⟩ (λi x σ' hx hP=>?_) λσ' hP=>?_
 ·obtain⟨us,s4,rfl,n3,n4,hU⟩:=hP
  have hil:i<rs.length:=by
   have:=(aD.mp hx).1;unfold yP at this;rw[aE,qS]at this;omega
  obtain⟨m,hm⟩:∃m:Nat,rs.length-i=m+1:=⟨rs.length-i-1,by omega⟩
  have hxm:x=.int (m:Int):=by
   unfold yP at hx;rw[aH,iE (by omega)]at hx;have:=Option.some.inj hx;rw[<- this];exact congrArg bS (show(rs.length:Int)-1-(i:Int)=(m:Int) by omega)
  subst hxm;have hml:m<us.length:=by omega
  refine jL (λ_=>True) (λq hq=>⟨_,rfl,_,rfl,_,rfl,_,rfl,_,rfl,fs,an,us,m,us[m],all,ans,rfl,F,hU,aF hml,by omega,hc,λd=>hq _ trivial⟩) (λ_=>?_) λ_=>⟨us,_,rfl,by omega,n4,hU⟩;refine⟨_,rfl,?_⟩;have eo:(us.map cL).take m++(us.map cL).drop (m+1)=(us.take m++us.drop (m+1)).map cL:=by rw[bY,wV,wW]
  have hwl:(us.take m++us.drop (m+1)).length+1=us.length:=by rw[aZ,bI,fH];omega
  refine(show F9 3 _ _ _ from⟨_,rfl,_,rfl,us.map cL,m,rfl,by rw[aE];omega,?_⟩);rw[eo];exact⟨_,_,rfl,by omega,by omega,λr hr=>hU r (R0 hr)⟩
 ·obtain⟨us,s4,rfl,n3,n4,hU⟩:=hP;exact⟨_,rfl,h us hU n4⟩
theorem aEr
  (F_24:bX P w K mg base eR 1 a_24 f_24 ["rule","cases","answers"] (bD K (QF w)))
  (F_25:bX P w K mg base eR 2 a_25 f_25 ["form","rule","cases"] (bD K QE))
  (F_26:bX P w K mg base eR 3 a_26 f_26 ["form","rule","against"] (bD K XT)):bX P w K mg base eR 4 a_23 f_23 ["form","rules","answers"] (bD K (XU w)):=by
 refine pZ T.D_23.F YQ (λds Q h=>by obtain⟨fs,an,rs,all,ans,rfl,F,hR,hl,hc,ha,h⟩:=h;rfl) λcdv Ar outer s H E hr ds Q h=>?_;obtain⟨fs,an,rs,all,ans,rfl,F,hR,hl,hc,ha,h⟩:=h;have nd:=YQ.nd;refine⟨_,(aQ (so 3 nd aK)
 (aQ (ss 4 nd (G8 (aL 2) (pc:=λh=>oV (sC rfl) rfl T.b_list uF h)))
 (aQ (sf (fU (aL 1)) (dH (pn 5 nd))
 (aQ (ss 6 nd (cd F_26 T.D_26 hr (aA (aL 0) (aA (aL 5) (aA (cd F_24 T.D_24 hr (aA (aL 5) (aA (aL 4) (aA (aL 2) aK)))) aK)))))
 (aQ (xG (i:=3) (pv 3) (aL 6) (pb:=λh=>oR (sB eO iQ iP nM (pv 3) h)))
 (bG (ss 4 nd (cd F_25 T.D_25 hr (aA (aL 0) (aA (aL 6) (aA (aL 4) aK)))))))))
 (lE 3 (bG (dL (aL 3))))))),?_⟩
 show iM _ _ _ [.val (eM fs an),.val (.list (rs.map cL)),.val (pN w (kP all ans)),.un,.un,.un,.un];refine mQ [] (aC rfl) (λq hq=>hq) ?_;refine cV (iS all) (λq hq=>⟨_,rfl,kP all ans,rfl,by rw[EN];exact hq⟩) ?_
 refine hJ (ts:=rs.map cL) (λR h=>⟨_,rfl,_,rfl,h⟩)
  (λi σ=>∃(us:List Rl)(left:List (List D))(s5 s6:Sl),σ=[.val (eM fs an),.val (.list (rs.map cL)),.val (pN w (kP all ans)),.own (us.map cL),.val (iS left),s5,s6]/\us.length<=i/\(∀r∈us,cU fs r.1/\r.2∈an)/\(∀c∈left,c∈all)/\left.length<=300) ⟨[],all,_,_,rfl,aN _,λr hr=>by simp at hr,λc h=>h,ha⟩ (λi x σ' hx hP=>?_) λσ' hP=>?_
 ·obtain⟨us,left,s5,s6,rfl,hul,hU,hsub,hll⟩:=hP;rw[aH]at hx;obtain⟨r,hri,rfl⟩:=bK.mp hx;have hrm:=hR r (aR hri);have hil:=(aD.mp hri).1;refine dF (λd=>∃L,cU fs L/\d=cL (L,r.2)) (λq hq=>⟨_,rfl,_,rfl,_,rfl,_,rfl,_,rfl,fs,an,r,left,ans,kP all ans,rfl,F,λc h=>⟨F.an.2.1 _ (hc c (hsub c h)).2,F.an.2.1 _ hrm.2⟩,λc h=>(hc c (hsub c h)).1,hll,λc h=>R8 F hc (hsub c h),fs,an,r,_,rfl,F,hrm.1,λc h=>(hc c (hsub c (bO.mp h).1)).1,λL hL=>hq _ ⟨L,hL,rfl⟩⟩) ?_;rintro _ ⟨L,hL,rfl⟩;refine VB (cL (L,r.2)) rfl (by rw[aE];omega) (λq hq=>⟨_,rfl,hq⟩) ?_;refine mT (iS (left.filter λc=>!kZ L c)) (λq hq=>⟨_,rfl,_,rfl,_,rfl,fs,an,(L,r.2),left,rfl,F,hL,λc h=>(hc c (hsub c h)).1,hll,hq⟩) ?_;refine⟨us++[(L,r.2)],_,_,_,by rw[bY];rfl,by rw[aZ];show _+1<=_;omega,λx hx=>?_,λc h=>hsub c (bO.mp h).1,cP (eB _ _) hll⟩;rcases dO.mp hx with hx | hx
  ·exact hU x hx
  ·rw[aW.mp hx];exact⟨hL,hrm.2⟩
 ·obtain⟨us,left,s5,s6,rfl,hul,hU,hsub,hll⟩:=hP;rw[aE]at hul;exact⟨_,rfl,_,rfl,h us hU (by omega)⟩
theorem aEh
  (F_31:bX P w K mg base eR 3 a_31 f_31 ["form","rules","number","answers"] (bD K (P9 w)))
  (F_24:bX P w K mg base eR 1 a_24 f_24 ["rule","cases","answers"] (bD K (QF w)))
  (F_34:bX P w K mg base eR 3 a_34 f_34 ["form","rule","against"] (fT K XO))
  (F_25:bX P w K mg base eR 2 a_25 f_25 ["form","rule","cases"] (bD K QE)):bX P w K mg base eR 4 a_33 f_33 ["form","rules","answers"] (bD K (XQ w)):=by
 refine pZ T.D_33.F YF (λds Q h=>by obtain⟨fs,an,us,all,ans,rfl,F,hR,hl,hc,ha,h⟩:=h;rfl) λcdv Ar outer s H E hr ds Q h=>?_;obtain⟨fs,an,us,all,ans,rfl,F,hR,hl,hc,ha,h⟩:=h;have nd:=YF.nd;refine⟨_,(aQ (so 3 nd aK)
 (aQ (ss 4 nd (G8 (aL 2) (pc:=λh=>oV (sC rfl) rfl T.b_list uF h)))
 (aQ (sf (LX (aA (aL 1) aK) (λh=>LJ rfl T.b_enumerate h)) (pS (sX rfl (iY (pn 5 nd) (iY (pn 6 nd) pP))))
 (aQ (ss 7 nd (BD (cF F_34 T.D_34 hr (aA (aL 0) (aA (aL 6) (aA (cd F_24 T.D_24 hr (aA (aL 6) (aA (aL 4) (aA (aL 2) aK)))) aK))))))
 (aQ (xG (i:=3) (pv 3) (dI (aA (cd F_31 T.D_31 hr (aA (aL 0) (aA (aL 1) (aA (aL 5) (aA (aL 2) aK))))) (aA (aL 7) aK))) (pb:=λh=>oR (sB eO iQ iP nM (pv 3) h)))
 (bG (ss 4 nd (cd F_25 T.D_25 hr (aA (aL 0) (aA (aL 6) (aA (aL 4) aK)))))))))
 (lE 3 (bG (dL (aL 3))))))),?_⟩
 show iM _ _ _ [.val (eM fs an),.val (.list (us.map cL)),.val (pN w (kP all ans)),.un,.un,.un,.un,.un];refine mQ [] (aC rfl) (λq hq=>hq) ?_;refine cV (iS all) (λq hq=>⟨_,rfl,kP all ans,rfl,by rw[EN];exact hq⟩) ?_
 refine hJ (ts:=tL (us.map cL)) (λR h=>⟨_,rfl,_,rfl,h⟩)
  (λi σ=>∃(ts:List D)(left:List (List D))(s5 s6 s7:Sl),σ=[.val (eM fs an),.val (.list (us.map cL)),.val (pN w (kP all ans)),.own ts,.val (iS left),s5,s6,s7]/\ts.length<=i/\(∀c∈left,c∈all)/\left.length<=300) ⟨[],all,_,_,_,rfl,aN _,λc h=>h,ha⟩ (λi x σ' hx hP=>?_) λσ' hP=>?_
 ·obtain⟨ts,left,s5,s6,s7,rfl,htl,hsub,hll⟩:=hP
  have hil:i<us.length:=by
   have:=(aD.mp hx).1;rw[kW,aE]at this;exact this
  have hu:us[i]?=some us[i]:=aF hil;rw[oW (a:=cL us[i]) (by rw[aH,hu];rfl)]at hx;cases hx;have hum:=hR us[i] (eV hil);refine⟨_,_,rfl,?_⟩;refine cV (.list ((rJ fs us[i].1).map (RZ fs us[i].1 (left.filter λc=>!decide (ans c=us[i].2))))) (λq hq=>⟨_,rfl,_,rfl,_,rfl,_,rfl,_,rfl,fs,an,us[i],left,ans,kP all ans,rfl,F,λc h=>⟨F.an.2.1 _ (hc c (hsub c h)).2,F.an.2.1 _ hum.2⟩,λc h=>(hc c (hsub c h)).1,hll,λc h=>R8 F hc (hsub c h),fs,an,us[i],_,rfl,F,hum.1,λc h=>(hc c (hsub c (bO.mp h).1)).1,hq⟩) ?_;refine⟨ts,rfl,_,rfl,_,rfl,_,rfl,_,rfl,fs,an,us,i,us[i],all,ans,rfl,F,hR,hu,hl,hc,λd=>⟨_,rfl,(aC rfl),by omega,?_⟩⟩;dsimp only;refine mT (iS (left.filter λc=>!kZ us[i].1 c)) (λq hq=>⟨_,rfl,_,rfl,_,rfl,fs,an,us[i],left,rfl,F,hum.1,λc h=>(hc c (hsub c h)).1,hll,hq⟩) ?_;exact⟨_,_,_,_,_,rfl,by rw[aZ];show _+1<=_;omega,λc h=>hsub c (bO.mp h).1,cP (eB _ _) hll⟩
 ·obtain⟨ts,left,s5,s6,s7,rfl,_⟩:=hP;exact⟨_,rfl,_,rfl,h _⟩
theorem aEs
  (F_14:bX P w K mg base eR 4 a_14 f_14 ["form","rules","most"] (bD K (QI w)))
  (F_30:bX P w K mg base eR 4 a_30 f_30 ["form","rules","answers"] (fT K (XS w)))
  (F_33:bX P w K mg base eR 4 a_33 f_33 ["form","rules","answers"] (bD K (XQ w)))
  (F_23:bX P w K mg base eR 4 a_23 f_23 ["form","rules","answers"] (bD K (XU w))):bX P w K mg base eR 5 a_22 f_22 ["form","rules"] (bD K XV):=by
 refine pZ T.D_22.F K6 (λds Q h=>by obtain⟨fs,an,rs,rfl,F,S,hR,hl,hA,h⟩:=h;rfl) λcdv Ar outer s H E hr ds Q h=>?_;obtain⟨fs,an,rs,rfl,F,S,hR,hl,hA,h⟩:=h;have nd:=K6.nd;refine⟨_,(aQ (ss 2 nd (cd F_14 T.D_14 hr (aA (aL 0) (aA (aL 1) (aA (rN rfl T.c_MOST_CASES_SHORTENED) aK)))))
 (aQ (ss 3 nd (BD (cF F_30 T.D_30 hr (aA (aL 0) (aA (cd F_23 T.D_23 hr (aA (aL 0) (aA (aL 1) (aA (aL 2) aK)))) (aA (aL 2) aK))))))
 (bG (dL (dI (aA (aL 3) (aA (cd F_33 T.D_33 hr (aA (aL 0) (aA (aL 3) (aA (aL 2) aK)))) aK))))))),?_⟩
 show iM _ _ _ [.val (eM fs an),.val (.list (rs.map cL)),.un,.un];have hcase:∀c∈cH (fs.map bN),fS fs (.tuple c)=true/\nG rs c∈an:=λc hc=>⟨lN (cU.whole fs) ((iR _ c).mp hc),DM hA (λr hr=>(hR r hr).2) hc⟩;have hlen:=(rL S).1;refine cV (pN w (kP (cH (fs.map bN)) (nG rs))) (λq hq=>⟨_,rfl,_,rfl,fs,an,rs,300,rfl,F,S,hlen,λr hr=>(hR r hr).1,hA,hq⟩) ?_;refine⟨_,rfl,_,rfl,_,rfl,_,rfl,fs,an,rs,cH (fs.map bN),nG rs,rfl,F,hR,hl,hcase,hlen,λvs hV hv=>⟨_,rfl,fs,an,vs,cH (fs.map bN),nG rs,rfl,F,hV,hv,hcase,hlen,λus hU hu=>?_⟩⟩;exact⟨_,rfl,_,rfl,_,rfl,_,rfl,fs,an,us,cH (fs.map bN),nG rs,rfl,F,hU,hu,hcase,hlen,λts=>⟨(aC rfl),h _ ts⟩⟩
theorem UY(dd:Nat)
  (F_21:bX P w K mg base eR 1 a_21 f_21 ["form","rows"] (bD K QG))
  (F_4:bX P w K mg base eR 4 a_4 f_4 ["form","question","stray","rows"] (bD K Z6))
  (F_6:bX P w K mg base eR 1 a_6 f_6 ["rows","numbers"] (bD K Z5))
  (F_20:bX P w K mg base eR (5+dd) a_20 f_20 ["form","rows"] (bD K (sQ dd))):bX P w K mg base eR (5+dd+1) a_20 f_20 ["form","rows"] (bD K (sQ (dd+1))):=by
 refine pZ T.D_20.F YS (λds Q h=>by obtain⟨fs,an,l,ans,rfl,F,S,hne,hs,ha,hm,hm15,h⟩:=h;rfl) λcdv Ar outer s H E hr ds Q h=>?_;obtain⟨fs,an,l,ans,rfl,F,S,hne,hs,ha,hm,hm15,h⟩:=h;have nd:=YS.nd;refine⟨_,(aQ (gT (dE nV sZ (J9 (el (fr:=[none]) (N':=["row"]) (fU (aL 1)) (λb=>⟨(dH (pk 0)),kX,(cS bR eG (aL 0) aP)⟩)) (pc:=λh=>mR CA rfl T.b_len gU (fW (oV (BM rfl) rfl T.b_set aB3 h) mS))) aP)
 (bG (dL (dI (aA eU (aA (cS bR eG (cS bR eG (aL 1) aP) aP) aK)))))
 eY)
 (aQ (ss 2 nd (cd (hk:=by omega) F_21 T.D_21 hr (aA (aL 0) (aA (aL 1) aK))))
 (aQ (ss 3 nd (cd (hk:=by omega) F_4 T.D_4 hr (aA (aL 0) (aA (aL 2) (aA eU (aA (aL 1) aK))))))
 (aQ (ss 4 nd (cd (hk:=by omega) F_20 T.D_20 hr (aA (aL 0) (aA (cd (hk:=by omega) F_6 T.D_6 hr (aA (aL 1) (aA (cS bR eG (aL 3) aP) aK))) aK))))
 (aQ (ss 5 nd (cd (hk:=by omega) F_20 T.D_20 hr (aA (aL 0) (aA (cd (hk:=by omega) F_6 T.D_6 hr (aA (aL 1) (aA (cS bR eG (aL 3) aP) aK))) aK))))
 (bG (dL (L8 (dE (oE hr) jC (aL 4) (aL 5)) (aL 4) (dI (aA eU (aA (aL 2) (aA eU (aA (aL 4) (aA (aL 5) aK)))))))))))))),?_⟩
 show iM _ _ _ [.val (eM fs an),.val (.list (nE l ans)),.un,.un,.un,.un];obtain⟨p1,p2⟩:=rL S;have hcase:∀d∈l,fS fs (.tuple d)=true:=λd hd=>lN (cU.whole fs) ((iR _ d).mp (hs.subset hd));have hlen:l.length<=300:=cP hs.length_le p1
 obtain⟨c,l0,hl⟩:∃c l0,l=c::l0:=by
  cases l with
  |nil=>exact absurd rfl hne
  |cons c l0=>exact⟨c,l0,rfl⟩
 have hcm:c∈l:=by rw[hl];exact aS ..
 have hra:L2.atI (nE l ans) 0=some (sU (c,ans c)):=by rw[hl];exact GC c l0 ans
 refine gL (λb=>b=decide ((L2.dd (l.map ans)).length=1)) (λq hq=>?_) (λhT=>?_) λhF=>?_
 ·dsimp only[ME,UH,HE];refine mU (ts:=nE l ans) (λR h=>⟨_,rfl,_,rfl,h⟩) (λx=>match x with | .tuple [_,a]=>a | _=>.none) (by unfold nE;rw[aE];omega) (λx q hx hq=>?_) ?_
  ·obtain⟨d,hdm,rfl⟩:=aX.mp hx;exact⟨_,rfl,_,rfl,hq⟩
  ·refine⟨l.map ans,?_,by rw[aE];omega,?_⟩
   ·unfold nE;rw[bT,bT];rfl
   ·refine hq _ ?_;show decide (((L2.dd (l.map ans)).length:Int)=1)=_;rw[eE,decide_eq_true_eq,decide_eq_true_eq];omega
 ·exact⟨_,rfl,_,hra,_,rfl,(aC rfl),h (.say (ans c)) ⟨ha c hcm,dS _⟩⟩
 ·try unfold kC
  dsimp only;have h1:¬(L2.dd (l.map ans)).length=1:=of_decide_eq_false hF.symm;rw[hl,bM,aBx]at h1
  have hex:∃d∈l0,d≠c:=by
   refine Classical.byContradiction λz=>h1 λa hm=>?_;obtain⟨d,hd,rfl⟩:=aX.mp hm;by_cases e:d=c
   ·rw[e]
   ·exact absurd ⟨d,hd,e⟩ z
  refine dF (λx=>∃(j:Nat)(f:Str×List Str)(v:Str),fs[j]?=some f/\v∈f.2/\c[j]?=some (.str v)/\(∃d∈l,d[j]?≠some (.str v))/\x=.tuple [.str "is",.str f.1,.str v]) (λq hq=>⟨_,rfl,_,rfl,fs,an,c,l0,ans,by rw[hl],F,S,by rw[<- hl];exact hs,hex,λj f v h1 h2 h3 ⟨d,hd,h4⟩=>hq _ ⟨j,f,v,h1,h2,h3,⟨d,by rw[hl];exact aO _ hd,h4⟩,rfl⟩⟩) ?_;rintro _ ⟨j,f,v,hf,hv,hcv,⟨d0,hd0,hdv⟩,rfl⟩;have hq:N0 fs (.tuple [.str "is",.str f.1,.str v])=true:=(D5 F hf hv (hcase c hcm)).2.2
  let py:List D->Bool:=λd=>decide (d[j]?=some (.str v))
  have ny:¬("no":Str)="yes":=by decide +kernel
  have sy:∀d∈l,decide (lP fs "is" f.1 v "no" d="yes")=py d:=λd hd=>by
   rw[(D5 F hf hv (hcase d hd)).1];show decide ((if d[j]?=some (.str v)then("yes":Str)else "no")="yes")=decide (d[j]?=some (.str v));by_cases e:d[j]?=some (.str v)
   ·rw[if_pos e,decide_eq_true e,decide_eq_true rfl]
   ·rw[if_neg e,decide_eq_false e,decide_eq_false ny]
  have sn:∀d∈l,decide (lP fs "is" f.1 v "no" d="no")=!py d:=λd hd=>by
   rw[(D5 F hf hv (hcase d hd)).1];show decide ((if d[j]?=some (.str v)then("yes":Str)else "no")="no")=!decide (d[j]?=some (.str v));by_cases e:d[j]?=some (.str v)
   ·rw[if_pos e,decide_eq_true e,decide_eq_false (λz=>ny z.symm)];rfl
   ·rw[if_neg e,decide_eq_false e,decide_eq_true rfl];rfl
  have part:∀(w:Str)(p:List D->Bool),(∀d∈l,decide (lP fs "is" f.1 v "no" d=w)=p d)->((l.map (B5 ans)).filter λr=>decide (lP fs "is" f.1 v "no" r.1=w)).map sU=nE (l.filter p) ans:=λw p hp=>by
   rw[M7 l ans λc=>decide (lP fs "is" f.1 v "no" c=w),wI];congr 2;exact gA hp
  have hrl:(l.map (B5 ans)).length<=500:=by rw[aE];omega
  refine cV (.tuple [.list (sT fs "is" f.1 v "no" (l.map (B5 ans)) "yes"),.list (sT fs "is" f.1 v "no" (l.map (B5 ans)) "no")]) (λq hq'=>⟨_,rfl,_,rfl,_,rfl,fs,an,"is",f.1,v,"no",l.map (B5 ans),by rw[wI],F,hq,.inr rfl,λr hr=>?_,hrl,hq'⟩) ?_
  ·obtain⟨d,hd,rfl⟩:=aX.mp hr;exact hcase d hd
  rw[CM,CM];have subY:(l.filter py).Sublist l:=mG;have subN:(l.filter λd=>!py d).Sublist l:=mG;have neY:c∈l.filter py:=bO.mpr ⟨hcm,decide_eq_true hcv⟩;have neN:d0∈l.filter λd=>!py d:=bO.mpr ⟨hd0,by show(!decide (_=_))=true;rw[decide_eq_false hdv];rfl⟩;have hfe:(fs.map bN)[j]?=some (bN f):=by rw[aH,hf];rfl
  have muN:mu (l.filter λd=>!py d) (fs.map bN) 0<mu l (fs.map bN) 0:=RW (λd hd=>subN.subset hd) hfe (x:=.str v) (uZ _ (aX.mpr ⟨v,hv,rfl⟩)) ⟨c,hcm,by rw[zJ];exact hcv⟩ λd hd z=>by
   rw[zJ]at z;have:=(bO.mp hd).2;have e:py d=true:=decide_eq_true z;rw[e]at this;cases this
  have hd0l:=(iT (hcase d0 hd0)).1;have hjl:=(aD.mp hf).1;have hd0j:d0[j]?=some d0[j]:=aF (by omega)
  have muY:mu (l.filter py) (fs.map bN) 0<mu l (fs.map bN) 0:=RW (λd hd=>subY.subset hd) hfe (x:=d0[j]) ((rT ((iR _ d0).mp (hs.subset hd0))).2 j _ _ hfe hd0j) ⟨d0,hd0,by rw[zJ];exact hd0j⟩ λd hd z=>by
   rw[zJ]at z;have:d[j]?=some (.str v):=of_decide_eq_true (bO.mp hd).2;rw[z]at this;exact hdv (hd0j.trans this)
  refine dF (λx=>∃t,zY fs an (mu (l.filter py) (fs.map bN) 0) t/\x=oQ t) (λq hq'=>⟨_,rfl,_,rfl,_,rfl,_,rfl,l.map (B5 ans),_,by rw[wI],hrl,?_⟩) ?_
  ·rw[part "yes" py sy];exact⟨fs,an,l.filter py,ans,rfl,F,S,λz=>by rw[z]at neY;simp at neY,subY.trans hs,λd hd=>ha d (subY.subset hd),by omega,by omega,λt ht=>hq' _ ⟨t,ht,rfl⟩⟩
  rintro _ ⟨ty,hty,rfl⟩;refine dF (λx=>∃t,zY fs an (mu (l.filter λd=>!py d) (fs.map bN) 0) t/\x=oQ t) (λq hq'=>⟨_,rfl,_,rfl,_,rfl,_,rfl,l.map (B5 ans),_,by rw[wI],hrl,?_⟩) ?_
  ·rw[part "no" (λd=>!py d) sn];exact⟨fs,an,l.filter λd=>!py d,ans,rfl,F,S,λz=>by rw[z]at neN;simp at neN,subN.trans hs,λd hd=>ha d (subN.subset hd),by omega,by omega,λt ht=>hq' _ ⟨t,ht,rfl⟩⟩
  rintro _ ⟨tn,htn,rfl⟩;obtain⟨y1,y2⟩:=hty;obtain⟨m1,m2⟩:=htn;refine⟨_,rfl,_,rfl,pQ (ZL F y1 (by omega)) (ZL F m1 (by omega)),?_⟩;show(if cC (oQ ty) (oQ tn)=true then _ else _);by_cases e:cC (oQ ty) (oQ tn)=true
  ·rw[if_pos e];exact⟨_,rfl,h ty ⟨y1,by omega⟩⟩
  ·rw[if_neg e];refine⟨_,rfl,_,rfl,_,rfl,(aC rfl),h (.ask "is" f.1 v "no" ty tn) ⟨⟨hq,.inr rfl,y1,m1⟩,?_⟩⟩;show max ty.dep tn.dep+1<=_;omega
theorem aEu
  (F_21:bX P w K mg base eR 1 a_21 f_21 ["form","rows"] (bD K QG))
  (F_4:bX P w K mg base eR 4 a_4 f_4 ["form","question","stray","rows"] (bD K Z6))
  (F_6:bX P w K mg base eR 1 a_6 f_6 ["rows","numbers"] (bD K Z5)):bX P w K mg base eR 26 a_20 f_20 ["form","rows"] (bD K XW):=by
 have h:∀dd:Nat,bX P w K mg base eR (5+dd) a_20 f_20 ["form","rows"] (bD K (sQ dd)):=λdd=>by
  induction dd with
  |zero=>exact SU G5 λds Q h=>RQ h
  |succ dd ih=>exact UY T dd F_21 F_4 F_6 ih
 exact h 21
theorem aEv
  (F_14:bX P w K mg base eR 4 a_14 f_14 ["form","rules","most"] (bD K (QI w)))
  (F_20:bX P w K mg base eR 26 a_20 f_20 ["form","rows"] (bD K XW)):bX P w K mg base eR 27 a_19 f_19 ["form","rules"] (bD K XX):=by
 refine pZ T.D_19.F K7 (λds Q h=>by obtain⟨fs,an,rs,rfl,F,S,hR,hA,h⟩:=h;rfl) λcdv Ar outer s H E hr ds Q h=>?_;obtain⟨fs,an,rs,rfl,F,S,hR,hA,h⟩:=h;have nd:=K7.nd;refine⟨_,(aQ (ss 2 nd (cd F_14 T.D_14 hr (aA (aL 0) (aA (aL 1) (aA (rN rfl T.c_MOST_CASES_BACK) aK)))))
 (bG (dL (cd F_20 T.D_20 hr (aA (aL 0) (aA (OA (aL 2) (pc:=λh=>oV (xZ rfl) rfl T.b_list uF (fW (NF h) mS))) aK)))))),?_⟩
 show iM _ _ _ [.val (eM fs an),.val (.list (rs.map cL)),.un];refine cV (pN w ((cH (fs.map bN)).map λc=>(aM c,aV (nG rs c)))) (λq hq=>⟨_,rfl,_,rfl,fs,an,rs,500,rfl,F,S,by have:=(rL S).1;omega,λr hr=>(hR r hr).1,hA,hq⟩) ?_;have hmu:mu (cH (fs.map bN)) (fs.map bN) 0<=20:=RV S _
 have hne:cH (fs.map bN)≠[]:=λz=>by
  have:=NU fs;rw[<- pG,mL,z]at this;cases this
 exact⟨_,rfl,_,rfl,_,rfl,fs,an,cH (fs.map bN),nG rs,(congrArg (λz=>[eM fs an,aCg z]) (bT ..)),F,S,hne,yU.refl _,λc hc=>DM hA (λr hr=>(hR r hr).2) hc,by omega,hmu,λt ht=>h t ⟨ht.1,by have:=ht.2;omega⟩⟩
theorem aD4
  (F_15:bX P w K mg base eR 34 a_15 f_15 ["form","tree"] (fT K XY))
  (F_22:bX P w K mg base eR 5 a_22 f_22 ["form","rules"] (bD K XV))
  (F_19:bX P w K mg base eR 27 a_19 f_19 ["form","rules"] (bD K XX)):bX P w K mg base eR 35 a_46 f_46 ["_law_way","_law_form_here","_law_thing"] (bD K XF):=by
 refine pZ T.D_46.F K5 (λds Q h=>by obtain⟨wy,fs,an,th,rfl,F,h⟩:=h;rfl) λcdv Ar outer s H E hr ds Q h=>?_;obtain⟨wy,fs,an,th,rfl,F,h⟩:=h;have nd:=K5.nd;refine⟨_,(aQ (gT (dE nV sZ (aL 0) aP)
 (bG (dL (cB kF (aA (cd F_22 T.D_22 hr (aA (aL 1) (aA (aL 2) aK))) aK) cW T.b_len gU)))
 eY)
 (aQ (gT (dE nV sZ (aL 0) aP)
 (bG (dL (cB kF (aA (cd F_19 T.D_19 hr (aA (aL 1) (aA (aL 2) aK))) aK) cW T.b_len gU)))
 eY)
 (bG (dL (cB kF (aA (BD (cF F_15 T.D_15 hr (aA (aL 1) (aA (aL 2) aK)))) aK) cW T.b_len gU))))),?_⟩
 show iM _ _ _ [.val (.int (wy:Nat)),.val (eM fs an),.val th];rcases h with⟨hw,rs,rfl,S,hR,hl,hA,h⟩ | ⟨rfl,t,rfl,ht,htd,h60,h⟩
 ·obtain rfl | rfl:wy=0\/wy=1:=by omega
  ·refine gL (λb=>b=true) (λq hq=>⟨_,rfl,hq _ rfl⟩) (λ_=>?_) λhF=>by cases hF
   exact⟨_,rfl,_,rfl,fs,an,rs,rfl,F,S,hR,hl,hA,λus ts=>h 2⟩
  ·refine gL (λb=>b=false) (λq hq=>⟨_,rfl,hq _ rfl⟩) (λhT=>by cases hT) λ_=>?_
   try unfold kC
   dsimp only;refine gL (λb=>b=true) (λq hq=>⟨_,rfl,hq _ rfl⟩) (λ_=>?_) λhF=>by cases hF
   refine⟨_,rfl,_,rfl,fs,an,rs,rfl,F,S,hR,hA,λt ht=>?_⟩
   cases t with
   |say a=>exact h 2
   |ask k n v s y m=>exact h 5
 ·refine gL (λb=>b=false) (λq hq=>⟨_,rfl,hq _ rfl⟩) (λhT=>by cases hT) λ_=>?_
  try unfold kC
  dsimp only;refine gL (λb=>b=false) (λq hq=>⟨_,rfl,hq _ rfl⟩) (λhT=>by cases hT) λ_=>?_
  try unfold kC
  dsimp only;refine⟨_,rfl,_,rfl,fs,an,t,rfl,F,ht,htd,h60,?_⟩;show _;rw[<- aE (f:=cL)]at h;exact h
theorem aD3
  (F_46:bX P w K mg base eR 35 a_46 f_46 ["_law_way","_law_form_here","_law_thing"] (bD K XF))
  (X_46:bX P w K mg base (FK P w) 35 a_46 f_46 ["_law_way","_law_form_here","_law_thing"] (kM K (rZ c_TooMany c_NoRule))):bX P w K mg base eR 36 a_47 f_47 ["_law_way","_law_form_here","_law_thing"] (bD K KW):=by
 refine pZ T.D_47.F X2 (λds Q h=>by obtain⟨wy,fs,an,th,rfl,F,h⟩:=h;rfl) λcdv Ar outer s H E hr ds Q h=>?_;obtain⟨wy,fs,an,th,rfl,F,h⟩:=h;have nd:=X2.nd;refine⟨_,(aQ (ss 3 nd (dI (aA eU (aA jH aK))))
 (aQ (qU.or (U1 (bG (ss 3 nd (dI (aA eU (aA (cd F_46 T.D_46 hr (aA (aL 0) (aA (aL 1) (aA (aL 2) aK)))) aK))))) (λh=>VP vF h)) (qU.or (by refine' P4 (J:=c_NoRule) (i:=4) (GB (x:="") (p:=⟨0,0,0,0⟩) (aA (aL 0) (aA (aL 1) (aA (aL 2) aK))) (λh=>QQ (LC vF JD (LD vF X_46 (hr.mono (by decide)) rfl T.D_46.m T.D_46.k T.D_46.d h)))) (λea=>?hb) (λr b=>VO vF rfl rfl nd rfl rfl rfl T.x_NoRule r b);(case hb=>(refine' (aQ (ss 3 nd (dI (aA eU (aA (show jD _ _ (ZK K (B8 4))from ?z0) aK))))   (bG (gT (oN (uO (tv (show jD _ _ (S6 K [c_NoLine,c_NoPlace,c_NoRow,c_NoSuch,c_NoText,c_TooMany] (B8 4))from ?z2)) (pW (AC (tv (show jD _ _ (aBs K (.type "ValueError") (B8 4))from ?z1))))))   (bG (ss 3 nd (dI (aA eU (aA jH aK)))))   eY)));(case z0=>exact(WT (aL 4) (λh=>aDv h)));(case z1=>exact(SY (c:=.type "ValueError") (cv:=.ty "ValueError") (aL 4) (λh=>mR (HM λ_ z=>z) rfl T.b_isinstance nR (fW h (fW (LL rfl T.b_ValueError uV rfl) mS)))));(case z2=>exact(L7 (cs:=[c_NoLine,c_NoPlace,c_NoRow,c_NoSuch,c_NoText,c_TooMany]) (aL 4) (λh=>mR DE rfl T.b_isinstance nR (fW h (fW (JC (fW (lM rfl T.x_NoLine rfl) (fW (lM rfl T.x_NoPlace rfl) (fW (lM rfl T.x_NoRow rfl) (fW (lM rfl T.x_NoSuch rfl) (fW (lM rfl T.x_NoText rfl) (fW (lM rfl T.x_TooMany rfl) mS))))))) mS))))))))
 (by refine' P3 (J0:=c_NoRule) (J:=c_TooMany) (i:=4) (GB (x:="") (p:=⟨0,0,0,0⟩) (aA (aL 0) (aA (aL 1) (aA (aL 2) aK))) (λh=>QQ (LC vF JD (LD vF X_46 (hr.mono (by decide)) rfl T.D_46.m T.D_46.k T.D_46.d h)))) (λea=>?hb) (λr b=>Q0 vF rfl rfl nd rfl rfl rfl T.x_NoRule rfl T.x_TooMany r b);(case hb=>(refine' (aQ (ss 3 nd (dI (aA eU (aA jH aK))))   (bG (gT (oN (uO (tv (show jD _ _ (S6 K [c_NoLine,c_NoPlace,c_NoRow,c_NoSuch,c_NoText,c_NoRule] (B8 4))from ?z4)) (pW (AC (tv (show jD _ _ (aBs K (.type "ValueError") (B8 4))from ?z3))))))   (bG (ss 3 nd (dI (aA eU (aA jH aK)))))   eY)));(case z3=>exact(SY (c:=.type "ValueError") (cv:=.ty "ValueError") (aL 4) (λh=>mR (HM λ_ z=>z) rfl T.b_isinstance nR (fW h (fW (LL rfl T.b_ValueError uV rfl) mS)))));(case z4=>exact(L7 (cs:=[c_NoLine,c_NoPlace,c_NoRow,c_NoSuch,c_NoText,c_NoRule]) (aL 4) (λh=>mR DE rfl T.b_isinstance nR (fW h (fW (JC (fW (lM rfl T.x_NoLine rfl) (fW (lM rfl T.x_NoPlace rfl) (fW (lM rfl T.x_NoRow rfl) (fW (lM rfl T.x_NoSuch rfl) (fW (lM rfl T.x_NoText rfl) (fW (lM rfl T.x_NoRule rfl) mS))))))) mS))))))))))
 (bG (dL (aL 3))))),?_⟩
 show iM _ _ _ [.val (.int (wy:Nat)),.val (eM fs an),.val th,.un,.un];refine cV (.tuple [.str "",.none]) (λq hq=>⟨(aC rfl),hq⟩) ?_;show(_\/_\/_);rcases h with⟨hw,rs,rfl,hR,hl,h⟩ | ⟨rfl,t,rfl,ht,htd,hm,ho⟩
 ·rcases h with⟨hm,h⟩ | ⟨hm,k,c,hf,h⟩ | ⟨S,hA,h⟩
  ·refine .inr (.inr ⟨_,rfl,_,rfl,_,rfl,wy,fs,an,_,rfl,F,.inl ⟨hw,rs,rfl,λr hr=>(hR r hr).1,.inl ⟨hm,⟨c_TooMany,.none,rfl,T.u_TooMany_NoRule,T.e_TooMany⟩,?_⟩⟩⟩);refine cV (.tuple [.str "many",.none]) (λq hq=>⟨(aC rfl),hq⟩) ?_;refine jL (λb=>b=false) (λq hq=>⟨_,rfl,c_TooMany,.none,false,rfl,(aC rfl),?_,?_⟩) (λhT=>by cases hT) λ_=>⟨_,rfl,h⟩
   ·show kG K (.ref c_TooMany) [.ref c_NoLine,.ref c_NoPlace,.ref c_NoRow,.ref c_NoSuch,.ref c_NoText,.ref c_NoRule]=some false;simp only[kG,T.q_TooMany_NoLine,T.q_TooMany_NoPlace,T.q_TooMany_NoRow,T.q_TooMany_NoSuch,T.q_TooMany_NoText,T.q_TooMany_NoRule]
   ·show(if false=true then q true else _);rw[if_neg (by decide)];exact⟨_,rfl,c_TooMany,.none,true,rfl,T.v_TooMany,hq _ rfl⟩
  ·refine .inr (.inl ⟨_,rfl,_,rfl,_,rfl,wy,fs,an,_,rfl,F,.inl ⟨hw,rs,rfl,λr hr=>(hR r hr).1,.inr ⟨hm,k,c,hf,⟨c_NoRule,.tuple c,rfl,T.e_NoRule⟩,?_⟩⟩⟩);refine cV (.tuple [.str "rule",.tuple c]) (λq hq=>⟨_,rfl,c_NoRule,c,rfl,T.T_NoRule,(aC rfl),hq⟩) ?_;refine jL (λb=>b=false) (λq hq=>⟨_,rfl,c_NoRule,.tuple c,false,rfl,(aC rfl),?_,?_⟩) (λhT=>by cases hT) λ_=>⟨_,rfl,h⟩
   ·show kG K (.ref c_NoRule) [.ref c_NoLine,.ref c_NoPlace,.ref c_NoRow,.ref c_NoSuch,.ref c_NoText,.ref c_TooMany]=some false;simp only[kG,T.q_NoRule_NoLine,T.q_NoRule_NoPlace,T.q_NoRule_NoRow,T.q_NoRule_NoSuch,T.q_NoRule_NoText,T.q_NoRule_TooMany]
   ·show(if false=true then q true else _);rw[if_neg (by decide)];exact⟨_,rfl,c_NoRule,.tuple c,true,rfl,T.v_NoRule,hq _ rfl⟩
  ·exact .inl ⟨_,rfl,_,rfl,_,rfl,wy,fs,an,_,rfl,F,.inl ⟨hw,rs,rfl,S,hR,hl,hA,λn=>⟨(aC rfl),_,rfl,h n⟩⟩⟩
 ·by_cases hk:60<(dQ fs t (fs.map bN)).length
  ·have h:=hm hk;refine .inr (.inr ⟨_,rfl,_,rfl,_,rfl,2,fs,an,_,rfl,F,.inr ⟨rfl,t,rfl,ht,htd,hk,⟨c_TooMany,.none,rfl,T.u_TooMany_NoRule,T.e_TooMany⟩,?_⟩⟩);refine cV (.tuple [.str "many",.none]) (λq hq=>⟨(aC rfl),hq⟩) ?_;refine jL (λb=>b=false) (λq hq=>⟨_,rfl,c_TooMany,.none,false,rfl,(aC rfl),?_,?_⟩) (λhT=>by cases hT) λ_=>⟨_,rfl,h⟩
   ·show kG K (.ref c_TooMany) [.ref c_NoLine,.ref c_NoPlace,.ref c_NoRow,.ref c_NoSuch,.ref c_NoText,.ref c_NoRule]=some false;simp only[kG,T.q_TooMany_NoLine,T.q_TooMany_NoPlace,T.q_TooMany_NoRow,T.q_TooMany_NoSuch,T.q_TooMany_NoText,T.q_TooMany_NoRule]
   ·show(if false=true then q true else _);rw[if_neg (by decide)];exact⟨_,rfl,c_TooMany,.none,true,rfl,T.v_TooMany,hq _ rfl⟩
  ·exact .inl ⟨_,rfl,_,rfl,_,rfl,2,fs,an,_,rfl,F,.inr ⟨rfl,t,rfl,ht,htd,by omega,(aC rfl),_,rfl,ho (by omega)⟩⟩
theorem aD2
  (F_44:bX P w K mg base eR 2 a_44 f_44 ["_law_rules","_law_case"] (bD K XH))
  (F_40:bX P w K mg base eR 2 a_40 f_40 ["_law_form_here"] (bD K XL))
  (F_36:bX P w K mg base eR 1 a_36 f_36 ["_law_tape_here","_law_many"] (bD K uQ))
  (F_38:bX P w K mg base eR 3 a_38 f_38 ["_law_tape_here","_law_fields","_law_values"] (bD K XM))
  (F_42:bX P w K mg base eR 3 a_42 f_42 ["_law_tape_here","_law_form_here"] (bD K KY))
  (F_47:bX P w K mg base eR 36 a_47 f_47 ["_law_way","_law_form_here","_law_thing"] (bD K KW)):bX P w K mg base eR 37 a_48 f_48 ["_law_tape_here"] (bD K XE):=by
 refine pZ T.D_48.F X1 (λds Q h=>by obtain⟨ns,rfl,hl,h⟩:=h;rfl) λcdv Ar outer s H E hr ds Q h=>?_;obtain⟨ns,rfl,hl,h⟩:=h;have nd:=X1.nd;refine⟨_,(aQ (ss 1 nd (cd F_38 T.D_38 hr (aA (aL 0) (aA aP (aA aP aK)))))
 (aQ (ss 2 nd (el (fr:=[none,some 0,some 1]) (N':=["_law_k","_law_tape_here","_law_form_here"]) (lF (aA (dN cG fY aP (cd F_36 T.D_36 hr (aA (aL 0) (aA aP aK)))) aK) (λh=>kD rfl T.b_range h)) (λb=>⟨(dH (pk 0)),kX,(cd F_42 T.D_42 hr (aA (aL 1) (aA (aL 2) aK)))⟩)))
 (aQ (sO (i:=3) (fr:=[none,some 2]) (N':=["_law_case","_law_rules"]) (fU (cd F_40 T.D_40 hr (aA (aL 1) aK))) (λb=>⟨(dH (pk 0)),(oJ (dE AQ GO (cd F_44 T.D_44 hr (aA (aL 1) (aA (aL 0) aK))) jH)),(aL 0)⟩) (λhi hY=>qH (show tF _ (bJ (top 69)) ["_law_tape_here","_law_form_here","_law_rules","_law_bare","_law_way","_law_told_here"] ["_law_case","_law_rules"] [none,some 2]=true from by decide +kernel) nd rfl (by first | exact Or.inl rfl | exact Or.inr rfl) rfl hi hY rfl))
 (aQ (sf (lF (aA aP aK) (λh=>kD rfl T.b_range h)) (dH (pn 4 nd))
 (aQ (ss 5 nd (cd F_47 T.D_47 hr (aA (aL 4) (aA (aL 1) (aA (cY TJ (aA (aL 2) aK) rR T.b_list uF) aK)))))
 (bG (gT (oN (uO (oN (xD (dE (oE hr) jC (aL 3) (jM aK)) (tZ (dE (sY hr) jC (cS bR eG (aL 5) aP) eU)))) (pW (oN (xD (dE (sY hr) jC (aL 3) (jM aK)) (tZ (dE (sY hr) jC (aL 5) (dI (aA eU (aA (cS bR eG (aL 3) aP) aK))))))))))
 (bG (dL C4))
 eY))))
 (bG (dL C4)))))),?_⟩
 show iM _ _ _ [.val (iD ns),.un,.un,.un,.un,.un];refine dF (λd=>∃fs an,fK fs an/\qN fs/\d=eM fs an) (λq hq=>⟨_,rfl,ns,3,3,rfl,hl,by decide,by decide,by decide,by decide,λfs an F h3 h5=>hq _ ⟨fs,an,F,Z7 h3 h5,rfl⟩⟩) ?_;rintro _ ⟨fs,an,F,S,rfl⟩;refine dF (λd=>∃rs:List Rl,(∀r∈rs,HR fs an r)/\rs.length<=3/\d=.list (rs.map cL)) (λq hq=>?_) ?_
 ·refine(show OD [none,some 0,some 1] _ (gN 0) BO (jP KY (nY (B8 1) (nY (B8 2) vP))) _ _ from⟨_,rfl,ns,3,rfl,hl,by decide,by decide,λr h0 h1=>⟨1+r,rfl,by omega,by omega,?_⟩⟩);refine R5 (ts:=fV (1+r).toNat) (te:=jP KY (nY (B8 1) (nY (B8 2) vP))) (λ_ _ y=>∃r,HR fs an r/\y=cL r) (by rw[iX];omega) (λk x q hx hq=>⟨_,rfl,_,rfl,ns,fs,an,rfl,hl,F,λr hr=>hq _ ⟨r,hr,rfl⟩⟩) λys hyl hy=>?_
  obtain⟨rs,hR,rfl⟩:=GA (fs:=fs) (an:=an) (ys:=ys) λy hyy=>by
   obtain⟨i,hi⟩:=bQ hyy;have hil:=(aD.mp hi).1;exact hy i _ y (aF (by omega)) hi
  rw[aE,iX]at hyl;exact hq _ ⟨rs,hR,by omega,rfl⟩
 rintro _ ⟨rs,hR,hrl,rfl⟩;have hRE:∀r∈rs,MI fs r.1:=λr hr=>(hR r hr).1.e F;have hcase:∀c∈cH (fs.map bN),fS fs (.tuple c)=true:=λc hc=>lN (cU.whole fs) ((iR _ c).mp hc);have hpl:=(rL S).1;have hpm:=(rL S).2;have hbc:∀c∈uW fs rs,fS fs (.tuple c)=true:=λc hc=>hcase c (bO.mp hc).1;have hcd:=TD F hbc;have hE:RJ (iS (uW fs rs)) (.list []):=⟨hcd.1,rfl,cP (CG _ _) hcd.2⟩;refine cV (iS (uW fs rs)) (λq hq=>?_) ?_
 ·refine lX (ts:=(cH (fs.map bN)).map aM) (λR h=>⟨_,rfl,fs,an,rfl,F,S,_,rfl,h⟩) (λx=>match x with | .tuple c=>(rs.find? λr=>kZ r.1 c).isNone | _=>false) (λx=>x) (by rw[aE];omega) (λx q hx hq=>?_) (λx q hx hq=>⟨_,rfl,hq⟩) ?_
  ·obtain⟨c,hc,rfl⟩:=aX.mp hx;refine⟨_,rfl,_,rfl,fs,an,rs,c,rfl,F,hRE,hcase c hc,?_⟩;have hq:q (rs.find? λr=>kZ r.1 c).isNone:=hq
   cases hf:rs.find? (λr=>kZ r.1 c)with
   |none=>rw[hf]at hq;exact hq
   |some r=>rw[hf]at hq;exact hq
  ·rw[List.map_id',iH];exact hq
 refine hJ (ts:=fV 2) (λR h=>⟨2,rfl,by decide,by decide,h⟩)
  (λk σ=>∃s4 s5:Sl,σ=[.val (iD ns),.val (eM fs an),.val (.list (rs.map cL)),.val (iS (uW fs rs)),s4,s5]) ⟨_,_,rfl⟩ (λk x σ' hx hP=>?_) λσ' hP=>?_
 ·obtain⟨s4,s5,rfl⟩:=hP;obtain⟨hk2,rfl⟩:=mI hx
  cases hb:uW fs rs with
  |nil=>
   refine dF (λd=>∃n:Nat,d=.tuple [.str "told",.int (n:Nat)]) (λq hq=>⟨_,rfl,_,rfl,_,rfl,k,fs,an,_,rfl,F,.inl ⟨hk2,rs,rfl,λr hr=>⟨(hR r hr).1,(hR r hr).2.2⟩,by omega,.inr (.inr ⟨S,TW hb,λn=>hq _ ⟨n,rfl⟩⟩)⟩⟩) ?_;rintro _ ⟨n,rfl⟩;refine jL (λb=>b=false) (λq hq=>?_) (λhT=>by cases hT) λ_=>⟨_,_,rfl⟩;rw[hb]at hE;refine⟨_,rfl,(aC rfl),hE,?_⟩;show(if true=true then _ else _);rw[if_pos rfl];refine⟨_,rfl,_,rfl,⟨by decide +kernel,by decide +kernel,by decide +kernel⟩,?_⟩;show(if false=true then _ else _);rw[if_neg (by decide)];refine⟨_,rfl,(aC rfl),hE,?_⟩;show(if false=true then _ else _);rw[if_neg (by decide)];exact hq _ rfl
  |cons c t=>
   obtain⟨k',hf⟩:=DJ hb;have hcc:fS fs (.tuple c)=true:=hbc c (by rw[hb];exact aS ..);refine cV (.tuple [.str "rule",.tuple c]) (λq hq=>⟨_,rfl,_,rfl,_,rfl,k,fs,an,_,rfl,F,.inl ⟨hk2,rs,rfl,λr hr=>⟨(hR r hr).1,(hR r hr).2.2⟩,by omega,.inr (.inl ⟨by unfold mst;split<;>omega,k',c,hf,hq⟩)⟩⟩) ?_;have hC:=HK F hcc (z:="rule") (by decide +kernel);rw[hb]at hE;refine jL (λb=>b=false) (λq hq=>?_) (λhT=>by cases hT) λ_=>⟨_,_,rfl⟩;refine⟨_,rfl,(aC rfl),hE,?_⟩;show(if false=true then _ else _);rw[if_neg (by decide)];show(if false=true then _ else _);rw[if_neg (by decide)];refine⟨_,rfl,(aC rfl),hE,?_⟩;show(if true=true then _ else _);rw[if_pos rfl];refine⟨_,rfl,_,rfl,_,L2.eD (show((c::t).map aM)[0]?=some (.tuple c)from rfl),(aC rfl),⟨hC.1,hC.1,cP (CG _ _) hC.2⟩,hq _ ?_⟩;show(!cC (.tuple [.str "rule",.tuple c]) (.tuple [.str "rule",.tuple c]))=false;rw[HB F hcc];rfl
 ·obtain⟨s4,s5,rfl⟩:=hP;exact h
theorem aD1
  (F_36:bX P w K mg base eR 1 a_36 f_36 ["_law_tape_here","_law_many"] (bD K uQ))
  (F_37:bX P w K mg base eR 2 a_37 f_37 ["_law_tape_here","_law_many"] (bD K KZ))
  (F_47:bX P w K mg base eR 36 a_47 f_47 ["_law_way","_law_form_here","_law_thing"] (bD K KW))
  (F_39:bX P w K mg base eR 1 a_39 f_39 ["_law_form_here"] (bD K F1)):bX P w K mg base eR 37 a_49 f_49 ["_law_tape_here"] (bD K XD):=by
 refine pZ T.D_49.F X0 (λds Q h=>by obtain⟨ns,rfl,hl,h⟩:=h;rfl) λcdv Ar outer s H E hr ds Q h=>?_;obtain⟨ns,rfl,hl,h⟩:=h;have nd:=X0.nd;refine⟨_,(aQ (ss 1 nd (cd F_37 T.D_37 hr (aA (aL 0) (aA aP aK))))
 (aQ (ss 2 nd (jM (aA (jM (aA aP (aA aP (aA aP (aA aP aK))))) (aA (jM (aA aP (aA aP (aA aP (aA aP (aA aP aK)))))) (aA (jM (aA aP (aA aP (aA aP (aA aP aK))))) (aA (jM (aA aP (aA aP (aA aP (aA aP aK))))) (aA (jM (aA aP (aA aP (aA aP (aA aP aK))))) (aA (jM (aA aP (aA aP (aA aP (aA aP aK))))) (aA (jM (aA aP (aA aP (aA aP (aA aP aK))))) aK)))))))))
 (aQ (ss 2 nd (dN cG fY (aL 2) (jM (aA (jM (aA aP (aA aP (aA aP (aA aP aK))))) (aA (jM (aA aP (aA aP (aA aP (aA aP (aA aP aK)))))) (aA (jM (aA aP (aA aP (aA aP (aA aP (aA aP aK)))))) (aA (jM (aA aP (aA aP (aA aP (aA aP (aA aP aK)))))) aK)))))))
 (aQ (ss 3 nd (cS bR eG (aL 2) (cd F_36 T.D_36 hr (aA (aL 0) (aA aP aK)))))
 (aQ (ss 4 nd (dI (aA (cY kB (aA (el (fr:=[none,some 1,some 0,some 3]) (N':=["_law_k","_law_names_here","_law_tape_here","_law_some"]) (lF (aA (cB kF (aA (aL 3) aK) cW T.b_len gU) aK) (λh=>kD rfl T.b_range h)) (λb=>⟨(dH (pk 0)),kX,(dI (aA (cS bR eG (aL 1) (aL 0)) (aA (cY kB (aA (cd F_37 T.D_37 hr (aA (aL 2) (aA (cS bR eG (aL 3) (aL 0)) aK))) aK) eQ T.b_tuple iZ) aK)))⟩)) aK) eQ T.b_tuple iZ) (aA (dI (aA eU (aA eU aK))) aK))))
 (aQ (ss 5 nd (cd F_39 T.D_39 hr (aA (aL 4) aK)))
 (aQ (ss 6 nd aP)
 (aQ (sf (fU (aL 5)) (dH (pn 7 nd))
 (bG (ss 6 nd (dN mJ yK (aL 6) (cB kF (aA (aL 7) aK) cW T.b_len gU)))))
 (aQ (ss 8 nd (cd F_36 T.D_36 hr (aA (aL 0) (aA (cB kF (aA (aL 3) aK) cW T.b_len gU) aK))))
 (aQ (ss 9 nd (fC iK nL (cS bR eG (aL 5) (aL 8)) gM (gD (J8 aP))))
 (aQ (so 10 nd (aA (dI (aA (dN cG fY (dN cG fY (fC iK nL (aL 5) gM (gD (aL 8))) (dI (aA (aL 9) aK))) (fC iK nL (aL 5) (gD (dN cG fY (aL 8) aP)) gM)) (aA eU aK))) aK))
 (aQ (ss 11 nd (cY kB (aA (el (fr:=[none]) (N':=["_law_values"]) (fU (aL 5)) (λb=>⟨(dH (pk 0)),kX,(cS bR eG (aL 0) aP)⟩)) aK) eQ T.b_tuple iZ))
 (aQ (ss 11 nd (dN cG fY (dN cG fY (fC iK nL (aL 11) gM (gD (aL 8))) (dI (aA jH aK))) (fC iK nL (aL 11) (gD (dN cG fY (aL 8) aP)) gM)))
 (aQ (gT (dE (oE hr) jC (cd F_36 T.D_36 hr (aA (aL 0) (aA aP aK))) aP)
 (bG (xG (i:=10) (pv 10) (dI (aA (aL 5) (aA eU aK))) (pb:=λh=>oR (sB eO iQ iP nM (pv 10) h))))
 eY)
 (lE 10 (aQ (sf (lF (aA aP aK) (λh=>kD rfl T.b_range h)) (dH (pn 12 nd))
 (aQ (ss 13 nd (dI (aA eU (aA jH aK))))
 (aQ (gT (dE (oE hr) jC (cB kF (aA (aL 10) aK) cW T.b_len gU) aP)
 (bG (ss 13 nd (dI (aA eU (aA (aL 11) aK)))))
 eY)
 (aQ (gT (dE nU sD (aL 6) (cS bR eG (jM (aA aP (aA aP aK))) (aL 12)))
 (bG (ss 13 nd (dI (aA eU (aA jH aK)))))
 eY)
 (bG (gT (oN (uO (dE aDy sD (aL 6) aP) (pW (dE (sY hr) jC (cS bR eG (aL 13) aP) eU))))
 (aQ (ss 14 nd (cd F_47 T.D_47 hr (aA (aL 12) (aA (aL 4) (aA (cY TJ (aA (aL 10) aK) rR T.b_list uF) aK)))))
 (bG (gT (oN (uO (dE (sY hr) jC (cS bR eG (aL 14) aP) (cS bR eG (aL 13) aP)) (pW (oN (xD (dE (oE hr) jC (cS bR eG (aL 13) aP) eU) (tZ (dE (sY hr) jC (aL 14) (aL 13))))))))
 (bG (dL C4))
 eY)))
 eY))))))
 (bG (dL C4)))))))))))))))))),?_⟩
 show iM _ _ _ [.val (iD ns),.un,.un,.un,.un,.un,.un,.un,.un,.un,.un,.un,.un,.un,.un];refine dF (λd=>∃ys,wY 5 ys/\d=.list (ys.map aV)) (λq hq=>⟨_,rfl,ns,5,rfl,hl,by decide,by decide,λys hy=>hq _ ⟨ys,hy,rfl⟩⟩) ?_;rintro _ ⟨ys,hys,rfl⟩;refine cV (.list ((SZ.take 7).map O2)) (λq hq=>⟨(aC rfl),(aC rfl),(aC rfl),(aC rfl),(aC rfl),(aC rfl),(aC rfl),(aC rfl),hq⟩) ?_;refine cV (.list (SZ.map O2)) (λq hq=>⟨_,rfl,(aC rfl),(aC rfl),(aC rfl),(aC rfl),(aC rfl),(aC rfl),hq⟩) ?_;refine dF (λd=>∃s∈SZ,d=O2 s) (λq hq=>⟨_,rfl,_,rfl,ns,11,rfl,hl,by decide,by decide,λi h0 h1=>?_⟩) ?_
 ·obtain⟨x,hm,ha,_⟩:=tP (xs:=SZ.map O2) (i:=i) h0 h1;obtain⟨s,hs,rfl⟩:=aX.mp hm;exact⟨_,ha,hq _ ⟨s,hs,rfl⟩⟩
 rintro _ ⟨s,hs,rfl⟩;obtain⟨s1,s5,sn,_⟩:=ZO s hs;have sl:(s.map λ(n:Nat)=>bS (n:Int)).length=s.length:=aE ..;refine dF (λd=>∃fs,yR fs s/\d=eM fs ["yes","no"]) (λq hq=>?_) ?_
 ·show S5 _ _ _;dsimp only[S5,nY,vP,jP];refine JV (ts:=fV s.length) (λR h=>⟨_,rfl,_,rfl,by omega,by omega,by rw[iF,sl];exact h⟩) (λk _ y=>∃(z:Str)(m:Nat)(vs:List Str),ys[k]?=some z/\s[k]?=some m/\wY m vs/\y=kE (z,vs)) (by rw[iX];omega) (λk x q hx hq=>?_) λzs hzl hz=>?_
  ·obtain⟨hk,rfl⟩:=mI hx;have hky:k<ys.length:=by rw[hys.1];omega
   have e1:ys[k]?=some ys[k]:=aF hky;have e2:s[k]?=some s[k]:=aF hk;have hm:=sn s[k] (eV hk);exact⟨_,rfl,_,rfl,_,L2.eD (by rw[aH,e1];rfl),_,rfl,_,rfl,_,rfl,_,L2.eD (by rw[aH,e2];rfl),ns,s[k],rfl,hl,by omega,by omega,λvs hv=>⟨(aC rfl),hq _ ⟨_,_,vs,e1,e2,hv,rfl⟩⟩⟩
  ·rw[iX]at hzl;obtain⟨fs,rfl,hS⟩:=F3 hys ⟨s1,s5,sn⟩ hzl λk y hy=>hz k (.int k) y (by unfold fV;rw[aH,iE (by have:=(aD.mp hy).1;omega)];rfl) hy;exact⟨(aC rfl),(aC rfl),hq _ ⟨fs,hS,rfl⟩⟩
 rintro _ ⟨fs,hS,rfl⟩;have F:=hS.form;have n1:=F.n1;have n5:=F.n5;have fl:fs.length=s.length:=by rw[<- hS.sz,aE]
 have wl:((fs.map bN).map aM).length=fs.length:=by rw[aE,aE]
 refine cV (jW (fs.map bN)) (λq hq=>⟨_,rfl,fs,_,rfl,F,hq⟩) ?_;refine cV (.int 1) (λq hq=>hq) ?_
 refine hJ (ts:=(fs.map bN).map aM) (λR h=>⟨_,rfl,_,rfl,h⟩)
  (λi σ=>∃s7:Sl,σ=[.val (iD ns),.val (.list (ys.map aV)),.val (.list (SZ.map O2)),.val (O2 s),.val (eM fs ["yes","no"]),.val (jW (fs.map bN)),.val (.int ((fZ (fs.take i):Nat):Int)),s7,.un,.un,.un,.un,.un,.un,.un]) ⟨_,rfl⟩ (λi x σ' hx hP=>?_) λσ' hP=>?_
 ·obtain⟨s7,rfl⟩:=hP;rw[aH,aH]at hx;obtain⟨e,he,rfl⟩:=bK.mp hx;obtain⟨f,hf,rfl⟩:=bK.mp he;have hv:=(F.vs f (aR hf)).2.1;have el:=kQ f;refine mT (.int ((fZ (fs.take (i+1)):Nat):Int)) (λq hq=>⟨_,rfl,_,rfl,.inr ⟨by omega,by omega⟩,?_⟩) ⟨_,rfl⟩;have e:fZ (fs.take (i+1))=fZ (fs.take i)*(bN f).length:=by rw[cN,hf,el];exact pC _ _
  rw[e,uL]at hq;exact hq
 obtain⟨s7,rfl⟩:=hP;rw[wl,cX];refine dF (λd=>∃j:Nat,j<fs.length/\d=.int (j:Nat)) (λq hq=>⟨_,rfl,_,rfl,ns,_,rfl,hl,by omega,by omega,λi h0 h1=>hq _ ⟨i.toNat,by omega,by rw[gR h0]⟩⟩) ?_;rintro _ ⟨j,hj,rfl⟩;have hf:fs[j]?=some fs[j]:=aF hj;have hB:cU fs (tN fs j):=(cU.whole fs).filt _ _;refine cV (.tuple (fs[j].2.map aV)) (λq hq=>⟨_,rfl,_,rfl,_,L2.eD (by rw[aH,aH,hf];rfl),?_⟩) ?_
 ·have e:jZ (bN fs[j]) none (some (-1))=fs[j].2.map aV:=S8 _ _;rw[<- e]at hq;exact hq
 have c1:jZ ((fs.map bN).map aM) none (some (j:Int))=((fs.map bN).map aM).take j:=lT _ _;have c2:jZ ((fs.map bN).map aM) (some ((j:Int)+1)) none=((fs.map bN).map aM).drop (j+1):=tM _ (j+1)
 have eL:(((fs.map bN).map aM).take j++[aM (fs[j].2.map aV)])++((fs.map bN).map aM).drop (j+1)=(tN fs j).map aM:=by
  rw[aB2 hf,bY,bM,wV,wW,jX];rfl
 refine mQ [cL (tN fs j,"no")] (aC rfl) (λq hq=>⟨_,rfl,_,rfl,_,rfl,(aC rfl),?_,_,rfl,_,rfl,?_,(aC rfl),?_⟩) ?_
 ·rw[c1,bI,wl];show _+1<=_;omega
 ·rw[c1,c2,aZ,bI,fH,wl];simp only[cE,iG];omega
 ·rw[c1,c2,eL];exact hq
 have hdl:((fs.map bN).map hdD).length=fs.length:=by rw[aE,aE]
 refine cV (.tuple ((fs.map bN).map hdD)) (λq hq=>?_) ?_
 ·show jP _ _ _ _;dsimp only[jP,nY,vP];refine mU (ts:=(fs.map bN).map aM) (λR h=>⟨_,rfl,_,rfl,h⟩) (λx=>match x with | .tuple e=>hdD e | _=>.none) (by rw[wl];omega) (λx q hx hq=>?_) ?_
  ·obtain⟨e,he,rfl⟩:=aX.mp hx;obtain⟨f,hf,rfl⟩:=aX.mp he;have h0:(bN f)[0]?=some (hdD (bN f)):=by unfold bN;cases f.2<;>rfl
   exact⟨_,rfl,_,L2.eD h0,hq⟩
  ·rw[bT];exact hq
 have d1:jZ ((fs.map bN).map hdD) none (some (j:Int))=((fs.map bN).map hdD).take j:=lT _ _;have d2:jZ ((fs.map bN).map hdD) (some ((j:Int)+1)) none=((fs.map bN).map hdD).drop (j+1):=tM _ (j+1)
 have eC:(((fs.map bN).map hdD).take j++[dY])++((fs.map bN).map hdD).drop (j+1)=((fs.map bN).map hdD).set j .none:=by
  rw[jR,if_pos (by rw[hdl];exact hj),jX];rfl
 refine cV (.tuple (((fs.map bN).map hdD).set j .none)) (λq hq=>⟨_,rfl,_,rfl,(aC rfl),?_,_,rfl,_,rfl,?_,?_⟩) ?_
 ·rw[d1,bI,hdl];show _+1<=_;omega
 ·rw[d1,d2,aZ,bI,fH,hdl];simp only[cE,iG];omega
 ·rw[d1,d2,eC];exact hq
 obtain⟨tb,hbare⟩:=TM hj "no";obtain⟨kb,hfst⟩:=DJ hbare;have hcc:fS fs (.tuple (((fs.map bN).map hdD).set j .none))=true:=lN (cU.whole fs) ((iR _ _).mp (aR hfst.1));have hC:=HK F hcc (z:="rule") (by decide +kernel);refine zN (λ_=>True) (λσ=>∃rs:List Rl,(rs=[(tN fs j,("no":Str))]\/rs=[(tN fs j,("no":Str)),(fs.map bN,("yes":Str))])/\σ=[.val (iD ns),.val (.list (ys.map aV)),.val (.list (SZ.map O2)),.val (O2 s),.val (eM fs ["yes","no"]),.val (jW (fs.map bN)),.val (.int ((fZ fs:Nat):Int)),s7,.val (.int (j:Nat)),.val (.tuple (fs[j].2.map aV)),.own (rs.map cL),.val (.tuple (((fs.map bN).map hdD).set j .none)),.un,.un,.un]) (λq hq=>⟨_,rfl,ns,2,rfl,hl,by decide,by decide,λi _ _=>⟨⟨rfl,rfl,(aC rfl)⟩,hq _ trivial⟩⟩) (λ_ DT' hD=>⟨_,rfl,_,rfl,(aC rfl),(aC rfl),hD _ ⟨_,.inr rfl,rfl⟩⟩) (λ_=>⟨_,.inl rfl,rfl⟩) ?_;rintro _ ⟨rs,hrs,rfl⟩;refine⟨_,rfl,?_⟩
 have hR:∀r∈rs,cU fs r.1/\r.2∈(["yes","no"]:List Str):=λr hr=>by
  rcases hrs with rfl | rfl
  ·rw[aW.mp hr];exact⟨hB,by simp⟩
  ·rcases aY.mp hr with rfl | hr
   ·exact⟨hB,by simp⟩
   ·rw[aW.mp hr];exact⟨cU.whole fs,by simp⟩
 have hrl:rs.length<=20:=by rcases hrs with rfl | rfl<;>exact(aC rfl)
 have ok0:∀a b:Str,jI (.str a)=true->jI (.str b)=true->RJ (.str a) (.str b):=λa b ha hb=>⟨ha,hb,(aC rfl)⟩;have la:jI (.str "told")=true:=by decide +kernel
 have lb:jI (.str "rule")=true:=by decide +kernel
 have lc:jI (.str "many")=true:=by decide +kernel
 refine hJ (ts:=fV 2) (λR h=>⟨2,rfl,by decide,by decide,h⟩)
  (λk σ=>∃s12 s13 s14:Sl,σ=[.val (iD ns),.val (.list (ys.map aV)),.val (.list (SZ.map O2)),.val (O2 s),.val (eM fs ["yes","no"]),.val (jW (fs.map bN)),.val (.int ((fZ fs:Nat):Int)),s7,.val (.int (j:Nat)),.val (.tuple (fs[j].2.map aV)),.val (.list (rs.map cL)),.val (.tuple (((fs.map bN).map hdD).set j .none)),s12,s13,s14]) ⟨_,_,_,rfl⟩ (λk x σ' hx hP=>?_) λσ' hP=>?_
 ·obtain⟨s12,s13,s14,rfl⟩:=hP;obtain⟨hk2,rfl⟩:=mI hx;have hat:L2.atI [bS 300,bS 500] (k:Int)=some (.int ((mst k:Nat):Int)):=L2.eD (by rcases(show k=0\/k=1 by omega)with rfl | rfl<;>rfl);refine cV (.tuple [.str "told",.none]) (λq hq=>⟨(aC rfl),hq⟩) ?_;by_cases hm:mst k<fZ fs
  ·refine zN (λ_=>True) (λσ=>∃d:D,σ=[.val (iD ns),.val (.list (ys.map aV)),.val (.list (SZ.map O2)),.val (O2 s),.val (eM fs ["yes","no"]),.val (jW (fs.map bN)),.val (.int ((fZ fs:Nat):Int)),s7,.val (.int (j:Nat)),.val (.tuple (fs[j].2.map aV)),.val (.list (rs.map cL)),.val (.tuple (((fs.map bN).map hdD).set j .none)),.val (.int (k:Nat)),.val d,s14]) (λq hq=>⟨_,rfl,⟨rfl,rfl,(aC rfl)⟩,hq _ trivial⟩) (λ_ DT' hD=>⟨_,rfl,(aC rfl),hD _ ⟨_,rfl⟩⟩) (λ_=>⟨_,rfl⟩) ?_;rintro _ ⟨d,rfl⟩;refine gL (λb=>b=true) (λq hq=>⟨_,rfl,(aC rfl),_,rfl,_,hat,hq _ (decide_eq_true (by omega))⟩) (λ_=>?_) λhF=>by cases hF
   refine mT (.tuple [.str "many",.none]) (λq hq=>⟨(aC rfl),hq⟩) ?_;dsimp only;refine jL (λb=>b=true) (λq hq=>⟨_,rfl,?_⟩) (λ_=>?_) λhF=>by cases hF
   ·by_cases hz:fZ fs<301
    ·show(if decide (((fZ fs:Nat):Int)<301)=true then q true else _);rw[if_pos (decide_eq_true (by omega))];exact hq _ rfl
    ·show(if decide (((fZ fs:Nat):Int)<301)=true then q true else _);rw[if_neg (by rw[decide_eq_true_eq];omega)];exact⟨_,rfl,_,rfl,ok0 _ _ lc la,hq _ rfl⟩
   refine cV (.tuple [.str "many",.none]) (λq hq=>⟨_,rfl,_,rfl,_,rfl,k,fs,_,_,rfl,F,.inl ⟨hk2,rs,rfl,hR,hrl,.inl ⟨hm,hq⟩⟩⟩) ?_;refine jL (λb=>b=false) (λq hq=>⟨_,rfl,_,rfl,_,rfl,_,rfl,ok0 _ _ lc lc,?_⟩) (λhT=>by cases hT) λ_=>⟨_,_,_,rfl⟩;show(if false=true then _ else _);rw[if_neg (by decide)];refine⟨_,rfl,_,rfl,ok0 _ _ lc lb,?_⟩;show(if false=true then _ else _);rw[if_neg (by decide)];exact hq _ rfl
  ·rcases hrs with rfl | rfl
   ·refine gL (λb=>b=true) (λq hq=>⟨_,rfl,⟨rfl,rfl,(aC rfl)⟩,hq _ rfl⟩) (λ_=>?_) λhF=>by cases hF
    refine mT (.tuple [.str "rule",.tuple (((fs.map bN).map hdD).set j .none)]) (λq hq=>⟨_,rfl,(aC rfl),hq⟩) ?_;dsimp only;refine gL (λb=>b=false) (λq hq=>⟨_,rfl,(aC rfl),_,rfl,_,hat,hq _ (decide_eq_false (by omega))⟩) (λhT=>by cases hT) λ_=>?_
    try unfold kC
    dsimp only;refine jL (λb=>b=true) (λq hq=>⟨_,rfl,?_⟩) (λ_=>?_) λhF=>by cases hF
    ·by_cases hz:fZ fs<301
     ·show(if decide (((fZ fs:Nat):Int)<301)=true then q true else _);rw[if_pos (decide_eq_true (by omega))];exact hq _ rfl
     ·show(if decide (((fZ fs:Nat):Int)<301)=true then q true else _);rw[if_neg (by rw[decide_eq_true_eq];omega)];exact⟨_,rfl,_,rfl,ok0 _ _ lb la,hq _ rfl⟩
    refine cV (.tuple [.str "rule",.tuple (((fs.map bN).map hdD).set j .none)]) (λq hq=>⟨_,rfl,_,rfl,_,rfl,k,fs,_,_,rfl,F,.inl ⟨hk2,_,rfl,hR,hrl,.inr (.inl ⟨by omega,kb,_,hfst,hq⟩)⟩⟩) ?_;refine jL (λb=>b=false) (λq hq=>⟨_,rfl,_,rfl,_,rfl,_,rfl,ok0 _ _ lb lb,?_⟩) (λhT=>by cases hT) λ_=>⟨_,_,_,rfl⟩;show(if false=true then _ else _);rw[if_neg (by decide)];refine⟨_,rfl,_,rfl,ok0 _ _ lb lb,?_⟩;show(if true=true then _ else _);rw[if_pos rfl];refine⟨_,rfl,_,rfl,⟨hC.1,hC.1,cP (CG _ _) hC.2⟩,hq _ ?_⟩;show(!cC (.tuple [.str "rule",.tuple (((fs.map bN).map hdD).set j .none)]) (.tuple [.str "rule",.tuple (((fs.map bN).map hdD).set j .none)]))=false;rw[HB F hcc];rfl
   ·refine gL (λb=>b=false) (λq hq=>⟨_,rfl,⟨rfl,rfl,(aC rfl)⟩,hq _ rfl⟩) (λhT=>by cases hT) λ_=>?_
    try unfold kC
    dsimp only;refine gL (λb=>b=false) (λq hq=>⟨_,rfl,(aC rfl),_,rfl,_,hat,hq _ (decide_eq_false (by omega))⟩) (λhT=>by cases hT) λ_=>?_
    try unfold kC
    dsimp only;refine jL (λb=>b=decide (fZ fs<301)) (λq hq=>⟨_,rfl,?_⟩) (λhT=>?_) λ_=>⟨_,_,_,rfl⟩
    ·by_cases hz:fZ fs<301
     ·show(if decide (((fZ fs:Nat):Int)<301)=true then q true else _);rw[if_pos (decide_eq_true (by omega))];exact hq _ (decide_eq_true hz).symm
     ·show(if decide (((fZ fs:Nat):Int)<301)=true then q true else _);rw[if_neg (by rw[decide_eq_true_eq];omega)];exact⟨_,rfl,_,rfl,ok0 _ _ la la,hq _ (decide_eq_false hz).symm⟩
    have hz:fZ fs<301:=of_decide_eq_true hT.symm;refine dF (λd=>∃n:Nat,d=.tuple [.str "told",.int (n:Nat)]) (λq hq=>⟨_,rfl,_,rfl,_,rfl,k,fs,_,_,rfl,F,.inl ⟨hk2,_,rfl,hR,hrl,.inr (.inr ⟨hS.small hs (by omega),T2 _ _ _ _,λn=>hq _ ⟨n,rfl⟩⟩)⟩⟩) ?_;rintro _ ⟨n,rfl⟩;refine jL (λb=>b=false) (λq hq=>⟨_,rfl,_,rfl,_,rfl,_,rfl,ok0 _ _ la la,?_⟩) (λhT=>by cases hT) λ_=>⟨_,_,_,rfl⟩;show(if false=true then _ else _);rw[if_neg (by decide)];refine⟨_,rfl,_,rfl,ok0 _ _ la lb,?_⟩;show(if false=true then _ else _);rw[if_neg (by decide)];exact hq _ rfl
 ·obtain⟨s12,s13,s14,rfl⟩:=hP;exact h
theorem aAu
  (F_36:bX P w K mg base eR 1 a_36 f_36 ["_law_tape_here","_law_many"] (bD K uQ))
  (F_49:bX P w K mg base eR 37 a_49 f_49 ["_law_tape_here"] (bD K XD))
  (F_37:bX P w K mg base eR 2 a_37 f_37 ["_law_tape_here","_law_many"] (bD K KZ))
  (F_45:bX P w K mg base eR 28 a_45 f_45 ["_law_tape_here","_law_form_here","_law_lets","_law_left"] (bD K XG))
  (F_48:bX P w K mg base eR 37 a_48 f_48 ["_law_tape_here"] (bD K XE))
  (F_35:bX P w K mg base eR 1 a_35 f_35 ["_law_script"] (fT K XN))
  (F_47:bX P w K mg base eR 36 a_47 f_47 ["_law_way","_law_form_here","_law_thing"] (bD K KW))
  (F_39:bX P w K mg base eR 1 a_39 f_39 ["_law_form_here"] (bD K F1)):bX P w K mg base eR 38 a_law f_law ["_law_script"] (bD K AD):=by
 refine pZ T.D_law.F QL (λds Q h=>by obtain⟨ns,rfl,hl,h⟩:=h;rfl) λcdv Ar outer s H E hr ds Q h=>?_;obtain⟨ns,rfl,hl,h⟩:=h;have nd:=QL.nd;refine⟨_,(aQ (ss 1 nd (N9 (cF F_35 T.D_35 hr (aA (aL 0) aK))))
 (aQ (gT (oN (uO (AC (tv (cd F_48 T.D_48 hr (aA (aL 1) aK)))) (pW (AC (tv (cd F_49 T.D_49 hr (aA (aL 1) aK)))))))
 (bG (dL C4))
 eY)
 (aQ (ss 2 nd (cd F_37 T.D_37 hr (aA (aL 1) (aA aP aK))))
 (aQ (ss 3 nd (dI (aA (cY kB (aA (el (fr:=[none,some 2,some 1]) (N':=["_law_k","_law_names_here","_law_tape_here"]) (lF (aA aP aK) (λh=>kD rfl T.b_range h)) (λb=>⟨(dH (pk 0)),kX,(dI (aA (cS bR eG (aL 1) (aL 0)) (aA (cY kB (aA (cd F_37 T.D_37 hr (aA (aL 2) (aA aP aK))) aK) eQ T.b_tuple iZ) aK)))⟩)) aK) eQ T.b_tuple iZ) (aA (dI (aA eU (aA eU aK))) aK))))
 (aQ (ss 4 nd (dN cG fY aP (cd F_36 T.D_36 hr (aA (aL 1) (aA aP aK)))))
 (aQ (ss 5 nd (cd F_45 T.D_45 hr (aA (aL 1) (aA (aL 3) (aA (cd F_39 T.D_39 hr (aA (aL 3) aK)) (aA (aL 4) aK))))))
 (aQ (gT (dE (oE hr) jC (cd F_36 T.D_36 hr (aA (aL 1) (aA aP aK))) aP)
 (aQ (ss 6 nd (cd F_45 T.D_45 hr (aA (aL 1) (aA (aL 3) (aA (cd F_39 T.D_39 hr (aA (aL 3) aK)) (aA aP aK))))))
 (bG (ss 5 nd (dN cG fY (fC iK nL (aL 5) gM (gD aP)) (dI (aA (dN cG fY (fC iK nL (aL 5) gM (gD aP)) (dI (aA (cS bR eG (aL 5) aP) (aA (aL 6) aK)))) (aA (cS bR eG (aL 5) aP) aK)))))))
 eY)
 (aQ (ss 7 nd (cd F_47 T.D_47 hr (aA aP (aA (aL 3) (aA (aL 5) aK)))))
 (bG (dL (rO (oE hr) jC (aL 7) (cS bR eG (jM (aA (dI (aA eU (aA (aL 4) aK))) (aA (dI (aA eU (aA jH aK))) aK))) (cY TK (aA (rO nU sD (aL 4) aP) aK) yA T.b_int KC))))))))))))),?_⟩
 show iM _ _ _ [.val (.list (ns.map bS)),.un,.un,.un,.un,.un,.un,.un];refine cV (iD ns) (λq hq=>⟨_,rfl,ns,rfl,hl,λc hc=>⟨ns,c,rfl,hc,hq⟩⟩) ?_;refine gL (λb=>b=false) (λq hq=>⟨_,rfl,ns,rfl,hl,?_⟩) (λhT=>by cases hT) λ_=>?_
 ·show(if false=true then _ else _);rw[if_neg (by decide)];exact⟨_,rfl,ns,rfl,hl,hq _ rfl⟩
 try unfold kC
 dsimp only;refine dF (λd=>∃ys,wY 3 ys/\d=.list (ys.map aV)) (λq hq=>⟨_,rfl,ns,3,rfl,hl,by decide,by decide,λys hy=>hq _ ⟨ys,hy,rfl⟩⟩) ?_;rintro _ ⟨ys,hys,rfl⟩;refine dF (λd=>∃fs,yR fs [4,4,4]/\d=eM fs ["yes","no"]) (λq hq=>?_) ?_
 ·show S5 _ _ _;dsimp only[S5,nY,vP,jP];refine JV (ts:=fV 3) (λR h=>⟨3,rfl,by decide,by decide,h⟩) (λk _ y=>∃(z:Str)(m:Nat)(vs:List Str),ys[k]?=some z/\([4,4,4]:List Nat)[k]?=some m/\wY m vs/\y=kE (z,vs)) (by rw[iX];decide) (λk x q hx hq=>?_) λzs hzl hz=>?_
  ·obtain⟨hk,rfl⟩:=mI hx;have hky:k<ys.length:=by rw[hys.1];omega
   have e1:ys[k]?=some ys[k]:=aF hky
   have e2:([4,4,4]:List Nat)[k]?=some 4:=by
    obtain rfl | rfl | rfl:k=0\/k=1\/k=2:=by omega
    all_goals rfl
   exact⟨_,rfl,_,rfl,_,L2.eD (by rw[aH,e1];rfl),_,rfl,ns,4,rfl,hl,by decide,by decide,λvs hv=>⟨(aC rfl),hq _ ⟨_,_,vs,e1,e2,hv,rfl⟩⟩⟩
  ·rw[iX]at hzl;obtain⟨fs,rfl,hS⟩:=F3 (s:=[4,4,4]) hys (by decide) hzl λk y hy=>hz k (.int k) y (by unfold fV;rw[aH,iE (by have:=(aD.mp hy).1;omega)];rfl) hy;exact⟨(aC rfl),(aC rfl),hq _ ⟨fs,hS,rfl⟩⟩
 rintro _ ⟨fs,hS,rfl⟩;have F:=hS.form;have pl:(cH (fs.map bN)).length=125:=by rw[<- mL,pG,hS.many];decide
 have wl:IC (fs.map bN)=12:=by rw[MQ hS];decide
 refine dF (λd=>∃n:Nat,58<=n/\n<=64/\d=.int (n:Nat)) (λq hq=>⟨_,rfl,ns,7,rfl,hl,by decide,by decide,λi h0 h1=>hq _ ⟨58+i.toNat,by omega,by omega,?_⟩⟩) ?_
 ·rw[show(((58+i.toNat:Nat)):Int)=58+i by omega]
 rintro _ ⟨n,hn1,hn2,rfl⟩;refine dF (λd=>∃t,tQ fs ["yes","no"] (fs.map bN) n t/\d=oQ t) (λq hq=>⟨_,rfl,_,rfl,_,rfl,fs,_,rfl,F,_,rfl,ns,fs,_,fs.map bN,n,rfl,hl,F,cU.whole fs,rB fs,by omega,by omega,by omega,λt ht=>hq _ ⟨t,ht,rfl⟩⟩) ?_;rintro _ ⟨t,ht,rfl⟩;have htd:=ht.dep;have hcnt:=ht.cnt;refine zN (λ_=>True) (λσ=>∃(t:Tr)(s6:Sl),wS fs ["yes","no"] t/\t.dep<=29/\(dQ fs t (fs.map bN)).length=n/\σ=[.val (.list (ns.map bS)),.val (iD ns),.val (.list (ys.map aV)),.val (eM fs ["yes","no"]),.val (.int (n:Nat)),.val (oQ t),s6,.un]) (λq hq=>⟨_,rfl,ns,2,rfl,hl,by decide,by decide,λi _ _=>⟨⟨rfl,rfl,(aC rfl)⟩,hq _ trivial⟩⟩) (λ_ DT' hD=>?_) (λ_=>⟨t,_,ht.ok,by omega,by rw[A8 ht.full];exact hcnt,rfl⟩) ?_
 ·cases t with
  |say a=>
   have:(1:Nat)=n:=hcnt;omega
  |ask k z v s y m=>
   refine dF (λd=>∃t,tQ fs ["yes","no"] (fs.map bN) 9 t/\d=oQ t) (λq hq=>⟨_,rfl,_,rfl,_,rfl,fs,_,rfl,F,ns,fs,_,fs.map bN,9,rfl,hl,F,cU.whole fs,rB fs,by omega,by omega,by omega,λt ht=>hq _ ⟨t,ht,rfl⟩⟩) ?_;rintro _ ⟨b,hb,rfl⟩;have hbd:=hb.dep;obtain⟨o1,o2,o3,o4⟩:=ht.ok;have hd:max y.dep m.dep+1<=IC (fs.map bN):=htd;refine mT (oQ (.ask k z v s (.ask k z v s y b) m)) (λq hq=>⟨_,rfl,_,rfl,_,rfl,_,rfl,_,rfl,(aC rfl),(aC rfl),_,rfl,_,rfl,(aC rfl),(aC rfl),hq⟩) (hD _ ⟨.ask k z v s (.ask k z v s y b) m,_,⟨o1,o2,⟨o1,o2,o3,hb.ok⟩,o4⟩,?_,?_,rfl⟩)
   ·show max (max y.dep b.dep+1) m.dep+1<=29;omega
   ·rw[OO F o1 (cU.whole fs).1 ht.full];exact hcnt
 clear ht htd hcnt t;rintro _ ⟨t,s6,ht,htd,hcnt,rfl⟩;have la:jI (.str "told")=true:=by decide +kernel
 have lt:jI (.tuple [.str "told",.int (n:Nat)])=true:=by
  show(jI (.str "told")&&(true&&true))=true;rw[la];rfl
 have lm:jI (.tuple [.str "many",.none])=true:=by decide +kernel
 by_cases hk:60<n
 ·refine cV (.tuple [.str "many",.none]) (λq hq=>⟨_,rfl,_,rfl,2,fs,_,_,rfl,F,.inr ⟨rfl,t,rfl,ht,htd,λ_=>hq,λz=>by omega⟩⟩) ?_;refine⟨_,rfl,_,rfl,(aC rfl),(aC rfl),(aC rfl),_,rfl,?_⟩;have e:decide ((60:Int)<(n:Nat))=true:=decide_eq_true (by omega);unfold TL.eC;dsimp only[fB0];rw[e];refine⟨_,rfl,⟨lm,lm,(aC rfl)⟩,?_⟩
  have e2:cC (.tuple [.str "many",.none]) (.tuple [.str "many",.none])=true:=nW λx hx=>by
   rcases aY.mp hx with rfl | hx
   ·exact beq_self_eq_true _
   ·rw[aW.mp hx];rfl
  show Q (.bool (cC (.tuple [.str "many",.none]) (.tuple [.str "many",.none])));rw[e2];exact h
 ·refine cV (.tuple [.str "told",.int (n:Nat)]) (λq hq=>⟨_,rfl,_,rfl,2,fs,_,_,rfl,F,.inr ⟨rfl,t,rfl,ht,htd,λz=>by omega,λ_=>by rw[hcnt];exact hq⟩⟩) ?_;refine⟨_,rfl,_,rfl,(aC rfl),(aC rfl),(aC rfl),_,rfl,?_⟩;have e:decide ((60:Int)<(n:Nat))=false:=decide_eq_false (by omega);unfold TL.eC;dsimp only[fB0];rw[e];refine⟨_,rfl,⟨lt,lt,(aC rfl)⟩,?_⟩
  have e2:cC (.tuple [.str "told",.int (n:Nat)]) (.tuple [.str "told",.int (n:Nat)])=true:=nW λx hx=>by
   rcases aY.mp hx with rfl | hx
   ·exact beq_self_eq_true _
   ·rw[aW.mp hx];exact beq_self_eq_true _
  show Q (.bool (cC (.tuple [.str "told",.int (n:Nat)]) (.tuple [.str "told",.int (n:Nat)])));rw[e2];exact h
theorem aAz
  (F_8:bX P w K mg base eR 3 a_8 f_8 ["form"] (fT K Z4))
  (F_13:bX P w K mg base eR 2 a_13 f_13 ["form","rules","case"] (bD K K2))
  (F_7:bX P w K mg base eR 2 a_7 f_7 ["form"] (bD K U5)):bX P w K mg base (FK P w) 4 a_14 f_14 ["form","rules","most"] (kM K (nK c_TooMany c_NoRule)):=by
 refine fnX T.D_14.F K9 (λds Q h=>by obtain⟨fs,an,rs,m,rfl,F,hL,h5,h⟩:=h;rfl) λcdv Ar outer s H E hr ds ED h hE=>?_;obtain⟨fs,an,rs,m,rfl,F,hL,h5,h⟩:=h;have nd:=K9.nd;refine⟨_,(aQ (gT (dE nU sD (cd F_7 T.D_7 hr (aA (aL 0) aK)) (aL 2))
 (bG (FZ hE T.X_TooMany (aA eU aK) (λh=>GH T.R_TooMany hr rfl T.x_TooMany h)))
 eY)
 (aQ (sn 3 nd)
 (aQ (P6 (fU (BD (cF F_8 T.D_8 hr (aA (aL 0) aK)))) (dH (pn 4 nd))
 (aQ (F0 (i:=3) hr.u9 (pv 3) (aL 4) (cd F_13 T.D_13 hr (aA (aL 0) (aA (aL 1) (aA (aL 4) aK)))))
 (bG (gT (dE AQ GO (HA (i:=3) hr.u9 (pv 3) (aL 4) (by intro _ _;rfl)) jH)
 (bG (MW hE T.X_NoRule (aA (aL 4) aK) (λh=>NB (k:=0) T.I_NoRule (AS T) T.i_NoRule (hr.mono (by decide)) rfl T.x_NoRule h)))
 eY))) (λhi hg hb=>Q2 PassesOwn.leaving rfl hi hg hb))
 (CL 3 (bG wA))))),?_⟩
 show iM _ _ _ [.val (eM fs an),.val (.list (rs.map cL)),.val (.int (m:Nat)),.un,.un];have pm:(cH (fs.map bN)).length=fZ fs:=by rw[<- mL,pG]
 rcases h with⟨hm,h⟩ | ⟨hm,k0,c0,⟨hk0,hbe,hno⟩,h⟩
 ·refine gL (λb=>b=true) (λq hq=>⟨_,rfl,fs,an,rfl,F,_,rfl,hq _ (decide_eq_true (by omega))⟩) (λ_=>?_) λhF=>by cases hF
  exact CN [.str "more cases than are gone through"] (λq hq=>hq) (by decide) h λB hB=>hB
 refine gL (λb=>b=false) (λq hq=>⟨_,rfl,fs,an,rfl,F,_,rfl,hq _ (decide_eq_false (by omega))⟩) (λhT=>by cases hT) λ_=>?_
 try unfold kC
 dsimp only;refine F8 (w:=w) (show 3<5 by decide) (λj hs kvs hj=>?_) ?_
 ·rcases j with _ | _ | _ | _ | _ | j<;>simp at hj
 have keyT:∀c∈cH (fs.map bN),FH (.tuple c):=λc hc=>qL F (lN (cU.whole fs) ((iR _ c).mp hc))
 have keys:∀k,∀kv∈((cH (fs.map bN)).take k).map (λc=>(aM c,vO (rs.find? λr=>kZ r.1 c))),nZ kv.1:=λk kv hkv=>by
  obtain⟨c,hc,rfl⟩:=aX.mp hkv;exact(keyT c (fM hc)).1
 have k0l:=(aD.mp hk0).1
 refine hJ (ts:=(cH (fs.map bN)).map aM) (λR h=>⟨_,rfl,fs,an,rfl,F,by omega,_,rfl,by rw[mL];exact h⟩)
  (λk σ=>k<=k0/\∃s4:Sl,σ=[.val (eM fs an),.val (.list (rs.map cL)),.val (.int (m:Nat)),HF w (((cH (fs.map bN)).take k).map λc=>(aM c,vO (rs.find? λr=>kZ r.1 c))),s4]) ⟨dS _,_,rfl⟩ (λk x σ' hx hP=>?_) λσ' hP=>?_
 ·obtain⟨hkk,s4,rfl⟩:=hP;rw[aH]at hx;obtain⟨c,hck,rfl⟩:=bK.mp hx;have hcm:=aR hck;have hcc:=lN (cU.whole fs) ((iR _ c).mp hcm);have hkl:(((cH (fs.map bN)).take k).map λc=>(aM c,vO (rs.find? λr=>kZ r.1 c))).length<=500:=by rw[aE,bI];omega
  refine F7 (w:=w) (.tuple c) (vO (rs.find? λr=>kZ r.1 c)) rfl (λq hq=>⟨_,rfl,_,rfl,_,rfl,fs,an,rs,c,rfl,F,hL,hcc,hq⟩) (λq hq=>⟨_,rfl,hq⟩) (keyT c hcm) (keys k) (by omega) ?_;rw[GG (g:=λc=>vO (rs.find? λr=>kZ r.1 c)) (LI F) hck];have hin:(aM c,vO (rs.find? λr=>kZ r.1 c))∈((cH (fs.map bN)).take (k+1)).map λc=>(aM c,vO (rs.find? λr=>kZ r.1 c)):=aX.mpr ⟨c,by rw[cN,hck];simp,rfl⟩;by_cases hke:k=k0
  ·subst hke;obtain rfl:c=c0:=Option.some.inj (hck.symm.trans hk0);have hin':(aM c,dY)∈((cH (fs.map bN)).take (k+1)).map λc=>(aM c,vO (rs.find? λr=>kZ r.1 c)):=by rw[hno]at hin;exact hin
   refine jL (λb=>b=true) (λq hq=>⟨_,rfl,_,rfl,keyT c hcm,keys (k+1),_,hin',hq _ rfl⟩) (λ_=>?_) λhF=>by cases hF
   exact⟨_,rfl,c,rfl,N7 F hcc,h,λB hB=>hB⟩
  ·have hct:c∈(cH (fs.map bN)).take k0:=aR (i:=k) (by rw[jJ,if_pos (by omega)];exact hck);have hn:=hbe c hct
   cases hx:rs.find? (λr=>kZ r.1 c)with
   |none=>exact absurd hx hn
   |some r=>
    have hin':(aM c,aV r.2)∈((cH (fs.map bN)).take (k+1)).map λc=>(aM c,vO (rs.find? λr=>kZ r.1 c)):=by rw[hx]at hin;exact hin
    exact jL (λb=>b=false) (λq hq=>⟨_,rfl,_,rfl,keyT c hcm,keys (k+1),_,hin',hq _ rfl⟩) (λhT=>by cases hT) λ_=>⟨by omega,_,rfl⟩
 ·obtain⟨hkk,s4,rfl⟩:=hP;rw[aE]at hkk;omega
theorem aAw
  (X_14:bX P w K mg base (FK P w) 4 a_14 f_14 ["form","rules","most"] (kM K (nK c_TooMany c_NoRule))):bX P w K mg base (FK P w) 5 a_22 f_22 ["form","rules"] (kM K (uP c_TooMany c_NoRule)):=by
 refine fnX T.D_22.F K6 (λds Q h=>by obtain⟨fs,an,rs,rfl,F,hL,h⟩:=h;rfl) λcdv Ar outer s H E hr ds ED h hE=>?_;obtain⟨fs,an,rs,rfl,F,hL,h⟩:=h;have nd:=K6.nd;refine⟨_,(aQ (KT (i:=2) (wO hE (aA (aL 0) (aA (aL 1) (aA (rN rfl T.c_MOST_CASES_SHORTENED) aK))) (λh=>rH X_14 (hr.mono (by decide)) rfl T.D_14.m T.D_14.k T.D_14.d .nil GL h)) (λh=>vG (i:=2) nd rfl (by first | exact Or.inl rfl | exact Or.inr rfl) h))
 (aQ wA
 (bG wA))),?_⟩
 exact⟨⟨_,rfl,_,rfl,fs,an,rs,300,rfl,F,hL,by decide,h⟩,λB hB=>hB⟩
theorem aAx
  (X_14:bX P w K mg base (FK P w) 4 a_14 f_14 ["form","rules","most"] (kM K (nK c_TooMany c_NoRule))):bX P w K mg base (FK P w) 27 a_19 f_19 ["form","rules"] (kM K (yG c_TooMany c_NoRule)):=by
 refine fnX T.D_19.F K7 (λds Q h=>by obtain⟨fs,an,rs,rfl,F,hL,h⟩:=h;rfl) λcdv Ar outer s H E hr ds ED h hE=>?_;obtain⟨fs,an,rs,rfl,F,hL,h⟩:=h;have nd:=K7.nd;refine⟨_,(aQ (KT (i:=2) (wO hE (aA (aL 0) (aA (aL 1) (aA (rN rfl T.c_MOST_CASES_BACK) aK))) (λh=>rH X_14 (hr.mono (by decide)) rfl T.D_14.m T.D_14.k T.D_14.d .nil GL h)) (λh=>vG (i:=2) nd rfl (by first | exact Or.inl rfl | exact Or.inr rfl) h))
 (bG wA)),?_⟩
 exact⟨⟨_,rfl,_,rfl,fs,an,rs,500,rfl,F,hL,by decide,h⟩,λB hB=>hB⟩
theorem aAy
  (F_17:bX P w K mg base eR 33 a_17 f_17 ["form","tree","lets"] (fT K QH))
  (F_16:bX P w K mg base eR 2 a_16 f_16 ["form"] (bD K K1)):bX P w K mg base (FK P w) 34 a_15 f_15 ["form","tree"] (kM K (wB c_TooMany c_NoRule)):=by
 refine fnX T.D_15.F K8 (λds Q h=>by obtain⟨fs,an,t,rfl,F,ht,htd,h60,h⟩:=h;rfl) λcdv Ar outer s H E hr ds ED h hE=>?_;obtain⟨fs,an,t,rfl,F,ht,htd,h60,h⟩:=h;have nd:=K8.nd;refine⟨_,(aQ (sF 2 nd (cF F_17 T.D_17 hr (aA (aL 0) (aA (aL 1) (aA (cd F_16 T.D_16 hr (aA (aL 0) aK)) aK)))))
 (aQ (gT (xE 2 (dE nU sD (cB kF (aA (aL 2) aK) cW T.b_len gU) (rN rfl T.c_MOST_RULES)))
 (bG (FZ hE T.X_TooMany (aA eU aK) (λh=>GH T.R_TooMany hr rfl T.x_TooMany h)))
 eY)
 (bG wA))),?_⟩
 show iM _ _ _ [.val (eM fs an),.val (oQ t),.un];refine AG ((dQ fs t (fs.map bN)).map cL) (λq hq=>⟨_,rfl,_,rfl,_,rfl,fs,an,rfl,F,fs,an,t,fs.map bN,rfl,F,ht,cU.whole fs,rB fs,by omega,tD F (cU.whole fs),hq⟩) ?_;refine gL (λb=>b=true) (λq hq=>⟨_,rfl,_,rfl,hq _ (decide_eq_true ?_)⟩) (λ_=>?_) λhF=>by cases hF
 ·rw[aE];omega
 exact CN [.str "more than sixty rules"] (λq hq=>hq) (by decide) h λB hB=>hB
theorem aAv
  (X_15:bX P w K mg base (FK P w) 34 a_15 f_15 ["form","tree"] (kM K (wB c_TooMany c_NoRule)))
  (X_22:bX P w K mg base (FK P w) 5 a_22 f_22 ["form","rules"] (kM K (uP c_TooMany c_NoRule)))
  (X_19:bX P w K mg base (FK P w) 27 a_19 f_19 ["form","rules"] (kM K (yG c_TooMany c_NoRule))):bX P w K mg base (FK P w) 35 a_46 f_46 ["_law_way","_law_form_here","_law_thing"] (kM K (rZ c_TooMany c_NoRule)):=by
 refine fnX T.D_46.F K5 (λds Q h=>by obtain⟨wy,fs,an,th,rfl,F,h⟩:=h;rfl) λcdv Ar outer s H E hr ds ED h hE=>?_;obtain⟨wy,fs,an,th,rfl,F,h⟩:=h;have nd:=K5.nd;refine⟨_,(aQ (gT (dE nV sZ (aL 0) aP)
 (bG (D2 (SW (E9 (wO hE (aA (aL 1) (aA (aL 2) aK)) (λh=>rH X_22 (hr.mono (by decide)) rfl T.D_22.m T.D_22.k T.D_22.d .nil GL h))) (λh=>mR cW rfl T.b_len gU h))))
 eY)
 (aQ (gT (dE nV sZ (aL 0) aP)
 (bG (D2 (SW (E9 (wO hE (aA (aL 1) (aA (aL 2) aK)) (λh=>rH X_19 (hr.mono (by decide)) rfl T.D_19.m T.D_19.k T.D_19.d .nil GL h))) (λh=>mR cW rfl T.b_len gU h))))
 eY)
 (bG (D2 (SW (E9 (wO hE (aA (aL 1) (aA (aL 2) aK)) (λh=>rH X_15 (hr.mono (by decide)) rfl T.D_15.m T.D_15.k T.D_15.d .nil GL h))) (λh=>mR cW rfl T.b_len gU h)))))),?_⟩
 show iM _ _ _ [.val (.int (wy:Nat)),.val (eM fs an),.val th];rcases h with⟨hw,rs,rfl,hL,h⟩ | ⟨rfl,t,rfl,ht,htd,h60,h⟩
 ·obtain rfl | rfl:wy=0\/wy=1:=by omega
  ·refine gL (λb=>b=true) (λq hq=>⟨_,rfl,hq _ rfl⟩) (λ_=>?_) λhF=>by cases hF
   exact⟨⟨_,rfl,_,rfl,fs,an,rs,rfl,F,hL,h⟩,λB hB=>hB⟩
  ·refine gL (λb=>b=false) (λq hq=>⟨_,rfl,hq _ rfl⟩) (λhT=>by cases hT) λ_=>?_
   try unfold kC
   dsimp only;refine gL (λb=>b=true) (λq hq=>⟨_,rfl,hq _ rfl⟩) (λ_=>?_) λhF=>by cases hF
   exact⟨⟨_,rfl,_,rfl,fs,an,rs,rfl,F,hL,h⟩,λB hB=>hB⟩
 ·refine gL (λb=>b=false) (λq hq=>⟨_,rfl,hq _ rfl⟩) (λhT=>by cases hT) λ_=>?_
  try unfold kC
  dsimp only;refine gL (λb=>b=false) (λq hq=>⟨_,rfl,hq _ rfl⟩) (λhT=>by cases hT) λ_=>?_
  try unfold kC
  dsimp only;exact⟨⟨_,rfl,_,rfl,fs,an,t,rfl,F,ht,htd,h60,h⟩,λB hB=>hB⟩
theorem aB6:bX P w K mg base eR 38 a_law f_law ["_law_script"] (bD K AD):=by
 have O_36:=aEe (P:=P) (w:=w) (base:=base) T;have O_37:=aEd (P:=P) (w:=w) (base:=base) T O_36;have O_3:=aHa (P:=P) (w:=w) (base:=base) T;have O_2:=aHb (P:=P) (w:=w) (base:=base) T O_3;have O_1:=aHc (P:=P) (w:=w) (base:=base) T;have O_11:=aE3 (P:=P) (w:=w) (base:=base) T;have O_18:=aEw (P:=P) (w:=w) (base:=base) T;have O_17:=aEx (P:=P) (w:=w) (base:=base) T O_2 O_1 O_11 O_18;have O_9:=aG4 (P:=P) (w:=w) (base:=base) T;have O_16:=aEy (P:=P) (w:=w) (base:=base) T O_9;have O_15:=aEz (P:=P) (w:=w) (base:=base) T O_17 O_16;have O_10:=aE4 (P:=P) (w:=w) (base:=base) T;have O_7:=aG6 (P:=P) (w:=w) (base:=base) T O_9;have O_8:=aG5 (P:=P) (w:=w) (base:=base) T O_9 O_10 O_7;have O_12:=aE2 (P:=P) (w:=w) (base:=base) T;have O_13:=aE1 (P:=P) (w:=w) (base:=base) T O_12;have O_14:=aE0 (P:=P) (w:=w) (base:=base) T O_8 O_13 O_7;have O_32:=aEi (P:=P) (w:=w) (base:=base) T;have O_31:=aEj (P:=P) (w:=w) (base:=base) T O_13 O_12 O_32;have O_30:=aEk (P:=P) (w:=w) (base:=base) T O_31 O_32;have O_24:=aEq (P:=P) (w:=w) (base:=base) T;have O_29:=aEl (P:=P) (w:=w) (base:=base) T O_12;have O_27:=aEn (P:=P) (w:=w) (base:=base) T O_9;have O_28:=aEm (P:=P) (w:=w) (base:=base) T O_9 O_18;have O_34:=aEg (P:=P) (w:=w) (base:=base) T O_29 O_27 O_28;have O_25:=aEp (P:=P) (w:=w) (base:=base) T O_12;have O_33:=aEh (P:=P) (w:=w) (base:=base) T O_31 O_24 O_34 O_25;have O_26:=aEo (P:=P) (w:=w) (base:=base) T O_29 O_27 O_28;have O_23:=aEr (P:=P) (w:=w) (base:=base) T O_24 O_25 O_26;have O_22:=aEs (P:=P) (w:=w) (base:=base) T O_14 O_30 O_33 O_23;have O_21:=aEt (P:=P) (w:=w) (base:=base) T;have O_5:=aG8 (P:=P) (w:=w) (base:=base) T;have O_0:=aHd (P:=P) (w:=w) (base:=base) T O_2 O_1;have O_4:=aG9 (P:=P) (w:=w) (base:=base) T O_5 O_0;have O_6:=aG7 (P:=P) (w:=w) (base:=base) T;have O_20:=aEu (P:=P) (w:=w) (base:=base) T O_21 O_4 O_6;have O_19:=aEv (P:=P) (w:=w) (base:=base) T O_14 O_20;have O_46:=aD4 (P:=P) (w:=w) (base:=base) T O_15 O_22 O_19;have OX_15:=aAy (P:=P) (w:=w) (base:=base) T (F_17:=O_17) (F_16:=O_16);have OX_14:=aAz (P:=P) (w:=w) (base:=base) T (F_8:=O_8) (F_13:=O_13) (F_7:=O_7);have OX_22:=aAw (P:=P) (w:=w) (base:=base) T (X_14:=OX_14);have OX_19:=aAx (P:=P) (w:=w) (base:=base) T (X_14:=OX_14);have OX_46:=aAv (P:=P) (w:=w) (base:=base) T (X_15:=OX_15) (X_22:=OX_22) (X_19:=OX_19);have O_47:=aD3 (P:=P) (w:=w) (base:=base) T O_46 (X_46:=OX_46);have O_39:=aEb (P:=P) (w:=w) (base:=base) T;have O_49:=aD1 (P:=P) (w:=w) (base:=base) T O_36 O_37 O_47 O_39;have O_45:=aD5 (P:=P) (w:=w) (base:=base) T O_36;have O_43:=aD7 (P:=P) (w:=w) (base:=base) T;have O_44:=aD6 (P:=P) (w:=w) (base:=base) T O_43;have O_40:=aEa (P:=P) (w:=w) (base:=base) T O_39;have O_38:=aEc (P:=P) (w:=w) (base:=base) T O_36 O_37;have O_41:=aD9 (P:=P) (w:=w) (base:=base) T O_36;have O_42:=aD8 (P:=P) (w:=w) (base:=base) T O_36 O_41 O_39;have O_48:=aD2 (P:=P) (w:=w) (base:=base) T O_44 O_40 O_36 O_38 O_42 O_47;have O_35:=aEf (P:=P) (w:=w) (base:=base) T;have O_law:=aAu (P:=P) (w:=w) (base:=base) T O_36 O_49 O_37 O_45 O_48 O_35 O_47 O_39;exact O_law
theorem aB7{l:PySem.W.OpenLaw}{fa:Addr}(hfa:mg "law"=some (.ref fa)):∃fd:eI,(∀(s:Shared)(v:Value),BindsTo s fd ⟨[v],[]⟩ [("_law_script",v)])/\∀base:Heap,K.In base->base.Ns fA mg->bX l.prog w K mg base eR 38 fa fd ["_law_script"] (bD K AD):=by
 have e:=hfa.symm.trans T.D_law.m;cases e;refine⟨f_law,?_,λbase _ _=>aB6 T⟩;obtain⟨_,_,_,_,_,_,_,_,_,e,_⟩:=T.D_law.F.ex;rw[e]
 exactλs v=>.of_eq rfl
omit T
theorem aFw{K:aG}{h:Heap}{mg:Str->Option Value}(X:K.In h)(G:h.Ns fA mg){C_JudgeError:Addr}
  (ax_JudgeError:eN K fA "JudgeError"=some (some (.ref C_JudgeError)))
  {C_TooMany:Addr}
  (ax_TooMany:eN K fA "TooMany"=some (some (.ref C_TooMany)))
  {C_NoPlace:Addr}
  (ax_NoPlace:eN K fA "NoPlace"=some (some (.ref C_NoPlace)))
  {C_NoRow:Addr}
  (ax_NoRow:eN K fA "NoRow"=some (some (.ref C_NoRow)))
  {C_NoSuch:Addr}
  (ax_NoSuch:eN K fA "NoSuch"=some (some (.ref C_NoSuch)))
  {C_NoLine:Addr}
  (ax_NoLine:eN K fA "NoLine"=some (some (.ref C_NoLine)))
  {C_NoText:Addr}
  (ax_NoText:eN K fA "NoText"=some (some (.ref C_NoText)))
  {C_NoRule:Addr}
  (ax_NoRule:eN K fA "NoRule"=some (some (.ref C_NoRule)))
  {c0_J:Value} {dd_J:Option Addr} {cd_J:ClassData} {sl_J:Array (Option Value)}
  (l_J:K.lookup C_JudgeError=some ⟨c0_J,dd_J,.cls cd_J,sl_J⟩)
  {oc_J:Value} {od_J:Option Addr} {es_J:Array DictEntry} {ep_J:Nat} {os_J:Array (Option Value)}
  (ln_J:K.lookup cd_J.ns=some ⟨oc_J,od_J,.dict es_J ep_J,os_J⟩)
  (R_J:(es_J.toList.all λe=>match e.key with | .str _ _=>true | _=>false)=true)
  (n2_J:eN K cd_J.ns "__init__"=some (none))
  (mb_J:bF K C_JudgeError (.type "BaseException")=some true)
  {cc_JudgeError:ClassData}
  (ic_JudgeError:fG K C_JudgeError=some cc_JudgeError)
  (it_JudgeError:hZ K (.ref C_JudgeError)=some (.type "type"))
  (is_JudgeError:bF K C_JudgeError (.ref C_JudgeError)=some true)
  {cc_TooMany:ClassData}
  (ic_TooMany:fG K C_TooMany=some cc_TooMany)
  (it_TooMany:hZ K (.ref C_TooMany)=some (.type "type"))
  (is_TooMany:bF K C_TooMany (.ref C_TooMany)=some true)
  {cc_NoPlace:ClassData}
  (ic_NoPlace:fG K C_NoPlace=some cc_NoPlace)
  (it_NoPlace:hZ K (.ref C_NoPlace)=some (.type "type"))
  (is_NoPlace:bF K C_NoPlace (.ref C_NoPlace)=some true)
  {cc_NoRow:ClassData}
  (ic_NoRow:fG K C_NoRow=some cc_NoRow)
  (it_NoRow:hZ K (.ref C_NoRow)=some (.type "type"))
  (is_NoRow:bF K C_NoRow (.ref C_NoRow)=some true)
  {cc_NoSuch:ClassData}
  (ic_NoSuch:fG K C_NoSuch=some cc_NoSuch)
  (it_NoSuch:hZ K (.ref C_NoSuch)=some (.type "type"))
  (is_NoSuch:bF K C_NoSuch (.ref C_NoSuch)=some true)
  {cc_NoLine:ClassData}
  (ic_NoLine:fG K C_NoLine=some cc_NoLine)
  (it_NoLine:hZ K (.ref C_NoLine)=some (.type "type"))
  (is_NoLine:bF K C_NoLine (.ref C_NoLine)=some true)
  {cc_NoText:ClassData}
  (ic_NoText:fG K C_NoText=some cc_NoText)
  (it_NoText:hZ K (.ref C_NoText)=some (.type "type"))
  (is_NoText:bF K C_NoText (.ref C_NoText)=some true)
  {cc_NoRule:ClassData}
  (ic_NoRule:fG K C_NoRule=some cc_NoRule)
  (it_NoRule:hZ K (.ref C_NoRule)=some (.type "type"))
  (is_NoRule:bF K C_NoRule (.ref C_NoRule)=some true)
  {nm_TooMany qn_TooMany:Str} {N_TooMany:Addr} {bs_TooMany sub_TooMany:List Value} {hd_TooMany ab_TooMany:Bool} {sn_TooMany:List Str} {col_TooMany:Option Bool} {dd_TooMany:Option Addr} {k0_TooMany k1_TooMany k2_TooMany k3_TooMany k5_TooMany:Option Value}
  (l_TooMany:K.lookup C_TooMany=some (excClassObj nm_TooMany qn_TooMany C_TooMany N_TooMany bs_TooMany (.ref C_JudgeError::[.type "ValueError",.type "Exception",.type "BaseException",.type "object"]) hd_TooMany sn_TooMany sub_TooMany ab_TooMany col_TooMany dd_TooMany k0_TooMany k1_TooMany k2_TooMany k3_TooMany k5_TooMany "ValueError.__new__"))
  {oc_TooMany:Value} {od_TooMany:Option Addr} {es_TooMany:Array DictEntry} {ep_TooMany:Nat} {os_TooMany:Array (Option Value)}
  (ln_TooMany:K.lookup N_TooMany=some ⟨oc_TooMany,od_TooMany,.dict es_TooMany ep_TooMany,os_TooMany⟩)
  (R_TooMany:(es_TooMany.toList.all λe=>match e.key with | .str _ _=>true | _=>false)=true)
  (n2_TooMany:eN K N_TooMany "__init__"=some (none))
  (f__getattribute___TooMany:fD K (.ref C_TooMany) "__getattribute__"=some (some (.builtin "BaseException.__getattribute__")))
  (f__getattr___TooMany:fD K (.ref C_TooMany) "__getattr__"=some (none))
  (f__class___TooMany:fD K (.ref C_TooMany) "__class__"=some (some (.builtin "object.__class__")))
  (m_object_TooMany:bF K C_TooMany (.type "object")=some true)
  (m_BaseException_TooMany:bF K C_TooMany (.type "BaseException")=some true)
  (m_ValueError_TooMany:bF K C_TooMany (.type "ValueError")=some true)
  (y_int_TooMany:bF K C_TooMany (.type "int")=some false)
  (y_str_TooMany:bF K C_TooMany (.type "str")=some false)
  (y_list_TooMany:bF K C_TooMany (.type "list")=some false)
  (y_tuple_TooMany:bF K C_TooMany (.type "tuple")=some false)
  (y_bool_TooMany:bF K C_TooMany (.type "bool")=some false)
  (j_TooMany:bF K C_TooMany (.ref C_JudgeError)=some true)
  (q_TooMany_NoPlace:bF K C_TooMany (.ref C_NoPlace)=some false)
  (q_TooMany_NoRow:bF K C_TooMany (.ref C_NoRow)=some false)
  (q_TooMany_NoSuch:bF K C_TooMany (.ref C_NoSuch)=some false)
  (q_TooMany_NoLine:bF K C_TooMany (.ref C_NoLine)=some false)
  (q_TooMany_NoText:bF K C_TooMany (.ref C_NoText)=some false)
  (q_TooMany_NoRule:bF K C_TooMany (.ref C_NoRule)=some false)
  {nm_NoRule qn_NoRule:Str} {N_NoRule:Addr} {bs_NoRule sub_NoRule:List Value} {ab_NoRule:Bool} {sn_NoRule:List Str} {col_NoRule:Option Bool} {dd_NoRule:Option Addr} {k0_NoRule k1_NoRule k2_NoRule k3_NoRule k5_NoRule:Option Value}
  (l_NoRule:K.lookup C_NoRule=some (excClassObj nm_NoRule qn_NoRule C_NoRule N_NoRule bs_NoRule (.ref C_JudgeError::[.type "ValueError",.type "Exception",.type "BaseException",.type "object"]) true sn_NoRule sub_NoRule ab_NoRule col_NoRule dd_NoRule k0_NoRule k1_NoRule k2_NoRule k3_NoRule k5_NoRule "ValueError.__new__"))
  {g_NoRule:Addr} {od0_NoRule an0_NoRule:Option Addr} {sl0_NoRule:Array (Option Value)} {kV0_NoRule dc0_NoRule pm0_NoRule cd0_NoRule ct0_NoRule:Value}
  (sa_NoRule:fD K (.ref C_NoRule) "__setattr__"=some (some (.builtin "object.__setattr__")))
  (at_NoRule:fD K (.ref C_NoRule) "case"=some none)
  {oc_NoRule:Value} {od_NoRule:Option Addr} {es_NoRule:Array DictEntry} {ep_NoRule:Nat} {os_NoRule:Array (Option Value)}
  (ln_NoRule:K.lookup N_NoRule=some ⟨oc_NoRule,od_NoRule,.dict es_NoRule ep_NoRule,os_NoRule⟩)
  (R_NoRule:(es_NoRule.toList.all λe=>match e.key with | .str _ _=>true | _=>false)=true)
  (n2_NoRule:eN K N_NoRule "__init__"=some (some (.ref g_NoRule)))
  (l0_NoRule:K.lookup g_NoRule=some ⟨.type "function",od0_NoRule,.func (kN "__init__" "NoRule.__init__" (rP (pX (top 17))) (mE (pX (top 17))) (bJ (pX (top 17))) .none kV0_NoRule dc0_NoRule pm0_NoRule an0_NoRule cd0_NoRule ct0_NoRule),sl0_NoRule⟩)
  (c0_NoRule:nD K cd0_NoRule "NoRule.__init__"=true)
  (k0_NoRule:iU K (.ref g_NoRule)=true)
  (f__getattribute___NoRule:fD K (.ref C_NoRule) "__getattribute__"=some (some (.builtin "BaseException.__getattribute__")))
  (f__getattr___NoRule:fD K (.ref C_NoRule) "__getattr__"=some (none))
  (f__class___NoRule:fD K (.ref C_NoRule) "__class__"=some (some (.builtin "object.__class__")))
  (m_object_NoRule:bF K C_NoRule (.type "object")=some true)
  (m_BaseException_NoRule:bF K C_NoRule (.type "BaseException")=some true)
  (m_ValueError_NoRule:bF K C_NoRule (.type "ValueError")=some true)
  (y_int_NoRule:bF K C_NoRule (.type "int")=some false)
  (y_str_NoRule:bF K C_NoRule (.type "str")=some false)
  (y_list_NoRule:bF K C_NoRule (.type "list")=some false)
  (y_tuple_NoRule:bF K C_NoRule (.type "tuple")=some false)
  (y_bool_NoRule:bF K C_NoRule (.type "bool")=some false)
  (j_NoRule:bF K C_NoRule (.ref C_JudgeError)=some true)
  (q_NoRule_TooMany:bF K C_NoRule (.ref C_TooMany)=some false)
  (q_NoRule_NoPlace:bF K C_NoRule (.ref C_NoPlace)=some false)
  (q_NoRule_NoRow:bF K C_NoRule (.ref C_NoRow)=some false)
  (q_NoRule_NoSuch:bF K C_NoRule (.ref C_NoSuch)=some false)
  (q_NoRule_NoLine:bF K C_NoRule (.ref C_NoLine)=some false)
  (q_NoRule_NoText:bF K C_NoRule (.ref C_NoText)=some false) :
  Cz K mg (C_JudgeError) (C_TooMany) (C_NoPlace) (C_NoRow) (C_NoSuch) (C_NoLine) (C_NoText) (C_NoRule) (g_NoRule) (kN "__init__" "NoRule.__init__" (rP (pX (top 17))) (mE (pX (top 17))) (bJ (pX (top 17))) .none kV0_NoRule dc0_NoRule pm0_NoRule an0_NoRule cd0_NoRule ct0_NoRule):={ x_JudgeError:=jU X G ax_JudgeError,x_TooMany:=jU X G ax_TooMany,x_NoPlace:=jU X G ax_NoPlace,x_NoRow:=jU X G ax_NoRow,x_NoSuch:=jU X G ax_NoSuch,x_NoLine:=jU X G ax_NoLine,x_NoText:=jU X G ax_NoText,x_NoRule:=jU X G ax_NoRule,X_TooMany:=⟨⟨f__getattribute___TooMany,f__getattr___TooMany,f__class___TooMany,m_object_TooMany,m_BaseException_TooMany⟩,λT hT=>by simp only[aY,cD,or_false]at hT;(rcases hT with rfl | rfl | rfl | rfl | rfl<;>first | exact oG SA y_int_TooMany | exact oG R9 y_str_TooMany | exact oG LQ y_list_TooMany | exact oG GW y_tuple_TooMany | exact oG LR y_bool_TooMany)⟩,R_TooMany:=⟨_,_,_,_,_,_,_,_,_,_,_,_,_,_,_,_,_,_,_,_,l_TooMany,zS ln_TooMany R_TooMany,n2_TooMany,l_J,zS ln_J R_J,n2_J⟩,j_TooMany:=zV ic_JudgeError it_JudgeError mb_J j_TooMany,e_TooMany:=zV ic_TooMany it_TooMany m_BaseException_TooMany is_TooMany,v_TooMany:=oG uT m_ValueError_TooMany,q_TooMany_TooMany:=GY,q_TooMany_NoPlace:=oH ic_NoPlace it_NoPlace q_TooMany_NoPlace is_NoPlace,q_TooMany_NoRow:=oH ic_NoRow it_NoRow q_TooMany_NoRow is_NoRow,q_TooMany_NoSuch:=oH ic_NoSuch it_NoSuch q_TooMany_NoSuch is_NoSuch,q_TooMany_NoLine:=oH ic_NoLine it_NoLine q_TooMany_NoLine is_NoLine,q_TooMany_NoText:=oH ic_NoText it_NoText q_TooMany_NoText is_NoText,q_TooMany_NoRule:=oH ic_NoRule it_NoRule q_TooMany_NoRule is_NoRule,X_NoRule:=⟨⟨f__getattribute___NoRule,f__getattr___NoRule,f__class___NoRule,m_object_NoRule,m_BaseException_NoRule⟩,λT hT=>by simp only[aY,cD,or_false]at hT;(rcases hT with rfl | rfl | rfl | rfl | rfl<;>first | exact oG SA y_int_NoRule | exact oG R9 y_str_NoRule | exact oG LQ y_list_NoRule | exact oG GW y_tuple_NoRule | exact oG LR y_bool_NoRule)⟩,I_NoRule:=⟨_,_,_,_,_,_,_,_,_,_,_,_,_,_,_,_,_,_,_,_,_,l_NoRule,zS ln_NoRule R_NoRule,n2_NoRule,l_J,zS ln_J R_J,n2_J,l0_NoRule,rfl⟩,F0_NoRule:=EV (st:=(pX (top 17))) l0_NoRule c0_NoRule k0_NoRule,i_NoRule:=(EV (st:=(pX (top 17))) l0_NoRule c0_NoRule k0_NoRule).binds (ps:=["self","case"]) λ_ _ _ _ _ _=>aFa λ_ _=>rfl,T_NoRule:=⟨sa_NoRule,at_NoRule,_,C_JudgeError,aB1 l_NoRule,rfl,rfl⟩,j_NoRule:=zV ic_JudgeError it_JudgeError mb_J j_NoRule,e_NoRule:=zV ic_NoRule it_NoRule m_BaseException_NoRule is_NoRule,v_NoRule:=oG uT m_ValueError_NoRule,q_NoRule_TooMany:=oH ic_TooMany it_TooMany q_NoRule_TooMany is_TooMany,q_NoRule_NoPlace:=oH ic_NoPlace it_NoPlace q_NoRule_NoPlace is_NoPlace,q_NoRule_NoRow:=oH ic_NoRow it_NoRow q_NoRule_NoRow is_NoRow,q_NoRule_NoSuch:=oH ic_NoSuch it_NoSuch q_NoRule_NoSuch is_NoSuch,q_NoRule_NoLine:=oH ic_NoLine it_NoLine q_NoRule_NoLine is_NoLine,q_NoRule_NoText:=oH ic_NoText it_NoText q_NoRule_NoText is_NoText,q_NoRule_NoRule:=GY,u_TooMany_NoRule:=L5 ic_NoRule it_NoRule m_BaseException_NoRule q_TooMany_NoRule,u_NoRule_TooMany:=L5 ic_TooMany it_TooMany m_BaseException_TooMany q_NoRule_TooMany }
theorem R1{H:Hp}:bL H (dB H []):=λb o e=>by
 unfold dB;rw[if_neg (by simp)];exact e
theorem C2{K:aG}{H:Hp}:∀ns:List Int,Reps K H (ns.map bS) (ns.map V.int)
|[]=>.nil
|n::ns=>.cons (.int n) (C2 ns)
theorem aGr{l:PySem.W.OpenLaw}{q:bE}{loose:List Str}{XP:(Str->Option Value)->Heap->Prop}{YP:World->Heap->Prop}{d:DefRec}{K:Params->aG}(hn:l.most=some 63)(hdf:d.params.defaults=[])
  (hY:∀(w:World)(h:Heap),YP w h->(K w.params).In h) (hT:∀(w:World)(h:Heap),YP w h->∀P,tabA=some P->h.get? P=some { cls:=.none,data:=.fields #[] }/\(K w.params).lookup P=none/\isCodeTable h P)
  (F:∀(w:World)(mg:Str->Option Value)(fa:Addr)(h:Heap),(K w.params).In h->h.Ns fA mg->mg d.name=some (.ref fa) ->
   ∃fd:eI,(∀(s:Shared)(u:Value),BindsTo s fd ⟨[u],[]⟩ [("_law_script",u)])/\∀base:Heap,(K w.params).In base->base.Ns fA mg->bX l.prog w (K w.params) mg base eR 38 fa fd ["_law_script"] (bD (K w.params) AD)) :
  UM q loose XP YP l.row.toRowW d [] (λf vs=>PySem.call f vs):=
 L2.UT (n:=63) (k:=38) (x:="_law_script") (CX:=λ_=>eR) (sp:=λw=>bD (K w.params) AD) hn (by decide) hdf ⟨rfl,by decide,by decide,rfl⟩ hY hT F
  (λw H a ns hl _ hS=>⟨[],[.list (ns.map bS)],λd=>d=.bool true,λp hp=>by simp at hp,.cons (.list (L2.bL.seq R1 hS) (C2 ns)) .nil,⟨ns,rfl,hl,rfl⟩,λd v H' _ r q=>by subst q;cases r;rfl⟩) λ_ _ _ _ _ z=>z
end
end K63
open L2
def PySem.W.Fast.tw5483148350596104538:Nat:=0
def PySem.W.Fast.tw16881466846998427398:Nat:=0
def PySem.W.Fast.tw4327471445606983679:Nat:=0
def PySem.W.Fast.tw4947913864193448227:Nat:=0
def PySem.W.Fast.tw3014329799663467394:Nat:=0
def PySem.W.Fast.tw6547767074626145528:Nat:=0
def PySem.W.Fast.tw4955152648787238237:Nat:=0
def PySem.W.Fast.tw11846206676787600443:Nat:=0
def PySem.W.Fast.tw11164474494890378193:Nat:=0
def PySem.W.Fast.tw8556819477658167368:Nat:=0
def PySem.W.Fast.tw16642675808444594633:Nat:=0
def PySem.W.Fast.tw15528734817406755373:Nat:=0
def PySem.W.Fast.tw9388130560389276101:Nat:=0
def PySem.W.Fast.tw9101376073202350379:Nat:=0
def PySem.W.Fast.tw13224092670340296726:Nat:=0
def PySem.W.Fast.tw1376668034211478016:Nat:=0
def PySem.W.Fast.tw620003648583070845:Nat:=0
def PySem.W.Fast.tw12878681471235435914:Nat:=0
def PySem.W.Fast.tw16157191753825928353:Nat:=0
def PySem.W.Fast.tw16599403660778551656:Nat:=0
def PySem.W.Fast.tw7977302794856040590:Nat:=0
def PySem.W.Fast.tw7236771773861635962:Nat:=0
def PySem.W.Fast.tw1674023147250237687:Nat:=0
def PySem.W.Fast.tw15225215503040399215:Nat:=0
def PySem.W.Fast.tw17745059070313377510:Nat:=0
def PySem.W.Fast.tw16240138310587309623:Nat:=0
def PySem.W.Fast.tw14261858722067961064:Nat:=0
def PySem.W.Fast.tw7735395408930654058:Nat:=0
def PySem.W.Fast.tw3557127248425588037:Nat:=0
def PySem.W.Fast.tw4160644400417291681:Nat:=0
def PySem.W.Fast.tw10486067279439571542:Nat:=0
def PySem.W.Fast.tw11187904111569897197:Nat:=0
def PySem.W.Fast.tw8074456042688806470:Nat:=0
def PySem.W.Fast.tw7481510617405839943:Nat:=0
def PySem.W.Fast.tw11195913253804086543:Nat:=0
def PySem.W.Fast.tw699619233471470537:Nat:=0
def PySem.W.Fast.tw15540197194618856867:Nat:=0
def PySem.W.Fast.tw13928829879109062874:Nat:=0
def PySem.W.Fast.tw10601020149637990114:Nat:=0
def PySem.W.Fast.tw10385709368984258097:Nat:=0
def PySem.W.Fast.tw2173910718690300482:Nat:=0
def PySem.W.Fast.tw3942232090527239043:Nat:=0
def PySem.W.Fast.tw5148060302175140139:Nat:=0
def PySem.W.Fast.tw3939739487099046703:Nat:=0
def PySem.W.Fast.tw14532083433327318258:Nat:=0
def PySem.W.Fast.tw5291171600800449358:Nat:=0
def PySem.W.Fast.tw11389425669515066647:Nat:=0
def PySem.W.Fast.tw4918895734392312881:Nat:=0
def PySem.W.Fast.tw12852475622894369783:Nat:=0
def PySem.W.Fast.tw16847048747896211203:Nat:=0
def PySem.W.Fast.tw17256598964559693662:Nat:=0
def PySem.W.Fast.tw8874615475153184410:Nat:=0
def PySem.W.Fast.tw17826691950573861924:Nat:=0
def PySem.W.Fast.tw9930827647672053460:Nat:=0
def PySem.W.Fast.tw6525632464477751006:Nat:=0
def PySem.W.Fast.tw16225353267125245466:Nat:=0
def PySem.W.Fast.tw937272947267982870:Nat:=0
def PySem.W.Fast.tw14612882549672394936:Nat:=0
def PySem.W.Fast.tw10496574244341918687:Nat:=0
def PySem.W.Fast.tw6273856215324183269:Nat:=0
def PySem.W.Fast.tw14943554340952932730:Nat:=0
def PySem.W.Fast.tw3395378550786132877:Nat:=0
def PySem.W.Fast.tw8185231200698538647:Nat:=0
def PySem.W.Fast.tw11346098555675855116:Nat:=0
def PySem.W.Fast.tw1931397075443888035:Nat:=0
def PySem.W.Fast.tw16949476606767223791:Nat:=0
def PySem.W.Fast.tw16408557048415837963:Nat:=0
def PySem.W.Fast.tw14116778772870903342:Nat:=0
def PySem.W.Fast.tw6665476710498701158:Nat:=0
def PySem.W.Fast.tw5821034588790279595:Nat:=0
def PySem.W.Fast.tw13104231219012001413:Nat:=0
def PySem.W.Fast.tw6264195303526401864:Nat:=0
def PySem.W.Fast.tw3272422108710156711:Nat:=0
def PySem.W.Fast.tw13366664486950457932:Nat:=0
def PySem.W.Fast.tw8052961946433915708:Nat:=0
def PySem.W.Fast.tw17055768622374879484:Nat:=0
def PySem.W.Fast.tw18282017498733835908:Nat:=0
def PySem.W.Fast.tw10406333329735781792:Nat:=0
def PySem.W.Fast.tw17765128491010066302:Nat:=0
def PySem.W.Fast.tw360738711554059973:Nat:=0
def PySem.W.Fast.tw359320364348045372:Nat:=0
def PySem.W.Fast.tw10624784873171142377:Nat:=0
def PySem.W.Fast.tw6771682150843878047:Nat:=0
def PySem.W.Fast.tw2766160480819489225:Nat:=0
def PySem.W.Fast.tw6523071822945137919:Nat:=0
def PySem.W.Fast.tw1599952208366122004:Nat:=0
def PySem.W.Fast.tw12853645808201026168:Nat:=0
def PySem.W.Fast.tw9252592657985153366:Nat:=0
def PySem.W.Fast.tw5509066577569522151:Nat:=0
def PySem.W.Fast.tw16713365525018387686:Nat:=0
def PySem.W.Fast.tw8102801699176343299:Nat:=0
def PySem.W.Fast.tw8115211245529465588:Nat:=0
def PySem.W.Fast.tw8945246608209017034:Nat:=0
def PySem.W.Fast.tw6731564545898613018:Nat:=0
def PySem.W.Fast.tw7724986483221483834:Nat:=0
def PySem.W.Fast.tw10268818622638082990:Nat:=0
def PySem.W.Fast.tw13525672772314853599:Nat:=0
def PySem.W.Fast.tw16253362108964694854:Nat:=0
def PySem.W.Fast.tw12960391064342714569:Nat:=0
def PySem.W.Fast.tw7055556264896512181:Nat:=0
def PySem.W.Fast.tw2795830492284496298:Nat:=0
def PySem.W.Fast.tw4893012482402565244:Nat:=0
def PySem.W.Fast.tw8565605073786540836:Nat:=0
def PySem.W.Fast.tw3765967590012972928:Nat:=0
def PySem.W.Fast.tw15530063551113980303:Nat:=0
def PySem.W.Fast.tw18177044847527404696:Nat:=0
def PySem.W.Fast.tw6416621519312988932:Nat:=0
def PySem.W.Fast.tw8570545048757546290:Nat:=0
def PySem.W.Fast.tw17488325281389830735:Nat:=0
def PySem.W.Fast.tw17444344836608526301:Nat:=0
def PySem.W.Fast.tw11928496156824220143:Nat:=0
def PySem.W.Fast.tw13027434499140044416:Nat:=0
def PySem.W.Fast.tw17912057061131883929:Nat:=0
def PySem.W.Fast.tw7224671796421787439:Nat:=0
def PySem.W.Fast.tw17163786863534386627:Nat:=0
def PySem.W.Fast.tw4757358521475841217:Nat:=0
def PySem.W.Fast.tw10593484315027820396:Nat:=0
def PySem.W.Fast.tw11288750782213896007:Nat:=0
def PySem.W.Fast.tw15468353706076937917:Nat:=0
def PySem.W.Fast.tw14991688931611353011:Nat:=0
def PySem.W.Fast.tw10776349694063846659:Nat:=0
def PySem.W.Fast.tw13116102822030435549:Nat:=0
def PySem.W.Fast.tw16523170982569575297:Nat:=0
def PySem.W.Fast.tw18024857295691258120:Nat:=0
def PySem.W.Fast.tw412660668437160277:Nat:=0
def PySem.W.Fast.tw5499602825064648854:Nat:=0
def PySem.W.Fast.tw16665087347628592497:Nat:=0
def PySem.W.Fast.tw9329446957419751821:Nat:=0
def PySem.W.Fast.tw2788513629167363938:Nat:=0
def PySem.W.Fast.tw4667234895273567110:Nat:=0
def PySem.W.Fast.tw12307899398364533017:Nat:=0
def PySem.W.Fast.tw1923666929653120521:Nat:=0
def PySem.W.Fast.tw16958490731460398134:Nat:=0
def PySem.W.Fast.tw12074467172484457379:Nat:=0
def PySem.W.Fast.tw11564133840738720888:Nat:=0
open PySem PySem.W PyProof.Rows
set_option maxRecDepth 100000 in
set_option maxHeartbeats 0 in
theorem PySem.Challenge.cw_leafjudge_k63_rules_refused_holds : PySem.Challenge.rw_leafjudge_k63_rules_refused.Holds := by
  w_on; o_law; k_head; (case hw => w_witness2)
  k_fill
  refine K63.aGr (l := PySem.Challenge.rw_leafjudge_k63_rules_refused) rfl rfl (λw h Y => PySem.W.kIn_of Y) (λ_ _ _ _ e => nomatch e) ?F
  case F =>
    intro w mg fa h KX G hmg
    refine' K63.aB7 ⟨K63.aFw KX G ?_ ?_ ?_ ?_ ?_ ?_ ?_ ?_ ?_ ?_ ?_ ?_ ?_ ?_ ?_ ?_ ?_ ?_ ?_ ?_ ?_ ?_ ?_ ?_ ?_ ?_ ?_ ?_ ?_ ?_ ?_ ?_ ?_ ?_ ?_ ?_ ?_ ?_ ?_ ?_ ?_ ?_ ?_ ?_ ?_ ?_ ?_ ?_ ?_ ?_ ?_ ?_ ?_ ?_ ?_ ?_ ?_ ?_ ?_ ?_ ?_ ?_ ?_ ?_ ?_ ?_ ?_ ?_ ?_ ?_ ?_ ?_ ?_ ?_ ?_ ?_ ?_ ?_ ?_ ?_ ?_ ?_ ?_ ?_ ?_ ?_,df KX G bn4 ?_ ?_ ?_ ?_,df KX G FR ?_ ?_ ?_ ?_,df KX G HN ?_ ?_ ?_ ?_,df KX G FR ?_ ?_ ?_ ?_,df KX G bn4 ?_ ?_ ?_ ?_,df KX G FR ?_ ?_ ?_ ?_,df KX G FR ?_ ?_ ?_ ?_,df KX G TQ ?_ ?_ ?_ ?_,df KX G TQ ?_ ?_ ?_ ?_,df KX G TQ ?_ ?_ ?_ ?_,df KX G FR ?_ ?_ ?_ ?_,df KX G TQ ?_ ?_ ?_ ?_,df KX G HN ?_ ?_ ?_ ?_,df KX G HN ?_ ?_ ?_ ?_,df KX G HN ?_ ?_ ?_ ?_,df KX G FR ?_ ?_ ?_ ?_,df KX G TQ ?_ ?_ ?_ ?_,df KX G HN ?_ ?_ ?_ ?_,df KX G HN ?_ ?_ ?_ ?_,df KX G FR ?_ ?_ ?_ ?_,df KX G FR ?_ ?_ ?_ ?_,df KX G FR ?_ ?_ ?_ ?_,df KX G FR ?_ ?_ ?_ ?_,df KX G HN ?_ ?_ ?_ ?_,df KX G HN ?_ ?_ ?_ ?_,df KX G HN ?_ ?_ ?_ ?_,df KX G HN ?_ ?_ ?_ ?_,df KX G FR ?_ ?_ ?_ ?_,df KX G bn4 ?_ ?_ ?_ ?_,df KX G HN ?_ ?_ ?_ ?_,df KX G HN ?_ ?_ ?_ ?_,df KX G bn4 ?_ ?_ ?_ ?_,df KX G FR ?_ ?_ ?_ ?_,df KX G HN ?_ ?_ ?_ ?_,df KX G HN ?_ ?_ ?_ ?_,df KX G TQ ?_ ?_ ?_ ?_,df KX G FR ?_ ?_ ?_ ?_,df KX G FR ?_ ?_ ?_ ?_,df KX G HN ?_ ?_ ?_ ?_,df KX G TQ ?_ ?_ ?_ ?_,df KX G TQ ?_ ?_ ?_ ?_,df KX G FR ?_ ?_ ?_ ?_,df KX G FR ?_ ?_ ?_ ?_,df KX G FR ?_ ?_ ?_ ?_,df KX G FR ?_ ?_ ?_ ?_,df KX G bn4 ?_ ?_ ?_ ?_,df KX G HN ?_ ?_ ?_ ?_,df KX G HN ?_ ?_ ?_ ?_,df KX G TQ ?_ ?_ ?_ ?_,df KX G TQ ?_ ?_ ?_ ?_,df KX G TQ ?_ ?_ ?_ ?_,mg_of KX G ?_,mg_of KX G ?_,mg_of KX G ?_,mg_of KX G ?_,mg_none_of KX G ?_,mg_none_of KX G ?_,mg_none_of KX G ?_,mg_none_of KX G ?_,mg_none_of KX G ?_,mg_none_of KX G ?_,mg_none_of KX G ?_,mg_none_of KX G ?_,mg_none_of KX G ?_,mg_none_of KX G ?_,mg_none_of KX G ?_,mg_none_of KX G ?_,mg_none_of KX G ?_⟩ hmg
    all_goals first | k_is | rfl | decide | with_unfolding_all rfl | skip
