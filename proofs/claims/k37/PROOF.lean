import PyProof.Rows.All
import Wide.All
import OpenK.AllK
import Wide.FinOn
import Lean
import PyProof.EqAt
import PyProof.EqKinds
import PyProof.TupleCall
import PyProof.P3In
import PyProof.NeData
import PyProof.FitsReplace
import PyProof.StrBlockL
import PyProof.TupleKey
import PyProof.DictRoadsH
import KE.KItemsList
import PyProof.DictWalks
import KE.KDictList
import PyProof.Rows.Range3
import KE.KListMore
import KE.KRevIter
import KE.KPairComp
import PyProof.TupleOfSeq
import PySem.Challenge.RW_leafjudge_k37_tables_that_hold
set_option Elab.async false
set_option linter.all false
set_option compiler.extract_closed false
set_option maxRecDepth 100000
noncomputable section
def L2.tabA : Option PySem.Addr := none
open PySem renaming wpAny_bind->aA,wpAny_pure->aE,sizeLine->bL,starEach->bN,Program->bX,wpAny_newObj_type->cR,wpAny_call_entry->dB,wpAny_mono->gT,swapsWith->iM,mainGlobals->jA,FuncData->jL
open List renaming length_map->aB,getElem?_eq_getElem->aF,getElem?_eq_some_iff->aG,getElem?_map->aI,mem_cons_of_mem->aM,mem_map->aQ,mem_cons_self->aR,length_append->aV,mem_of_getElem?->aW,map_cons->aX,mem_singleton->aZ,getElem?_set_ne->bA,length_take->bC,getElem?_set_self->bD,size_toArray->bF,map_append->bG,mem_cons->bH,map_map->bM,getElem?_of_mem->bV,mem_filter->bZ,length_range->cH,mem_append->cK,take_add_one->cP,range->cQ,length_cons->cU,filter_cons->cX,getElem?_append_right->dE,mem_range->dI,append_nil->dL,getElem?_append_left->dU,mem_append_right->dW,take_length->dY,length_drop->eG,filterMap_cons->eQ,mem_of_mem_take->eT,getElem?_eq_none->eZ,getElem_mem->fA,pairwise_map->fB,mem_append_left->fV,take_of_length_le->fW,all_eq_true->fX,ext_getElem?->gC,Perm->gD,filter_append->gK,not_mem_nil->gM,pairwise_lt_range->gX,getElem?_range->gZ,lookup_cons->iE,map_nil->iH,length->iL,getElem?_drop->iV,nodup_cons->jK,nodup_append->jN,idxOf_lt_length_iff->jP,getElem?_replicate->jW,mem_filterMap->kF,Pairwise->kK,length_filter_le->kM,map_id->lB,map_congr_left->lU,filter_sublist->lV,find?_cons->mK,getElem_idxOf->mM,getElem?_take->mN,length_eq_zero_iff->mW,append_assoc->nE,take_append_drop->nU,length_singleton->nV,lookup->oJ,length_reverse->pI,perm_ext_iff_of_nodup->pX,getD_eq_getElem?_getD->pY,take_sublist->rD,reverse_cons->rE,flatMap_cons->rF,map_take->rH,length_filterMap_le->rJ,getElem?_take_of_lt->rK,filterMap_cons_some->rL,getElem?_cons_succ->sR,length_nil->tY,filter_nil->tZ,getElem?_toArray->uQ,replicate->vG,mem_of_mem_drop->vH,mem_iff_getElem->vI,map->vJ,take_nil->xV,map_drop->xW,drop_nil->xX,any_cons->xY,pairwise_cons->yA,set_set->AA,find?_isSome->AB,isEmpty_iff_length_eq_zero->AO,perm_middle->A8,nodup_range->A9,getElem_inj->BA,any_eq_true->BB,of_mem_zip->C2,filter_map->C3,perm_append_singleton->FK,length_eraseIdx_of_lt->FL,drop_zero->FM,getElem?_zip_eq_some->G9,length_erase_of_mem->HE,filterMap_cons_none->HF,length_pos_of_mem->KI,flatten_singleton->KJ,drop_eq_nil_of_le->KL,range'->O9,mem_erase_of_ne->PB,forall_mem_cons->PC,length_pos_iff->RN,flatten_append->RO,flatMap_append->RP,length_attach->R0,findIdx?_cons->R1,filterMap_map->R3,Nodup->R4,flatten_cons->WS,filter_congr->WT,range'_succ->W3,mem_flatMap->W4,getLast_mem->W5,forIn_cons->aAo,foldl_cons->aAp,countP_map->aAq,sum_cons->aGo,all_cons->aGp
open Nat renaming le_of_ble_eq_true->aC,le_refl->aO,ne_of_lt->bO,le_trans->cI,zero_le->cL,lt_of_lt_of_le->cW,lt_succ_self->eI,lt_succ_of_lt->eJ,ne_of_gt->gY,lt_irrefl->iI,mod_lt->iY,pow_le_pow_right->lC,le_of_lt->lK,not_lt_zero->mL,lt_trichotomy->nJ,min_le_right->oE,le_of_eq->pO,lt_asymm->tX,lt_of_le_of_lt->zG,sub_self->AM,pow_succ->AN,min_le_left->DP,add_assoc->KA,lt_trans->MV,lt_or_ge->MW,mul_le_mul_right->RL,le_succ->RM,add_sub_cancel->WR,le_of_lt_succ->W2,min_eq_right->aAn,two_pow_pos->aDn,min_eq_left->aDo,succ_pos->aKp,sub_zero->aKq,one_mul->aK9
open PySem.PyData renaming int->aH,str->aY,depthAll->bU,eqv->cG,canLayAll0->dP,tuple->fJ,hasDictAll->kJ,bool->qK,eqvAll->qM,none->uO,bulkAll->uP,dict->AL,canLay0->C1,depth->HD,leavesShortAll->J9,list->KH,showableAll->O7,strOk->aDm
open PySem.Heap renaming get?_push_of_some->aJ,get?_push_size->aS,lt_size->bI,SameBut->cV,get?_update_self->dM,size_push->eO,get?_update_other->fD,ExtBut->vK
open PySem.W renaming Frag->aL,kia_one->eS,findIn->fF,keepIn->gU,emptyDict->gW,instObj->jB,kitOne->kQ,InstAt->kR,fnOf->mV,looks_findIn->nT,codeIn->pG,kitx_list->pW,plainGet->rA,lookIn->tW,plainGet_of->uW,callWith_K->wB,methodObj->xT,hasDictIn->xU,takerIn->AK,mroIn->DJ,isFn->G3,cellsFrom_some->G4,kitx_tuple->MU,plainOver->O5,kitx_dict->O6,handedIn->RK,makesIn->RY,notCls->WQ,clsIn->WZ,WalkO->W1
open Array renaming length_toList->aP,getElem?_eq_getElem->bK,getElem?_toList->cD,getD_eq_getD_getElem?->fM,getElem?_eq_some_iff->fU,getElem?_eq_none->iP,forIn_toList->pP,toList_push->qN,mem_toList_iff->uY,getElem?_replicate->HA,size_append->R5,toList->aGs
open Bool renaming false_ne_true->bE,and_eq_true->bY,eq_iff_iff->gH,false_eq_true->iF,or_false->xZ,eq_false_iff->AD,or_eq_true->C4,true_and->HG,false_and->aDp,not_true->aGr,true_or->aGw
open Option renaming map_eq_some_iff->bT,isSome_map->qL,getD_some->rG,isSome_iff_exists->FJ,bind_eq_some_iff->G8,isSome_some->O8,getD_none->RZ
open PySem.F renaming called_set->dO,plainAttrs_list->dS,slot_dict_keyiterator_next->gE,plain_list_iadd->iK,plain_extend_loop->iX,type_list_append->jI,slot_list_append->jJ,slot_tuple_hash->jV,slot_NoneType_hash->kU,type_tuple_index->lG,slot_tuple_index->lH,plainAttrs_tuple->lJ,slot_set_iter->nD,plain_proto_collect->oN,entry_proto_collect->oO,args_object_init_2->pH,args_tuple_add_2->qJ,entry_tuple_add->rB,entry_list_iadd->rC,slot_tuple_add->sL,args_dict_keyiterator_next_1->uX,entry_dict_keyiterator_next->vF,slot_dict_getitem->CZ,entry_extend_loop->C0,type_list_extend->DL,typeCall_tuple_1->DM,slot_list_insert->DN,slot_list_extend->DO,type_list_index->FB,type_list_count->FC,slot_list_index->FD,slot_list_count->FE,newCall_tuple_1->FF,entry_type_call->FG,entry_tuple_new->FH,args_set_iter_1->FI,typeCall_set_1->G5,slot_dict_iter->G6,entry_set_init->G7,slot_dict_get->HB,plain_set_new->HC,called_tuple->J8
open Int renaming toNat_natCast->dZ,toNat_of_nonneg->fK,toNat->gQ,natCast_nonneg->mX,emod_lt_of_pos->mY,emod_nonneg->pJ,le_refl->rM,mul_nonneg->wC,ofNat->wE,natCast_add->DQ,ne_of_lt->MX,mul_le_mul->aGq,ofNat_lt->aKr,le_trans->aKs,le_of_lt->aKt
section
open PySem PySem.Spec PyProof.Rows
namespace L2
abbrev pK:=Sum Int Str
noncomputable def EG:pK->Value->Bool
|.inl k,v=>Value.isInt k v
|.inr x,v=>Value.isStrOf x v
noncomputable def aMe(w:World):pK->Int
|.inl k=>hashInt k
|.inr x=>hashStr w x
def jD:∀{k v},EG k v=true->(∃i t,k=Sum.inl i/\v=Value.int i t)\/(∃x t,k=Sum.inr x/\v=Value.str x t)
|.inl i,v,h=>by
 obtain⟨t,e⟩:=Value.isInt_shape (k:=i) (v:=v) h;exact .inl ⟨i,t,rfl,e⟩
|.inr x,v,h=>by
 obtain⟨t,e⟩:=Value.isStrOf_shape (x:=x) (v:=v) h;exact .inr ⟨x,t,rfl,e⟩
def QN(i:Int)(t:Tok):EG (.inl i) (.int i t)=true:=by simp[EG,Value.isInt]
def QM(x:Str)(t:Tok):EG (.inr x) (.str x t)=true:=by simp[EG,Value.isStrOf]
def aFj(a b:Int):decide ((Sum.inl a:pK)=Sum.inl b)=(a==b):=by
 by_cases e:a=b
 ·subst e;simp
 ·have h:¬(Sum.inl a:pK)=Sum.inl b:=λq=>e (Sum.inl.inj q);rw[decide_eq_false h];exact(beq_eq_false_iff_ne.mpr e).symm
def aFf(a b:Str):decide ((Sum.inr a:pK)=Sum.inr b)=decide (a=b):=by
 by_cases e:a=b
 ·subst e;simp
 ·have h:¬(Sum.inr a:pK)=Sum.inr b:=λq=>e (Sum.inr.inj q);rw[decide_eq_false h,decide_eq_false e]
def aFi(a:Int)(b:Str):decide ((Sum.inl a:pK)=Sum.inr b)=false:=decide_eq_false (λq=>nomatch q)
def aFg(a:Str)(b:Int):decide ((Sum.inr a:pK)=Sum.inl b)=false:=decide_eq_false (λq=>nomatch q)
noncomputable def jX(prog:bX)(w:World):PySem.KeyKind prog w pK where
 is:=EG
 hash:=aMe w
 inj:=λv a b ha hb=>by
  rcases jD ha with⟨i,t,rfl,rfl⟩ | ⟨x,t,rfl,rfl⟩
  ·rcases jD hb with⟨j,u,rfl,e⟩ | ⟨y,u,rfl,e⟩
   ·injection e with e1 _;rw[e1]
   ·exact nomatch e
  ·rcases jD hb with⟨j,u,rfl,e⟩ | ⟨y,u,rfl,e⟩
   ·exact nomatch e
   ·injection e with e1 _;rw[e1]
 byValue:=λk v h=>by
  rcases jD h with⟨i,t,rfl,rfl⟩ | ⟨x,t,rfl,rfl⟩<;>rfl
 pyHash:=λhv h=>by
  rcases jD hv with⟨i,t,rfl,rfl⟩ | ⟨x,t,rfl,rfl⟩
  ·exact wpAny_pyHash_int h
  ·exact wpAny_pyHash_str h
 eqBool:=λhu hv h=>by
  rcases jD hu with⟨i,t,rfl,rfl⟩ | ⟨x,t,rfl,rfl⟩
  ·rcases jD hv with⟨j,u,rfl,rfl⟩ | ⟨y,u,rfl,rfl⟩
   ·rw[aFj]at h;exact wpAny_eqBool_int h
   ·rw[aFi]at h;exact SeqAt.EqAt.int_str i t y u _ _ _ _ h
  ·rcases jD hv with⟨j,u,rfl,rfl⟩ | ⟨y,u,rfl,rfl⟩
   ·rw[aFg]at h;exact SeqAt.EqAt.str_int x t j u _ _ _ _ h
   ·rw[aFf]at h;exact wpAny_eqBool_str h
 «strs»:=λk x t v h=>by
  rcases jD h with⟨i,u,rfl,e⟩ | ⟨y,u,rfl,e⟩
  ·exact nomatch e
  ·injection e with e1 _
   subst e1;cases v<;>rfl
def IV(prog:bX)(w:World)(i:Int)(t:Tok):(jX prog w).is (.inl i) (.int i t)=true:=QN i t
def IU(prog:bX)(w:World)(x:Str)(t:Tok):(jX prog w).is (.inr x) (.str x t)=true:=QM x t
inductive V where
 |non | bl (b:Bool) | int (i:Int) | str (x:Str) | byt (b:Array UInt8) | flt (b:UInt64) | ref (a:Addr) | ty (n:String)
 deriving DecidableEq
def gB:V->Value->Prop
|.non,u=>u=Value.none
|.bl b,u=>u=Value.bool b
|.int i,u=>∃t,u=Value.int i t
|.str x,u=>∃t,u=Value.str x t
|.byt b,u=>∃t,u=Value.bytes b t
|.flt b,u=>∃t,u=Value.float b t
|.ref a,u=>u=Value.ref a
|.ty n,u=>u=Value.type n
abbrev fS:List V->List Value->Prop:=Paired gB
theorem fS.length{xs:List V}{us:List Value}(r:fS xs us):xs.length=us.length:=Paired.length r
theorem fS.get:∀{xs us}{i:Nat}{x},fS xs us->xs[i]?=some x->∃u,us[i]?=some u/\gB x u
|_,_,_,_,.nil,e=>by simp at e
|_,_,0,_,.cons r _,e=>by simp at e;subst e;exact⟨_,rfl,r⟩
|_,_,i+1,x,.cons _ t,e=>by
 obtain⟨u,h1,h2⟩:=fS.get (i:=i) (x:=x) t (by simpa using e);exact⟨u,by simpa using h1,h2⟩
theorem fS.append:∀{xs ys us ws},fS xs us->fS ys ws->fS (xs++ys) (us++ws)
|_,_,_,_,.nil,s=>s
|_,_,_,_,.cons r t,s=>.cons r (fS.append t s)
theorem fS.take:∀{xs:List V}{us:List Value}(n:Nat),fS xs us->fS (xs.take n) (us.take n)
|_,_,0,_=>.nil
|_,_,_+1,.nil=>.nil
|_,_,n+1,.cons r t=>.cons r (fS.take n t)
theorem fS.drop:∀{xs:List V}{us:List Value}(n:Nat),fS xs us->fS (xs.drop n) (us.drop n)
|_,_,0,r=>r
|_,_,_+1,.nil=>.nil
|_,_,n+1,.cons _ t=>fS.drop n t
def uV:Option V->Option Value->Prop
|some v,some u=>gB v u
|none,none=>True
|_,_=>False
noncomputable def KV{κ:Type}:List (κ×V)->List (κ×Value)->Prop:=Paired λ(p:κ×V) (q:κ×Value)=>p.1=q.1/\gB p.2 q.2
noncomputable def kV:pK->V
|.inl i=>.int i
|.inr x=>.str x
inductive HO where
 /-- a list -/
 |lst (xs:List V)
 /-- a tuple (never changes) -/
 |tup (xs:List V)
 /-- a dict whose keys are ints and texts;one whose keys are tuples of ints and texts (the empty one is both) -/
 |dK (kvs:List (pK×V)) | dT (kvs:List (List pK×V))
 /-- a set of ints: its members,its size -/
 |set (S:Int->Bool) (n:Nat)
 /-- an instance of the class at C,its dict at dx,its attributes -/
 |ins (C dx:Addr) (fs:List (Str×V))
 /-- the dict of the instance at x -/
 |own (x:Addr)
 /-- the dict of an exception -/
 |xd (fs:List (Str×V))
 /-- a bound method,f of x -/
 |met (f x:Addr)
 /-- a range object lo,lo+1,.. below hi -/
 |rng (lo hi:Int)
 /-- a thing that is known to the object (the script;a dict while a loop walks it): read,never written while it is so -/
 |frz (o:Obj) (u:HO)
 /-- a code object's table -/
 |tbl (ps:Array Value)
 /-- any other thing,by what is true of its one object (a def of one's own: SetO a S n:=HO.ext λh=>..) -/
 |ext (φ:Heap->Prop)
abbrev Hp:=Addr->Option HO
noncomputable def gO(H:Hp)(a:Addr)(o:HO):Hp:=λb=>if b=a then some o else H b
def dG{H}{a:Addr}{o}:gO H a o a=some o:=by unfold gO;rw[if_pos rfl]
def dA{H}{a b:Addr}{o}(h:b≠a):gO H a o b=H b:=by unfold gO;rw[if_neg h]
def W9{H}{a:Addr}{o u}:gO (gO H a o) a u=gO H a u:=by
 funext b;unfold gO;split<;>rfl
def aJh{H:Hp}{a b:Addr}{o u:HO}(h:H a=some o)(h':H b=some u)(d:o≠u):a≠b:=by
 intro e;subst e;rw[h]at h';exact d (Option.some.inj h')
def lX{H:Hp}{a b:Addr}{o:HO}(h:H a=some o)(h':H b=none):a≠b:=by
 intro e;subst e;rw[h]at h';cases h'
section
variable(P:bX)(w:World)
def AJ(h:Heap)(a:Addr)(items:Array Value):Prop:=∃o,h.get? a=some o/\o.cls=.type "tuple"/\∃n,o.data=.seq items n/\o.dict=none
def AJ.tup{h}{a:Addr}{items}(x:AJ h a items):IsTup h a items:=let ⟨o,e,c,n,d,_⟩:=x;⟨o,e,c,n,d⟩
theorem AJ.lt{h:Heap}{a:Addr}{items}(x:AJ h a items):a<h.objs.size:=x.tup.lt
def AJ.new(h:Heap)(items:Array Value):AJ (h.push { cls:=.type "tuple",data:=.seq items }) h.objs.size items:=⟨_,aS _ rfl,rfl,_,rfl,rfl⟩
def aKo(oc:Obj):Prop:=∃(vs:Array Value)(q:Str)(t:Tok),oc.data=.fields vs/\vs[1]?=some (.str q t)
def iN(H:Hp)(h:Heap)(a:Addr):HO->Prop
|.lst xs=>xs.length<=bL/\∃(its:List Value)(n:Nat),fS xs its/\h.get? a=some { cls:=.type "list",data:=.seq its.toArray n }
|.tup xs=>xs.length<=bL/\∃its:List Value,fS xs its/\AJ h a its.toArray
|.dK kvs=>kvs.length<=bL/\(a==sysModules)=false/\∃vs,KV kvs vs/\h.DictOf (jX P w) a vs
|.dT kvs=>kvs.length<=bL/\(a==sysModules)=false/\∃xs:List (List pK×Addr×Value),
  Paired (λ(p:List pK×V) (q:List pK×Addr×Value)=>p.1=q.1/\H q.2.1=some (.tup (p.1.map kV))/\gB p.2 q.2.2) kvs xs /\
  ∃o es ep,h.get? a=some o/\o.ExactDict/\o.data=.dict es ep/\es.toList=xs.map (entryOfKey (tupleKind (jX P w)))/\(xs.map (·.1)).Nodup
|.set S n=>h.SetOf (intKind P w) a S n
|.ins C dx fs=>H dx=some (.own a)/\fs.length<=1000/\dx≠a/\h.get? a=some (jB C dx) /\
  ∃mA,h.Ns1 dx mA/\(∀f,uV (fs.lookup f) (mA f))/\PySem.Within mA (fs.map (·.1))
|.own _=>∃o,h.get? a=some o
|.xd fs=>∃mA,h.Ns1 a mA/\∀f,uV (fs.lookup f) (mA f)
|.rng lo hi=>∃t u v,h.get? a=some { cls:=.type "range",data:=.fields #[.int lo t,.int hi u,.int 1 v] }
|.frz o u=>h.get? a=some o/\iN H h a u
|.tbl _=>∃qs:Array Value,h.get? a=some { cls:=.none,data:=.fields qs }/\TriplesOk qs.toList/\∀(p:Pos)(c:Value),codeAmong p qs.toList=some c->∃c' oc,c=.ref c'/\H c'=some (.frz oc (.own a))/\aKo oc
|.met f x=>h.get? a=some (xT (.ref f) (.ref x))
|.ext φ=>φ h/\(∃o,h.get? a=some o)/\∀h1 h2:Heap,φ h1->(∀o,h1.get? a=some o->h2.get? a=some o)->φ h2
def wD(H:Hp)(h:Heap):Prop:=∀a o,H a=some o->iN P w H h a o
end
section
variable{P:bX}{w:World}{H H':Hp}{h h':Heap}{a:Addr}{o:HO}
theorem iN.lt(x:iN P w H h a o):a<h.objs.size:=by
 cases o with
 |lst xs=>obtain⟨_,_,_,_,e⟩:=x;exact bI e
 |tup xs=>obtain⟨_,_,_,p⟩:=x;exact p.lt
 |dK kvs=>obtain⟨_,_,_,_,o,_,_,e,_⟩:=x;exact bI e
 |dT kvs=>obtain⟨_,_,_,_,o,_,_,e,_⟩:=x;exact bI e
 |set S n=>obtain⟨o,_,_,_,e,_⟩:=x;exact bI e
 |ins C dx fs=>obtain⟨_,_,_,e,_⟩:=x;exact bI e
 |own y=>obtain⟨_,e⟩:=x;exact bI e
 |xd fs=>obtain⟨_,⟨_,_,_,e,_⟩,_⟩:=x;exact bI e
 |rng lo hi=>obtain⟨_,_,_,e⟩:=x;exact bI e
 |frz ob u=>obtain⟨e,_⟩:=x;exact bI e
 |tbl ps=>obtain⟨_,e,_⟩:=x;exact bI e
 |met f y=>exact bI (show h.get? a=some _ from x)
 |ext φ=>obtain⟨_,⟨_,e⟩,_⟩:=x;exact bI e
theorem Paired.mapP{α β:Type}{F G:α->β->Prop}:∀{l₁ l₂},Paired F l₁ l₂->(∀a b,F a b->G a b)->Paired G l₁ l₂
|_,_,.nil,_=>.nil
|_,_,.cons r t,f=>.cons (f _ _ r) (Paired.mapP t f)
def iN.stay(x:iN P w H h a o)(k:∀b u,(b=a\/H b=some (.own a))->h.get? b=some u->h'.get? b=some u)
  (ho:∀b,H b=some (.own a)->H' b=some (.own a)) (ht:∀b xs,H b=some (.tup xs)->H' b=some (.tup xs)) (hf:∀b ob u,H b=some (.frz ob u)->H' b=some (.frz ob u):=by exactλ_ _ _ q=>q):iN P w H' h' a o:=by
 induction o with
 |lst xs=>obtain⟨z,its,n,r,e⟩:=x;exact⟨z,its,n,r,k _ _ (.inl rfl) e⟩
 |tup xs=>obtain⟨z,its,r,ob,e,c⟩:=x;exact⟨z,its,r,ob,k _ _ (.inl rfl) e,c⟩
 |dK kvs=>obtain⟨z,y,vs,r,ob,es,ep,e,c⟩:=x;exact⟨z,y,vs,r,ob,es,ep,k _ _ (.inl rfl) e,c⟩
 |dT kvs=>
  obtain⟨z,y,xs,r,ob,es,ep,e,c⟩:=x;exact⟨z,y,xs,Paired.mapP r λp q z=>⟨z.1,ht _ _ z.2.1,z.2.2⟩,ob,es,ep,k _ _ (.inl rfl) e,c⟩
 |set S n=>obtain⟨ob,es,ep,t,e,c⟩:=x;exact⟨ob,es,ep,t,k _ _ (.inl rfl) e,c⟩
 |ins C dx fs=>
  obtain⟨d,z,ne,e,mA,⟨od,es,ep,e2,c⟩,r⟩:=x;exact⟨ho _ d,z,ne,k _ _ (.inl rfl) e,mA,⟨od,es,ep,k _ _ (.inr d) e2,c⟩,r⟩
 |own y=>obtain⟨ob,e⟩:=x;exact⟨ob,k _ _ (.inl rfl) e⟩
 |xd fs=>obtain⟨mA,⟨od,es,ep,e,c⟩,r⟩:=x;exact⟨mA,⟨od,es,ep,k _ _ (.inl rfl) e,c⟩,r⟩
 |rng lo hi=>obtain⟨t,u,v,e⟩:=x;exact⟨t,u,v,k _ _ (.inl rfl) e⟩
 |frz ob u ih=>obtain⟨e,q⟩:=x;exact⟨k _ _ (.inl rfl) e,ih q⟩
 |tbl ps=>
  obtain⟨qs,e,t,z⟩:=x;exact⟨qs,k a _ (.inl rfl) e,t,λp c q=>let ⟨c',oc,h1,h2,h3⟩:=z p c q;⟨c',oc,h1,hf _ _ _ h2,h3⟩⟩
 |met f y=>
  have e:h.get? a=some (xT (.ref f) (.ref y)):=x;show h'.get? a=some (xT (.ref f) (.ref y));exact k a _ (.inl rfl) e
 |ext φ=>obtain⟨p,⟨o,e⟩,st⟩:=x;exact⟨st _ _ p λo q=>k _ _ (.inl rfl) q,⟨o,k _ _ (.inl rfl) e⟩,st⟩
theorem wD.lt(x:wD P w H h)(e:H a=some o):a<h.objs.size:=(x a o e).lt
def wD.fresh(x:wD P w H h)(e:h.objs.size<=a):H a=none:=by
 cases q:H a with
 |none=>rfl
 |some u=>exact absurd (cW (x.lt q) e) (iI _)
def wD.kept(x:wD P w H h)(k:∀b u,h.get? b=some u->h'.get? b=some u):wD P w H h':=λa o e=>
 (x a o e).stay (λb u _ q=>k b u q) (λ_ q=>q) λ_ _ q=>q
def wD.laid(x:wD P w H h)(k:∀b u,h.get? b=some u->h'.get? b=some u)(hp:h.objs.size<=a)(new:iN P w (gO H a o) h' a o):wD P w (gO H a o) h':=λb u e=>by
 have hn:=x.fresh hp;by_cases hb:b=a
 ·subst hb;rw[dG]at e;cases e;exact new
 ·rw[dA hb]at e;exact(x b u e).stay (λc v _ q=>k c v q) (λc q=>by rw[dA (lX q hn)];exact q) (λc xs q=>by rw[dA (lX q hn)];exact q) λc ob v q=>by rw[dA (lX q hn)];exact q
end
def Rd(H:Hp)(a:Addr)(u:HO):Prop:=H a=some u\/∃o,H a=some (.frz o u)
def Rd.ok{P w H h}{a:Addr}{u}(r:Rd H a u)(x:wD P w H h):iN P w H h a u:=by
 rcases r with r | ⟨o,r⟩
 ·exact x a u r
 ·obtain⟨_,q⟩:=x a _ r;exact q
def Mut:Option HO->Prop
|some (.lst _)=>True
|some (.dK _)=>True
|some (.dT _)=>True
|some (.set _ _)=>True
|some (.ins _ _ _)=>True
|some (.ext _)=>True
|_=>False
section
variable{P:bX}{w:World}{H:Hp}{h h':Heap}{x e:Addr}{o':HO}
def wD.write(ok:wD P w H h)(mu:Mut (H x))(he:e=x\/H e=some (.own x))(k:∀b u,b≠e->h.get? b=some u->h'.get? b=some u)(heo:∃u,h'.get? e=some u)
  (new:iN P w (gO H x o') h' x o'):wD P w (gO H x o') h':=λb u q=>by
 have nown:∀c y,H c=some (.own y)->c≠x:=λc y r z=>by subst z;rw[r]at mu;exact mu
 have ntup:∀c xs,H c=some (.tup xs)->c≠x:=λc xs r z=>by subst z;rw[r]at mu;exact mu
 by_cases hb:b=x
 ·subst hb;rw[dG]at q;cases q;exact new
 ·rw[dA hb]at q;by_cases hbe:b=e
  ·have q':H b=some (.own x):=by
    rcases he with z | z
    ·exact absurd (hbe.trans z) hb
    ·rw[hbe];exact z
   rw[q]at q';cases q';obtain⟨v,hv⟩:=heo;exact⟨v,by rw[hbe];exact hv⟩
  ·refine(ok b u q).stay (λc v hc r=>k c v ?_ r) (λc r=>by rw[dA (nown c b r)];exact r) (λc xs r=>by rw[dA (ntup c xs r)];exact r) λc ob v r=>by rw[dA (λz=>by subst z;rw[r]at mu;exact mu)];exact r
   rcases hc with rfl | hc
   ·exact hbe
   ·rintro rfl;rcases he with z | z
    ·exact nown c b hc z
    ·rw[hc]at z;cases z;exact hb rfl
end
structure Un(fs ex:List Addr)(H H':Hp)(h h':Heap):Prop where
 keep:∀b o,h.get? b=some o->H b=none->b∉fs->b∉ex->h'.get? b=some o
 slot:∀b o,h.get? b=some o->H b=none->b∈fs->b∉ex->∃sl,h'.get? b=some { o with slots:=sl }
 free:∀b o,h.get? b=some o->H b=none->b∉ex->H' b=none
 there:∀b o,h.get? b=some o->b∉ex->∃o',h'.get? b=some o'
 tups:∀b xs,H b=some (.tup xs)->H' b=some (.tup xs)
 frzs:∀b o u,H b=some (.frz o u)->H' b=some (.frz o u)
 tbls:∀b ps,H b=some (.tbl ps)->∃more,H' b=some (.tbl (ps++more))
section
variable{fs ex:List Addr}{H H1:Hp}{h h1 h':Heap}{a x e:Addr}{o:HO}
def Un.any(u:Un fs ex H H1 h h1){b:Addr}{ob}(q:h.get? b=some ob)(n:H b=none)(hx:b∉ex):∃sl,h1.get? b=some { ob with slots:=sl }:=by
 by_cases hb:b∈fs
 ·exact u.slot b ob q n hb hx
 ·exact⟨ob.slots,u.keep b ob q n hb hx⟩
def Un.kept(k:∀b u,h.get? b=some u->h'.get? b=some u):Un fs ex H H h h':=
 ⟨λb ob q _ _ _=>k b ob q,λb ob q _ _ _=>⟨ob.slots,k b ob q⟩,λ_ _ _ n _=>n,λb ob q _=>⟨ob,k b ob q⟩,λ_ _ q=>q,λ_ _ _ q=>q,λ_ ps q=>⟨#[],by rw[q];simp⟩⟩
def Un.refl:Un fs ex H H h h:=Un.kept λ_ _ q=>q
def Un.laid(k:∀b u,h.get? b=some u->h'.get? b=some u)(hp:h.objs.size<=a)(hn:H a=none):Un fs ex H (gO H a o) h h' where
 keep:=λb u q _ _ _=>k b u q
 slot:=λb u q _ _ _=>⟨u.slots,k b u q⟩
 free:=λb u q n _=>by rw[dA (bO (cW (bI q) hp))];exact n
 there:=λb u q _=>⟨u,k b u q⟩
 tups:=λb xs q=>by rw[dA (lX q hn)];exact q
 frzs:=λb u xs q=>by rw[dA (lX q hn)];exact q
 tbls:=λb ps q=>⟨#[],by rw[dA (lX q hn),q];simp⟩
def Un.write(mu:Mut (H x))(he:e=x\/H e=some (.own x))(k:∀b u,b≠e->h.get? b=some u->h'.get? b=some u)(heo:∃u,h'.get? e=some u):Un fs ex H (gO H x o) h h':=by
 have hx:∀b,H b=none->b≠x:=λb n z=>by subst z;rw[n]at mu;exact mu
 have hb:∀b,H b=none->b≠e:=λb n z=>by
  subst z;rcases he with r | r
  ·exact hx b n r
  ·rw[n]at r;cases r
 have hm:∀b u,H b=some u->¬Mut (some u)->b≠x:=λb u q nm z=>by subst z;rw[q]at mu;exact nm mu
 refine⟨λb u q n _ _=>k b u (hb b n) q,λb u q n _ _=>⟨u.slots,k b u (hb b n) q⟩,λb u q n _=>by rw[dA (hx b n)];exact n,λb u q _=>?_,
  λb xs q=>by rw[dA (hm b _ q λz=>z)];exact q,λb u xs q=>by rw[dA (hm b _ q λz=>z)];exact q,λb ps q=>⟨#[],by rw[dA (hm b _ q λz=>z),q];simp⟩⟩
 by_cases hbe:b=e
 ·subst hbe;exact heo
 ·exact⟨u,k b u hbe q⟩
end
noncomputable def trk(h:Heap)(H:Hp):List Addr:=(cQ h.objs.size).filter λa=>(H a).isSome
noncomputable def GE(h:Heap)(H:Hp):Heap:=PySem.W.hideAll h (trk h H)
def QT(h:Heap)(H:Hp):(GE h H).objs.size=h.objs.size:=PySem.W.hideAll_size _ _
def VB{h:Heap}{H}{b:Addr}{o}(e:h.get? b=some o)(n:H b=none):(GE h H).get? b=some o:=
 PySem.W.hideAll_get _ e λhm=>by
  have q:(H b).isSome=true:=(bZ.mp hm).2;rw[n]at q;simp at q
def YN{h:Heap}{H:Hp}{b:Addr}{o}(e:(GE h H).get? b=some o):h.get? b=some o/\H b=none:=by
 have e':h.get? b=some o:=PySem.W.of_hideAll (trk h H) e;refine⟨e',?_⟩
 cases q:H b with
 |none=>rfl
 |some x=>
  have hm:b∈trk h H:=bZ.mpr ⟨dI.mpr (bI e'),by simp[q]⟩;have z:(GE h H).get? b=none:=PySem.W.hideAll_none (trk h H) hm;rw[z]at e;cases e
noncomputable def aAj(g h:Heap)(L:Addr):List (Addr×Obj):=(cQ h.objs.size).filterMap λa=>if a=L\/(g.get? a).isSome=true then none else(h.get? a).map λo=>(a,o)
noncomputable def fT(g h:Heap)(L d:Addr):List (Addr×Obj):=(aAj g h L).filter λp=>decide (p.1≠d)
structure Mod(K:aL)(mg:Str->Option Value)(base:Heap):Prop where
 kin:K.In base
 glob:base.Ns jA mg
 blt:∃mb,base.Ns builtinsNs mb/\∀x:Str,x≠"__name__"->mb x=bootBuiltins x
 nolimit:base.NoLimit
 bmod:∃bm o,mg "__builtins__"=some (.ref bm)/\bm≠builtinsNs/\base.get? bm=some o/\o.cls=.type "module"/\o.dict=some builtinsNs/\o.data=.plain
structure Cx where
 prog:bX
 w:World
 K:aL
 mg:Str->Option Value
 base:Heap
 A:Around
 N:List Str
 s₀:Shared
 H₀:Hp
 env:Env
 outer:List Env
 stack:List Env
 ex:List Addr
 fn:Str->Bool
 calm:Bool
 pn:List (Addr×Obj)
 xe:Value->Shared->Prop
noncomputable def RQ(l:List Env):List Addr:=l.filterMap (·.frame)
noncomputable abbrev Cx.fs(X:Cx):List Addr:=RQ X.outer
def Vis(sc:Scope)(x:Str):Prop:=sc.names.lookup x=some .local\/sc.names.lookup x=some .cell\/sc.names.lookup x=some .free
def RH(sc:Scope)(x:Str):Prop:=sc.names.lookup x=some .local\/sc.names.lookup x=some .cell
def aNd(env:Env)(h:Heap)(m:Str->Option Value)(x:Str)(u:Value):Prop:=
 (env.kindOf x=some .local/\m x=some u)\/((env.kindOf x=some .cell\/env.kindOf x=some .free)/\∃c,env.cells.lookup x=some c/\h.IsCell c (some u))
def Tb(H:Hp):Prop:=∀P,tabA=some P->∃ps,H P=some (.tbl ps)
structure Cx.Ok(X:Cx):Prop where
 mod:Mod X.K X.mg X.base
 kind:X.env.scope.kind=.function
 glob:X.env.globals=jA
 blt:X.env.builtins=builtinsNs
 above:X.s₀.heap.objs.size<=X.env.locals
 inj:∀x y c,X.env.cells.lookup x=some c->X.env.cells.lookup y=some c->x=y
 has:∀x,(X.env.kindOf x=some .cell\/X.env.kindOf x=some .free)->∃c,X.env.cells.lookup x=some c
 cab:∀x c,X.fn x=true->X.env.cells.lookup x=some c->X.s₀.heap.objs.size<=c
 hd:X.calm=true->X.A.handled=none
 frames:X.A.frames=some X.stack
 stk:X.stack=X.outer\/(X.stack=X.env::X.outer/\X.env.frame=some X.env.locals)
 exf:∀b∈X.ex,b≠X.env.locals/\∀x c,X.env.cells.lookup x=some c->c≠b
 bs:∀b o,X.base.get? b=some o->X.s₀.heap.get? b=some o/\X.H₀ b=none
 bsz:X.base.objs.size<=X.s₀.heap.objs.size
 noex:∀b o,X.base.get? b=some o->b∉X.ex
 exfs:∀b∈X.ex,b∉X.fs
 funs:X.s₀.heap.FunFrames X.base X.outer
 frf:∀b∈X.fs,X.H₀ b=none
 tab:Tb X.H₀
structure eL(X:Cx)(pins:List (Addr×Obj))(σ:List (Option V))(H:Hp)(s:Shared):Prop where
 ok:X.Ok
 os:s.os=X.s₀.os
 bare:AllBare s.gens
 base:Un X.fs X.ex X.H₀ H X.s₀.heap s.heap
 loc:∃m,s.heap.Ns X.env.locals m/\∀(i:Nat)(x:Str)(v:V),X.N[i]?=some x->σ[i]?=some (some v)->Vis X.env.scope x->∃u,gB v u/\aNd X.env s.heap m x u
 cell:∀x c,X.env.cells.lookup x=some c->∃v,s.heap.IsCell c v
 free:H X.env.locals=none
 freeC:∀x c,X.env.cells.lookup x=some c->H c=none
 pin:∀p∈X.pn++pins,s.heap.get? p.1=some p.2/\H p.1=none/\p.1≠X.env.locals/\p.1∉X.fs/\∀v,p.2.data≠.cell v
 hok:wD X.prog X.w H s.heap
 len:σ.length=X.N.length
section
variable{X:Cx}{pins:List (Addr×Obj)}{σ:List (Option V)}{H H':Hp}{s:Shared}{h':Heap}
def Cx.Ok.nofr(ok:X.Ok){b:Addr}{o}(e:X.base.get? b=some o):b∉X.fs:=λhb=>by
 have:=(ok.funs.mem hb).1;rw[e]at this;cases this
theorem eL.bs(I:eL X pins σ H s):∀b o,X.base.get? b=some o->s.heap.get? b=some o/\H b=none:=λb o e=>
 ⟨I.base.keep b o (I.ok.bs b o e).1 (I.ok.bs b o e).2 (I.ok.nofr e) (I.ok.noex b o e),I.base.free b o (I.ok.bs b o e).1 (I.ok.bs b o e).2 (I.ok.noex b o e)⟩
def eL.bk(I:eL X pins σ H s):∀b o,X.base.get? b=some o->s.heap.get? b=some o:=λb o e=>(I.bs b o e).1
theorem eL.mod(I:eL X pins σ H s):Mod X.K X.mg X.base:=I.ok.mod
def eL.kIn(I:eL X pins σ H s):X.K.In s.heap:=I.ok.mod.kin.keeps I.bk
theorem eL.lt(I:eL X pins σ H s):X.env.locals<s.heap.objs.size:=let ⟨_,hn,_⟩:=I.loc;hn.lt
def eL.sz(I:eL X pins σ H s):X.s₀.heap.objs.size<=s.heap.objs.size:=cI I.ok.above (lK I.lt)
def eL.nofs(I:eL X pins σ H s){a:Addr}(h:s.heap.objs.size<=a):a∉X.fs:=λhb=>by
 obtain⟨_,o,ho,_⟩:=I.ok.funs.mem hb;exact absurd (cW (bI ho) (cI I.sz h)) (iI _)
def eL.cne(I:eL X pins σ H s):∀x c,X.env.cells.lookup x=some c->c≠X.env.locals:=λx c e z=>by
 obtain⟨v,o,ho,hd⟩:=I.cell x c e;obtain⟨m,⟨o',es,ep,ho',hd',_⟩,_⟩:=I.loc;rw[z,ho']at ho;cases ho;rw[hd']at hd;cases hd
theorem eL.funs(I:eL X pins σ H s):s.heap.FunFrames X.base X.outer:=by
 have all:∀l,(∀b∈RQ l,b∈X.fs)->X.s₀.heap.FunFrames X.base l->s.heap.FunFrames X.base l:=by
  intro l
  induction l with
  |nil=>intro _ _;trivial
  |cons env r ih=>
   intro hs hl;obtain⟨hk,⟨L,o,hf,hn,ho,hd⟩,hr⟩:=hl;have hL:L∈X.fs:=hs L (by unfold RQ;rw[eQ,hf];exact aR);obtain⟨sl,e⟩:=I.base.slot L o ho (I.ok.frf L hL) hL λz=>I.ok.exfs L z hL;exact⟨hk,⟨L,_,hf,hn,e,hd⟩,ih (λb hb=>hs b (by unfold RQ;rw[eQ,hf];exact aM _ hb)) hr⟩
 exact all X.outer (λ_ hb=>hb) I.ok.funs
theorem eL.stack(I:eL X pins σ H s):s.heap.FunFrames X.base X.stack:=by
 rcases I.ok.stk with e | ⟨e,hf⟩
 ·rw[e];exact I.funs
 ·rw[e];obtain⟨m,hn,_⟩:=I.loc;refine .cons (by rw[I.ok.kind];decide) hf hn ?_ I.funs;exact Heap.get?_none_of_le (cI I.ok.bsz I.ok.above)
def eL.stkSub(I:eL X pins σ H s):∀b∈RQ X.stack,b∈X.env.locals::X.fs:=λb hb=>by
 rcases I.ok.stk with e | ⟨e,hf⟩
 ·rw[e]at hb;exact aM _ hb
 ·rw[e]at hb;unfold RQ at hb;rw[eQ,hf]at hb;exact hb
def eL.stkFree(I:eL X pins σ H s):∀b∈RQ X.stack,H b=none:=λb hb=>by
 rcases bH.mp (I.stkSub b hb)with e | hb
 ·rw[e];exact I.free
 ·obtain⟨_,o,ho,_⟩:=I.ok.funs.mem hb;exact I.base.free b o ho (I.ok.frf b hb) λz=>I.ok.exfs b z hb
def eL.step{g':Array GenState}{t':Nat}{d':Drawn}{ch:List Addr}(I:eL X pins σ H s)
  (hch:∀b∈ch,(b∈X.ex\/X.s₀.heap.objs.size<=b)/\b≠X.env.locals/\(∀x c,X.env.cells.lookup x=some c->c≠b)/\∀p∈X.pn++pins,p.1≠b)
  (keep:∀b o,b≠X.env.locals->b∉X.fs->b∉ch->s.heap.get? b=some o->H b=none->h'.get? b=some o)
  (slot:∀b o,b≠X.env.locals->b∈X.fs->b∉ch->s.heap.get? b=some o->H b=none->∃sl,h'.get? b=some { o with slots:=sl }) (free:∀b o,b∉ch->s.heap.get? b=some o->H b=none->H' b=none)
  (there:∀b o,b∉ch->s.heap.get? b=some o->∃o',h'.get? b=some o')
  (tups:∀b xs,H b=some (.tup xs)->H' b=some (.tup xs)) (frzs:∀b o u,H b=some (.frz o u)->H' b=some (.frz o u)) (tbls:∀b ps,H b=some (.tbl ps)->∃more,H' b=some (.tbl (ps++more)))
  (ns:∀m,s.heap.Ns X.env.locals m->h'.Ns X.env.locals m) (hok:wD X.prog X.w H' h') (hg:AllBare g') :
  eL X pins σ H' { s with heap:=h',gens:=g',drawn:=d',toks:=t' }:=by
 have neL:∀b o,X.s₀.heap.get? b=some o->b≠X.env.locals:=λb o e=>bO (cW (bI e) I.ok.above)
 have neC:∀b o,X.s₀.heap.get? b=some o->b∉X.ex->b∉ch:=λb o e hx hb=>by
  rcases(hch b hb).1 with z | z
  ·exact hx z
  ·exact absurd (cW (bI e) z) (iI _)
 have cellK:∀x c,X.env.cells.lookup x=some c->∀v,s.heap.IsCell c v->h'.IsCell c v:=λx c e v ⟨o,ho,hd⟩=>by
  have nch:c∉ch:=λz=>(hch c z).2.2.1 x c e rfl;by_cases hc:c∈X.fs
  ·obtain⟨sl,q⟩:=slot c o (I.cne x c e) hc nch ho (I.freeC x c e);exact⟨_,q,hd⟩
  ·exact⟨o,keep c o (I.cne x c e) hc nch ho (I.freeC x c e),hd⟩
 refine⟨I.ok,I.os,hg,⟨λb o e n hb hx=>?_,λb o e n hb hx=>?_,λb o e n hx=>?_,λb o e hx=>?_,λb xs e=>tups b xs (I.base.tups b xs e),λb o xs e=>frzs b o xs (I.base.frzs b o xs e),λb ps e=>?_⟩,?_,λx c e=>?_,?_,λx c e=>?_,λp hp=>?_,hok,I.len⟩
 ·exact keep b o (neL b o e) hb (neC b o e hx) (I.base.keep b o e n hb hx) (I.base.free b o e n hx)
 ·obtain⟨sl,e1⟩:=I.base.slot b o e n hb hx;obtain⟨sl',e2⟩:=slot b _ (neL b o e) hb (neC b o e hx) e1 (I.base.free b o e n hx);exact⟨sl',e2⟩
 ·obtain⟨o',e1⟩:=I.base.there b o e hx;exact free b o' (neC b o e hx) e1 (I.base.free b o e n hx)
 ·obtain⟨o',e1⟩:=I.base.there b o e hx;exact there b o' (neC b o e hx) e1
 ·obtain⟨m1,e1⟩:=I.base.tbls b ps e;obtain⟨m2,e2⟩:=tbls b _ e1;exact⟨m1++m2,by rw[e2,Array.append_assoc]⟩
 ·obtain⟨m,hn,hl⟩:=I.loc;refine⟨m,ns m hn,λi x v e1 e2 e3=>?_⟩;obtain⟨u,r,l⟩:=hl i x v e1 e2 e3;refine⟨u,r,?_⟩;rcases l with l | ⟨k,c,e,z⟩
  ·exact .inl l
  ·exact .inr ⟨k,c,e,cellK x c e _ z⟩
 ·obtain⟨v,z⟩:=I.cell x c e;exact⟨v,cellK x c e v z⟩
 ·obtain⟨m,⟨o,_,_,ho,_⟩,_⟩:=I.loc;exact free _ o (λz=>(hch _ z).2.1 rfl) ho I.free
 ·obtain⟨v,o,ho,hd⟩:=I.cell x c e;exact free c o (λz=>(hch c z).2.2.1 x c e rfl) ho (I.freeC x c e)
 ·obtain⟨e,n,ne,nf,d⟩:=I.pin p hp;have nch:p.1∉ch:=λz=>(hch p.1 z).2.2.2 p hp rfl;exact⟨keep p.1 p.2 ne nf nch e n,free p.1 p.2 nch e n,ne,nf,d⟩
def eL.un{t':Nat}(I:eL X pins σ H s)(u:Un X.fs [] H H' s.heap h')(hok:wD X.prog X.w H' h'):eL X pins σ H' { s with heap:=h',toks:=t' }:=by
 obtain⟨m,⟨o,es,ep,ho,r⟩,_⟩:=id I.loc;obtain⟨sl,hL⟩:=u.any ho I.free (by simp)
 exact I.step (g':=s.gens) (d':=s.drawn) (ch:=[]) (λ_ z=>nomatch z) (λb o _ hb _ e n=>u.keep b o e n hb (by simp)) (λb o _ hb _ e n=>u.slot b o e n hb (by simp)) (λb o _ e n=>u.free b o e n (by simp)) (λb o _ e=>u.there b o e (by simp)) u.tups u.frzs u.tbls (λm' hm=>by
  obtain⟨o',es',ep',ho',r'⟩:=hm;rw[ho]at ho';cases ho';exact⟨_,es',ep',hL,r'⟩) hok I.bare
def eL.call{g':Array GenState}{t':Nat}{d':Drawn}{ch:List Addr}(I:eL X pins σ H s)(u:Un (RQ X.stack) ch H H' s.heap h')(hok:wD X.prog X.w H' h')(hg:AllBare g')
  (hch:∀b∈ch,(b∈X.ex\/X.s₀.heap.objs.size<=b)/\b≠X.env.locals/\(∀x c,X.env.cells.lookup x=some c->c≠b)/\∀p∈X.pn++pins,p.1≠b) :
  eL X pins σ H' { s with heap:=h',gens:=g',drawn:=d',toks:=t' }:=by
 obtain⟨m,⟨o,es,ep,ho,r⟩,_⟩:=id I.loc;obtain⟨sl,hL⟩:=u.any ho I.free λz=>(hch _ z).2.1 rfl
 exact I.step (ch:=ch) hch (λb o hL hb hc e n=>u.keep b o e n (λz=>(bH.mp (I.stkSub b z)).elim hL hb) hc) (λb o _ _ hc e n=>u.any e n hc) (λb o hc e n=>u.free b o e n hc) (λb o hc e=>u.there b o e hc) u.tups u.frzs u.tbls (λm' hm=>by
  obtain⟨o',es',ep',ho',r'⟩:=hm;rw[ho]at ho';cases ho';exact⟨_,es',ep',hL,r'⟩) hok hg
def eL.turned{t':Nat}{it:Addr}(I:eL X pins σ H s)(k:∀b o,b≠it->s.heap.get? b=some o->h'.get? b=some o)(hn:H it=none)(hL:it≠X.env.locals)
  (h1:it∈X.ex\/X.s₀.heap.objs.size<=it) (h2:∀x c,X.env.cells.lookup x=some c->c≠it) (h3:∀p∈X.pn++pins,p.1≠it):eL X pins σ H { s with heap:=h',toks:=t' }:=by
 have nit:∀b u,H b=some u->b≠it:=λb u e z=>by rw[z,hn]at e;cases e
 refine I.step (g':=s.gens) (d':=s.drawn) (ch:=[it]) (λb hb=>?_) (λb o _ _ hc e _=>k b o (λz=>hc (by simp[z])) e) (λb o _ _ hc e _=>⟨o.slots,k b o (λz=>hc (by simp[z])) e⟩) (λ_ _ _ _ n=>n)
  (λb o hc e=>⟨o,k b o (λz=>hc (by simp[z])) e⟩) (λ_ _ e=>e) (λ_ _ _ e=>e) (λb ps e=>⟨#[],by rw[e];simp⟩) (λm hm=>?_) (λb u e=>?_) I.bare
 ·have e:b=it:=by simpa using hb
  subst e;exact⟨h1,hL,h2,h3⟩
 ·obtain⟨o,es,ep,ho,r⟩:=hm;exact⟨o,es,ep,k _ o (Ne.symm hL) ho,r⟩
 ·refine(I.hok b u e).stay (λc v hc q=>k c v ?_ q) (λ_ q=>q) λ_ _ q=>q;rcases hc with z | z
  ·rw[z];exact nit b u e
  ·exact nit c _ z
def eL.tok(I:eL X pins σ H s)(t:Nat):eL X pins σ H { s with toks:=t }:=I.un (h':=s.heap) (t':=t) Un.refl I.hok
theorem eL.kept{t':Nat}(I:eL X pins σ H s)(k:∀b u,s.heap.get? b=some u->h'.get? b=some u):eL X pins σ H { s with heap:=h',toks:=t' }:=I.un (Un.kept k) (I.hok.kept k)
theorem eL.laid{a:Addr}{o}{t':Nat}(I:eL X pins σ H s)(k:∀b u,s.heap.get? b=some u->h'.get? b=some u)(hp:s.heap.objs.size<=a)(new:iN X.prog X.w (gO H a o) h' a o) :
  eL X pins σ (gO H a o) { s with heap:=h',toks:=t' }:=I.un (Un.laid k hp (I.hok.fresh hp)) (I.hok.laid k hp new)
theorem eL.write{x e:Addr}{o}{t':Nat}(I:eL X pins σ H s)(mu:Mut (H x))(he:e=x\/H e=some (.own x))(k:∀b u,b≠e->s.heap.get? b=some u->h'.get? b=some u)(heo:∃u,h'.get? e=some u)
  (new:iN X.prog X.w (gO H x o) h' x o):eL X pins σ (gO H x o) { s with heap:=h',toks:=t' }:=I.un (Un.write mu he k heo) (I.hok.write mu he k heo new)
def eL.pins_of{pins'}(I:eL X pins σ H s)(h:∀p∈pins',s.heap.get? p.1=some p.2/\H p.1=none/\p.1≠X.env.locals/\p.1∉X.fs/\∀v,p.2.data≠.cell v):eL X pins' σ H s:=
 ⟨I.ok,I.os,I.bare,I.base,I.loc,I.cell,I.free,I.freeC,λp hp=>(cK.mp hp).elim (λz=>I.pin p (fV _ z)) (h p),I.hok,I.len⟩
def IP{N:List Str}(hN:N.Nodup){i j:Nat}{x}(a:N[i]?=some x)(b:N[j]?=some x):i=j:=by
 obtain⟨h1,e1⟩:=aG.mp a;obtain⟨h2,e2⟩:=aG.mp b;exact(BA hN).mp (e1.trans e2.symm)
def DZ{M A}{E:Value->Shared->Prop}{i:Nat}{x v u}{Q:Unit->Shared->Prop}(I:eL X pins σ H s)(hN:X.N.Nodup)(hi:X.N[i]?=some x)(hx:RH X.env.scope x)(r:gB v u)
  (h:∀s',eL X pins (σ.set i (some v)) H s'->(∃a,cV a s.heap s'.heap/\(a=X.env.locals\/X.env.cells.lookup x=some a))->Q () s') (hf:X.fn x=true\/X.env.scope.names.lookup x=some .local:=by first | exact .inl rfl | exact .inr rfl | assumption):wpAny M A (storeName X.env x u) Q E s:=by
 obtain⟨m,hn,hl⟩:=id I.loc;have hcls:(X.env.scope.kind==.class||(X.env.scope.kind==.module&&X.env.locals != X.env.globals))=false:=by rw[I.ok.kind];rfl
 have hiσ:i<σ.length:=by rw[I.len];exact(aG.mp hi).1
 have cne:=I.cne
 have tracked:∀{a:Addr}{h':Heap},(∃o,s.heap.get? a=some o/\H a=none)->cV a s.heap h'->wD X.prog X.w H h':=λ{a h'} ha hs b ob e=>by
  obtain⟨_,_,hfree⟩:=ha;refine(I.hok b ob e).stay (λc w' hc q=>(hs.2 c ?_).trans q) (λ_ q=>q) λ_ _ q=>q;rintro rfl;rcases hc with rfl | hc
  ·rw[hfree]at e;cases e
  ·rw[hfree]at hc;cases hc
 rcases hx with hk | hk
 ·refine wpAny_storeName_local hk hn (λh' hn' hs=>?_) hcls;obtain⟨oL,_,_,hoL,_⟩:=id hn;refine h _ ⟨I.ok,I.os,I.bare,⟨λb o e n hb hx=>?_,λb o e n hb hx=>?_,I.base.free,λb o e hx=>?_,I.base.tups,I.base.frzs,I.base.tbls⟩,⟨_,hn',λj y v' e1 e2 e3=>?_⟩,λy c e=>?_,I.free,I.freeC,λp hp=>?_,tracked ⟨oL,hoL,I.free⟩ hs,by simpa using I.len⟩ ⟨_,hs,.inl rfl⟩
  ·exact(hs.2 b (bO (cW (bI e) I.ok.above))).trans (I.base.keep b o e n hb hx)
  ·obtain⟨sl,e1⟩:=I.base.slot b o e n hb hx;exact⟨sl,(hs.2 b (bO (cW (bI e) I.ok.above))).trans e1⟩
  ·obtain⟨o',e1⟩:=I.base.there b o e hx;exact⟨o',(hs.2 b (bO (cW (bI e) I.ok.above))).trans e1⟩
  ·by_cases hj:j=i
   ·subst hj;rw[hi]at e1;cases e1;rw[bD hiσ]at e2;cases e2;exact⟨u,r,.inl ⟨hk,by simp⟩⟩
   ·rw[bA (Ne.symm hj)]at e2;obtain⟨u',r',q⟩:=hl j y v' e1 e2 e3;refine⟨u',r',?_⟩;rcases q with⟨k,e⟩ | ⟨k,c,e,z⟩
    ·refine .inl ⟨k,?_⟩;have:y≠x:=λe=>hj (IP hN e1 (e▸hi));simp[this,e]
    ·exact .inr ⟨k,c,e,z.sameBut hs (cne y c e)⟩
  ·obtain⟨w',z⟩:=I.cell y c e;exact⟨w',z.sameBut hs (cne y c e)⟩
  ·obtain⟨e,n,ne,nf,d⟩:=I.pin p hp;exact⟨(hs.2 p.1 ne).trans e,n,ne,nf,d⟩
 ·have hfn:X.fn x=true:=by
   rcases hf with z | z
   ·exact z
   ·rw[z]at hk;cases hk
  obtain⟨c,hc⟩:=I.ok.has x (.inl hk);obtain⟨w',z⟩:=I.cell x c hc;refine wpAny_storeName_cell I.ok.kind hk hc z (λh' hc' hs=>?_);obtain⟨oc,hoc,hocd⟩:=id z;refine h { s with heap:=h' } ⟨I.ok,I.os,I.bare,⟨λb o e n hb hx=>?_,λb o e n hb hx=>?_,I.base.free,λb o e hx=>?_,I.base.tups,I.base.frzs,I.base.tbls⟩,⟨m,hn.sameBut hs (Ne.symm (cne x c hc)),λj y v' e1 e2 e3=>?_⟩,λy c' e=>?_,I.free,I.freeC,λp hp=>?_,tracked ⟨oc,hoc,I.freeC x c hc⟩ hs,by simpa using I.len⟩ ⟨c,hs,.inr hc⟩
  ·exact(hs.2 b (bO (cW (bI e) (I.ok.cab x c hfn hc)))).trans (I.base.keep b o e n hb hx)
  ·obtain⟨sl,e1⟩:=I.base.slot b o e n hb hx;exact⟨sl,(hs.2 b (bO (cW (bI e) (I.ok.cab x c hfn hc)))).trans e1⟩
  ·obtain⟨o',e1⟩:=I.base.there b o e hx;exact⟨o',(hs.2 b (bO (cW (bI e) (I.ok.cab x c hfn hc)))).trans e1⟩
  ·by_cases hj:j=i
   ·subst hj;rw[hi]at e1;cases e1;rw[bD hiσ]at e2;cases e2;exact⟨u,r,.inr ⟨.inl hk,c,hc,hc'⟩⟩
   ·rw[bA (Ne.symm hj)]at e2;obtain⟨u',r',q⟩:=hl j y v' e1 e2 e3;refine⟨u',r',?_⟩;rcases q with q | ⟨k,c',e,z'⟩
    ·exact .inl q
    ·refine .inr ⟨k,c',e,z'.sameBut hs ?_⟩;rintro rfl;exact hj (IP hN e1 (I.ok.inj _ _ _ e hc▸hi))
  ·by_cases hcc:c'=c
   ·subst hcc;exact⟨_,hc'⟩
   ·obtain⟨w2,z2⟩:=I.cell y c' e;exact⟨w2,z2.sameBut hs hcc⟩
  ·obtain⟨e,n,ne,nf,d⟩:=I.pin p hp;refine⟨(hs.2 p.1 ?_).trans e,n,ne,nf,d⟩;intro q;rw[q,hoc]at e;have q':oc=p.2:=Option.some.inj e;exact d w' (by rw[<- q'];exact hocd)
def HR{M A}{E:Value->Shared->Prop}{i:Nat}{x v u}{Q:Unit->Shared->Prop}(I:eL X pins σ H s)(hN:X.N.Nodup)(hi:X.N[i]?=some x)(hx:RH X.env.scope x)(r:gB v u)
  (h:∀s',eL X pins (σ.set i (some v)) H s'->Q () s') (hf:X.fn x=true\/X.env.scope.names.lookup x=some .local:=by first | exact .inl rfl | exact .inr rfl | assumption):wpAny M A (storeName X.env x u) Q E s:=
 DZ I hN hi hx r (λs' I' _=>h s' I') hf
def eL.call'{s':Shared}{ch}(I:eL X pins σ H s)(ho:s'.os=s.os)(u:Un (RQ X.stack) ch H H' s.heap s'.heap)(hok:wD X.prog X.w H' s'.heap)(hg:AllBare s'.gens)
  (hch:∀b∈ch,(b∈X.ex\/X.s₀.heap.objs.size<=b)/\b≠X.env.locals/\(∀x c,X.env.cells.lookup x=some c->c≠b)/\∀p∈X.pn++pins,p.1≠b):eL X pins σ H' s':=by
 obtain⟨h',g',d',t',o'⟩:=s';have e:o'=s.os:=ho;subst e;exact I.call (g':=g') (t':=t') (d':=d') u hok hg hch
end
abbrev XK:=Value->Option Addr->Hp->Prop
abbrev St:=List (Option V)
abbrev VK:=V->Hp->Prop
abbrev TE:=St->Hp->VK->Prop
abbrev TT:=St->Hp->(Bool->Hp->Prop)->Prop
abbrev TA:=St->Hp->(List V->Hp->Prop)->Prop
structure xR where
 nx:St->Hp->Prop
 rt:VK
 bk:St->Hp->Prop:=λ_ _=>False
 ct:St->Hp->Prop:=λ_ _=>False
abbrev TS:=xR->St->Hp->Prop
def EP(X:Cx)(pins:List (Addr×Obj))(σ:St)(Q:VK)(u:Value)(s':Shared):Prop:=∃v H',eL X pins σ H' s'/\gB v u/\Q v H'
def TP(X:Cx)(pins:List (Addr×Obj))(σ:St)(Q:Bool->Hp->Prop)(b:Bool)(s':Shared):Prop:=∃H',eL X pins σ H' s'/\Q b H'
def AP(X:Cx)(pins:List (Addr×Obj))(σ:St)(Q:List V->Hp->Prop)(us:List Value)(s':Shared):Prop:=∃vs H',eL X pins σ H' s'/\fS vs us/\Q vs H'
def SP(X:Cx)(pins:List (Addr×Obj))(D:xR)(f:Flow)(s':Shared):Prop:=
 match f with
 |.next=>∃σ' H',eL X pins σ' H' s'/\D.nx σ' H'
 |.brk=>∃σ' H',eL X pins σ' H' s'/\D.bk σ' H'
 |.cont=>∃σ' H',eL X pins σ' H' s'/\D.ct σ' H'
 |.ret u=>∃v σ' H',eL X pins σ' H' s'/\gB v u/\D.rt v H'
def PE(X:Cx)(e:Expr)(t:TE):Prop:=
 ∀pins s σ H Q,eL X pins σ H s->t σ H Q->wpAny (model X.prog X.w) X.A (eval e X.env) (EP X pins σ Q) X.xe s
def PT(X:Cx)(e:Expr)(t:TT):Prop:=
 ∀pins s σ H(Q:Bool->Hp->Prop),eL X pins σ H s->t σ H Q->wpAny (model X.prog X.w) X.A (isTrue e X.env (eval e X.env)) (TP X pins σ Q) X.xe s
def PW(X:Cx)(e:Expr)(t:TT):Prop:=
 ∀(whole:Sem Value)pins s σ H(Q:Bool->Hp->Prop),eL X pins σ H s->t σ H Q->wpAny (model X.prog X.w) X.A (isTrue e X.env whole) (TP X pins σ Q) X.xe s
def PW.pt{X e t}(h:PW X e t):PT X e t:=h _
def PA(X:Cx)(es:List Expr)(t:TA):Prop:=
 ∀(pos:Pos)pins s σ H(Q:List V->Hp->Prop),eL X pins σ H s->t σ H Q->wpAny (model X.prog X.w) X.A (spliced (backTo pos (bN es X.env))) (AP X pins σ Q) X.xe s
def PS(X:Cx)(st:Stmt)(t:TS):Prop:=
 ∀pins s σ H(D:xR),eL X pins σ H s->t D σ H->wpAny (model X.prog X.w) X.A (exec st X.env) (SP X pins D) X.xe s
def CW(X:Cx)(st:List Stmt)(t:TS):Prop:=
 ∀pins s σ H(D:xR),eL X pins σ H s->t D σ H->wpAny (model X.prog X.w) X.A (execs st X.env) (SP X pins D) X.xe s
def jO{α:Type}{t}{Q Q':α->Shared->Prop}{M A}{E:Value->Shared->Prop}{s}(h:wpAny M A t Q E s)(hQ:∀a s,Q a s->Q' a s):wpAny M A t Q' E s:=gT h hQ λ_ _ x=>x
section
variable{X:Cx}
def pL(i:Nat):TE:=λσ H Q=>∃v,σ[i]?=some (some v)/\Q v H
def tC(v:V):TE:=λ_ H Q=>Q v H
def TV{i:Nat}{x:Str}{pos}(hN:X.N[i]?=some x)(hv:Vis X.env.scope x)(hd:(x==("__debug__":Str))=false:=by decide)(hcd:(x==("__classdict__":Str))=false:=by decide):PE X (.Name x pos) (pL i):=by
 intro pins s σ H Q I h;obtain⟨v,e,h⟩:=h;obtain⟨m,hn,hl⟩:=I.loc;obtain⟨u,r,l⟩:=hl i x v hN e hv;have fin:EP X pins σ Q u s:=⟨v,H,I,r,h⟩;rcases l with⟨hk,hm⟩ | ⟨hk,c,hc,hcell⟩
 ·exact wpAny_Name (wpAny_loadName_local I.ok.kind hk hn hm fin) hd
 ·rcases hk with hk | hk
  ·exact wpAny_Name (wpAny_loadName_cell I.ok.kind hk hc hcell fin) hd
  ·exact wpAny_Name (wpAny_loadName_free I.ok.kind hk hc hcell fin hcd) hd
def LD{i j pos}:PE X (.Constant (.int i) j pos) (tC (.int i)):=λ_ _ _ H _ I h=>wpAny_Constant_int ⟨.int i,H,I.tok _,⟨_,rfl⟩,h⟩
def aId{b j pos}:PE X (.Constant (.bool b) j pos) (tC (.bl b)):=λ_ _ _ H _ I h=>Constant_bool ⟨.bl b,H,I,rfl,h⟩
def aEw{j pos}:PE X (.Constant .none j pos) (tC .non):=λ_ _ _ H _ I h=>Constant_none ⟨.non,H,I,rfl,h⟩
def oX{x j pos}:PE X (.Constant (.str x) j pos) (tC (.str x)):=λ_ _ _ H _ I h=>Calls.Constant_str ⟨.str x,H,I.tok _,⟨_,rfl⟩,h⟩
def Gl(X:Cx)(x:Str):Prop:=X.env.kindOf x=some .globalImplicit
def F7{E:Value->Shared->Prop}{pins s σ H}{x:Str}{u pos}{Q:Value->Shared->Prop}(I:eL X pins σ H s)(hg:Gl X x)(hm:X.mg x=some u)(h:Q u s)
  (hd:(x==("__debug__":Str))=false:=by decide):wpAny (model X.prog X.w) X.A (eval (.Name x pos) X.env) Q E s:=
 Calls.Name_function_global I.ok.kind hg (Calls.loadGlobal_global (by rw[I.ok.glob];exact I.mod.glob.keeps I.bk) hm h) hd
def B1{E:Value->Shared->Prop}{pins s σ H}{x:Str}{u pos}{Q:Value->Shared->Prop}(I:eL X pins σ H s)(hg:Gl X x)(hm:X.mg x=none)(hv:bootBuiltins x=some u)(h:Q u s)
  (hn:x≠"__name__":=by decide) (hd:(x==("__debug__":Str))=false:=by decide):wpAny (model X.prog X.w) X.A (eval (.Name x pos) X.env) Q E s:=by
 obtain⟨mb,h1,h2⟩:=I.mod.blt;exact Calls.Name_function_global I.ok.kind hg (Calls.loadGlobal_builtin (by rw[I.ok.glob];exact I.mod.glob.keeps I.bk) hm (by rw[I.ok.blt];exact h1.keeps I.bk) ((h2 x hn).trans hv) h) hd
def N0{x:Str}{v u pos}(hg:Gl X x)(hm:X.mg x=some u)(r:gB v u)(hd:(x==("__debug__":Str))=false:=by decide):PE X (.Name x pos) (tC v):=
 λ_ _ _ H _ I h=>F7 I hg hm ⟨v,H,I,r,h⟩ hd
def AW{x:Str}{v u pos}(hg:Gl X x)(hm:X.mg x=none)(hv:bootBuiltins x=some u)(r:gB v u)(hn:x≠"__name__":=by decide)(hd:(x==("__debug__":Str))=false:=by decide):PE X (.Name x pos) (tC v):=
 λ_ _ _ H _ I h=>B1 I hg hm hv ⟨v,H,I,r,h⟩ hn hd
variable{a b:Expr}{ta tb:TE}{pos:Pos}
def tB(t:TE):TT:=λσ H Q=>t σ H λx H1=>∃c,x=.bl c/\Q c H1
def TJ{e:Expr}{t}(h:PE X e t)(he:∀whole,isTrue e X.env whole=(do let v <- whole;standAt e.pos;holding [v] (truthy v)):=by intro _;rfl):PT X e (tB t):=by
 intro pins s σ H Q I hw;refine isTrue_plain (jO (h pins s σ H _ I hw) λv s1 zq=>?_) (he _);obtain⟨x,H1,I1,r1,q1⟩:=zq;obtain⟨d,rfl,q⟩:=q1;cases r1;exact wpAny_truthy_bool ⟨H1,I1,q⟩
variable{tA tB':TT}{fT:List Expr}
def aLq(t u:TT):TT:=λσ H Q=>t σ H λc H1=>if c=true then u σ H1 Q else Q false H1
def tOr(t u:TT):TT:=λσ H Q=>t σ H λc H1=>if c=true then Q true H1 else u σ H1 Q
def aLm(t:TT):TT:=λσ H Q=>t σ H λc H1=>Q (!c) H1
def NV(ha:PT X a tA):PW X (.BoolOp .And [a] pos) tA:=by
 intro wh pins s σ H Q I h;refine isTrue_and (jO (ha pins s σ H Q I h) λc s1 e=>?_)
 cases c with
 |true=>exact isTrue_and_nil e
 |false=>exact e
def aEq(ha:PT X a tA):PW X (.BoolOp .Or [a] pos) tA:=by
 intro wh pins s σ H Q I h;refine isTrue_or (jO (ha pins s σ H Q I h) λc s1 e=>?_)
 cases c with
 |false=>exact isTrue_or_nil e
 |true=>exact e
def TF(ha:PT X a tA)(hb:PW X (.BoolOp .And (b::fT) pos) tB'):PW X (.BoolOp .And (a::b::fT) pos) (aLq tA tB'):=by
 intro wh pins s σ H Q I h;refine isTrue_and (jO (ha pins s σ H _ I h) λc s1 zq=>?_);obtain⟨H1,I1,q1⟩:=zq
 cases c with
 |true=>exact hb wh pins s1 σ H1 Q I1 q1
 |false=>exact⟨H1,I1,q1⟩
def aH8(ha:PT X a tA)(hb:PW X (.BoolOp .Or (b::fT) pos) tB'):PW X (.BoolOp .Or (a::b::fT) pos) (tOr tA tB'):=by
 intro wh pins s σ H Q I h;refine isTrue_or (jO (ha pins s σ H _ I h) λc s1 zq=>?_);obtain⟨H1,I1,q1⟩:=zq
 cases c with
 |true=>exact⟨H1,I1,q1⟩
 |false=>exact hb wh pins s1 σ H1 Q I1 q1
def aEr(ha:PT X a tA):PT X (.UnaryOp .Not a pos) (aLm tA):=by
 intro pins s σ H Q I h;exact isTrue_not (ha pins s σ H (λc H1=>Q (!c) H1) I h)
def aG9(ta tb:TE):TE:=λσ H Q=>ta σ H λx H1=>∃c,x=.bl c/\if c=true then tb σ H1 Q else Q (.bl false) H1
def aG6(ta:TE):TE:=λσ H Q=>ta σ H λx H1=>∃c,x=.bl c/\Q (.bl (!c)) H1
def aEu{op t}(h:PE X a t):PE X (.BoolOp op [a] pos) t:=λpins s σ H Q I hw=>BoolOp_one (h pins s σ H Q I hw)
def aEy(ha:PE X a ta)(hb:PE X (.BoolOp .And (b::fT) pos) tb):PE X (.BoolOp .And (a::b::fT) pos) (aG9 ta tb):=by
 intro pins s σ H Q I h;refine BoolOp_and (jO (ha pins s σ H _ I h) λv s1 zq=>?_);obtain⟨x,H1,I1,r1,q1⟩:=zq;obtain⟨c,rfl,q1⟩:=q1;cases r1;refine wpAny_truthy_bool ?_
 cases c with
 |true=>exact hb pins s1 σ H1 Q I1 q1
 |false=>exact⟨.bl false,H1,I1,rfl,q1⟩
def aEv(ha:PE X a ta):PE X (.UnaryOp .Not a pos) (aG6 ta):=by
 intro pins s σ H Q I h;refine UnaryOp_ (jO (ha pins s σ H _ I h) λv s1 zq=>?_);obtain⟨x,H1,I1,r1,q1⟩:=zq;obtain⟨c,rfl,q1⟩:=q1;cases r1;exact not_of (wpAny_truthy_bool ⟨.bl (!c),H1,I1,rfl,q1⟩)
def tIf(t:TT)(ta tb:TE):TE:=λσ H Q=>t σ H λc H1=>if c=true then ta σ H1 Q else tb σ H1 Q
def T0{c}(hc:PT X c tA)(ha:PE X a ta)(hb:PE X b tb):PE X (.IfExp c a b pos) (tIf tA ta tb):=by
 intro pins s σ H Q I h;refine wpAny_IfExp (jO (hc pins s σ H _ I h) λd s1 zq=>?_);obtain⟨H1,I1,q1⟩:=zq
 cases d with
 |true=>exact ha pins s1 σ H1 Q I1 q1
 |false=>exact hb pins s1 σ H1 Q I1 q1
end
def mZ(K:aL)(H:Hp)(a:Addr)(xs:List V):Prop:=
 Rd H a (.lst xs) \/
  ∃(o:Obj)(its:Array Value)(n:Nat),K.lookup a=some o/\o.cls=.type "list"/\o.dict=none/\o.data=.seq its n/\its.size<=bL/\fS xs its.toList
def tV(K:aL)(H:Hp)(a:Addr)(xs:List V):Prop:=
 Rd H a (.tup xs) \/
  ∃(o:Obj)(its:Array Value)(n:Nat),K.lookup a=some o/\o.cls=.type "tuple"/\o.dict=none/\o.data=.seq its n/\its.size<=bL/\fS xs its.toList
noncomputable def aM6:Value->Option V
|.none=>some .non
|.bool b=>some (.bl b)
|.int i _=>some (.int i)
|.str x _=>some (.str x)
|.bytes b _=>some (.byt b)
|.float b _=>some (.flt b)
|.ref a=>some (.ref a)
|.type n=>some (.ty n)
|_=>none
def gB.abs{x u}(r:gB x u):aM6 u=some x:=by
 cases x with
 |non=>cases r;rfl
 |bl _=>cases r;rfl
 |int _=>obtain⟨t,rfl⟩:=r;rfl
 |str _=>obtain⟨t,rfl⟩:=r;rfl
 |byt _=>obtain⟨t,rfl⟩:=r;rfl
 |flt _=>obtain⟨t,rfl⟩:=r;rfl
 |ref _=>cases r;rfl
 |ty _=>cases r;rfl
theorem gB.inj{x y u}(r:gB x u)(q:gB y u):x=y:=Option.some.inj (r.abs.symm.trans q.abs)
theorem fS.inj:∀{xs ys us},fS xs us->fS ys us->xs=ys
|_,_,_,.nil,.nil=>rfl
|_,_,_,.cons r t,.cons r' t'=>by rw[r.inj r',fS.inj t t']
section
variable{X:Cx}{pins:List (Addr×Obj)}{σ:St}{H:Hp}{s:Shared}{a:Addr}{xs ys:List V}
def mZ.of{K}(h:H a=some (.lst xs)):mZ K H a xs:=.inl (.inl h)
def tV.of{K}(h:H a=some (.tup xs)):tV K H a xs:=.inl (.inl h)
def eL.list(I:eL X pins σ H s)(h:mZ X.K H a xs):∃its:List Value,fS xs its/\PlainL s.heap a its.toArray/\xs.length<=bL:=by
 rcases h with h | ⟨o,its,n,hk,hc,hd,hs,hz,r⟩
 ·obtain⟨z,its,n,r,e⟩:=h.ok I.hok;exact⟨its,r,⟨_,n,e,rfl,rfl,rfl⟩,z⟩
 ·refine⟨its.toList,r,⟨o,n,I.kIn a o hk,hc,hd,by simpa using hs⟩,?_⟩;have e:=r.length;simp only[aP]at e;omega
def eL.tuple(I:eL X pins σ H s)(h:tV X.K H a xs):∃its:List Value,fS xs its/\IsTup s.heap a its.toArray/\xs.length<=bL:=by
 rcases h with h | ⟨o,its,n,hk,hc,_,hs,hz,r⟩
 ·obtain⟨z,its,r,p⟩:=h.ok I.hok;exact⟨its,r,p.tup,z⟩
 ·refine⟨its.toList,r,⟨o,I.kIn a o hk,hc,n,by simpa using hs⟩,?_⟩;have e:=r.length;simp only[aP]at e;omega
def eL.tupleN(I:eL X pins σ H s)(h:tV X.K H a xs):∃o,s.heap.get? a=some o/\o.cls=.type "tuple"/\o.dict=none:=by
 rcases h with h | ⟨o,its,n,hk,hc,hd,_⟩
 ·obtain⟨z,its,r,⟨o,e,c,n,_,d⟩⟩:=h.ok I.hok;exact⟨o,e,c,d⟩
 ·exact⟨o,I.kIn a o hk,hc,hd⟩
def eL.list_inj(I:eL X pins σ H s)(h:mZ X.K H a xs)(h':mZ X.K H a ys):xs=ys:=by
 obtain⟨its,r,⟨o,n,e,_,_,d⟩,_⟩:=I.list h;obtain⟨its',r',⟨o',n',e',_,_,d'⟩,_⟩:=I.list h';rw[e]at e';cases e';rw[d]at d';injection d' with d1 _
 have:its=its':=by simpa using congrArg aGs d1
 subst this;exact r.inj r'
def eL.tuple_inj(I:eL X pins σ H s)(h:tV X.K H a xs)(h':tV X.K H a ys):xs=ys:=by
 obtain⟨its,r,⟨o,e,_,n,d⟩,_⟩:=I.tuple h;obtain⟨its',r',⟨o',e',_,n',d'⟩,_⟩:=I.tuple h';rw[e]at e';cases e';rw[d]at d';injection d' with d1 _
 have:its=its':=by simpa using congrArg aGs d1
 subst this;exact r.inj r'
end
noncomputable abbrev Cx.wish(X:Cx)(E:Value->Shared->Prop):Cx:={ X with xe:=E }
noncomputable abbrev Cx.nox(X:Cx):Cx:=X.wish λ_ _=>False
theorem Cx.Ok.wish{X:Cx}(ok:X.Ok)(E:Value->Shared->Prop):(X.wish E).Ok:=
 ⟨ok.mod,ok.kind,ok.glob,ok.blt,ok.above,ok.inj,ok.has,ok.cab,ok.hd,ok.frames,ok.stk,ok.exf,ok.bs,ok.bsz,ok.noex,ok.exfs,ok.funs,ok.frf,ok.tab⟩
def Cx.Ok.unwish{X:Cx}{E:Value->Shared->Prop}(ok:(X.wish E).Ok):X.Ok:=
 ⟨ok.mod,ok.kind,ok.glob,ok.blt,ok.above,ok.inj,ok.has,ok.cab,ok.hd,ok.frames,ok.stk,ok.exf,ok.bs,ok.bsz,ok.noex,ok.exfs,ok.funs,ok.frf,ok.tab⟩
section
variable{X:Cx}{pins:List (Addr×Obj)}{σ:St}{H:Hp}{s:Shared}{E:Value->Shared->Prop}
theorem eL.wish(I:eL X pins σ H s)(E:Value->Shared->Prop):eL (X.wish E) pins σ H s:=⟨I.ok.wish E,I.os,I.bare,I.base,I.loc,I.cell,I.free,I.freeC,I.pin,I.hok,I.len⟩
theorem eL.unwish(I:eL (X.wish E) pins σ H s):eL X pins σ H s:=⟨I.ok.unwish,I.os,I.bare,I.base,I.loc,I.cell,I.free,I.freeC,I.pin,I.hok,I.len⟩
theorem SP.unwish{D f s'}(h:SP (X.wish E) pins D f s'):SP X pins D f s':=by
 cases f with
 |next=>obtain⟨σ',H',I,q⟩:=h;exact⟨σ',H',I.unwish,q⟩
 |brk=>obtain⟨σ',H',I,q⟩:=h;exact⟨σ',H',I.unwish,q⟩
 |cont=>obtain⟨σ',H',I,q⟩:=h;exact⟨σ',H',I.unwish,q⟩
 |ret u=>obtain⟨v,σ',H',I,r,q⟩:=h;exact⟨v,σ',H',I.unwish,r,q⟩
theorem CW.nox{st t}(h:CW X.nox st t):CW X st t:=λpins s σ H D I hw=>
 gT (h pins s σ H D (I.wish _) hw) (λ_ _ q=>q.unwish) λ_ _ z=>False.elim z
end
section
variable{X:Cx}{st:Stmt}{fT:List Stmt}{t u:TS}{e:Expr}{te:TE}{pos:Pos}
def aG7:TS:=λD σ H=>D.nx σ H
def aLk(t u:TS):TS:=λD σ H=>t { D with nx:=u D } σ H
def AU:CW X [] aG7:=λ_ _ σ H _ I h=>wpAny_execs_nil ⟨σ,H,I,h⟩
def qS(h1:PS X st t)(h2:CW X fT u):CW X (st::fT) (aLk t u):=by
 intro pins s σ H D I h;refine wpAny_execs_cons (jO (h1 pins s σ H { D with nx:=u D } I h) λf s1 q=>?_)
 cases f with
 |next=>
  obtain⟨σ',H',I',q⟩:=q;exact h2 pins s1 σ' H' D I' q
 |ret v=>exact q
 |brk=>exact q
 |cont=>exact q
def AS(h1:PS X st t):CW X [st] t:=by
 intro pins s σ H D I h;refine wpAny_execs_cons (jO (h1 pins s σ H D I h) λf s1 q=>?_)
 cases f with
 |next=>exact wpAny_execs_nil q
 |ret v=>exact q
 |brk=>exact q
 |cont=>exact q
def eL.quiet{pins σ H s}(I:eL X pins σ H s):interactive X.env=false:=by simp[interactive,I.ok.kind]
def HN(te:TE):TS:=λD σ H=>te σ H λ_ H1=>D.nx σ H1
def oK(he:PE X e te)(hs:iM e none pos.line X.env=pure false:=by rfl):PS X (.Expr e pos) (HN te):=by
 intro pins s σ H D I h;exact wpAny_Expr_any (jO (he pins s σ H _ I h) λv s1 ⟨x,H1,I1,r1,q1⟩=>⟨σ,H1,I1,q1⟩) I.quiet hs
def aLl(te:TE):TS:=λD σ H=>te σ H D.rt
def yF(he:PE X e te):PS X (.Return (some e) pos) (aLl te):=by
 intro pins s σ H D I h;exact wpAny_Return_some (jO (he pins s σ H _ I h) λv s1 ⟨x,H1,I1,r1,q1⟩=>⟨x,σ,H1,I1,r1,q1⟩)
def aLo(c:TT)(t u:TS):TS:=λD σ H=>c σ H λb H1=>if b=true then t D σ H1 else u D σ H1
def TM{c a b tc}(hc:PT X c tc)(ha:CW X a t)(hb:CW X b u):PS X (.If c a b pos) (aLo tc t u):=by
 intro pins s σ H D I h;refine wpAny_If (jO (hc pins s σ H _ I h) λd s1 zq=>?_);obtain⟨H1,I1,q1⟩:=zq
 cases d with
 |true=>exact ha pins s1 σ H1 D I1 q1
 |false=>exact hb pins s1 σ H1 D I1 q1
end
abbrev TG:=V->St->Hp->(St->Hp->Prop)->Prop
abbrev TGs:=List V->St->Hp->(St->Hp->Prop)->Prop
def PG(X:Cx)(target:Expr)(t:TG):Prop:=
 ∀pins s σ H(v:V)(u:Value)(Q:St->Hp->Prop),eL X pins σ H s->gB v u->t v σ H Q ->
  wpAny (model X.prog X.w) X.A (assign target X.env u) (λ_ s'=>∃σ' H',eL X pins σ' H' s'/\Q σ' H') X.xe s
def PGs(X:Cx)(ts:List Expr)(t:TGs):Prop:=
 ∀pins s(σ:St)H(vs:List V)(us:List Value)(Q:St->Hp->Prop),eL X pins σ H s->fS vs us->t vs σ H Q ->
  wpAny (model X.prog X.w) X.A (assignInOrder ((assignEach ts X.env).map (·.2)) us) (λ_ s'=>∃σ' H',eL X pins σ' H' s'/\Q σ' H') X.xe s
section
variable{X:Cx}{pos:Pos}
def jS(i:Nat):TG:=λv σ H Q=>Q (σ.set i (some v)) H
def NY{i:Nat}{x}(hN:X.N.Nodup)(hi:X.N[i]?=some x)(hx:RH X.env.scope x)(hf:X.fn x=true\/X.env.scope.names.lookup x=some .local:=by first | exact .inl rfl | exact .inr rfl | assumption):PG X (.Name x pos) (jS i):=by
 intro pins s σ H v u Q I r h;exact wpAny_assign_Name (HR I hN hi hx r (λs' I'=>⟨_,H,I',h⟩) hf)
def ZE:TGs:=λvs σ H Q=>vs=[]/\Q σ H
def vD(t:TG)(u:TGs):TGs:=λvs σ H Q=>∃v r,vs=v::r/\t v σ H λσ' H'=>u r σ' H' Q
def lN:PGs X [] ZE:=by
 intro pins s σ H vs us Q I r h;obtain⟨e,h⟩:=h;subst e;cases r;exact assignInOrder_nil ⟨σ,H,I,h⟩
def eM{e es t u}(h1:PG X e t)(h2:PGs X es u)
  (hs:(assignEach (e::es) X.env).map (·.2)=assign e X.env::(assignEach es X.env).map (·.2):=by rfl):PGs X (e::es) (vD t u):=by
 intro pins s σ H vs us Q I r h;obtain⟨v,vr,e1,h⟩:=h;subst e1
 cases r with
 |cons r rr=>
  rw[hs];refine assignInOrder_cons (jO (h1 pins s σ H _ _ _ I r h) λ_ s1 zq=>?_);obtain⟨σ1,H1,I1,q1⟩:=zq;exact h2 pins s1 σ1 H1 _ _ Q I1 rr q1
def ZD(K:aL)(n:Nat)(t:TGs):TG:=λv σ H Q=>∃a xs,v=.ref a/\tV K H a xs/\xs.length=n/\t xs σ H Q
def nY{es}{k:Nat}{t}{n:Nat}(hc:X.calm=true)(h:PGs X es t)
  (hn:(assignEach es X.env).length=n:=by rfl) (hst:(assignEach es X.env).findIdx? (·.1)=none:=by rfl):PG X (.Tuple es k pos) (ZD X.K n t):=by
 intro pins s σ H v u Q I r hw;obtain⟨a,xs,e1,hq,hl,hw⟩:=hw;subst e1;cases r;obtain⟨its,rv,ht,hz⟩:=I.tuple hq;refine assign_Tuple_tuple (I.ok.hd hc) ht (by simp[hn,<- hl,rv.length]) hst λh' hx=>?_;have I1:eL X pins σ H { s with heap:=h' }:=I.kept (t':=s.toks) λb o e=>hx b o (bO (bI e)) e;exact h pins _ σ H xs _ Q I1 (by simpa using rv) hw
def vN(te:TE)(g:TG):TS:=λD σ H=>te σ H λx H1=>g x σ H1 D.nx
def TN{tg e te g}(he:PE X e te)(hg:PG X tg g)(hs:swapsWithSole [tg] e pos.line X.env=pure false:=by rfl)(hw:swappedStores [tg] e X.env=pure none:=by rfl)
  (h1:(assignEach [tg] X.env).map (·.2)=[assign tg X.env]:=by rfl):PS X (.Assign [tg] e pos) (vN te g):=by
 intro pins s σ H D I h;refine wpAny_Assign_stores (jO (he pins s σ H _ I h) λv s1 zq=>?_) hs hw;obtain⟨x,H1,I1,r1,q1⟩:=zq;rw[h1];exact jO (hg pins s1 σ H1 x v _ I1 r1 q1) λ_ s2 q=>q
def tE{i:Nat}{x e te pos'}(hN:X.N.Nodup)(hi:X.N[i]?=some x)(hx:RH X.env.scope x)(he:PE X e te)(hs:iM e (some (.Name x pos')) pos.line X.env=pure false:=by rfl)(hf:X.fn x=true\/X.env.scope.names.lookup x=some .local:=by first | exact .inl rfl | exact .inr rfl | assumption) :
  PS X (.Assign [.Name x pos'] e pos) (vN te (jS i)):=by
 intro pins s σ H D I h;refine wpAny_Assign_Name (jO (he pins s σ H _ I h) λv s1 zq=>?_) hs;obtain⟨y,H1,I1,r1,q1⟩:=zq;exact HR I1 hN hi hx r1 (λs2 I2=>⟨_,H1,I2,q1⟩) hf
end
structure It where
 go:Nat->Hp->Prop
 yld:Nat->Hp->V->Hp->Prop
 stop:Nat->Hp->Prop
def DI(X:Cx)(pins:List (Addr×Obj))(H:Hp)(b:Addr):Prop:=
 H b=none/\b≠X.env.locals/\b∉X.fs/\(b∈X.ex\/X.s₀.heap.objs.size<=b)/\(∀x c,X.env.cells.lookup x=some c->c≠b)/\∀p∈X.pn++pins,p.1≠b
def eL.fpOk{X pins σ H H'}{s:Shared}{b:Addr}(I:eL X pins σ H s)(hb:s.heap.objs.size<=b)(hn:H' b=none):DI X pins H' b:=by
 refine⟨hn,gY (cW I.lt hb),I.nofs hb,.inr (cI I.sz hb),λx c e z=>?_,λp hp z=>?_⟩
 ·obtain⟨v,q⟩:=I.cell x c e;exact absurd (cW q.lt (by rw[z];exact hb)) (iI _)
 ·exact absurd (cW (bI (I.pin p hp).1) (by rw[z];exact hb)) (iI _)
structure ML(P:bX)(w:World)(K:aL)(tg:Expr)(J:It)(fp:List Addr)(it:Addr)(tn:Nat->Heap->Prop):Prop where
 mem:it∈fp
 obj:∀i h,tn i h->∀b∈fp,∃o,h.get? b=some o/\∀v,o.data≠.cell v
 keep:∀i h h',tn i h->(∀b∈fp,∀o,h.get? b=some o->h'.get? b=some o)->tn i h'
 item:∀(X:Cx),X.prog=P->X.w=w->X.K=K->X.calm=true->∀(i:Nat)pins(s:Shared)σ H E,eL X pins σ H s->(∀b∈fp,DI X pins H b)->tn i s.heap->J.go i H ->
  wpAny (model P w) X.A (pyNext (.ref it)) (λr s1=>∃u,r=some u /\
   wpAny (model P w) X.A (letOwnedTupleGo tg (.ref it) u) (λ_ s2=>∃x H',eL X pins σ H' s2/\gB x u/\J.yld i H x H'/\tn (i+1) s2.heap/\∀b∈fp,H' b=none) E s1) E s
 done:∀(X:Cx),X.prog=P->X.w=w->X.K=K->X.calm=true->∀(i:Nat)pins(s:Shared)σ H E,eL X pins σ H s->(∀b∈fp,DI X pins H b)->tn i s.heap->J.stop i H ->
  wpAny (model P w) X.A (pyNext (.ref it)) (λr s1=>r=none/\eL X pins σ H s1) E s
 self:∀A(i:Nat)(s:Shared)Q E,tn i s.heap->Q (.ref it) s->wpAny (model P w) A (pyIter (.ref it)) Q E s
abbrev TI:=St->Hp->(It->Hp->Prop)->Prop
def PIE(X:Cx)(pins:List (Addr×Obj))(σ:St)(tg:Expr)(R:It->Hp->Prop)(itv:Value)(s2:Shared):Prop:=
 ∃(it:Addr)(fp:List Addr)(tn:Nat->Heap->Prop)(J:It)(H':Hp),itv=.ref it/\eL X pins σ H' s2/\ML X.prog X.w X.K tg J fp it tn/\tn 0 s2.heap/\(∀b∈fp,DI X pins H' b)/\R J H'
def PI(X:Cx)(tg iter:Expr)(wi:TI):Prop:=
 ∀pins(s:Shared)σ H(R:It->Hp->Prop),eL X pins σ H s->wi σ H R ->
  wpAny (model X.prog X.w) X.A (eval iter X.env) (λv s1=>wpAny (model X.prog X.w) X.A (pyIter v) (PIE X pins σ tg R) X.xe s1) X.xe s
def OM{M A}{E:Value->Shared->Prop}{s:Shared}{tg}{it:Addr}{u}{o:Obj}{n vs}{Q:Unit->Shared->Prop}(ho:s.heap.get? it=some o)(hc:o.cls=.type n)(hd:o.data=.fields vs)
  (hn:["enumerate","zip","dict_itemiterator","dict_reverseitemiterator","odict_iterator","itertools.zip_longest","itertools.pairwise"].contains n=false) (hQ:Q () s):wpAny M A (letOwnedTupleGo tg (.ref it) u) Q E s:=by
 unfold letOwnedTupleGo
 cases tg<;>first
  |exact aE hQ
  | (cases u<;>first
    |exact aE hQ
    | (refine aA (wpAny_load ho ?_)
       rw[hc,hd];show wpAny M A (if(["enumerate","zip","dict_itemiterator","dict_reverseitemiterator","odict_iterator","itertools.zip_longest","itertools.pairwise"].contains n&&vs[0]?==some (rawInt _))=true then _ else _) Q E s;rw[if_neg (by intro h;rw[hn,aDp]at h;cases h)];exact aE hQ))
noncomputable def Itl(K:aL)(a:Addr):It:=
 ⟨λi H=>∃xs x,mZ K H a xs/\xs[i]?=some x,λi H x H'=>H'=H/\∀xs,mZ K H a xs->xs[i]?=some x,λi H=>∃xs,mZ K H a xs/\xs.length<=i⟩
noncomputable def Itt(K:aL)(a:Addr):It:=
 ⟨λi H=>∃xs x,tV K H a xs/\xs[i]?=some x,λi H x H'=>H'=H/\∀xs,tV K H a xs->xs[i]?=some x,λi H=>∃xs,tV K H a xs/\xs.length<=i⟩
noncomputable def Itr(lo:Int)(n:Nat):It:=⟨λi _=>i<n,λi H x H'=>H'=H/\x=.int (lo+i),λi _=>n<=i⟩
def PH{P w K tg}(a it:Addr):ML P w K tg (Itl K a) [it] it (λi h=>h.IsListIter it a i) where
 mem:=by simp
 obj:=λi h st b hb=>by
  have e:b=it:=by simpa using hb
  subst e;obtain⟨o,e,c,d⟩:=st;exact⟨o,e,λv z=>by rw[d]at z;cases z⟩
 keep:=λi h h' st k=>st.at λo e=>k it (by simp) o e
 item:=by
  intro X hP hw hK hc i pins s σ H E I hf st hg;subst hP hw hK;obtain⟨xs,x,hq,hx⟩:=hg;obtain⟨its,rv,p,hz⟩:=I.list hq;obtain⟨u,hu,ru⟩:=rv.get hx;obtain⟨f0,f1,f2,f3,f4,f5⟩:=hf it (by simp);refine wpAny_pyNext_list_item st p.isList (x:=u) (by simpa using hu) λh' st' sb=>?_;have I1:eL X pins σ H { s with heap:=h' }:=I.turned (t':=s.toks) (λb o hb e=>(sb.2 b hb).trans e) f0 f1 f3 f4 f5;obtain⟨o,e,c,d⟩:=id st';exact⟨u,rfl,OM (s:={ s with heap:=h' }) e c d (by decide) ⟨x,H,I1,ru,⟨rfl,λys hy=>by rw[I.list_inj hy hq];exact hx⟩,st',λb hb=>(hf b hb).1⟩⟩
 done:=by
  intro X hP hw hK hc i pins s σ H E I hf st hg;subst hP hw hK;obtain⟨xs,hq,hx⟩:=hg;obtain⟨its,rv,p,hz⟩:=I.list hq;obtain⟨f0,f1,f2,f3,f4,f5⟩:=hf it (by simp);have hl:=rv.length;exact wpAny_pyNext_list_end (I.ok.hd hc) st p.isList (by simp;omega) λh' eb=>⟨rfl,I.turned (t':=s.toks) (λb o hb e=>eb b o hb e) f0 f1 f3 f4 f5⟩
 self:=λ_ _ _ _ _ st h=>wpAny_pyIter_listiter st h
def KP{P w K tg}(a it:Addr):ML P w K tg (Itt K a) [it] it (λi h=>h.IsTupleIter it a i) where
 mem:=by simp
 obj:=λi h st b hb=>by
  have e:b=it:=by simpa using hb
  subst e;obtain⟨o,e,c,d⟩:=st;exact⟨o,e,λv z=>by rw[d]at z;cases z⟩
 keep:=λi h h' st k=>st.at λo e=>k it (by simp) o e
 item:=by
  intro X hP hw hK hc i pins s σ H E I hf st hg;subst hP hw hK;obtain⟨xs,x,hq,hx⟩:=hg;obtain⟨its,rv,p,hz⟩:=I.tuple hq;obtain⟨u,hu,ru⟩:=rv.get hx;obtain⟨f0,f1,f2,f3,f4,f5⟩:=hf it (by simp);refine wpAny_pyNext_tuple_item st (show s.heap.IsTuple a its.toArray from p) (x:=u) (by simpa using hu) λh' st' sb=>?_;have I1:eL X pins σ H { s with heap:=h' }:=I.turned (t':=s.toks) (λb o hb e=>(sb.2 b hb).trans e) f0 f1 f3 f4 f5;obtain⟨o,e,c,d⟩:=id st';exact⟨u,rfl,OM (s:={ s with heap:=h' }) e c d (by decide) ⟨x,H,I1,ru,⟨rfl,λys hy=>by rw[I.tuple_inj hy hq];exact hx⟩,st',λb hb=>(hf b hb).1⟩⟩
 done:=by
  intro X hP hw hK hc i pins s σ H E I hf st hg;subst hP hw hK;obtain⟨xs,hq,hx⟩:=hg;obtain⟨its,rv,p,hz⟩:=I.tuple hq;obtain⟨f0,f1,f2,f3,f4,f5⟩:=hf it (by simp);have hl:=rv.length;exact wpAny_pyNext_tuple_end (I.ok.hd hc) st (show s.heap.IsTuple a its.toArray from p) (by simp;omega) λh' eb=>⟨rfl,I.turned (t':=s.toks) (λb o hb e=>eb b o hb e) f0 f1 f3 f4 f5⟩
 self:=λ_ _ _ _ _ st h=>wpAny_pyIter_tupleiter st h
def KQ{P w K tg}(it:Addr)(lo:Int)(n:Nat):ML P w K tg (Itr lo n) [it] it (λi h=>IsRangeIter h it (lo+(i:Nat)*1) ((n:Int)-(i:Nat)) 1) where
 mem:=by simp
 obj:=λi h st b hb=>by
  have e:b=it:=by simpa using hb
  subst e
  exact⟨_,st,λv z=>by
   have z':Data.fields _=Data.cell v:=z;cases z'⟩
 keep:=λi h h' st k=>k it (by simp) _ st
 item:=by
  intro X hP hw hK hc i pins s σ H E I hf st hg;subst hP hw hK;obtain⟨f0,f1,f2,f3,f4,f5⟩:=hf it (by simp);have W:=Walks.range (prog:=X.prog) (w:=X.w) (I.ok.hd hc) it lo 1 n;refine W.item i s _ _ hg st λv h' tk hv st' kk=>?_;obtain⟨t,rfl⟩:=hv;have I1:eL X pins σ H { s with heap:=h',toks:=tk }:=I.turned (λb o hb e=>kk b o (by simpa using hb) e) f0 f1 f3 f4 f5;refine⟨_,rfl,OM (s:={ s with heap:=h',toks:=tk }) (n:="range_iterator") st' rfl rfl (by decide) ⟨.int (lo+i),H,I1,⟨t,?_⟩,⟨rfl,rfl⟩,st',λb hb=>(hf b hb).1⟩⟩;rw[Int.mul_one]
 done:=by
  intro X hP hw hK hc i pins s σ H E I hf st hg;subst hP hw hK;obtain⟨f0,f1,f2,f3,f4,f5⟩:=hf it (by simp);exact wpAny_pyNext_range_end (I.ok.hd hc) st (by have:n<=i:=hg;omega) λh' eb=>⟨rfl,I.turned (t':=s.toks) (λb o hb e=>eb b o hb e) f0 f1 f3 f4 f5⟩
 self:=λ_ _ _ _ _ st h=>wpAny_pyIter_rangeiter st h
section
variable{X:Cx}{tg:Expr}
def II{pins σ H}{s:Shared}{R:It->Hp->Prop}{E:Value->Shared->Prop}{lo hi:Int}{t u v}{tk:Nat}(I:eL X pins σ H s)(h1:-(2^62)<=lo)(h2:lo<2^62)(h3:-(2^62)<=hi)(h4:hi<2^62)
  (q:R (Itr lo (hi-lo).toNat) H):wpAny (model X.prog X.w) X.A (pyIter (.ref s.heap.objs.size)) (PIE X pins σ tg R) E { s with heap:=s.heap.push { cls:=.type "range",data:=.fields #[.int lo t,.int hi u,.int 1 v] },toks:=tk }:=by
 refine wpAny_pyIter_range (IsRange.new ..) (small_one h1 h2 h3 h4) ?_;have I1:eL X pins σ H { s with heap:=s.heap.push { cls:=.type "range",data:=.fields #[.int lo t,.int hi u,.int 1 v] },toks:=tk }:=I.kept λb o e=>aJ _ e
 refine⟨(s.heap.push { cls:=.type "range",data:=.fields #[.int lo t,.int hi u,.int 1 v] }).objs.size,[(s.heap.push { cls:=.type "range",data:=.fields #[.int lo t,.int hi u,.int 1 v] }).objs.size],_,_,H,rfl,
  I1.kept (t':=tk) λb o e=>aJ _ e,KQ _ lo (hi-lo).toNat,?_,λb hb=>?_,q⟩
 ·have e1:lo+((0:Nat):Int)*1=lo:=by simp
  have e2:(((hi-lo).toNat:Nat):Int)-((0:Nat):Int)=Builtin.Range.rangeSize lo hi 1:=by rw[rangeSize_one];split<;>omega
  show IsRangeIter _ _ (lo+((0:Nat):Int)*1) ((((hi-lo).toNat:Nat):Int)-((0:Nat):Int)) 1;rw[e1,e2];exact aS _ rfl
 ·have e:b=(s.heap.push { cls:=.type "range",data:=.fields #[.int lo t,.int hi u,.int 1 v] }).objs.size:=by simpa using hb
  subst e;exact I1.fpOk (aO _) (I1.hok.fresh (aO _))
def OI(ta:TA):TI:=λσ H R=>ta σ H λvs H1=>∃j:Int,vs=[.int j]/\-(2^62)<=j/\j<2^62/\R (Itr 0 j.toNat) H1
def aCy(ta:TA):TI:=λσ H R=>ta σ H λvs H1=>∃i j:Int,vs=[.int i,.int j]/\(-(2^62)<=i/\i<2^62/\-(2^62)<=j/\j<2^62)/\R (Itr i (j-i).toNat) H1
def kC{a ta p pos}(hg:Gl X "range")(hm:X.mg "range"=none)(ha:PA X [a] ta)(hs:bN [a] X.env=[(false,eval a X.env)]:=by rfl):PI X tg (.Call (.Name "range" p) [a] [] pos) (OI ta):=by
 intro pins s σ H R I h;refine Call_ (B1 I hg hm boot_range (PyProof.Rows.callWith_type1 (jO (ha pos pins s σ H _ I h) λus s1 zq=>?_) hs rfl));obtain⟨vs,H1,I1,r1,q1⟩:=zq;obtain⟨j,e,q1,q2,q⟩:=q1;subst e
 cases r1 with
 |cons r rr=>
  cases rr;obtain⟨t,rfl⟩:=r;exact call_range_1 (II I1 (by omega) (by omega) q1 q2 (by simpa using q))
def P1{a b ta p pos}(hg:Gl X "range")(hm:X.mg "range"=none)(ha:PA X [a,b] ta)(hs:bN [a,b] X.env=[(false,eval a X.env),(false,eval b X.env)]:=by rfl)(hs2:bN [b] X.env=[(false,eval b X.env)]:=by rfl) :
  PI X tg (.Call (.Name "range" p) [a,b] [] pos) (aCy ta):=by
 intro pins s σ H R I h;refine Call_ (B1 I hg hm boot_range (PyProof.Rows.callWith_type1 (jO (ha pos pins s σ H _ I h) λus s1 zq=>?_) (by rw[hs,hs2]) (by rw[hs2];rfl)));obtain⟨vs,H1,I1,r1,q1⟩:=zq;obtain⟨i,j,e,⟨q1,q2,q3,q4⟩,q⟩:=q1;subst e
 cases r1 with
 |cons r rr=>
  cases rr with
  |cons r' rr=>
   cases rr;obtain⟨t,rfl⟩:=r;obtain⟨t',rfl⟩:=r';exact call_range_2 (II I1 q1 q2 q3 q4 q)
def SF(wi:TI)(g:TG)(tb:TS):TS:=λD σ H=>wi σ H λJ H1=>∃W:Nat->Nat->St->Hp->Prop,(∃m,W 0 m σ H1)/\∀i m σ H,W i m σ H ->
 (J.stop i H/\D.nx σ H)\/(J.go i H/\∃N:St->Hp->Prop,(∀σ' H',N σ' H'->∃m',m'<m/\W (i+1) m' σ' H')/\∀x H',J.yld i H x H'->g x σ H' λσ2 H2=>tb { D with nx:=N,ct:=N,bk:=D.nx } σ2 H2)
noncomputable def BU(fp:List Addr)(h:Heap):List (Addr×Obj):=fp.filterMap λb=>(h.get? b).map λo=>(b,o)
def rX{fp}{h:Heap}{b:Addr}{o}(hb:b∈fp)(e:h.get? b=some o):(b,o)∈BU fp h:=kF.mpr ⟨b,hb,by rw[e];rfl⟩
def P9{fp}{h:Heap}{p:Addr×Obj}(hp:p∈BU fp h):p.1∈fp/\h.get? p.1=some p.2:=by
 obtain⟨b,hb,e⟩:=kF.mp hp
 cases q:h.get? b with
 |none=>rw[q]at e;cases e
 |some o=>
  rw[q]at e;have e':(b,o)=p:=Option.some.inj e;subst e';exact⟨hb,q⟩
def eL.pinned{pins σ H}{s:Shared}{fp}(I:eL X pins σ H s)(hf:∀b∈fp,DI X pins H b)(ho:∀b∈fp,∃o,s.heap.get? b=some o/\∀v,o.data≠.cell v):eL X (pins++BU fp s.heap) σ H s:=
 I.pins_of λp hp=>(cK.mp hp).elim (λz=>I.pin p (dW _ z)) λz=>by
  obtain⟨hb,e⟩:=P9 z;obtain⟨f0,f1,f2,_⟩:=hf p.1 hb;obtain⟨o,e',d⟩:=ho p.1 hb;rw[e]at e';cases e';exact⟨e,f0,f1,f2,d⟩
def eL.unpinned{pins pl σ H s}(I:eL X (pins++pl) σ H s):eL X pins σ H s:=I.pins_of λp hp=>I.pin p (dW _ (fV _ hp))
def F1{iter body wi g tb pos}(hp:PassesOwn (model X.prog X.w) X.A X.env X.xe)(hc:X.calm=true)(hi:PI X tg iter wi)(hg:PG X tg g)(hb:CW X body tb)
  (hs:∀x,foldedSetIterable iter X.env x=pure x:=by intro _;rfl):PS X (.For tg iter body [] pos) (SF wi g tb):=by
 intro pins s σ H D I h;refine wpAny_For (jO (hi pins s σ H _ I h) λv s1 h1=>jO h1 λitv s2 h2=>?_) hs;obtain⟨it,fp,tn,J,H2,e,I2,T,st2,f2,W,⟨m0,w0⟩,turn⟩:=h2;subst e
 -- what stays true of the iterator's objects through the loop
 have stat:∀{H':Hp},(∀b∈fp,H' b=none)->∀b∈fp,DI X pins H' b:=λhn b hb=>⟨hn b hb,(f2 b hb).2⟩;refine codeAny_forLoop_any (λn s'=>∃i σ' H',eL X pins σ' H' s'/\tn i s'.heap/\(∀b∈fp,H' b=none)/\W i n σ' H') ?_ m0 ⟨0,σ,H2,I2,st2,λb hb=>(f2 b hb).1,w0⟩;rintro n s3 ⟨i,σ3,H3,I3,st3,fr3,w3⟩;rcases turn i n σ3 H3 w3 with⟨stop,qn⟩ | ⟨go,N,hN,step⟩
 ·refine wpAny_passesOwn hp (jO (T.done X rfl rfl rfl hc i pins s3 σ3 H3 X.xe I3 (stat fr3) st3 stop) λr s4 zq=>?_);obtain⟨hr,I4⟩:=zq;subst hr;exact wpAny_execs_nil ⟨σ3,H3,I4,qn⟩
 ·refine wpAny_passesOwn hp (jO (T.item X rfl rfl rfl hc i pins s3 σ3 H3 X.xe I3 (stat fr3) st3 go) λr s4 zq=>?_);obtain⟨u,hr,h4⟩:=zq;subst hr;refine wpAny_passesOwn hp (jO h4 λ_ s5 zq=>?_);obtain⟨x,H5,I5,r5,y5,st5,fr5⟩:=zq;have I5':=I5.pinned (stat fr5) (T.obj _ _ st5);refine wpAny_passesOwn hp (jO (hg _ s5 σ3 H5 x u _ I5' r5 (step x H5 y5)) λ_ s6 zq=>?_);obtain⟨σ6,H6,I6,q6⟩:=zq;refine wpAny_passesOwn hp (jO (hb _ s6 σ6 H6 _ I6 q6) λf s7 q7=>?_)
  have again:∀{σ7:St}{H7:Hp},eL X (pins++BU fp s5.heap) σ7 H7 s7->N σ7 H7->∃m,m<n/\∃i σ' H',eL X pins σ' H' s7/\tn i s7.heap/\(∀b∈fp,H' b=none)/\W i m σ' H':=λ{σ7 H7} I7 n7=>by
   obtain⟨m',hm,w7⟩:=hN σ7 H7 n7;refine⟨m',hm,i+1,σ7,H7,I7.unpinned,T.keep _ _ _ st5 λb hb o e=>(I7.pin (b,o) (dW _ (dW _ (rX hb e)))).1,λb hb=>?_,w7⟩;obtain⟨o,e,d⟩:=T.obj _ _ st5 b hb;exact(I7.pin (b,o) (dW _ (dW _ (rX hb e)))).2.1
  cases f with
  |next=>obtain⟨σ7,H7,I7,n7⟩:=q7;exact again I7 n7
  |cont=>obtain⟨σ7,H7,I7,n7⟩:=q7;exact again I7 n7
  |brk=>obtain⟨σ7,H7,I7,q7⟩:=q7;exact⟨σ7,H7,I7.unpinned,q7⟩
  |ret v=>obtain⟨x7,σ7,H7,I7,r7,q7⟩:=q7;exact⟨x7,σ7,H7,I7.unpinned,r7,q7⟩
end
abbrev R2:=V->V->Hp->VK->Prop
def nS(X:Cx)(f:Value->Value->Sem Value)(r:R2):Prop:=
 ∀pins s σ H(x y:V)(v u:Value)Q,eL X pins σ H s->gB x v->gB y u->r x y H Q ->
  wpAny (model X.prog X.w) X.A (f v u) (EP X pins σ Q) X.xe s
def UnR(X:Cx)(f:Value->Sem Value)(r:V->Hp->VK->Prop):Prop:=
 ∀pins s σ H(x:V)(v:Value)Q,eL X pins σ H s->gB x v->r x H Q ->
  wpAny (model X.prog X.w) X.A (f v) (EP X pins σ Q) X.xe s
def jE(X:Cx)(f:Value)(r:List V->Hp->VK->Prop):Prop:=
 ∀pins s σ H(xs:List V)(us:List Value)Q,eL X pins σ H s->fS xs us->r xs H Q ->
  wpAny (model X.prog X.w) X.A (call f us) (EP X pins σ Q) X.xe s
def tOp(r:R2)(ta tb:TE):TE:=λσ H Q=>ta σ H λx H1=>tb σ H1 λy H2=>r x y H2 Q
def tUn(r:V->Hp->VK->Prop)(ta:TE):TE:=λσ H Q=>ta σ H λx H1=>r x H1 Q
def rI(C:Int->Int->Prop)(g:Int->Int->V):R2:=λx y H Q=>∃i j,x=.int i/\y=.int j/\C i j/\Q (g i j) H
def TB(g:Int->Int->V):R2:=λx y H Q=>∃i j,x=.int i/\y=.int j/\Q (g i j) H
def rU(g:Int->V):V->Hp->VK->Prop:=λx H Q=>∃i,x=.int i/\Q (g i) H
section
variable{X:Cx}{a b:Expr}{ta tb:TE}{pos:Pos}
def aF8(ha:PE X a ta)(hb:PE X b tb){pins s σ H}{R:V->V->Hp->Prop}(I:eL X pins σ H s)
  (h:ta σ H λx H1=>tb σ H1 λy H2=>R x y H2) {Q:Value->Shared->Prop} {f:Value->Value->Sem Value}
  (hf:∀v u s2 x y H2,eL X pins σ H2 s2->gB x v->gB y u->R x y H2->wpAny (model X.prog X.w) X.A (f v u) Q X.xe s2) :
  wpAny (model X.prog X.w) X.A (eval a X.env) (λv s₁=>wpAny (model X.prog X.w) X.A (eval b X.env) (λu s₂=>wpAny (model X.prog X.w) X.A (f v u) Q X.xe s₂) X.xe s₁) X.xe s:=by
 refine jO (ha pins s σ H _ I h) λv s1 zq=>?_;obtain⟨x,H1,I1,r1,q1⟩:=zq;refine jO (hb pins s1 σ H1 _ I1 q1) λu s2 zq=>?_;obtain⟨y,H2,I2,r2,q2⟩:=zq;exact hf v u s2 x y H2 I2 r1 r2 q2
def NZ{op r}(ho:nS X (binaryOp op) r)(ha:PE X a ta)(hb:PE X b tb):PE X (.BinOp a op b pos) (tOp r ta tb):=by
 intro pins s σ H Q I h;exact wpAny_BinOp (aF8 ha hb I h λv u s2 x y H2 I2 rx ry q=>ho pins s2 σ H2 x y v u Q I2 rx ry q)
def aIb{op}{r:V->Hp->VK->Prop}(ho:UnR X (unaryOp op) r)(ha:PE X a ta):PE X (.UnaryOp op a pos) (tUn r ta):=by
 intro pins s σ H Q I h;exact UnaryOp_ (jO (ha pins s σ H _ I h) λv s1 ⟨x,H1,I1,r1,q1⟩=>ho pins s1 σ H1 x v Q I1 r1 q1)
def opI{f:Value->Value->Sem Value}{C:Int->Int->Prop}{g:Int->Int->Int}
  (rule:∀(i j:Int)(t u:Tok)(s:Shared)Q E,C i j->Q (.int (g i j) s.toks) { s with toks:=s.toks+1 }->wpAny (model X.prog X.w) X.A (f (.int i t) (.int j u)) Q E s) :
  nS X f (rI C λi j=>.int (g i j)):=by
 intro pins s σ H x y v u Q I rx ry h;obtain⟨i,j,rfl,rfl,hc,q⟩:=h;obtain⟨t,rfl⟩:=rx;obtain⟨t',rfl⟩:=ry;exact rule i j t t' s _ _ hc ⟨.int (g i j),H,I.tok _,⟨_,rfl⟩,q⟩
def aIe{f:Value->Value->Sem Value}{g:Int->Int->Int}
  (rule:∀(i j:Int)(t u:Tok)(s:Shared)Q E,Q (.int (g i j) s.toks) { s with toks:=s.toks+1 }->wpAny (model X.prog X.w) X.A (f (.int i t) (.int j u)) Q E s) :
  nS X f (TB λi j=>.int (g i j)):=by
 intro pins s σ H x y v u Q I rx ry h;obtain⟨i,j,rfl,rfl,q⟩:=h;obtain⟨t,rfl⟩:=rx;obtain⟨t',rfl⟩:=ry;exact rule i j t t' s _ _ ⟨.int (g i j),H,I.tok _,⟨_,rfl⟩,q⟩
def YK{f:Value->Value->Sem Value}{g:Int->Int->Bool}
  (rule:∀(i j:Int)(t u:Tok)s Q E,Q (.bool (g i j)) s->wpAny (model X.prog X.w) X.A (f (.int i t) (.int j u)) Q E s) :
  nS X f (TB λi j=>.bl (g i j)):=by
 intro pins s σ H x y v u Q I rx ry h;obtain⟨i,j,rfl,rfl,q⟩:=h;obtain⟨t,rfl⟩:=rx;obtain⟨t',rfl⟩:=ry;exact rule i j t t' s _ _ ⟨.bl (g i j),H,I,rfl,q⟩
def aNg(i j:Int):Prop:=0<j/\j<1073741824
def WP(i j:Int):Prop:=0<=j/\j<=1000000/\i.natAbs<2^64
def MT(i j:Int):Prop:=(-(2^64)<i/\i<2^64)\/(-(2^64)<j/\j<2^64)
def MT.ok{i j:Int}(h:MT i j):IntMulOk i j:=by
 rcases h with⟨h1,h2⟩ | ⟨h1,h2⟩
 ·exact .of_left (intBits_le_64 h1 h2)
 ·exact .of_right (intBits_le_64 h1 h2)
def aE5:nS X (binaryOp .Add) (TB λi j=>.int (i+j)):=aIe λ_ _ _ _ _ _ _ q=>add_int q
def lW:nS X (binaryOp .Sub) (TB λi j=>.int (i-j)):=aIe λ_ _ _ _ _ _ _ q=>sub_int q
def aE0:nS X (binaryOp .Mult) (rI MT λi j=>.int (i*j)):=opI λ_ _ _ _ _ _ _ hc q=>mul_int q hc.ok
def A0:nS X (binaryOp .FloorDiv) (rI aNg λi j=>.int (i / j)):=opI λi j _ _ _ _ _ hc q=>by
 have h1:(0:Int)<j:=hc.1;have h2:j<1073741824:=hc.2;exact floordiv_int (by omega) (by rw[Int.fdiv_eq_ediv_of_nonneg i (by omega)];exact q) (.inl (PyProof.noPylong_small (by omega)))
def kO:nS X (binaryOp .Mod) (rI (λ_ j=>0<j) λi j=>.int (i%j)):=opI λi j _ _ _ _ _ hc q=>by
 have h1:(0:Int)<j:=hc;exact mod_int' (by omega) (by rw[Int.fmod_eq_emod_of_nonneg i (by omega)];exact q)
def LE:nS X (binaryOp .Pow) (rI WP λi j=>.int (i^j.toNat)):=opI λ_ _ _ _ _ _ _ hc q=>pow_int_small hc.1 hc.2.1 hc.2.2 q
def unI{f:Value->Sem Value}{g:Int->Int}
  (rule:∀(i:Int)(t:Tok)(s:Shared)Q E,Q (.int (g i) s.toks) { s with toks:=s.toks+1 }->wpAny (model X.prog X.w) X.A (f (.int i t)) Q E s) :
  UnR X f (rU λi=>.int (g i)):=by
 intro pins s σ H x v Q I rx h;obtain⟨i,rfl,q⟩:=h;obtain⟨t,rfl⟩:=rx;exact rule i t s _ _ ⟨.int (g i),H,I.tok _,⟨_,rfl⟩,q⟩
def aDu:UnR X (unaryOp .USub) (rU λi=>.int (-i)):=unI λ_ _ _ _ _ q=>neg_int q
end
noncomputable def aHj:V->V->Bool
|.non,.non=>true | .non,.int _=>true | .int _,.non=>true | .non,.bl _=>true | .bl _,.non=>true | .non,.str _=>true | .str _,.non=>true
|.int _,.int _=>true | .bl _,.bl _=>true | .str _,.str _=>true | .byt _,.byt _=>true
|.int _,.str _=>true | .str _,.int _=>true | .bl _,.str _=>true | .str _,.bl _=>true
|_,_=>false
def rEq:R2:=λx y H Q=>aHj x y=true/\Q (.bl (decide (x=y))) H
def Z2{i j:Int}:decide (V.int i=V.int j)=(i==j):=by
 rw[gH];simp
def aFz{i j:Bool}:decide (V.bl i=V.bl j)=(i==j):=by
 rw[gH];simp
def Z1{i j}:decide (V.str i=V.str j)=(i==j):=by
 rw[gH];simp
def Z3{i j:Array UInt8}:decide (V.byt i=V.byt j)=(i.toList==j.toList):=by
 rw[gH];cases i;cases j;simp
section
variable{X:Cx}{a b c:Expr}{ta tb tc:TE}{pos:Pos}
def kH{pins σ H s Q}{k k':Bool}(I:eL X pins σ H s)(q:Q (.bl k) H)(e:k=k'):EP X pins σ Q (.bool k') s:=by
 subst e;exact⟨.bl k,H,I,rfl,q⟩
def jM:nS X (compareOp .Eq) rEq:=by
 intro pins s σ H x y v u Q I rx ry h;obtain⟨hs,q⟩:=h
 cases x with
 |non=>
  cases rx
  cases y with
  |non=>cases ry;exact PySem.EqNone.eq_none_none (kH I q (by simp))
  |bl j=>cases ry;exact PySem.EqNone.eq_none_bool (kH I q (by simp))
  |int j=>obtain⟨t',rfl⟩:=ry;exact PySem.EqNone.eq_none_int (kH I q (by simp))
  |str j=>obtain⟨t',rfl⟩:=ry;exact PySem.EqNone.eq_none_str (kH I q (by simp))
  |_=>exact absurd (show false=true from hs) bE
 |bl i=>
  cases rx
  cases y with
  |non=>cases ry;exact PySem.EqNone.eq_bool_none (kH I q (by simp))
  |bl j=>cases ry;exact eq_bool (kH I q aFz)
  |str j=>obtain⟨t',rfl⟩:=ry;exact PySem.EqMixed.eq_bool_str (kH I q (by simp))
  |_=>exact absurd (show false=true from hs) bE
 |int i=>
  obtain⟨t,rfl⟩:=rx
  cases y with
  |non=>cases ry;exact PySem.EqNone.eq_int_none (kH I q (by simp))
  |int j=>obtain⟨t',rfl⟩:=ry;exact eq_int (kH I q Z2)
  |str j=>obtain⟨t',rfl⟩:=ry;exact PySem.EqMixed.eq_int_str (kH I q (by simp))
  |_=>exact absurd (show false=true from hs) bE
 |str i=>
  obtain⟨t,rfl⟩:=rx
  cases y with
  |non=>cases ry;exact PySem.EqNone.eq_str_none (kH I q (by simp))
  |bl j=>cases ry;exact PySem.EqMixed.eq_str_bool (kH I q (by simp))
  |int j=>obtain⟨t',rfl⟩:=ry;exact PySem.EqMixed.eq_str_int (kH I q (by simp))
  |str j=>obtain⟨t',rfl⟩:=ry;exact eq_str (kH I q Z1)
  |_=>exact absurd (show false=true from hs) bE
 |byt i=>
  obtain⟨t,rfl⟩:=rx
  cases y with
  |byt j=>obtain⟨t',rfl⟩:=ry;exact PySem.W.eq_bytes (kH I q Z3)
  |_=>exact absurd (show false=true from hs) bE
 |_=>cases y<;>exact absurd (show false=true from hs) bE
def aCr:nS X (compareOp .Lt) (TB λi j=>.bl (decide (i<j))):=YK λ_ _ _ _ _ _ _ q=>lt_int q
def D7:nS X (compareOp .LtE) (TB λi j=>.bl (decide (i<=j))):=YK λ_ _ _ _ _ _ _ q=>le_int q
def zL:nS X (compareOp .Gt) (TB λi j=>.bl (decide (j<i))):=YK λ_ _ _ _ _ _ _ q=>gt_int q
def IM:nS X (compareOp .GtE) (TB λi j=>.bl (decide (j<=i))):=YK λ_ _ _ _ _ _ _ q=>ge_int q
def P5:nS X (compareOp .In) (λx y H Q=>∃i j,x=.str i/\y=.str j/\Q (.bl (!(Builtin.Str.occurrences j i 0 j.length 1).isEmpty)) H):=by
 intro pins s σ H x y v u Q I rx ry h;obtain⟨i,j,rfl,rfl,q⟩:=h;obtain⟨t,rfl⟩:=rx;obtain⟨t',rfl⟩:=ry;exact in_str (kH I q rfl)
def aE1:nS X (compareOp .Is) (λx y H Q=>y=.non/\Q (.bl (decide (x=.non))) H):=by
 intro pins s σ H x y v u Q I rx ry h;obtain⟨rfl,q⟩:=h;cases ry;refine is_none_gen (kH I q ?_)
 cases x<;>first
  | (cases rx;rfl)
  | (obtain⟨t,rfl⟩:=rx;rfl)
def YI:nS X (compareOp .IsNot) (λx y H Q=>y=.non/\Q (.bl (!decide (x=.non))) H):=by
 intro pins s σ H x y v u Q I rx ry h;obtain⟨rfl,q⟩:=h;cases ry;refine isnot_none_gen (kH I q ?_)
 cases x<;>first
  | (cases rx;rfl)
  | (obtain⟨t,rfl⟩:=rx;rfl)
def nS.or{f:Value->Value->Sem Value}{r r':R2}(h:nS X f r)(h':nS X f r'):nS X f (λx y H Q=>r x y H Q\/r' x y H Q):=by
 intro pins s σ H x y v u Q I rx ry q;rcases q with q | q
 ·exact h pins s σ H x y v u Q I rx ry q
 ·exact h' pins s σ H x y v u Q I rx ry q
def F5(b:Expr){op}(h:op≠.In:=by decide)(h2:op≠.NotIn:=by decide):behindInMarks op b=false:=by
 have e1:(op==CmpOp.In)=false:=by cases op<;>first | rfl | exact absurd rfl h
 have e2:(op==CmpOp.NotIn)=false:=by cases op<;>first | rfl | exact absurd rfl h2
 cases b<;>simp[behindInMarks,e1,e2]
def YG{op r}(ho:nS X (compareOp op) r)(ha:PE X a ta)(hb:PE X b tb)(hm:behindInMarks op b=false):PE X (.Compare a [op] [b] pos) (tOp r ta tb):=by
 intro pins s σ H Q I h;exact wpAny_Compare1 (aF8 ha hb I h λv u s2 x y H2 I2 rx ry q=>ho pins s2 σ H2 x y v u Q I2 rx ry q) hm
def aG4(t:TE):TT:=λσ H Q=>t σ H λx H'=>∃k,x=.bl k/\Q k H'
def F0{op r}(ho:nS X (compareOp op) r)(ha:PE X a ta)(hb:PE X b tb)(hm:behindInMarks op b=false):PT X (.Compare a [op] [b] pos) (aG4 (tOp r ta tb)):=by
 intro pins s σ H Q I h
 refine wpAny_isTrue_Compare1 (jO (ha pins s σ H _ I h) λv s1 ⟨x,H1,I1,r1,q1⟩=>jO (hb pins s1 σ H1 _ I1 q1) λu s2 ⟨y,H2,I2,r2,q2⟩=>
  jO (ho pins s2 σ H2 x y v u _ I2 r1 r2 q2) λc s3 ⟨z,H3,I3,r3,k,e,q3⟩=>?_) hm
 subst e;cases r3;exact wpAny_truthy_bool ⟨H3,I3,q3⟩
def SG(r r':R2)(ta tb tc:TE):TE:=λσ H Q=>ta σ H λx H1=>tb σ H1 λy H2=>r x y H2 λz H3=>∃k,z=.bl k /\
 (if k=true then tc σ H3 λw' H4=>r' y w' H4 Q else Q (.bl false) H3)
def T3{op op' r r'}(ho:nS X (compareOp op) r)(ho':nS X (compareOp op') r')(ha:PE X a ta)(hb:PE X b tb)(hc:PE X c tc)
  (hm:lastMarks [op,op'] [b,c]=false:=by with_unfolding_all rfl):PE X (.Compare a [op,op'] [b,c] pos) (SG r r' ta tb tc):=by
 intro pins s σ H Q I h
 refine Compare_chain (jO (ha pins s σ H _ I h) λv s1 ⟨x,H1,I1,r1,q1⟩=>chain_link (jO (hb pins s1 σ H1 _ I1 q1) λu s2 ⟨y,H2,I2,r2,q2⟩=>
  jO (ho pins s2 σ H2 x y v u _ I2 r1 r2 q2) λd s3 ⟨z,H3,I3,r3,k,e,q3⟩=>?_)) hm
 subst e;cases r3;refine wpAny_truthy_bool ?_
 cases k with
 |false=>exact ite_ff ⟨.bl false,H3,I3,rfl,q3⟩
 |true=>exact ite_tt (chain_last (jO (hc pins s3 σ H3 _ I3 q3) λw' s4 ⟨z',H4,I4,r4,q4⟩=>ho' pins s4 σ H4 y z' u w' Q I4 r2 r4 q4))
def B0:(bL:Nat)<2^63:=by rw[sizeLine_eq];decide
def LH:nS X (binaryOp .Add) (λx y H Q=>∃i j,x=.str i/\y=.str j/\i.length+j.length<=bL/\Q (.str (i++j)) H):=by
 intro pins s σ H x y v u Q I rx ry h;obtain⟨i,j,rfl,rfl,hz,q⟩:=h;obtain⟨t,rfl⟩:=rx;obtain⟨t',rfl⟩:=ry;exact add_str (λt' tk=>⟨.str (i++j),H,I.tok _,⟨_,rfl⟩,q⟩) hz
def nM{x us}(r:fS [x] us):∃u,us=[u]/\gB x u:=by
 cases r with
 |cons r1 r2=>cases r2;exact⟨_,rfl,r1⟩
def M0{x y us}(r:fS [x,y] us):∃u w',us=[u,w']/\gB x u/\gB y w':=by
 cases r with
 |cons r1 r2=>
  cases r2 with
  |cons r3 r4=>cases r4;exact⟨_,_,rfl,r1,r3⟩
def EY(hc:X.calm=true):jE X (.builtin "max") (λxs H Q=>∃i j,xs=[.int i,.int j]/\Q (.int (if j>i then j else i)) H):=by
 intro pins s σ H xs us Q I r h;obtain⟨i,j,rfl,q⟩:=h;obtain⟨u,w',rfl,⟨t,rfl⟩,⟨t',rfl⟩⟩:=M0 r;refine max_two_ints (I.ok.hd hc) λh' tk k=>⟨_,H,I.kept k,?_,q⟩;by_cases hj:j>i
 ·rw[if_pos hj,if_pos hj];exact⟨_,rfl⟩
 ·rw[if_neg hj,if_neg hj];exact⟨_,rfl⟩
def EW(hc:X.calm=true):jE X (.builtin "min") (λxs H Q=>∃i j,xs=[.int i,.int j]/\Q (.int (if j<i then j else i)) H):=by
 intro pins s σ H xs us Q I r h;obtain⟨i,j,rfl,q⟩:=h;obtain⟨u,w',rfl,⟨t,rfl⟩,⟨t',rfl⟩⟩:=M0 r;refine min_two_ints (I.ok.hd hc) λh' tk k=>⟨_,H,I.kept k,?_,q⟩;by_cases hj:j<i
 ·rw[if_pos hj,if_pos hj];exact⟨_,rfl⟩
 ·rw[if_neg hj,if_neg hj];exact⟨_,rfl⟩
end
structure MN(h:Heap)(x dx C:Addr)(mA:Str->Option Value):Prop where
 obj:h.get? x=some (jB C dx)
 ns:h.Ns1 dx mA
 ne:dx≠x
def QI{h:Heap}{dx:Addr}{mA:Str->Option Value}(n:h.Ns1 dx mA):∃od,h.get? dx=some od/\∀name,tW name od=some (mA name):=by
 obtain⟨o,es,ep,ho,hd,hk,_,hm⟩:=n;refine⟨o,ho,λname=>?_⟩;have e:=hm name;unfold nsFind findBy at e;rw[<- Array.find?_toList]at e;unfold tW;rw[hd];dsimp only;split
 ·rename_i y q;rw[q]at e;exact congrArg some e
 ·rename_i q;rw[q]at e
  have a:es.toList.any (·.refKey)=false:=by
   rw[List.any_eq_false];intro y hy;obtain⟨z,t,hkey⟩:=hk y (uY.mp hy);simp[DictEntry.refKey,hkey]
  have a':¬es.toList.any (·.refKey)=true:=by rw[a];exact bE
  rw[if_neg a'];exact congrArg some e
def MN.look{h}{x dx C:Addr}{mA:Str->Option Value}(I:MN h x dx C mA):∃od,kR h x (jB C dx) C (some od)/\∀name,tW name od=some (mA name):=
 let ⟨od,ho,hl⟩:=QI I.ns
 ⟨od,⟨I.obj,rfl,rfl,ho⟩,hl⟩
section
variable{prog:bX}{w:World}{A:Around}{E:Value->Shared->Prop}{s:Shared}{K:aL}{x dx C f:Addr}{mA:Str->Option Value}{name:Str}{v:Value}
def ZC{expr:Bool}{Q:Value->Shared->Prop}(X:K.In s.heap)(I:MN s.heap x dx C mA)(hg:rA K C name=true)(hh:xU K C=true)
  (ha:fF K (.ref C) name=some none) (hv:mA name=some v) (hv':RK v=true) (h:Q v { s with toks:=s.toks+1 }) :
  wpAny (model prog w) A (getAttr (.ref x) name expr) Q E s:=by
 obtain⟨od,J,hl⟩:=I.look;exact PySem.W.get_value X J (uW hg).1 (PySem.W.findObj_own hh ha rfl (by rw[hl,hv])) hv' h
def VF{pl}{Q:Value×List Value->Shared->Prop}(X:K.In s.heap)(I:MN s.heap x dx C mA)(hg:rA K C name=true)
  (hf:fF K (.ref C) name=some (some (.ref f))) (ht:G3 K (.ref f)=true) (hv:mA name=none) (h:Q (.ref f,[.ref x]) s) :
  wpAny (model prog w) A (getMethod (.ref x) name pl) Q E s:=by
 obtain⟨od,J,hl⟩:=I.look;exact PySem.W.method_fn X J (uW hg).1 (uW hg).2 hf (beq_iff_eq.mp ht) (by show(tW name od).map (·.isSome)=some false;rw[hl,hv];rfl) h
def XU{ns:List Str}{Q:Unit->Shared->Prop}(X:K.In s.heap)(I:MN s.heap x dx C mA)
  (hs:fF K (.ref C) "__setattr__"=some (some (.builtin "object.__setattr__"))) (hp:O5 K C=true) (ht:AK K C name=some none) (hh:xU K C=true)
  (hw:PySem.Within mA ns) (hsz:ns.length<=bL)
  (h:∀h',MN h' x dx C (λy=>if y=name then some v else mA y)->cV dx s.heap h'->Q () { s with heap:=h',toks:=s.toks+2 }) :
  wpAny (model prog w) A (setAttr (.ref x) name v) Q E s:=by
 obtain⟨od,J,hl⟩:=I.look;refine PySem.W.set_plain X J hs (PySem.W.osa_open (s:={ s with toks:=s.toks+1 }) (r:=none) X J hp ht λb=>?_);obtain⟨cd,hc,hd'⟩:=PySem.W.any_some hh;have hx:s.heap.get? x=some ⟨.ref C,some dx,.plain,#[]⟩:=I.obj;refine aA (aE (aA (aA (wpAny_loadPart hx (aA (PySem.W.Looks.here (s:={ s with toks:=s.toks+1 }) (PySem.W.looks_clsIn X hc) ?_))))));rw[hd'];refine aE (a:=some dx) (aA (aE (aA ?_)));refine wpAny_nsSet1 (s:={ s with toks:=s.toks+1 }) I.ns λh' hn2 hs2=>?_;obtain⟨oD,esD,epD,hoD,hdD,hcD⟩:=hn2.count (PySem.Within.cons name v hw);refine aA (wpAny_lookBehind hoD (by rw[hdD];exact pastItsLine_dict (cI hcD (by rw[cU];omega))) ?_);exact aE (h _ ⟨(hs2.2 _ (Ne.symm I.ne)).trans I.obj,hn2,I.ne⟩ hs2)
def UN{R:Result->Shared->Prop}{vs kw}(X:K.In s.heap)(hm:RY K C=true)
  (hi:fF K (.ref C) "__init__"=some (some (.ref f))) (hf:PySem.W.typeIn K (.ref f)=some (.type "function"))
  (h:codeAny (model prog w) (A.under (.builtin "type.__call__" ⟨.ref C::vs,kw⟩)) (.call (.ref f) ⟨.ref (s.heap.objs.size+1)::vs,kw⟩) (PySem.W.InitBack (s.heap.objs.size+1) R)
   { s with heap:=(s.heap.push gW).push (jB C s.heap.objs.size) }) :
  codeAny (model prog w) A (.call (.ref C) ⟨vs,kw⟩) R s:=by
 obtain⟨hh,g,d,t,os⟩:=s;exact PySem.W.make_core (PySem.W.makes_of X hm) (nT X hi) (λself=>PySem.W.bind_fn X self hf) (.inl rfl) h
end
noncomputable def pZ(f:Str)(v:V):List (Str×V)->List (Str×V)
|[]=>[(f,v)]
| (g,x)::r=>if g=f then(g,v)::r else(g,x)::pZ f v r
theorem zM(f g:Str)(v:V):∀fs:List (Str×V),(pZ f v fs).lookup g=if g=f then some v else fs.lookup g
|[]=>by
 show oJ g [(f,v)]=_;by_cases h:g=f
 ·have hb:(g==f)=true:=beq_iff_eq.mpr h;simp only[oJ,hb,if_pos h]
 ·have hb:(g==f)=false:=beq_eq_false_iff_ne.mpr h;simp only[oJ,hb,if_neg h]
| (k,x)::r=>by
 have ih:=zM f g v r;rw[show pZ f v ((k,x)::r)=(if k=f then(k,v)::r else(k,x)::pZ f v r)from rfl];by_cases hk:k=f
 ·rw[if_pos hk];by_cases h:g=k
  ·have hb:(g==k)=true:=beq_iff_eq.mpr h;simp only[oJ,hb,if_pos (h.trans hk)]
  ·have hb:(g==k)=false:=beq_eq_false_iff_ne.mpr h;simp only[oJ,hb,if_neg (λe:g=f=>h (e.trans hk.symm))]
 ·rw[if_neg hk];by_cases h:g=k
  ·have hb:(g==k)=true:=beq_iff_eq.mpr h;simp only[oJ,hb,if_neg (λe:g=f=>hk (h.symm.trans e))]
  ·have hb:(g==k)=false:=beq_eq_false_iff_ne.mpr h;simp only[oJ,hb];exact ih
theorem yJ(f:Str)(v:V):∀fs:List (Str×V),f∈(pZ f v fs).map (·.1)/\∀g,g∈fs.map (·.1)->g∈(pZ f v fs).map (·.1)
|[]=>⟨by simp[pZ],λg h=>by simp at h⟩
| (k,x)::r=>by
 obtain⟨i1,i2⟩:=yJ f v r;rw[show pZ f v ((k,x)::r)=(if k=f then(k,v)::r else(k,x)::pZ f v r)from rfl];by_cases hk:k=f
 ·rw[if_pos hk];subst hk;exact⟨by simp,λg h=>by simpa using h⟩
 ·rw[if_neg hk];refine⟨?_,λg h=>?_⟩
  ·rw[aX];exact aM _ i1
  ·rw[aX]at h |-
   rcases bH.mp h with e | e
   ·exact bH.mpr (.inl e)
   ·exact aM _ (i2 g e)
theorem zR(f:Str)(v:V):∀fs:List (Str×V),(pZ f v fs).length<=fs.length+1
|[]=>by simp[pZ]
| (k,x)::r=>by
 have ih:=zR f v r;rw[show pZ f v ((k,x)::r)=(if k=f then(k,v)::r else(k,x)::pZ f v r)from rfl];by_cases hk:k=f
 ·rw[if_pos hk,cU,cU];omega
 ·rw[if_neg hk,cU,cU];omega
def uV.some_of{v o}(r:uV (some v) o):∃u,o=some u/\gB v u:=by
 cases o with
 |none=>exact(show False from r).elim
 |some u=>exact⟨u,rfl,r⟩
def uV.none_of{o}(r:uV none o):o=none:=by
 cases o with
 |none=>rfl
 |some u=>exact(show False from r).elim
def QW{v u}(r:gB v u):RK u=true:=by
 cases v with
 |non=>cases (show u=Value.none from r);rfl
 |bl b=>cases (show u=Value.bool b from r);rfl
 |int i=>obtain⟨t,e⟩:=(show∃t,u=Value.int i t from r);cases e;rfl
 |str x=>obtain⟨t,e⟩:=(show∃t,u=Value.str x t from r);cases e;rfl
 |byt b=>obtain⟨t,e⟩:=(show∃t,u=Value.bytes b t from r);cases e;rfl
 |flt b=>obtain⟨t,e⟩:=(show∃t,u=Value.float b t from r);cases e;rfl
 |ref a=>cases (show u=Value.ref a from r);rfl
 |ty n=>cases (show u=Value.type n from r);rfl
section
variable{P:bX}{w:World}{H:Hp}{h:Heap}{a C dx:Addr}{fs:List (Str×V)}
def A3(hok:wD P w H h)(e:H a=some (.ins C dx fs)):∃mA,MN h a dx C mA/\(∀f,uV (fs.lookup f) (mA f))/\PySem.Within mA (fs.map (·.1))/\fs.length<=1000/\H dx=some (.own a):=by
 obtain⟨d,z,ne,ob,mA,n,r,q⟩:=(show iN P w H h a (.ins C dx fs)from hok a _ e);exact⟨mA,⟨ob,n,ne⟩,r,q,z,d⟩
end
structure RX(K:aL)(C:Addr):Prop where
 pg:rA K C Str.empty=true
 hd:xU K C=true
 po:O5 K C=true
 sa:fF K (.ref C) "__setattr__"=some (some (.builtin "object.__setattr__"))
def RX.get{K}{C:Addr}(c:RX K C)(f:Str):rA K C f=true:=c.pg
def mS(K:aL)(C:Addr)(f:Str):Prop:=fF K (.ref C) f=some none
def mS.taker{K}{C:Addr}{f}(n:mS K C f):AK K C f=some none:=by
 unfold AK;rw[show fF K (.ref C) f=some none from n]
 rfl
structure aAl(K:aL)(C:Addr)(m:Str)(f:Addr):Prop where
 at_:fF K (.ref C) m=some (some (.ref f))
 fn:G3 K (.ref f)=true
 kp:gU K (.ref f)=true
section
variable{X:Cx}{pins:List (Addr×Obj)}{σ:St}{H:Hp}{s:Shared}{a C dx:Addr}{fs:List (Str×V)}{f:Str}{v:V}{A:Around}{E:Value->Shared->Prop}
def LX{b:Bool}{Q:Value->Shared->Prop}(I:eL X pins σ H s)(e:H a=some (.ins C dx fs))(c:RX X.K C)(n:mS X.K C f)(l:fs.lookup f=some v)
  (h:∀u s',eL X pins σ H s'->gB v u->Q u s'):wpAny (model X.prog X.w) A (getAttr (.ref a) f b) Q E s:=by
 obtain⟨mA,O,r,_,_,_⟩:=A3 I.hok e;obtain⟨u,hu,ru⟩:=uV.some_of (v:=v) (o:=mA f) (by rw[<- l];exact r f);exact ZC I.kIn O (c.get f) c.hd n hu (QW ru) (h u _ (I.tok _) ru)
def LW{m}{g:Addr}{pl}{Q:Value×List Value->Shared->Prop}(I:eL X pins σ H s)(e:H a=some (.ins C dx fs))(c:RX X.K C)(k:aAl X.K C m g)(l:fs.lookup m=none)
  (h:Q (.ref g,[.ref a]) s):wpAny (model X.prog X.w) A (getMethod (.ref a) m pl) Q E s:=by
 obtain⟨mA,O,r,_,_,_⟩:=A3 I.hok e;have hn:mA m=none:=uV.none_of (by rw[<- l];exact r m);exact VF I.kIn O (c.get m) k.at_ k.fn hn h
def KY{y u}{Q:Unit->Shared->Prop}(I:eL X pins σ H s)(e:H a=some (.ins C dx fs))(c:RX X.K C)(n:mS X.K C f)(hl:fs.length<1000)(ry:gB y u)
  (h:∀s',eL X pins σ (gO H a (.ins C dx (pZ f y fs))) s'->Q () s'):wpAny (model X.prog X.w) A (setAttr (.ref a) f u) Q E s:=by
 obtain⟨mA,O,r,wi,_,ho⟩:=A3 I.hok e;have hz:(fs.map (·.1)).length<=bL:=by rw[aB,sizeLine_eq];omega
 refine XU I.kIn O c.sa c.po n.taker c.hd wi hz λh' O' sb=>h _ ?_;have hd:∃o,h'.get? dx=some o:=let ⟨o,_,_,e',_⟩:=O'.ns;⟨o,e'⟩
 refine I.write (x:=a) (e:=dx) (by rw[e];exact True.intro) (.inr ho) (λb q hb z=>(sb.2 b hb).trans z) hd ?_;refine⟨by rw[dA O.ne];exact ho,?_,O.ne,O'.obj,_,O'.ns,λg=>?_,λg hg=>?_⟩
 ·have:=zR f y fs;omega
 ·show uV ((pZ f y fs).lookup g) (if g=f then some u else mA g);rw[zM];by_cases q:g=f
  ·rw[if_pos q,if_pos q];exact ry
  ·rw[if_neg q,if_neg q];exact r g
 ·by_cases q:g=f
  ·rw[q];exact(yJ f y fs).1
  ·refine(yJ f y fs).2 g (wi g λz=>hg ?_);show(if g=f then some u else mA g)=none;rw[if_neg q];exact z
def eL.made(I:eL X pins σ H s):eL X pins σ (gO (gO H s.heap.objs.size (.own (s.heap.objs.size+1))) (s.heap.objs.size+1) (.ins C s.heap.objs.size []))
  { s with heap:=(s.heap.push gW).push (jB C s.heap.objs.size) }:=by
 have e1:(s.heap.push gW).get? s.heap.objs.size=some gW:=aS s.heap rfl
 have e2:((s.heap.push gW).push (jB C s.heap.objs.size)).get? (s.heap.objs.size+1)=some (jB C s.heap.objs.size):=by
  have:=aS (s.heap.push gW) (o:=jB C s.heap.objs.size) rfl
  rwa [eO]at this
 have e3:(s.heap.push gW).Ns s.heap.objs.size (λ_=>none):=⟨gW,#[],_,e1,rfl,(λe he=>absurd he (by simp)),λ_=>rfl⟩;have I1:=I.laid (a:=s.heap.objs.size) (o:=.own (s.heap.objs.size+1)) (h':=s.heap.push gW) (t':=s.toks) (λb u q=>aJ _ q) (aO _) ⟨_,e1⟩;refine I1.laid (a:=s.heap.objs.size+1) (o:=.ins C s.heap.objs.size []) (t':=s.toks) (λb u q=>aJ _ q) (pO (eO _ _)) ?_;have ne:s.heap.objs.size≠s.heap.objs.size+1:=bO (eI _);refine⟨by rw[dA ne,dG],cL _,ne,e2,λ_=>none,(Heap.Ns1.of_empty e3).at λo q=>aJ _ q,λ_=>True.intro,λy hy=>absurd rfl hy⟩
def aAh{prog w env e f pos s}{Q:Value->Shared->Prop}(hb:attributeBase e f env (eval e env)=eval e env)
  (h:wpAny (model prog w) A (eval e env) (λo s₁=>wpAny (model prog w) A (getAttr o f true) Q E s₁) E s):wpAny (model prog w) A (eval (.Attribute e f pos) env) Q E s:=
 Attribute_any_ h (by rw[arm_eval_Attribute,hb])
end
def aLp(K:aL)(ta:TE)(f:Str):TE:=λσ H Q=>ta σ H λx H1=>∃a C dx fs v,x=.ref a/\H1 a=some (.ins C dx fs)/\RX K C/\mS K C f/\fs.lookup f=some v/\Q v H1
def aLv(K:aL)(ta tv:TE)(f:Str):TS:=λD σ H=>tv σ H λy H1=>ta σ H1 λx H2=>∃a C dx fs,x=.ref a/\H2 a=some (.ins C dx fs)/\RX K C/\mS K C f/\fs.length<1000 /\
 D.nx σ (gO H2 a (.ins C dx (pZ f y fs)))
section
variable{X:Cx}{o e value:Expr}{f:Str}{pos pos':Pos}{ta tv:TE}
def aEx(he:PE X e ta)(hb:attributeBase e f X.env (eval e X.env)=eval e X.env):PE X (.Attribute e f pos) (aLp X.K ta f):=by
 intro pins s σ H Q I h;refine aAh hb (jO (he pins s σ H _ I h) λu s1 zq=>?_);obtain⟨x,H1,I1,rx,a,C,dx,fs,v,ex,ea,c,n,l,q⟩:=zq;subst ex;obtain rfl:u=Value.ref a:=rx;exact LX I1 ea c n l λu' s2 I2 ru=>⟨v,H1,I2,ru,q⟩
def aEs(ha:PE X o ta)(hv:PE X value tv)(hs:iM value (some (.Attribute o f pos')) pos.line X.env=pure false):PS X (.Assign [.Attribute o f pos'] value pos) (aLv X.K ta tv f):=by
 intro pins s σ H D I h;refine plainObj_wpAny_Assign_Attribute (jO (hv pins s σ H _ I h) λu s1 ⟨y,H1,I1,ry,q⟩=>jO (ha pins s1 σ H1 _ I1 q) λov s2 zq=>?_) hs;obtain⟨x,H2,I2,rx,a,C,dx,fs,ex,ea,c,n,l,q2⟩:=zq;subst ex;obtain rfl:ov=Value.ref a:=rx;exact KY I2 ea c n l ry λs3 I3=>⟨σ,_,I3,q2⟩
end
section
variable{X:Cx}{pins:List (Addr×Obj)}{σ:St}{H:Hp}{s:Shared}{A:Around}{E:Value->Shared->Prop}{Q:Value->Shared->Prop}{c:Value}{b:Bool}
inductive AI(K:aL)(H:Hp):V->Value->Prop where
|non:AI K H .non (.type "NoneType")
|bl (x:Bool):AI K H (.bl x) (.type "bool")
|int (i:Int):AI K H (.int i) (.type "int")
|str (x:Str):AI K H (.str x) (.type "str")
|flt (x:UInt64):AI K H (.flt x) (.type "float")
|lst {a:Addr} {xs:List V} (e:H a=some (.lst xs)):AI K H (.ref a) (.type "list")
|frz {a:Addr} {o:Obj} {xs:List V} (e:H a=some (.frz o (.lst xs))):AI K H (.ref a) (.type "list")
|tup {a:Addr} {xs:List V} (e:H a=some (.tup xs)):AI K H (.ref a) (.type "tuple")
|dK {a:Addr} {kvs:List (pK×V)} (e:H a=some (.dK kvs)):AI K H (.ref a) (.type "dict")
|dT {a:Addr} {kvs:List (List pK×V)} (e:H a=some (.dT kvs)):AI K H (.ref a) (.type "dict")
|ins {a C dx:Addr} {fs:List (Str×V)} (e:H a=some (.ins C dx fs)) (cl:RX K C) (ha:fF K (.ref C) "__class__"=some (some (.builtin "object.__class__")))
  (hn:PySem.W.specialIn K (.builtin "object.__class__") "__get__"=some (some (.builtin "getset_descriptor.__get__"))) (htk:PySem.W.takesIn K (.builtin "object.__class__")=some true)
  (hm:DJ K C (.type "object")=some true):AI K H (.ref a) (.ref C)
def uH{x u t}(I:eL X pins σ H s)(rx:gB x u)(ty:AI X.K H x t)(e:kQ X.K t c=some b)(h:∀tk,Q (.bool b) { s with toks:=tk }) :
  wpAny (model X.prog X.w) A (call (.builtin "isinstance") [u,c]) Q E s:=by
 cases ty with
 |non=>cases (show u=Value.none from rx);exact eS PySem.W.kitx_none I.kIn True.intro e (λz=>nomatch z) h
 |bl y=>cases (show u=Value.bool y from rx);exact eS PySem.W.kitx_bool I.kIn True.intro e (λz=>nomatch z) h
 |int i=>obtain⟨t,q⟩:=(show∃t,u=Value.int i t from rx);cases q;exact eS PySem.W.kitx_int I.kIn True.intro e (λz=>nomatch z) h
 |str y=>obtain⟨t,q⟩:=(show∃t,u=Value.str y t from rx);cases q;exact eS PySem.W.kitx_str I.kIn True.intro e (λz=>nomatch z) h
 |flt y=>obtain⟨t,q⟩:=(show∃t,u=Value.float y t from rx);cases q;exact eS PySem.W.kitx_float I.kIn True.intro e (λz=>nomatch z) h
 |@lst a xs ea=>
  cases (show u=Value.ref a from rx);obtain⟨_,_,n,_,h1⟩:=(show iN X.prog X.w H s.heap a (.lst xs)from I.hok a _ ea);exact eS pW I.kIn ⟨_,h1,rfl⟩ e (λz=>nomatch z) h
 |@frz a ob xs ea=>
  cases (show u=Value.ref a from rx);obtain⟨_,_,_,n,_,h1⟩:=(show iN X.prog X.w H s.heap a (.frz ob (.lst xs))from I.hok a _ ea);exact eS pW I.kIn ⟨_,h1,rfl⟩ e (λz=>nomatch z) h
 |@tup a xs ea=>
  cases (show u=Value.ref a from rx);obtain⟨_,_,_,p⟩:=(show iN X.prog X.w H s.heap a (.tup xs)from I.hok a _ ea);obtain⟨o,h1,h2,_⟩:=p;exact eS MU I.kIn ⟨o,h1,h2⟩ e (λz=>nomatch z) h
 |@dK a kvs ea=>
  cases (show u=Value.ref a from rx);obtain⟨_,_,vs,_,p⟩:=(show iN X.prog X.w H s.heap a (.dK kvs)from I.hok a _ ea);obtain⟨o,es,ep,h1,h2,_⟩:=p;exact eS O6 I.kIn ⟨o,h1,h2.1⟩ e (λz=>nomatch z) h
 |@dT a kvs ea=>
  cases (show u=Value.ref a from rx);obtain⟨_,_,xs,_,o,es,ep,h1,h2,_⟩:=(show iN X.prog X.w H s.heap a (.dT kvs)from I.hok a _ ea);exact eS O6 I.kIn ⟨o,h1,h2.1⟩ e (λz=>nomatch z) h
 |@ins a C dx fs ea cl ha hn htk hm=>
  cases (show u=Value.ref a from rx);obtain⟨mA,O,_⟩:=A3 I.hok ea;obtain⟨od,J,_⟩:=O.look;exact eS (PySem.W.kitx_own (cl.get _) cl.hd ha hn htk hm) I.kIn J e (λz=>nomatch z) h
end
structure Room(k:Nat)(A:Around):Prop where
 hd:A.handled=none
 dp:A.depth+3*k+5<recursionLimit
 un:A.units+16*k+200<cLine
 gd:A.guards=some []
def Room.mono{j k:Nat}{A}(r:Room k A)(h:j<=k):Room j A:=⟨r.hd,by have:=r.dp;omega,by have:=r.un;omega,r.gd⟩
theorem Room.deeper{k:Nat}{A:Around}(r:Room (k+1) A)(env:Env):Room k (A.deeper env):=
 ⟨r.hd,by have:=r.dp;show A.depth+1+3*k+5<_;omega,by have:=r.un;show A.units+3+16*k+200<_;omega,r.gd⟩
def LN{A:Around}{C:Addr}{us kw}:(A.under (.builtin "type.__call__" ⟨.ref C::us,kw⟩)).depth=A.depth+1:=by
 first | rfl | simp[Around.under,Code.weight,Code.isCreation,Code.isGuard,Code.isCaller,Code.frames,Code.isFrame,guardIds]
def LM{A:Around}{C:Addr}{us kw}:(A.under (.builtin "type.__call__" ⟨.ref C::us,kw⟩)).units=A.units+1:=by
 first | rfl | simp[Around.under,Code.cUnits,Code.frames,Code.isFrame]
def Room.make{k:Nat}{A:Around}(r:Room (k+1) A)(C:Addr)(us:List Value)(kw:List (Str×Value)):Room k (A.under (.builtin "type.__call__" ⟨.ref C::us,kw⟩)):=
 ⟨r.hd,by have:=r.dp;rw[LN];omega,by have:=r.un;rw[LM];omega,by first | exact r.gd | (simp[Around.under,Code.isGuard,guardIds];exact r.gd)⟩
theorem Room.depth{k:Nat}{A:Around}(r:Room k A):A.depth<recursionLimit:=by have:=r.dp;omega
def yB:TA:=λ_ H Q=>Q [] H
def pR(ta:TE)(tr:TA):TA:=λσ H Q=>ta σ H λx H1=>tr σ H1 λxs H2=>Q (x::xs) H2
section
variable{X:Cx}{e:Expr}{es:List Expr}{te:TE}{t:TA}{pos:Pos}
def jG:PA X [] yB:=λ_ _ _ _ H Q I h=>Calls.spliced_nil ⟨[],H,I,.nil,h⟩
def fY(ha:PE X e te)(hr:PA X es t)(hs:bN (e::es) X.env=(false,eval e X.env)::bN es X.env:=by rfl):PA X (e::es) (pR te t):=by
 intro pos pins s σ H Q I h;rw[hs];show wpAny _ _ (spliced ((false,eval e X.env)::backTo pos (bN es X.env))) _ _ s;refine Calls.spliced_cons (jO (ha pins s σ H _ I h) λu s1 zq=>?_);obtain⟨x,H1,I1,r1,q1⟩:=zq;exact jO (hr pos pins s1 σ H1 _ I1 q1) λus s2 ⟨xs,H2,I2,r2,q2⟩=>⟨x::xs,H2,I2,.cons r1 r2,q2⟩
def aLj(t:TA):TE:=λσ H Q=>t σ H λxs H1=>xs.length<=bL/\∀p,H1 p=none->Q (.ref p) (gO H1 p (.tup xs))
def aLn(t:TA):TE:=λσ H Q=>t σ H λxs H1=>xs.length<=bL/\∀p,H1 p=none->Q (.ref p) (gO H1 p (.lst xs))
def TW{x1}(h:PA X es t):PE X (.Tuple es x1 pos) (aLj t):=by
 intro pins s σ H Q I hq;refine wpAny_Tuple_spliced (jO (h pos pins s σ H _ I hq) λus s1 ⟨xs,H1,I1,r,z,q⟩=>⟨by rw[<- r.length];exact z,?_⟩);have hf:H1 s1.heap.objs.size=none:=I1.hok.fresh (aO _);refine⟨.ref s1.heap.objs.size,gO H1 s1.heap.objs.size (.tup xs),I1.laid (t':=s1.toks) (λb u e=>aJ _ e) (aO _) ?_,rfl,q _ hf⟩;exact⟨z,us,r,⟨_,aS _ rfl,rfl,_,rfl,rfl⟩⟩
def LB(h:PA X es t):PE X (.List es pos) (aLn t):=by
 intro pins s σ H Q I hq;refine wpAny_List_spliced (jO (h pos pins s σ H _ I hq) λus s1 ⟨xs,H1,I1,r,z,q⟩=>⟨by rw[<- r.length];exact z,?_⟩);have hf:H1 s1.heap.objs.size=none:=I1.hok.fresh (aO _);refine⟨.ref s1.heap.objs.size,gO H1 s1.heap.objs.size (.lst xs),I1.laid (t':=s1.toks) (λb u e=>aJ _ e) (aO _) ?_,rfl,q _ hf⟩;exact⟨z,us,0,r,aS _ rfl⟩
end
abbrev Sp:=List V->Hp->VK->XK->Prop
abbrev WY:=List Env->Hp->Shared->XK->Value->Shared->Prop
structure MR(P:bX)(w:World)(K:aL)(mg:Str->Option Value)(base:Heap)(A:Around)(outer:List Env)(s:Shared)(H:Hp):Prop where
 frames:A.frames=some outer
 mod:Mod K mg base
 bs:∀b o,base.get? b=some o->s.heap.get? b=some o/\H b=none
 bsz:base.objs.size<=s.heap.objs.size
 funs:s.heap.FunFrames base outer
 frf:∀b∈RQ outer,H b=none
 hok:wD P w H s.heap
 bare:AllBare s.gens
 tab:Tb H
def CE(outer:List Env)(P:bX)(w:World)(H:Hp)(s:Shared)(Q:VK)(u:Value)(s':Shared):Prop:=
 ∃v H',s'.os=s.os/\AllBare s'.gens/\Un (RQ outer) [] H H' s.heap s'.heap/\wD P w H' s'.heap/\gB v u/\Q v H'
def CR(CX:WY)(outer:List Env)(P:bX)(w:World)(H:Hp)(s:Shared)(Q:VK)(E:XK)(r:Result)(s':Shared):Prop:=
 match r with
 |.ok (.ret u)=>CE outer P w H s Q u s'
 |.ok _=>False
 |.error e=>CX outer H s E e s'
structure dD(P:bX)(w:World)(K:aL)(mg:Str->Option Value)(base:Heap)(CX:WY)(k:Nat)(f:Addr)(fd:jL)(ps:List Str)(sp:Sp):Prop where
 len:∀vs H Q E,sp vs H Q E->vs.length=ps.length
 run:∀A outer s H(args:Args)(us:List Value)(vs:List V)Q E,Room k A->MR P w K mg base A outer s H->BindsTo s fd args (ps.zip us)->fS vs us->sp vs H Q E ->
  codeAny (model P w) A (.call (.ref f) args) (CR CX outer P w H s Q E) s
def dD.imp{P w K}{mg:Str->Option Value}{base CX}{k:Nat}{f:Addr}{fd ps}{sp sp':Sp}(F:dD P w K mg base CX k f fd ps sp)
  (h:∀vs H Q E,sp' vs H Q E->sp vs H Q E):dD P w K mg base CX k f fd ps sp':=
 ⟨λvs H Q E q=>F.len vs H Q E (h _ _ _ _ q),λA outer s H args us vs Q E hr he hb hv hs=>F.run A outer s H args us vs Q E hr he hb hv (h _ _ _ _ hs)⟩
def MR.make{P w K}{mg:Str->Option Value}{base}{A:Around}{outer s H}(e:MR P w K mg base A outer s H)(C:Addr)(us:List Value)(kw:List (Str×Value)) :
  MR P w K mg base (A.under (.builtin "type.__call__" ⟨.ref C::us,kw⟩)) outer s H:=⟨by first | exact e.frames | (simpa[Around.under,Code.envs,Code.isFrame,pushEnvs]using e.frames),e.mod,e.bs,e.bsz,e.funs,e.frf,e.hok,e.bare,e.tab⟩
section
variable{X:Cx}{pins:List (Addr×Obj)}{σ:St}{H:Hp}{s s':Shared}
def eL.env0(I:eL X pins σ H s):MR X.prog X.w X.K X.mg X.base X.A X.stack s H:=
 ⟨I.ok.frames,I.ok.mod,I.bs,cI I.ok.bsz I.sz,I.stack,I.stkFree,I.hok,I.bare,λP e=>let ⟨ps,h⟩:=I.ok.tab P e;let ⟨m,h'⟩:=I.base.tbls P ps h;⟨_,h'⟩⟩
def eL.after{Q u}(I:eL X pins σ H s)(h:CE X.stack X.prog X.w H s Q u s'):EP X pins σ Q u s':=by
 obtain⟨v,H',os,bare,un,hok,r,q⟩:=h;obtain⟨hh,g,d,t,os'⟩:=s';obtain rfl:os'=s.os:=os;exact⟨v,H',I.call (h':=hh) (g':=g) (d':=d) (t':=t) (ch:=[]) un hok bare (λb z=>absurd z (by simp)),r,q⟩
end
def BD(sp:Sp)(dvs:List V)(E:XK)(t:TA):TE:=λσ H Q=>t σ H λvs H1=>sp (vs++dvs) H1 Q E
def aAs(C:Addr)(m:Str)(sp:Sp)(dvs:List V)(E:XK)(ta:TE)(t:TA):TE:=λσ H Q=>ta σ H λx H1=>∃a dx fs,x=.ref a/\H1 a=some (.ins C dx fs)/\fs.lookup m=none /\
 t σ H1 λvs H2=>sp (x::(vs++dvs)) H2 Q E
def aAt(C:Addr)(sp:Sp)(dvs:List V)(E:XK)(t:TA):TE:=λσ H Q=>t σ H λvs H1=>∀x dx,H1 x=none->H1 dx=none->dx≠x ->
 sp (.ref x::(vs++dvs)) (gO (gO H1 dx (.own x)) x (.ins C dx [])) (λv H2=>v=.non/\Q (.ref x) H2) E
def sQ(K:aL)(fd:jL)(ps:List Str)(ds:List Value):Prop:=
 ∀(s:Shared)(us:List Value),K.In s.heap->(us++ds).length=ps.length->BindsTo s fd ⟨us,[]⟩ (ps.zip (us++ds))
def sQ.all{K fd}{ps:List Str}(h:∀us:List Value,us.length=ps.length->bindArgs fd ⟨us,[]⟩=pure (ps.zip us)):sQ K fd ps []:=λs us _ hl=>by
 rw[dL]at hl |-
 exact .of_eq (h us hl)
def zB(CX:WY)(X:Cx)(E:XK):Prop:=∀pins σ H s(e:Value)s',eL X pins σ H s->CX X.stack H s E e s'->X.xe e s'
section
variable{X:Cx}{CX:WY}{k:Nat}{f C:Addr}{fd:jL}{ps:List Str}{sp:Sp}{dvs:List V}{ds:List Value}{E:XK}{x m:Str}{p pos apos:Pos}{e o:Expr}{es:List Expr}{ta:TE}{t:TA}
def S1{pins σ H s Q us vs}(F:dD X.prog X.w X.K X.mg X.base CX k f fd ps sp)(hr:Room k X.A)(hb:sQ X.K fd ps ds)(hd:fS dvs ds)(hx:zB CX X E)
  (I:eL X pins σ H s) (r:fS vs us) (h:sp (vs++dvs) H Q E):wpAny (model X.prog X.w) X.A (call (.ref f) us) (EP X pins σ Q) X.xe s:=by
 have r2:fS (vs++dvs) (us++ds):=r.append hd;have hl:(us++ds).length=ps.length:=by rw[<- r2.length];exact F.len _ _ _ _ h
 refine wpAny_call (codeAny_mono (F.run X.A X.stack s H ⟨us,[]⟩ (us++ds) (vs++dvs) Q E hr I.env0 (hb s us I.kIn hl) r2 h) λr s' hq=>?_)
 cases r with
 |error e=>exact hx pins σ H s e s' I hq
 |ok fl=>
  cases fl with
  |ret u=>exact I.after hq
  |next=>exact False.elim hq
  |brk=>exact False.elim hq
  |cont=>exact False.elim hq
def rW(F:dD X.prog X.w X.K X.mg X.base CX k f fd ps sp)(hr:Room k X.A)(hg:Gl X x)(hm:X.mg x=some (.ref f))(hk:gU X.K (.ref f)=true)(hb:sQ X.K fd ps ds)(hd:fS dvs ds)(hx:zB CX X E)
  (ha:PA X (e::es) t) (hdb:(x==("__debug__":Str))=false:=by decide) (he:bN (e::es) X.env=(false,eval e X.env)::bN es X.env:=by rfl) (hpl:(backTo pos (bN es X.env)).any (·.1)=false:=by rfl) :
  PE X (.Call (.Name x p) (e::es) [] pos) (BD sp dvs E t):=by
 intro pins s σ H Q I h;refine wpAny_Call_Name_kw (F7 I hg hm ?_ hdb);refine wB (h₀:=X.base) I.ok.mod.kin hk (jO (ha pos pins s σ H _ I h) λus s1 ⟨vs,H1,I1,r,q⟩=>⟨I1.kIn,?_⟩) he hpl;exact S1 F hr hb hd hx I1 r q
def F2{pl}(he:PE X o ta)(c:RX X.K C)(hm:aAl X.K C m f)(F:dD X.prog X.w X.K X.mg X.base CX k f fd ps sp)(hr:Room k X.A)(hb:sQ X.K fd ps ds)(hd:fS dvs ds)(hx:zB CX X E)(ha:PA X (e::es) t)
  (hst:bN (e::es) X.env=(false,eval e X.env)::bN es X.env:=by rfl) (hpl:(backTo pos (bN es X.env)).any (·.1)=false:=by rfl)
  (ht:eval (.Call (.Attribute o m apos) (e::es) [] pos) X.env=(do
   let ov <- eval o X.env
   standAt apos.atName
   let (f,first) <- holding [ov] (getMethod ov m pl)
   callWith pos f first (backTo pos (bN (e::es) X.env)) (backToKw pos (keywordEach [] X.env))):=by rfl) :
  PE X (.Call (.Attribute o m apos) (e::es) [] pos) (aAs C m sp dvs E ta t):=by
 intro pins s σ H Q I h;refine PySem.W.methodCall_KW (pl:=pl) (jO (he pins s σ H _ I h) λu s1 zq=>?_) ht;obtain⟨x,H1,I1,rx,a,dx,fs,ex,ea,l,q⟩:=zq;subst ex;obtain rfl:u=Value.ref a:=rx;refine LW I1 ea c hm l ?_;refine wB (first:=[.ref a]) (h₀:=X.base) I.ok.mod.kin hm.kp (jO (ha pos pins s1 σ H1 _ I1 q) λus s2 ⟨vs,H2,I2,r,q2⟩=>⟨I2.kIn,?_⟩) hst hpl;exact S1 (us:=.ref a::us) (vs:=.ref a::vs) F hr hb hd hx I2 (.cons rfl r) q2
structure Mk(K:aL)(C f:Addr):Prop where
 makes:RY K C=true
 init:fF K (.ref C) "__init__"=some (some (.ref f))
 fn:G3 K (.ref f)=true
 kp:gU K (.ref C)=true
def S0{pins σ}{H:Hp}{s}{Q:VK}{us vs}(M:Mk X.K C f)(F:dD X.prog X.w X.K X.mg X.base CX k f fd ps sp)(hr:Room (k+1) X.A)(hb:sQ X.K fd ps ds)(hd:fS dvs ds)
  (hx:zB CX X E) (I:eL X pins σ H s) (r:fS vs us)
  (h:∀x dx,H x=none->H dx=none->dx≠x->sp (.ref x::(vs++dvs)) (gO (gO H dx (.own x)) x (.ins C dx [])) (λv H2=>v=.non/\Q (.ref x) H2) E) :
  wpAny (model X.prog X.w) X.A (call (.ref C) us) (EP X pins σ Q) X.xe s:=by
 have hq:=h (s.heap.objs.size+1) s.heap.objs.size (I.hok.fresh (RM _)) (I.hok.fresh (aO _)) (bO (eI _));have I2:=eL.made (C:=C) I;have r2:fS (V.ref (s.heap.objs.size+1)::(vs++dvs)) (Value.ref (s.heap.objs.size+1)::(us++ds)):=.cons rfl (r.append hd)
 have hl:(Value.ref (s.heap.objs.size+1)::us++ds).length=ps.length:=by
  have e:=r2.length;rw[F.len _ _ _ _ hq]at e;exact e.symm
 refine wpAny_call (UN (f:=f) I.kIn M.makes M.init (beq_iff_eq.mp M.fn) (codeAny_mono (F.run _ X.stack _ _ ⟨Value.ref (s.heap.objs.size+1)::us,[]⟩ (Value.ref (s.heap.objs.size+1)::(us++ds)) _ _ E (hr.make C us [])
  (I2.env0.make C us []) (hb _ (Value.ref (s.heap.objs.size+1)::us) I2.kIn hl) r2 hq) λr s' hq'=>?_))
 cases r with
 |error e=>exact hx pins σ _ _ e s' I2 hq'
 |ok fl=>
  cases fl with
  |ret u=>
   obtain⟨v,H',I3,rv,ev,q3⟩:=I2.after hq';subst ev;exact⟨rv,⟨V.ref (s.heap.objs.size+1),H',I3,rfl,q3⟩⟩
  |next=>exact False.elim hq'
  |brk=>exact False.elim hq'
  |cont=>exact False.elim hq'
def YE(M:Mk X.K C f)(F:dD X.prog X.w X.K X.mg X.base CX k f fd ps sp)(hr:Room (k+1) X.A)(hg:Gl X x)(hm:X.mg x=some (.ref C))(hb:sQ X.K fd ps ds)(hd:fS dvs ds)(hx:zB CX X E)
  (ha:PA X (e::es) t) (hdb:(x==("__debug__":Str))=false:=by decide) (he:bN (e::es) X.env=(false,eval e X.env)::bN es X.env:=by rfl) (hpl:(backTo pos (bN es X.env)).any (·.1)=false:=by rfl) :
  PE X (.Call (.Name x p) (e::es) [] pos) (aAt C sp dvs E t):=by
 intro pins s σ H Q I h;refine wpAny_Call_Name_kw (F7 I hg hm ?_ hdb);refine wB (h₀:=X.base) I.ok.mod.kin M.kp (jO (ha pos pins s σ H _ I h) λus s1 ⟨vs,H1,I1,r,q⟩=>⟨I1.kIn,?_⟩) he hpl;exact S0 M F hr hb hd hx I1 r q
end
structure dC(N P:List Str)(sc:Scope):Prop where
 kind:sc.kind=.function
 co:sc.isCoroutine=false
 gen:sc.isGenerator=false
 nd:N.Nodup
 pre:N.take P.length=P
 par:∀x∈P,sc.names.lookup x=some .local\/sc.names.lookup x=some .cell
 nofree:∀y∈sc.names,y.2≠.free
theorem E3{kindOf:Str->Option NameKind}{x}:∀{binds}{m:Str->Option Value},(∀v,(x,v)∉binds)->bindL kindOf binds m x=m x
|[],_,_=>rfl
| (n,v)::r,m,h=>by
 unfold bindL;rw[E3 λw hw=>h w (aM _ hw)];split
 ·have:x≠n:=by rintro rfl;exact h v aR
  simp[this]
 ·rfl
theorem E5{kindOf:Str->Option NameKind}{x}:∀{binds}{m:Str->Option Value},(∀v,(x,v)∉binds)->bindC kindOf binds m x=m x
|[],_,_=>rfl
| (n,v)::r,m,h=>by
 unfold bindC;rw[E5 λw hw=>h w (aM _ hw)];split
 ·rfl
 ·have:x≠n:=by rintro rfl;exact h v aR
  simp[this]
theorem E4{kindOf:Str->Option NameKind}{x v}:∀{P:List Str}{vs}{i:Nat}{m:Str->Option Value},P.Nodup->P[i]?=some x->vs[i]?=some v->kindOf x=some .local ->
 bindL kindOf (P.zip vs) m x=some v
|[],_,_,_,_,h,_,_=>by simp at h
|_::_,[],_,_,_,_,h,_=>by simp at h
|p::P,w::vs,0,m,nd,h1,h2,hk=>by
 simp at h1 h2;subst h1;subst h2;show bindL kindOf ((p,w)::P.zip vs) m p=_;unfold bindL;rw[E3 λv hv=>(jK.mp nd).1 (C2 hv).1,if_pos hk];simp
|p::P,w::vs,i+1,m,nd,h1,h2,hk=>by
 show bindL kindOf ((p,w)::P.zip vs) m x=_;unfold bindL;exact E4 (i:=i) (jK.mp nd).2 (by simpa using h1) (by simpa using h2) hk
theorem E6{kindOf:Str->Option NameKind}{x v}:∀{P:List Str}{vs}{i:Nat}{m:Str->Option Value},P.Nodup->P[i]?=some x->vs[i]?=some v->kindOf x≠some .local ->
 bindC kindOf (P.zip vs) m x=some v
|[],_,_,_,_,h,_,_=>by simp at h
|_::_,[],_,_,_,_,h,_=>by simp at h
|p::P,w::vs,0,m,nd,h1,h2,hk=>by
 simp at h1 h2;subst h1;subst h2;show bindC kindOf ((p,w)::P.zip vs) m p=_;unfold bindC;rw[E5 λv hv=>(jK.mp nd).1 (C2 hv).1,if_neg hk];simp
|p::P,w::vs,i+1,m,nd,h1,h2,hk=>by
 show bindC kindOf ((p,w)::P.zip vs) m x=_;unfold bindC;exact E6 (i:=i) (jK.mp nd).2 (by simpa using h1) (by simpa using h2) hk
noncomputable def oF(N:List Str)(vs:List V):St:=vs.map some++vG (N.length-vs.length) none
noncomputable def yV(CX:WY)(P:bX)(w:World)(K:aL)(mg:Str->Option Value)(base:Heap)(N:List Str)(qual:Str)(scope:Scope)(f:Addr)(cd:Value)(A:Around)(outer:List Env)(s:Shared)(H:Hp)(E:XK):Cx where
 prog:=P
 w:=w
 K:=K
 mg:=mg
 base:=base
 A:=A.deeper (envOfC qual scope s.heap.objs.size f cd)
 N:=N
 s₀:=s
 H₀:=H
 env:=envOfC qual scope s.heap.objs.size f cd
 outer:=outer
 stack:=envOfC qual scope s.heap.objs.size f cd::outer
 ex:=[]
 calm:=true
 fn:=λ_=>true
 pn:=[]
 xe:=λe s'=>wpAny (model P w) (A.deeper (envOfC qual scope s.heap.objs.size f cd)) (leaving (envOfC qual scope s.heap.objs.size f cd) e) (λ_ s''=>CX outer H s E e s'') (λe' s''=>CX outer H s E e' s'') s'
def JU{sc:Scope}{n:Nat}{x}(h:sc.names.lookup x=some .cell):∃c,(cellsFrom n sc.names []).lookup x=some c:=by
 have q:=G4 sc.names n [] (.inl h);exact FJ.mp q
def QP{CX P w K}{mg:Str->Option Value}{base}{N ps:List Str}{qual}{scope:Scope}{f:Addr}{cd}{A:Around}{outer}{s s1:Shared}{H E us}{vs:List V}
  (S:dC N ps scope) (hd:A.handled=none) (e0:MR P w K mg base A outer s H) (hl:vs.length=ps.length) (r:fS vs us)
  (x:InCallC s s.heap.objs.size (bindL (envOfC qual scope s.heap.objs.size f cd).kindOf (ps.zip us) λ_=>none) (cellsFrom (s.heap.objs.size+1) scope.names []) (bindC (envOfC qual scope s.heap.objs.size f cd).kindOf (ps.zip us) λ_=>none) s1) :
  eL (yV CX P w K mg base N qual scope f cd A outer s H E) [] (oF N vs) H s1:=by
 have hpl:ps.length<=N.length:=by have:=congrArg iL S.pre;rw[bC]at this;omega
 obtain⟨h1,tk,rfl,hk⟩:=x.done;have noA:∀b:Addr,b∉(yV CX P w K mg base N qual scope f cd A outer s H E).ex:=λb z=>absurd (show b∈([]:List Addr)from z) (by simp)
 refine⟨⟨e0.mod,S.kind,rfl,rfl,aO _,λy z c h1 h2=>?_,λy hy=>?_,λy c _ h=>?_,λ_=>hd,Around.frames_deeper e0.frames,.inr ⟨rfl,rfl⟩,λb z=>absurd z (noA b),e0.bs,e0.bsz,λb _ _=>noA b,λb z=>absurd z (noA b),e0.funs,e0.frf,e0.tab⟩,
  rfl,e0.bare,Un.kept hk,⟨_,x.toInCall.ns,λi y v h1 h2 h3=>?_⟩,λy c h=>⟨_,x.cell y c h⟩,e0.hok.fresh (aO _),λy c h=>?_,λp hp=>absurd (show p∈([]:List (Addr×Obj))from hp) (by simp),e0.hok.kept hk,?_⟩
 ·exact name_of_addr x.apart (PySem.mem_of_lookup h1) (PySem.mem_of_lookup h2)
 ·have hy:scope.names.lookup y=some .cell\/scope.names.lookup y=some .free:=hy;rcases hy with hy | hy
  ·exact JU hy
  ·exact absurd rfl (S.nofree _ (PySem.mem_of_lookup hy))
 ·exact lK (x.above y c (PySem.mem_of_lookup h))
 ·have hi:i<vs.length:=by
   unfold oF at h2;by_cases hi:i<vs.length
   ·exact hi
   ·rw[dE (by simpa using hi)]at h2;rw[jW]at h2;split at h2<;>cases h2
  have ha:vs[i]?=some v:=by
   unfold oF at h2;rw[dU (by simpa using hi),aI]at h2
   cases e:vs[i]? with
   |none=>rw[e]at h2;cases h2
   |some a=>rw[e]at h2;cases h2;rfl
  obtain⟨u,hu,rv⟩:=r.get ha
  have hp:ps[i]?=some y:=by
   rw[<- S.pre,rK (by omega)];exact h1
  have ndP:ps.Nodup:=by rw[<- S.pre];exact S.nd.sublist (rD _ _)
  refine⟨u,rv,?_⟩;rcases S.par y (aW hp)with k | k
  ·exact .inl ⟨k,E4 ndP hp hu k⟩
  ·obtain⟨c,e⟩:=JU (n:=s.heap.objs.size+1) k;refine .inr ⟨.inl k,c,e,?_⟩;have q:=x.cell y c e;rw[E6 ndP hp hu (by show scope.names.lookup y≠_;rw[k];decide)]at q;exact q
 ·exact e0.hok.fresh (lK (x.above y c (PySem.mem_of_lookup h)))
 ·unfold oF;show _=N.length;rw[aV,aB,List.length_replicate];omega
def aJs{CX P w}{K:aL}{mg:Str->Option Value}{base}{k:Nat}{f:Addr}{name qual params body scope dV kV doc pm cdv ct oc an od}
  {osl} {N ps:List Str} {sp:Sp} (lk:K.lookup f=some ⟨oc,od,.func (mV name qual params body scope dV kV doc pm an cdv ct),osl⟩) (hcd:pG K cdv qual=true) (S:dC N ps scope)
  (len:∀vs H Q E,sp vs H Q E->vs.length=ps.length)
  (hbody:∀(A:Around)outer(s:Shared)H(vs:List V)Q E,Room k (A.deeper (envOfC qual scope s.heap.objs.size f cdv))->sp vs H Q E ->
   ∃t,CW (yV CX P w K mg base N qual scope f cdv A outer s H E) body t/\t { nx:=λ_ H'=>Q .non H',rt:=Q } (oF N vs) H) :
  dD P w K mg base CX (k+1) f (mV name qual params body scope dV kV doc pm an cdv ct) ps sp:=by
 refine⟨len,λA outer s H args us vs Q E hr e0 hb r hsp=>?_⟩;have hl:=len _ _ _ _ hsp;have KX:K.In s.heap:=e0.mod.kin.keeps λb o e=>(e0.bs b o e).1;have lim:s.heap.NoLimit:=e0.mod.nolimit.keeps λb o e=>(e0.bs b o e).1
 have hkind:∀y∈ps.zip us,scope.names.lookup y.1=some .local\/(scope.names.lookup y.1=some .cell/\((cellsFrom (s.heap.objs.size+1) scope.names []).lookup y.1).isSome=true):=λ⟨n,v⟩ hy=>by
  rcases S.par n (C2 hy).1 with q | q
  ·exact .inl q
  ·exact .inr ⟨q,G4 _ _ _ (.inl q)⟩
 refine codeAny_call_function hr.depth (KX _ _ lk) rfl S.co S.gen rfl (PySem.W.codeRec_of KX hcd) (hb _ _ _ _ ?_);refine wpAny_newFunctionEnv_cells S.kind hkind λenv he s1 x=>?_;subst he;refine⟨lim.keeps x.toInCall.keep,codeAny_func ?_⟩;obtain⟨t,ht,hq⟩:=hbody A outer s H vs Q E (hr.deeper _) hsp;have I:eL (yV CX P w K mg base N qual scope f cdv A outer s H E) [] (oF N vs) H s1:=QP S hr.hd e0 hl r x;refine gT (ht [] s1 (oF N vs) H _ I hq) (λfl s' hs=>?_) λe s' hs=>hs
 have fin:∀{σ':St}{H':Hp}{v:V}{u:Value},eL (yV CX P w K mg base N qual scope f cdv A outer s H E) [] σ' H' s'->gB v u->Q v H'->CE outer P w H s Q u s':=
  λ{σ' H' v u} J rv q=>⟨v,H',J.os,J.bare,J.base,J.hok,rv,q⟩
 cases fl with
 |ret u=>
  obtain⟨v,σ',H',J,rv,q⟩:=hs;exact fin J rv q
 |next=>
  obtain⟨σ',H',J,q⟩:=hs;exact fin (v:=V.non) (u:=Value.none) J rfl q
 |brk=>
  obtain⟨_,_,_,q⟩:=hs;exact False.elim q
 |cont=>
  obtain⟨_,_,_,q⟩:=hs;exact False.elim q
section
variable{X:Cx}{x:Str}{p pos:Pos}{e:Expr}{es:List Expr}{t:TA}{id T:String}{r:List V->Hp->VK->Prop}
def M6(r:List V->Hp->VK->Prop)(t:TA):TE:=λσ H Q=>t σ H λvs H1=>r vs H1 Q
def mP(hc:jE X (.builtin id) r)(hg:Gl X x)(hm:X.mg x=none)(hv:bootBuiltins x=some (.builtin id))(ha:PA X (e::es) t)(hn:x≠"__name__":=by decide)(hdb:(x==("__debug__":Str))=false:=by decide)
  (he:bN (e::es) X.env=(false,eval e X.env)::bN es X.env:=by rfl) (hpl:(backTo pos (bN es X.env)).any (·.1)=false:=by rfl):PE X (.Call (.Name x p) (e::es) [] pos) (M6 r t):=by
 intro pins s σ H Q I h;refine wpAny_Call_Name_kw (B1 I hg hm hv ?_ hn hdb);exact PyProof.Rows.callWith_builtin1 (jO (ha pos pins s σ H _ I h) λus s1 ⟨vs,H1,I1,r1,q1⟩=>hc pins s1 σ H1 vs us Q I1 r1 q1) he hpl
def mE(hc:jE X (.type T) r)(hg:Gl X x)(hm:X.mg x=none)(hv:bootBuiltins x=some (.type T))(ha:PA X (e::es) t)(hn:x≠"__name__":=by decide)(hdb:(x==("__debug__":Str))=false:=by decide)
  (he:bN (e::es) X.env=(false,eval e X.env)::bN es X.env:=by rfl) (hpl:(backTo pos (bN es X.env)).any (·.1)=false:=by rfl):PE X (.Call (.Name x p) (e::es) [] pos) (M6 r t):=by
 intro pins s σ H Q I h;refine wpAny_Call_Name_kw (B1 I hg hm hv ?_ hn hdb);exact PyProof.Rows.callWith_type1 (jO (ha pos pins s σ H _ I h) λus s1 ⟨vs,H1,I1,r1,q1⟩=>hc pins s1 σ H1 vs us Q I1 r1 q1) he hpl
end
end L2
namespace HT
section
variable{prog:bX}{w:World}{A:Around}{E:Value->Shared->Prop}{s:Shared}
def cat_tup{t b:Addr}{vs ws:List Value}{Q:Value->Shared->Prop}(ht:IsTup s.heap t vs.toArray)(hb:IsTup s.heap b ws.toArray)(hv:vs≠[])
  (h1:ws=[]->Q (.ref t) s) (h2:ws≠[]->Q (.ref s.heap.objs.size) { s with heap:=s.heap.push { cls:=.type "tuple",data:=.seq (vs++ws).toArray } })
  (hsz:vs.length+ws.length<=bL):wpAny (model prog w) A (binaryOp .Add (.ref t) (.ref b)) Q E s:=by
 obtain⟨⟨cls,dd,data,sl⟩,ho,hc,n,hd⟩:=id ht;obtain⟨⟨cls2,dd2,data2,sl2⟩,ho2,hc2,n2,hd2⟩:=id hb;simp only at hc hd hc2 hd2;subst hc hd hc2 hd2;have e:vs.toArray++ws.toArray=(vs++ws).toArray:=by simp
 by_cases hw:ws=[]
 ·exact concat_meets ⟨_,ho,rfl⟩ ⟨_,ho2,rfl⟩ noFill_tuple_add seq_tuple_add sL rB (qJ _ _)
   (tuple_addW1 t b vs.toArray ws.toArray n n2 dd dd2 sl sl2 (by simpa using hv) (by simp[hw])) ⟨ho,ho2,h1 hw⟩
 ·refine concat_meets ⟨_,ho,rfl⟩ ⟨_,ho2,rfl⟩ noFill_tuple_add seq_tuple_add sL rB (qJ _ _)
   (tuple_addW2 t b vs.toArray ws.toArray n n2 dd dd2 sl sl2 (by simpa using hv) (by simpa using hw) (by rw[bF,bF];exact hsz)) ⟨ho,ho2,?_⟩
  rw[e];exact h2 hw
noncomputable def sIx(n d:Nat):Option Int->Nat
|none=>d
|some v=>if v<0 then(v+(n:Int)).toNat else min v.toNat n
def sIx_none(n d:Nat):sIx n d none=d:=rfl
def sIx_nat(n d k:Nat):sIx n d (some (k:Int))=min k n:=by
 show(if(k:Int)<0 then((k:Int)+(n:Int)).toNat else min (k:Int).toNat n)=min k n;rw[if_neg (by omega),dZ]
def sIx_le(n d:Nat)(hd:d<=n)(o:Option Int):sIx n d o<=n:=by
 cases o with
 |none=>exact hd
 |some v=>
  show(if v<0 then(v+(n:Int)).toNat else min v.toNat n)<=n;by_cases hv:v<0
  ·rw[if_pos hv];omega
  ·rw[if_neg hv];exact oE _ _
def clip_eq(v:Int)(n d:Nat):(if v<0 then max (v+(n:Int)) 0 else min v (n:Int))=((sIx n d (some v):Nat):Int):=by
 show(if v<0 then max (v+(n:Int)) 0 else min v (n:Int))=(((if v<0 then(v+(n:Int)).toNat else min v.toNat n):Nat):Int);by_cases hv:v<0
 ·simp only[if_pos hv];omega
 ·simp only[if_neg hv];omega
def MK(lo hi:Option Int)(n:Nat):Builtin.Slice.sliceAdjust lo hi 1 (n:Int)=(((sIx n 0 lo:Nat):Int),((sIx n n hi:Nat):Int)):=by
 have h1:¬((1:Int)<0):=by omega
 unfold Builtin.Slice.sliceAdjust;simp only[h1,if_false];refine Prod.ext ?_ ?_
 ·cases lo with
  |none=>rfl
  |some v=>exact clip_eq v n 0
 ·cases hi with
  |none=>rfl
  |some v=>exact clip_eq v n n
def K9(i j:Nat):Builtin.Slice.slicePlaces (i:Int) (j:Int) 1=j-i:=by
 unfold Builtin.Slice.slicePlaces;have h1:(1:Int)>0:=by omega
 simp only[h1,if_true,Int.ediv_one];split<;>omega
def BG{v o}{Q:Option Int->Shared->Prop}(p:IsPart v o)(h:Q o s):wpAny (model prog w) A (Builtin.Slice.slicePartIndex v) Q E s:=by
 cases p with
 |none=>exact slicePart_none h
 |int i t=>exact slicePart_int h
def qQ{sl:Addr}{vl vu lo hi}{n:Nat}{Q:Int×Int×Nat->Shared->Prop}(hs:s.heap.IsSliceOf sl vl vu .none)(pl:IsPart vl lo)(pu:IsPart vu hi)
  (h:Q (((sIx n 0 lo:Nat):Int),1,sIx n n hi-sIx n 0 lo) s):wpAny (model prog w) A (Builtin.Slice.sliceApplied (.ref sl) (pure (n:Int))) Q E s:=by
 obtain⟨os,hos,hcs,hds⟩:=id hs;unfold Builtin.Slice.sliceApplied Builtin.Slice.sliceFields;refine aA (aA (wpAny_field hos hds (x:=vl) rfl (aA (wpAny_field hos hds (x:=vu) rfl (aA (wpAny_field hos hds (x:=.none) rfl (aE ?_)))))));refine aA (slicePart_none ?_);show wpAny _ _ (if((1:Int)==0)=true then _ else _) _ _ s;rw[if_neg (by decide)];refine aA (BG pl (aA (BG pu (aA (aE ?_)))));show wpAny _ _ (match Builtin.Slice.sliceAdjust lo hi 1 (n:Int)with | (lo,hi)=>pure (lo,(1:Int),Builtin.Slice.slicePlaces lo hi 1)) _ _ s;rw[MK lo hi n];show wpAny _ _ (pure (((sIx n 0 lo:Nat):Int),(1:Int),Builtin.Slice.slicePlaces ((sIx n 0 lo:Nat):Int) ((sIx n n hi:Nat):Int) 1)) _ _ s;rw[K9];exact aE h
def TR(xs:Array Value)(i k:Nat):((cQ k).filterMap λ(m:Nat)=>xs[((i:Int)+(m:Int)*1).toNat]?).toArray=((xs.toList.drop i).take k).toArray:=by
 have e:(λ(m:Nat)=>xs[((i:Int)+(m:Int)*1).toNat]?)=λm=>xs[i+m]?:=by
  funext m;have:((i:Int)+(m:Int)*1).toNat=i+m:=by omega
  rw[this]
 rw[e];have:=pick_run xs i k;rw[R3]at this;have e2:((λx=>xs[x]?)∘λx=>i+x)=λm=>xs[i+m]?:=rfl;rw[e2]at this;rw[this]
def getItem_tuple_cut{t sl:Addr}{items:Array Value}{vl vu lo hi}{Q:Value->Shared->Prop}(ht:IsTup s.heap t items)(hs:s.heap.IsSliceOf sl vl vu .none)(pl:IsPart vl lo)(pu:IsPart vu hi)
  (hw:¬(sIx items.size 0 lo=0/\sIx items.size items.size hi=items.size))
  (h:Q (.ref s.heap.objs.size) { s with heap:=s.heap.push { cls:=.type "tuple",data:=.seq ((items.toList.drop (sIx items.size 0 lo)).take (sIx items.size items.size hi-sIx items.size 0 lo)).toArray } })
  (hsz:items.size<=bL):wpAny (model prog w) A (getItem (.ref t) (.ref sl)) Q E s:=by
 have htake:sizeOk (.seq ((items.toList.drop (sIx items.size 0 lo)).take (sIx items.size items.size hi-sIx items.size 0 lo)).toArray):=by
  show((items.toList.drop (sIx items.size 0 lo)).take (sIx items.size items.size hi-sIx items.size 0 lo)).toArray.size<=bL;rw[bF,bC,eG,aP];omega
 have hj:sIx items.size items.size hi<=items.size:=sIx_le _ _ (aO _) hi;obtain⟨os,hos,hcs,hds⟩:=id hs;have hTs:s.TypeIs (.ref sl) "slice":=⟨os,hos,hcs⟩;unfold getItem
 try with_reducible refine wpAny_holding ?_
 first | refine aA (aE ?_) | skip
 refine aA (wpAny_sequenceKey ht.typeIs (by decide) ?_)
 refine aA (wpAny_callSpecial?_slot (name:=Str.ofString "__getitem__") ht.typeIs PyProof.Rows.slot_tuple_getitem
  (dB PyProof.Rows.slot_tuple_getitem ht.typeIs entry_tuple_getitem ?_ (args_tuple_getitem _ _)))
 show wpAny _ _ (Builtin.Tuple.tupleItemsOf (.ref t) >>= _) _ _ s;refine aA (tupleItemsOf_ ht ?_);refine aA (wpAny_typeOf hTs ?_);rw[if_pos (by decide)];refine aA (qQ hs pl pu ?_)
 have hno:¬((((sIx items.size 0 lo:Nat):Int)==0&&(1:Int)==1&&(sIx items.size items.size hi-sIx items.size 0 lo)==items.size)=true):=by
  intro q;rw[bY,bY]at q;have q1:((sIx items.size 0 lo:Nat):Int)=0:=eq_of_beq q.1.1;have q2:sIx items.size items.size hi-sIx items.size 0 lo=items.size:=eq_of_beq q.2;exact hw ⟨by omega,by omega⟩
 show wpAny _ _ (if(((sIx items.size 0 lo:Nat):Int)==0&&(1:Int)==1&&(sIx items.size items.size hi-sIx items.size 0 lo)==items.size)=true then _ else _) _ _ s;rw[if_neg hno,TR]
 first
  |exact aA (m:=Builtin.Tuple.tupleExact _) (cR (aE ⟨_,rfl,aE h⟩) htake)
  |exact aA (m:=Builtin.Tuple.tupleExact _) (cR (aA (aE (aE ⟨_,rfl,aE h⟩))) htake)
  |exact aA (aA (m:=Builtin.Tuple.tupleExact _) (cR (aE (aE ⟨_,rfl,aE h⟩)) htake))
  |exact aA (aA (m:=Builtin.Tuple.tupleExact _) (cR (aE ⟨_,rfl,aE h⟩) htake))
end
end HT
namespace L2
abbrev TO:=St->Hp->(Option Int->Hp->Prop)->Prop
def PO(X:Cx)(e:Option Expr)(t:TO):Prop:=
 ∀pins s σ H(Q:Option Int->Hp->Prop),eL X pins σ H s->t σ H Q ->
  wpAny (model X.prog X.w) X.A (evalPart e X.env) (λu s'=>∃o H',eL X pins σ H' s'/\IsPart u o/\Q o H') X.xe s
def XE:TO:=λ_ H Q=>Q none H
def aG5(t:TE):TO:=λσ H Q=>t σ H λx H1=>∃i,x=.int i/\Q (some i) H1
section
variable{X:Cx}{e:Expr}{te:TE}{lo hi:Option Expr}{tl th:TO}{pos p2:Pos}
def YA:PO X none XE:=by
 intro pins s σ H Q I h;rw[evalPart_none];exact aE ⟨none,H,I,.none,h⟩
def X9(h:PE X e te):PO X (some e) (aG5 te):=by
 intro pins s σ H Q I hw;rw[evalPart_some];refine jO (h pins s σ H _ I hw) λu s1 zq=>?_;obtain⟨x,H1,I1,r1,q1⟩:=zq;obtain⟨i,rfl,q⟩:=q1;obtain⟨t,rfl⟩:=r1;exact⟨some i,H1,I1,.int i t,q⟩
def WL(X:Cx)(r:V->Option Int->Option Int->Hp->VK->Prop):Prop:=
 ∀pins(s:Shared)σ H(x:V)(v vl vu:Value)(lo hi:Option Int)(sl:Addr)Q,eL X pins σ H s->gB x v->s.heap.IsSliceOf sl vl vu .none->IsPart vl lo->IsPart vu hi->r x lo hi H Q ->
  ∃T id,typeLookup (.type T) "__getitem__"=pure (some (.builtin id))/\s.TypeIs v T/\wpAny (model X.prog X.w) X.A (getItem v (.ref sl)) (EP X pins σ Q) X.xe s
def WL.or{r r':V->Option Int->Option Int->Hp->VK->Prop}(h:WL X r)(h':WL X r'):WL X (λx lo hi H Q=>r x lo hi H Q\/r' x lo hi H Q):=by
 intro pins s σ H x v vl vu lo hi sl Q I rx hs pl pu q;rcases q with q | q
 ·exact h pins s σ H x v vl vu lo hi sl Q I rx hs pl pu q
 ·exact h' pins s σ H x v vl vu lo hi sl Q I rx hs pl pu q
def tSl(r:V->Option Int->Option Int->Hp->VK->Prop)(te:TE)(tl th:TO):TE:=λσ H Q=>te σ H λx H1=>tl σ H1 λl H2=>th σ H2 λu H3=>r x l u H3 Q
def TX{r:V->Option Int->Option Int->Hp->VK->Prop}(hr:WL X r)(he:PE X e te)(hl:PO X lo tl)(hu:PO X hi th):PE X (.Subscript e (.Slice lo hi none p2) pos) (tSl r te tl th):=by
 intro pins s σ H Q I h;refine Subscript_ (jO (he pins s σ H _ I h) λv s1 zq=>?_);obtain⟨x,H1,I1,r1,q1⟩:=zq;refine wpAny_Slice (jO (hl pins s1 σ H1 _ I1 q1) λvl s2 ⟨l,H2,I2,pl,q2⟩=>jO (hu pins s2 σ H2 _ I2 q2) λvu s3 zq=>?_);obtain⟨u,H3,I3,pu,q3⟩:=zq;rw[evalPart_none];refine aE ?_;have I4:eL X pins σ H3 { s3 with heap:=s3.heap.push { cls:=.type "slice",data:=.fields #[vl,vu,.none] } }:=I3.kept (t':=s3.toks) λb ob q=>aJ _ q;obtain⟨T,id,hT,ht,hg⟩:=hr pins { s3 with heap:=s3.heap.push { cls:=.type "slice",data:=.fields #[vl,vu,.none] } } σ H3 x v vl vu l u s3.heap.objs.size Q I4 r1 (Heap.IsSliceOf.new ..) pl pu q3;show wpAny (model X.prog X.w) X.A (subscriptTail e (.Slice lo hi none p2) v (.ref s3.heap.objs.size)) (EP X pins σ Q) X.xe { s3 with heap:=s3.heap.push { cls:=.type "slice",data:=.fields #[vl,vu,.none] } };exact tail_any (ops:=[.ref s3.heap.objs.size,v]) ht hT hg (by with_unfolding_all rfl)
noncomputable def GL(xs:List V)(lo hi:Option Int):List V:=(xs.drop (HT.sIx xs.length 0 lo)).take (HT.sIx xs.length xs.length hi-HT.sIx xs.length 0 lo)
def zS(xs:List V)(lo hi:Option Int):(GL xs lo hi).length<=xs.length:=by
 unfold GL;rw[bC,eG];omega
def aLw(K:aL):V->Option Int->Option Int->Hp->VK->Prop:=λx lo hi H Q=>∃a xs,x=.ref a/\tV K H a xs /\
 ¬(HT.sIx xs.length 0 lo=0/\HT.sIx xs.length xs.length hi=xs.length)/\∀p,H p=none->Q (.ref p) (gO H p (.tup (GL xs lo hi)))
def aEc:WL X (aLw X.K):=by
 intro pins s σ H x v vl vu lo hi sl Q I rx hs pl pu h;obtain⟨a,xs,rfl,hx,hw,q⟩:=h;cases rx;obtain⟨its,r,ht,hz⟩:=I.tuple hx;have hlen:its.toArray.size=xs.length:=by rw[bF];exact r.length.symm
 refine⟨"tuple",_,PyProof.Rows.slot_tuple_getitem.lookup,ht.typeIs,?_⟩;refine HT.getItem_tuple_cut ht hs pl pu (by rw[hlen];exact hw) ?_ (by rw[hlen];exact hz);rw[hlen];refine⟨.ref s.heap.objs.size,_,I.laid (t':=s.toks) (o:=.tup (GL xs lo hi)) (λb ob q=>aJ _ q) (aO _) ?_,rfl,q _ (I.hok.fresh (aO _))⟩;exact⟨cI (zS xs lo hi) hz,_,(r.drop (HT.sIx xs.length 0 lo)).take (HT.sIx xs.length xs.length hi-HT.sIx xs.length 0 lo),AJ.new _ _⟩
def aH6(K:aL):R2:=λx y H Q=>∃a b xs ys,x=.ref a/\y=.ref b/\tV K H a xs/\tV K H b ys/\xs≠[]/\xs.length+ys.length<=bL /\
 (ys=[]->Q (.ref a) H)/\(ys≠[]->∀p,H p=none->Q (.ref p) (gO H p (.tup (xs++ys))))
def fS.nil_iff{xs us}(r:fS xs us):us=[]↔xs=[]:=by
 cases r with
 |nil=>simp
 |cons _ _=>simp
def YJ:nS X (binaryOp .Add) (aH6 X.K):=by
 intro pins s σ H x y v u Q I rx ry h;obtain⟨a,b,xs,ys,rfl,rfl,ha,hb,hx,hz,q1,q2⟩:=h;cases rx;cases ry;obtain⟨its,r1,p1,_⟩:=I.tuple ha;obtain⟨its2,r2,p2,_⟩:=I.tuple hb;refine HT.cat_tup p1 p2 (λz=>hx (r1.nil_iff.mp z)) (λz=>⟨.ref a,H,I,rfl,q1 (r2.nil_iff.mp z)⟩) (λz=>?_) (by rw[<- r1.length,<- r2.length];exact hz);refine⟨.ref s.heap.objs.size,_,I.laid (t':=s.toks) (o:=.tup (xs++ys)) (λb ob q=>aJ _ q) (aO _) ?_,rfl,q2 (λw=>z (r2.nil_iff.mpr w)) _ (I.hok.fresh (aO _))⟩;exact⟨by rw[aV];exact hz,_,r1.append r2,AJ.new _ _⟩
end
noncomputable def Y4(n:Nat)(i:Int):Option Nat:=if 0<=i then(if i<n then some i.toNat else none)else if -(n:Int)<=i then some (i+n).toNat else none
noncomputable def atI{α:Type}(xs:List α)(i:Int):Option α:=(Y4 xs.length i).bind λj=>xs[j]?
def Y3{n:Nat}{i:Int}{j:Nat}(h:Y4 n i=some j):seqIndex? i n=some j/\j<n/\-(n:Int)<=i/\i<n:=by
 unfold Y4 at h;by_cases h0:0<=i
 ·rw[if_pos h0]at h;by_cases h1:i<n
  ·rw[if_pos h1]at h;have e:i.toNat=j:=Option.some.inj h;exact⟨by rw[seqIndex_of h0 h1,e],by omega,by omega,h1⟩
  ·rw[if_neg h1]at h;cases h
 ·rw[if_neg h0]at h;by_cases h1:-(n:Int)<=i
  ·rw[if_pos h1]at h;have e:(i+n).toNat=j:=Option.some.inj h;exact⟨by rw[seqIndex_neg (by omega) h1,e],by omega,h1,by omega⟩
  ·rw[if_neg h1]at h;cases h
def GV{α:Type}{xs:List α}{i:Int}{v}(h:atI xs i=some v):∃j,seqIndex? i xs.length=some j/\xs[j]?=some v/\j<xs.length/\-(xs.length:Int)<=i/\i<xs.length:=by
 unfold atI at h
 cases e:Y4 xs.length i with
 |none=>rw[e]at h;cases h
 |some j=>
  rw[e]at h;obtain⟨h1,h2,h3,h4⟩:=Y3 e;exact⟨j,h1,h,h2,h3,h4⟩
def fZ{α:Type}{xs:List α}{j:Nat}{v:α}(h:xs[j]?=some v):atI xs (j:Int)=some v:=by
 have hj:j<xs.length:=(aG.mp h).1
 have e:Y4 xs.length (j:Int)=some j:=by
  unfold Y4;rw[if_pos (by omega),if_pos (by omega)];simp
 unfold atI;rw[e];exact h
def WF{α:Type}(xs:List α)(v:α):atI (xs++[v]) (-1)=some v:=by
 have hl:(xs++[v]).length=xs.length+1:=by simp
 have e:Y4 (xs++[v]).length (-1)=some xs.length:=by
  unfold Y4;rw[hl,if_neg (by decide),if_pos (by omega)];congr 1;omega
 unfold atI;rw[e];show(xs++[v])[xs.length]?=some v;simp
def A6(b:Expr):Prop:=∀o i,subscripted b false o i=operate [o,i] (getItem o i)
def WN(X:Cx)(r:R2):Prop:=
 ∀(value slice:Expr)pins s σ H(x y:V)(v u:Value)Q,eL X pins σ H s->gB x v->gB y u->r x y H Q ->
  subscripted slice false v u=operate [v,u] (getItem v u)->wpAny (model X.prog X.w) X.A (subscriptTail value slice v u) (EP X pins σ Q) X.xe s
def MtR(X:Cx)(id:String)(r:V->List V->Hp->VK->Prop):Prop:=
 ∀pins s σ H(x:V)(xs:List V)(v:Value)(us:List Value)Q,eL X pins σ H s->gB x v->fS xs us->r x xs H Q ->
  wpAny (model X.prog X.w) X.A (call (.builtin id) (v::us)) (EP X pins σ Q) X.xe s
section
variable{X:Cx}{a b:Expr}{ta tb:TE}{pos:Pos}
def WN.or{r r':R2}(h:WN X r)(h':WN X r'):WN X (λx y H Q=>r x y H Q\/r' x y H Q):=by
 intro value slice pins s σ H x y v u Q I rx ry q hs;rcases q with q | q
 ·exact h value slice pins s σ H x y v u Q I rx ry q hs
 ·exact h' value slice pins s σ H x y v u Q I rx ry q hs
def TY{r}(hr:WN X r)(ha:PE X a ta)(hb:PE X b tb)(hs:A6 b):PE X (.Subscript a b pos) (tOp r ta tb):=by
 intro pins s σ H Q I h;exact Subscript_ (aF8 ha hb I h λv u s2 x y H2 I2 rx ry q=>hr a b pins s2 σ H2 x y v u Q I2 rx ry q (hs _ _))
def aH4(K:aL):R2:=λx y H Q=>∃p xs i v,x=.ref p/\y=.int i/\mZ K H p xs/\atI xs i=some v/\Q v H
def aH2(K:aL):R2:=λx y H Q=>∃p xs i v,x=.ref p/\y=.int i/\tV K H p xs/\atI xs i=some v/\Q v H
def aH3:R2:=λx y H Q=>∃z i c,x=.str z/\y=.int i/\z.length<=bL/\atI z.cps.toList i=some c/\Q (.str ⟨#[c]⟩) H
def Y2:WN X (aH4 X.K):=by
 intro value slice pins s σ H x y v u Q I rx ry h hs;obtain⟨p,xs,i,z,rfl,rfl,hq,he,q⟩:=h;cases rx;obtain⟨t,rfl⟩:=ry;obtain⟨its,r,pl,hz⟩:=I.list hq;obtain⟨j,h1,h2,h3,h4,h5⟩:=GV he;obtain⟨w,ew,rw'⟩:=r.get h2;have hl:=r.length;have hn:=B0;have fin:EP X pins σ Q w s:=⟨z,H,I,rw',q⟩;by_cases h0:0<=i
 ·have hj:i.toNat=j:=by
   rw[seqIndex_of h0 h5]at h1;exact Option.some.inj h1
  exact item_listR pl.isList h0 (by omega) (by rw[hj];simpa using ew) fin hs
 ·have hj:(i+(its.toArray.size:Int)).toNat=j:=by
   rw[seqIndex_neg (by omega) h4]at h1;rw[bF,<- hl];exact Option.some.inj h1
  exact subscriptTail_builtinR (x:=w) pl.isList.typeIs slot_list_getitem.lookup
   (wpAny_getItem_list_neg (Q:=λr s'=>r=w/\EP X pins σ Q r s') pl.isList (by omega) (by rw[bF]<;>omega) (by omega) (by rw[hj];simpa using ew) ⟨rfl,fin⟩) hs
def aFk:WN X (aH2 X.K):=by
 intro value slice pins s σ H x y v u Q I rx ry h hs;obtain⟨p,xs,i,z,rfl,rfl,hq,he,q⟩:=h;cases rx;obtain⟨t,rfl⟩:=ry;obtain⟨its,r,pl,hz⟩:=I.tuple hq;obtain⟨j,h1,h2,h3,h4,h5⟩:=GV he;obtain⟨w,ew,rw'⟩:=r.get h2;have hl:=r.length;have hn:=B0;have fin:EP X pins σ Q w s:=⟨z,H,I,rw',q⟩
 exact subscriptTail_builtinR (x:=w) pl.typeIs slot_tuple_getitem.lookup
  (getItem_tuple (j:=j) (Q:=λr s'=>r=w/\EP X pins σ Q r s') pl (by omega) (by omega) (by rw[bF,<- hl];exact h1) (by simpa using ew) ⟨rfl,fin⟩) hs
def aFl:WN X aH3:=by
 intro value slice pins s σ H x y v u Q I rx ry h hs;obtain⟨z,i,c,rfl,rfl,hz,he,q⟩:=h;obtain⟨t,rfl⟩:=rx;obtain⟨t',rfl⟩:=ry;obtain⟨j,h1,h2,h3,h4,h5⟩:=GV he;have hl:z.cps.toList.length=z.length:=by simp[Str.length]
 rw[hl]at h1 h4 h5;have hn:=B0
 exact tail_any (typeIs_str s z t) slot_str_getitem.lookup (getItem_str (c:=c) (by
  have e1:decide (i < -(2^63:Int))=false:=decide_eq_false (by omega);have e2:decide (i>=2^63)=false:=decide_eq_false (by omega);rw[e1,e2,xZ]) (by rw[h1];simpa using h2) ⟨.str ⟨#[c]⟩,H,I.tok _,⟨_,rfl⟩,q⟩) hs
def rIx(K:aL):R2:=λx y H Q=>aH4 K x y H Q\/aH2 K x y H Q\/aH3 x y H Q
def bW:WN X (rIx X.K):=Y2.or (aFk.or aFl)
def FQ(lo hi:Option Int)(n:Nat):(sliceBounds lo hi none n).1=((HT.sIx n 0 lo:Nat):Int)/\(sliceBounds lo hi none n).2.1=((HT.sIx n n hi:Nat):Int)/\(sliceBounds lo hi none n).2.2=1:=by
 refine⟨?_,?_,rfl⟩
 ·cases lo with
  |none=>simp[sliceBounds,HT.sIx]
  |some i=>
   simp only[sliceBounds,HT.sIx,RZ,show(1:Int)>0 by decide,if_true];by_cases h:i<0
   ·simp only[h,if_true]<;>omega
   ·simp only[h,if_false]<;>omega
 ·cases hi with
  |none=>simp[sliceBounds,HT.sIx]
  |some i=>
   simp only[sliceBounds,HT.sIx,RZ,show(1:Int)>0 by decide,if_true];by_cases h:i<0
   ·simp only[h,if_true]<;>omega
   ·simp only[h,if_false]<;>omega
def C8(its:List Value)(lo hi:Option Int):slicePick its.toArray lo hi none=((its.drop (HT.sIx its.length 0 lo)).take (HT.sIx its.length its.length hi-HT.sIx its.length 0 lo)).toArray:=by
 obtain⟨h1,h2,h3⟩:=FQ lo hi its.toArray.size;unfold slicePick;rw[h1,h2,h3];simp only[sliceRange_one,pick_run,bF]<;>rfl
def aH0(K:aL):V->Option Int->Option Int->Hp->VK->Prop:=λx lo hi H Q=>∃a xs,x=.ref a/\mZ K H a xs/\∀p,H p=none->Q (.ref p) (gO H p (.lst (GL xs lo hi)))
def XQ:WL X (aH0 X.K):=by
 intro pins s σ H x v vl vu lo hi sl Q I rx hs pl pu h;obtain⟨a,xs,rfl,hx,q⟩:=h;cases rx;obtain⟨its,r,ht,hz⟩:=I.list hx;have hlen:=r.length;refine⟨"list",_,slot_list_getitem.lookup,ht.isList.typeIs,?_⟩;refine wpAny_getItem_list_slice ht.isList hs pl pu .none (by simp) ?_ (by rw[bF]<;>omega);rw[C8,<- hlen];refine⟨.ref s.heap.objs.size,_,I.laid (t':=s.toks) (o:=.lst (GL xs lo hi)) (λb ob q=>aJ _ q) (aO _) ?_,rfl,q _ (I.hok.fresh (aO _))⟩;exact⟨cI (zS xs lo hi) hz,_,0,(r.drop (HT.sIx xs.length 0 lo)).take (HT.sIx xs.length xs.length hi-HT.sIx xs.length 0 lo),aS _ rfl⟩
def GS:jE X (.builtin "len") (λxs H Q=>∃p ys,xs=[.ref p]/\(mZ X.K H p ys\/tV X.K H p ys)/\Q (.int ys.length) H):=by
 intro pins s σ H xs us Q I r h;obtain⟨p,ys,rfl,hq,q⟩:=h;obtain⟨u,rfl,rx⟩:=nM r;cases rx;have hn:=B0;rcases hq with hq | hq
 ·obtain⟨its,r',pl,hz⟩:=I.list hq;have hlen:=r'.length;exact Calls.call_len_list pl.isList (by simp only[bF]<;>omega) ⟨.int ys.length,H,I.tok _,⟨s.toks+1,by rw[bF,hlen]⟩,q⟩
 ·obtain⟨its,r',pl,hz⟩:=I.tuple hq;have hlen:=r'.length;exact len_tuple pl (by simp only[bF]<;>omega) ⟨.int ys.length,H,I.tok _,⟨s.toks+1,by rw[bF,hlen]⟩,q⟩
def GR:jE X (.builtin "len") (λxs H Q=>∃z,xs=[.str z]/\z.length<=bL/\Q (.int z.length) H):=by
 intro pins s σ H xs us Q I r h;obtain⟨z,rfl,hz,q⟩:=h;obtain⟨u,rfl,t,rfl⟩:=nM r;have hn:=B0;exact len_str (by omega) ⟨.int z.length,H,I.tok _,⟨_,rfl⟩,q⟩
def jE.or{f}{r r':List V->Hp->VK->Prop}(h:jE X f r)(h':jE X f r'):jE X f (λxs H Q=>r xs H Q\/r' xs H Q):=by
 intro pins s σ H xs us Q I rs q;rcases q with q | q
 ·exact h pins s σ H xs us Q I rs q
 ·exact h' pins s σ H xs us Q I rs q
def jY:jE X (.type "list") (λxs H Q=>∃p ys,xs=[.ref p]/\(mZ X.K H p ys\/tV X.K H p ys)/\∀l,H l=none->Q (.ref l) (gO H l (.lst ys))):=by
 intro pins s σ H xs us Q I r h;obtain⟨p,ys,rfl,hq,q⟩:=h;obtain⟨u,rfl,rx⟩:=nM r;cases rx
 have fin:∀(its:List Value),fS ys its->ys.length<=bL->∀(h':Heap)(c':Nat),(∀b o',s.heap.get? b=some o'->h'.get? b=some o') ->
   h'.get? s.heap.objs.size=some { cls:=.type "list",dict:=none,data:=.seq its.toArray c',slots:=#[] }->EP X pins σ Q (.ref s.heap.objs.size) { s with heap:=h' }:=λits r' hz h' c' kp e=>
  ⟨.ref s.heap.objs.size,_,I.laid (t':=s.toks) kp (aO _) (show iN X.prog X.w _ h' _ (.lst ys)from⟨hz,its,c',r',e⟩),rfl,q _ (I.hok.fresh (aO _))⟩
 rcases hq with hq | hq
 ·obtain⟨its,r',pl,hz⟩:=I.list hq;have hlen:=r'.length;obtain⟨o,ho,hc,n,hd⟩:=pl.isList;exact call_list_seq p (.inl rfl) ho hc hd (λh' c' kp e=>fin its r' hz h' c' kp e) (by simp only[bF]<;>omega)
 ·obtain⟨its,r',pl,hz⟩:=I.tuple hq;have hlen:=r'.length;obtain⟨o,ho,hc,n,hd⟩:=pl;exact call_list_seq p (.inr rfl) ho hc hd (λh' c' kp e=>fin its r' hz h' c' kp e) (by simp only[bF]<;>omega)
def jH:jE X (.type "tuple") (λxs H Q=>∃p ys,xs=[.ref p]/\((mZ X.K H p ys/\∀l,H l=none->Q (.ref l) (gO H l (.tup ys)))\/(tV X.K H p ys/\Q (.ref p) H))):=by
 intro pins s σ H xs us Q I r h;obtain⟨p,ys,rfl,h⟩:=h;obtain⟨u,rfl,rx⟩:=nM r;cases rx;rcases h with⟨hq,q⟩ | ⟨hq,q⟩
 ·obtain⟨its,r',pl,hz⟩:=I.list hq;have hlen:=r'.length;refine call_tuple_list pl.isList (λh' kp=>?_) (by simp only[bF]<;>omega);have I1:eL X pins σ H { s with heap:=h' }:=I.kept (t':=s.toks) kp
  have I2:eL X pins σ (gO H h'.objs.size (.tup ys)) { s with heap:=h'.push { cls:=.type "tuple",data:=.seq its.toArray } }:=
   I1.laid (t':=s.toks) (λb o e=>aJ _ e) (aO _) (show iN X.prog X.w _ _ _ (.tup ys)from⟨hz,its,r',AJ.new _ _⟩)
  exact⟨.ref h'.objs.size,_,I2,rfl,q _ (I1.hok.fresh (aO _))⟩
 ·obtain⟨its,r',pl,hz⟩:=I.tuple hq;exact call_tuple_same pl ⟨.ref p,H,I,rfl,q⟩
def tyV(K:aL)(T:String)(x:V)(H:Hp):Prop:=match x with
|.str _=>T="str"
|.int _=>T="int"
|.ref p=>(T="list"/\∃xs,mZ K H p xs)\/(T="tuple"/\((∃o,K.lookup p=some o/\o.cls=.type "tuple"/\o.dict=none)\/∃xs,tV K H p xs)) \/
  (T="dict"/\((∃kvs,H p=some (.dK kvs))\/∃kvs,H p=some (.dT kvs)))\/(T="set"/\∃S n,H p=some (.set S n))
|_=>False
def aDv{pins σ H}{s:Shared}{T x v}(I:eL X pins σ H s)(r:gB x v)(ty:tyV X.K T x H) :
  s.TypeIs v T/\∀a,v=.ref a->∃ob,s.heap.get? a=some ob/\ob.dict=none:=by
 cases x with
 |str z=>
  obtain⟨t,rfl⟩:=r;cases (show T="str" from ty);exact⟨typeIs_str s z t,λ_ e=>nomatch e⟩
 |int i=>
  obtain⟨t,rfl⟩:=r;cases (show T="int" from ty);exact⟨typeIs_int s i t,λ_ e=>nomatch e⟩
 |ref p=>
  cases r;rcases ty with⟨rfl,xs,hq⟩ | ⟨rfl,⟨o,hk,hc,hd⟩ | ⟨xs,hq⟩⟩ | ⟨rfl,hk⟩ | ⟨rfl,S,n,hk⟩
  ·obtain⟨its,_,pl,_⟩:=I.list hq;refine⟨pl.isList.typeIs,λa e=>?_⟩;cases e;obtain⟨o,n,e,c,hd,_⟩:=pl;exact⟨o,e,hd⟩
  ·refine⟨⟨o,I.kIn p o hk,hc⟩,λa e=>?_⟩;cases e;exact⟨o,I.kIn _ o hk,hd⟩
  ·obtain⟨o,e,hc,hd⟩:=I.tupleN hq;refine⟨⟨o,e,hc⟩,λa e2=>?_⟩;cases e2;exact⟨o,e,hd⟩
  ·have z:∃o,s.heap.get? p=some o/\o.ExactDict:=by
    rcases hk with⟨kvs,hk⟩ | ⟨kvs,hk⟩
    ·obtain⟨_,_,_,_,o,_,_,e,ex,_⟩:=I.hok p _ hk;exact⟨o,e,ex⟩
    ·obtain⟨_,_,_,_,o,_,_,e,ex,_⟩:=I.hok p _ hk;exact⟨o,e,ex⟩
   obtain⟨o,e,ex⟩:=z;refine⟨⟨o,e,ex.1⟩,λa e2=>?_⟩;cases e2;exact⟨o,e,ex.2.1⟩
  ·obtain⟨o,_,_,_,e,ex,_⟩:=I.hok p _ hk;refine⟨⟨o,e,ex.1⟩,λa e2=>?_⟩;cases e2;exact⟨o,e,ex.2.1⟩
 |_=>exact False.elim ty
def XF(K:aL)(T:String)(r:V->List V->Hp->VK->Prop)(to:TE)(t:TA):TE:=λσ H Q=>to σ H λx H1=>tyV K T x H1/\t σ H1 λxs H2=>r x xs H2 Q
variable{o e:Expr}{es:List Expr}{to:TE}{t:TA}{name:Str}{apos cpos:Pos}{T id:String}{r:V->List V->Hp->VK->Prop}
def nP(pa:PlainAttrs T)(slot:Slot T name id)(hty:typeOf (.builtin id)=pure (.type "method_descriptor"))(hm:MtR X id r)(ho:PE X o to)(ha:PA X (e::es) t)
  (hbase:attributeBase o name X.env (eval o X.env)=eval o X.env:=by rfl)
  (hfew:((backTo cpos (bN (e::es) X.env)).all (λx=>!x.1)&&(backToKw cpos (keywordEach [] X.env)).all (λx=>x.1.isSome)
  &&decide ((e::es).length+([]:List Keyword).length+(if([]:List Keyword).isEmpty then 0 else 1)<30))=true:=by rfl)
  (hline:(apos.endLine==cpos.line)=true:=by rfl) (hs:bN (e::es) X.env=(false,eval e X.env)::bN es X.env:=by rfl) (hplain:(backTo cpos (bN es X.env)).any (·.1)=false:=by rfl) :
  PE X (.Call (.Attribute o name apos) (e::es) [] cpos) (XF X.K T r to t):=by
 intro pins s σ H Q I h;refine wpAny_Call_method_late hbase hfew hline rfl (jO (ho pins s σ H _ I h) λv s1 zq=>?_);obtain⟨x,H1,I1,r1,ty,q1⟩:=zq;obtain⟨h1,h2⟩:=aDv I1 r1 ty;refine⟨T,id,pa,slot,hty,h1,h2,?_⟩;have hA:=ha cpos pins s1 σ H1 _ I1 q1;rw[hs]at hA |-
 refine Calls.callWith_builtin (by show(false||(backTo cpos (bN es X.env)).any (·.1))=false;rw[hplain]<;>rfl) (Calls.evalArgs_plain ?_);exact jO hA λus s2 ⟨vs,H2,I2,r2,q2⟩=>hm pins s2 σ H2 x vs v us Q I2 r1 r2 q2
end
def MtM(X:Cx)(id:String)(r:V->List V->Hp->VK->Prop):Prop:=
 ∀pins s σ H(x:V)(xs:List V)(v:Value)(us:List Value)Q,eL X pins σ H s->gB x v->fS xs us->r x xs H Q ->
  wpAny (model X.prog X.w) X.A (call (.builtin id) (v::us)) (EP X pins σ Q) X.xe s
def fS.one:∀{x us},fS [x] us->∃u,us=[u]/\gB x u
|_,_,.cons r .nil=>⟨_,rfl,r⟩
theorem fS.reverse{xs:List V}{us:List Value}(h:fS xs us):fS xs.reverse us.reverse:=by
 induction h with
 |nil=>exact .nil
 |cons r t ih=>rw[rE,rE];exact fS.append ih (.cons r .nil)
section
variable{X:Cx}{pins:List (Addr×Obj)}{σ:St}{H:Hp}{s:Shared}{l:Addr}{xs ys:List V}
def eL.lset{its its':List Value}{n:Nat}{f:Array Value->Array Value}{t':Nat}(I:eL X pins σ H s)(hH:H l=some (.lst xs))
  (e:s.heap.get? l=some { cls:=.type "list",data:=.seq its.toArray n }) (hf:f its.toArray=its'.toArray) (hv:fS ys its') (hz:ys.length<=bL) :
  eL X pins σ (gO H l (.lst ys)) { s with heap:=s.heap.update l (Obj.mapSeq f),toks:=t' }:=by
 have q:=PySem.IsL.update e f;rw[hf]at q;refine I.write (x:=l) (e:=l) (by rw[hH];exact trivial) (.inl rfl) (λb' u hb hu=>(fD s.heap (Obj.mapSeq f) (Ne.symm hb)).trans hu) ⟨_,q⟩ ?_;exact⟨hz,its',_,hv,q⟩
def eL.lnew{its:List Value}{t':Nat}(I:eL X pins σ H s)(hv:fS ys its)(hz:ys.length<=bL) :
  eL X pins σ (gO H s.heap.objs.size (.lst ys)) { s with heap:=s.heap.push { cls:=.type "list",data:=.seq its.toArray },toks:=t' }:=
 I.laid (λ_ _ q=>aJ _ q) (aO _) ⟨hz,its,0,hv,aS _ rfl⟩
theorem eL.fresh(I:eL X pins σ H s):H s.heap.objs.size=none:=I.hok.fresh (aO _)
def eL.lstM(I:eL X pins σ H s)(hH:H l=some (.lst xs)):xs.length<=bL/\∃(its:List Value)(n:Nat),fS xs its/\xs.length=its.length/\s.heap.get? l=some { cls:=.type "list",data:=.seq its.toArray n }:=by
 obtain⟨z,its,n,r,e⟩:=I.hok l _ hH;exact⟨z,its,n,r,r.length,e⟩
def UC{n:Nat}(h:n<=bL):Builtin.List.listTooLong n=false:=by
 unfold Builtin.List.listTooLong;exact decide_eq_false (by omega)
end
section
variable{X:Cx}
def NS:V->List V->Hp->VK->Prop:=λx vs H Q=>∃l xs y,x=.ref l/\vs=[y]/\H l=some (.lst xs)/\xs.length<bL/\Q .non (gO H l (.lst (xs++[y])))
def oR:MtM X "list.append" NS:=by
 intro pins s σ H x vs v us Q I rx rv h;obtain⟨l,xs,y,rfl,rfl,hH,hz,q⟩:=h;cases rx;obtain⟨u,rfl,ru⟩:=rv.one;obtain⟨z,its,n,r,hl,e⟩:=I.lstM hH;refine call_meets F.slot_list_append ⟨_,e,rfl⟩ F.entry_list_append (F.args_list_append_2 _ _) (PySem.list_append l its.toArray n u (by rw[bF];omega)) ⟨e,?_⟩;refine⟨.non,_,I.lset (its':=its++[u]) hH e (by simp) (r.append (.cons ru .nil)) ?_,rfl,q⟩;rw[aV,nV];omega
end
end L2
namespace Att
open PySem.W PySem.Calls
def AG{P h}:∀(ns:List Int)(vs:List Value),WellAll P h vs (ns.map WData.int)->IntsAre vs ns:=by
 intro ns
 induction ns with
 |nil=>
  intro vs w;rw[iH]at w;cases w;exact .nil
 |cons n ns ih=>
  intro vs w;rw[aX]at w
  cases w with
  |cons a b=>
   cases a;exact .cons _ _ (ih _ b)
def PU{l:OpenLaw}{n:Nat}(hn:l.most=some n){P}{h:Heap}{args vals}
  (hpre:l.row.toRowW.claim.pre args=true) (hwl:WellAll P h vals args) :
  ∃a vs ns,vals=[Value.ref a]/\args=[WData.list (ns.map WData.int)]/\h.get? a=some { cls:=.type "list",data:=.seq vs.toArray }/\IntsAre vs ns/\ns.length<=n:=by
 have hsh:WShape.hasAll [] args [.list .int]=true:=(pre_splitW hpre).1;have hc:l.pre.holds [] { args:=args }=true:=(pre_splitW hpre).2;obtain⟨d,r,rfl,h1,h2⟩:=hasAllW_cons hsh;obtain rfl:=hasAllW_nil h2;obtain⟨xs,rfl,h3⟩:=hasW_list h1;obtain⟨ns,rfl⟩:=items_int h3
 have hlen:ns.length<=n:=by
  unfold OpenLaw.pre at hc
  have h4:(WTm.not (.lt (.lit (.int (n:Int))) (.len (.arg 0)))).holds [] { args:=[.list (ns.map .int)] }=true:=by
   have h4:=(holds_andW hc).1;rw[hn]at h4;exact h4
  have h5:=condW_of h4 (w_not (w_lt w_lit (w_len_list (w_arg rfl))));rw[aB]at h5;refine Nat.le_of_not_lt λq=>?_;have q':(n:Int)<((ns.length:Nat):Int):=by omega
  first
   | (rw[decide_eq_true q']at h5;exact absurd h5 (by decide))
   | (simp at h5;omega)
 cases hwl with
 |cons w1 w2=>
  cases w2
  cases w1 with
  |list ho hall=>exact⟨_,_,ns,rfl,rfl,ho,AG ns _ hall,hlen⟩
def P0(l:OpenLaw)(args:List WData):l.row.toRowW.claim.post args (.bool true) args=true:=
 postW_of (r:=l.row.toRowW) (X:=(true==true))
  (show WShape.has [] (.bool true) .bool=true by first | rfl | decide | simp[WShape.has,WShape.arms,WShape.armsAll])
  (show(WTm.eq .res (.lit (.bool true))).value [] { args:=args,res:=some (.bool true),after:=args }=some (.bool (true==true))from w_eq_bool (w_res rfl) w_lit) rfl
def attach_call{l:OpenLaw}{n:Nat}{q loose}{XP:(Str->Option Value)->Heap->Prop}{YP:World->Heap->Prop}{d:DefRec}
  (hn:l.most=some n) (hdf:d.params.defaults=[])
  (call:∀(w:World)(s₀ s₁:Shared)(mg mb:Str->Option Value)(fa:Addr)(o:Obj)(pm cd doc:Value)(a:Addr)(vs:List Value)(ns:List Int),
   Ground q loose [] XP w s₀ mg mb s₁.heap->YP w s₁.heap ->
   s₁.heap.get? fa=some o->o.data=.func (docDef d.name d.params d.body d.scope pm cd doc)->s₁.heap.CodeRec cd d.name->mg d.name=some (.ref fa) ->
   s₁.heap.get? a=some { cls:=.type "list",data:=.seq vs.toArray }->IntsAre vs ns->ns.length<=n->s₁.gens=#[] ->
   codeAny (model l.prog w) callerA (.call (.ref fa) ⟨[.ref a],[]⟩) (λr s'=>r=.ok (.ret (.bool true))/\OldK s₁.heap s'.heap/\s'.os=s₁.os/\AllBare s'.gens) s₁) :
  WalkO q loose XP YP l.row.toRowW d [] (λf vs=>PySem.call f vs):=by
 intro w s₀ s₁ mg mb G Y fa o pm cd doc dV kV ho hd hcd hD hmg hg args vals as hpre hlay hrd hwl hlo;obtain rfl:dV=.none:=Dflts.none hD hdf;obtain rfl:kV=.none:=Dflts.noKw hD;obtain⟨a,vs,ns,rfl,rfl,hobj,hints,hlen⟩:=PU hn hpre hwl;refine enter_call (codeAny_mono (call w s₀ s₁ mg mb fa o pm cd doc a vs ns G Y ho (fd_plain hd) hcd hmg hobj hints hlen hg) λr s' hq=>?_);obtain⟨rfl,h2,h3,h4⟩:=hq;exact⟨.inl ⟨.bool true,.bool true,[],rfl,λ_=>rfl,.bool true,P0 l _,λ_=>⟨kK.nil,λ_ hm=>(nomatch hm)⟩⟩,h2,h3,h4⟩
end Att
namespace L2
theorem DS:∀{vs}{ns:List Int},IntsAre vs ns->fS (ns.map V.int) vs
|_,_,.nil=>.nil
|_,_,.cons n t h=>.cons ⟨t,rfl⟩ (DS h)
def aGl(H:Hp):Prop:=∀b,H b=none\/(∃o xs,H b=some (.frz o (.lst xs)))\/(tabA=some b/\∃ps,H b=some (.tbl ps))
def UU{P w}{K:aL}{mg mb:Str->Option Value}{CX:WY}{k:Nat}{fa a:Addr}{fd}{x:Str}{sp:Sp}{s₁:Shared}{vs:List Value}{ns:List Int}
  (KX:K.In s₁.heap) (hns:s₁.heap.Ns jA mg) (hb:s₁.heap.Ns builtinsNs mb) (hbb:∀x:Str,x≠"__name__"->mb x=bootBuiltins x) (hlim:s₁.heap.NoLimit) (hg:s₁.gens=#[])
  (ha:s₁.heap.get? a=some { cls:=.type "list",data:=.seq vs.toArray }) (hi:IntsAre vs ns) (hl:ns.length<=bL) (hr:Room k callerA)
  (hbm:∃bm o,mg "__builtins__"=some (.ref bm)/\bm≠builtinsNs/\s₁.heap.get? bm=some o/\o.cls=.type "module"/\o.dict=some builtinsNs/\o.data=.plain)
  (hT:∀P,tabA=some P->s₁.heap.get? P=some { cls:=.none,data:=.fields #[] }/\K.lookup P=none/\isCodeTable s₁.heap P)
  (F:∀base:Heap,K.In base->base.Ns jA mg->dD P w K mg base CX k fa fd [x] sp) (hbind:∀s(u:Value),BindsTo s fd ⟨[u],[]⟩ [(x,u)])
  (hsp:∀H:Hp,aGl H->mZ K H a (ns.map V.int)->sp [.ref a] H (λv _=>v=.bl true) λ_ _ _=>False)
  (hCX:∀H e s',CX [] H s₁ (λ_ _ _=>False) e s'->False) :
  codeAny (model P w) callerA (.call (.ref fa) ⟨[.ref a],[]⟩) (λr s'=>r=.ok (.ret (.bool true))/\OldK s₁.heap s'.heap/\s'.os=s₁.os/\AllBare s'.gens) s₁:=by
 have rv:=DS hi;have lenV:=hi.length
 have aT:∀P,tabA=some P->P≠a:=λP e z=>by
  have h1:=(hT P e).1;rw[z,ha]at h1;cases h1
 have core:∀H:Hp,aGl H->mZ K H a (ns.map V.int)->wD P w H s₁.heap->(∀b,H b≠none->b=a\/tabA=some b)->(H a≠none->K.lookup a=none)->Tb H ->
   codeAny (model P w) callerA (.call (.ref fa) ⟨[.ref a],[]⟩) (λr s'=>r=.ok (.ret (.bool true))/\OldK s₁.heap s'.heap/\s'.os=s₁.os/\AllBare s'.gens) s₁:=by
  intro H hO hS hok hA hK hTb;have base_of:∀{b:Addr}{o:Obj},s₁.heap.get? b=some o->H b=none->(GE s₁.heap H).get? b=some o:=λe n=>VB e n
  have noA:∀{b:Addr}{o:Obj}{es:Array DictEntry}{ep:Nat},s₁.heap.get? b=some o->o.data=.dict es ep->H b=none:=λ{b o es ep} e d=>by
   cases q:H b with
   |none=>rfl
   |some u=>
    rcases hA b (by rw[q];simp)with e' | e'
    ·subst e';rw[ha]at e;cases e;have d':Data.seq vs.toArray _=Data.dict es ep:=d;cases d'
    ·rw[(hT b e').1]at e;cases e;have d':Data.fields #[]=Data.dict es ep:=d;cases d'
  have noP:∀{b:Addr}{o:Obj},s₁.heap.get? b=some o->o.data=.plain->H b=none:=λ{b o} e d=>by
   cases q:H b with
   |none=>rfl
   |some u=>
    rcases hA b (by rw[q];simp)with e' | e'
    ·subst e';rw[ha]at e;cases e;have d':Data.seq vs.toArray _=Data.plain:=d;cases d'
    ·rw[(hT b e').1]at e;cases e;have d':Data.fields #[]=Data.plain:=d;cases d'
  have nsK:∀{b:Addr}{m:Str->Option Value},s₁.heap.Ns b m->(GE s₁.heap H).Ns b m:=λ{b m} ⟨o,es,ep,e,d,r⟩=>⟨o,es,ep,base_of e (noA e d),d,r⟩
  have hKb:K.In (GE s₁.heap H):=λb o e=>base_of (KX b o e) (by
   cases q:H b with
   |none=>rfl
   |some u=>
    rcases hA b (by rw[q];simp)with e' | e'
    ·subst e';rw[hK (by rw[q];simp)]at e;cases e
    ·rw[(hT b e').2.1]at e;cases e)
  have hM:Mod K mg (GE s₁.heap H):=⟨hKb,nsK hns,⟨mb,nsK hb,hbb⟩,let ⟨mc,h1,h2⟩:=hlim;⟨mc,nsK h1,h2⟩,let ⟨bm,o,b1,b2,b3,b4,b5,b6⟩:=hbm;⟨bm,o,b1,b2,base_of b3 (noP b3 b6),b4,b5,b6⟩⟩;have e0:MR P w K mg (GE s₁.heap H) callerA [] s₁ H:=⟨rfl,hM,λb o e=>YN e,pO (QT _ _),trivial,λb hb=>absurd (show b∈([]:List Addr)from hb) (by simp),hok,.of_eq hg,hTb⟩;refine codeAny_mono ((F _ hKb (nsK hns)).run callerA [] s₁ H ⟨[.ref a],[]⟩ [.ref a] [.ref a] _ _ hr e0 (hbind s₁ (.ref a)) (.cons rfl .nil) (hsp H hO hS)) λr s' h=>?_
  cases r with
  |error e=>exact(hCX H e s' h).elim
  |ok fl=>
   cases fl with
   |next=>exact False.elim h
   |brk=>exact False.elim h
   |cont=>exact False.elim h
   |ret u=>
    obtain⟨v,H',os,bare,un,hok',r',q⟩:=h;have q':v=.bl true:=q;subst q';obtain rfl:u=Value.bool true:=r'
    have old:∀b o,s₁.heap.get? b=some o->s'.heap.get? b=some o\/(isCodeTable s₁.heap b/\o={ cls:=.none,data:=.fields #[] }/\∃qs:Array Value,s'.heap.get? b=some { cls:=.none,data:=.fields qs }):=λb o e=>by
     cases q:H b with
     |none=>exact .inl (un.keep b o e q (by intro z;exact absurd (show b∈([]:List Addr)from z) (by simp)) (by simp))
     |some u=>
      rcases hO b with z | ⟨ob,xs,z⟩ | ⟨t,ps,z⟩
      ·rw[q]at z;cases z
      ·have z2:=un.frzs b ob _ z;obtain⟨e1,_⟩:=hok b _ z;obtain⟨e2,_⟩:=hok' b _ z2;rw[e]at e1;cases e1;exact .inl e2
      ·obtain⟨h1,h2,h3⟩:=hT b t;obtain⟨m,z2⟩:=un.tbls b ps z;obtain⟨qs,e2,_⟩:=hok' b _ z2;rw[e]at h1;cases h1;exact .inr ⟨h3,rfl,qs,e2⟩
    refine⟨rfl,⟨λb o e=>?_,λb o e=>?_⟩,os,bare⟩
    ·rcases old b o e with h1 | ⟨h1,rfl,qs,h2⟩
     ·exact .inl h1
     ·exact .inr (.inl ⟨h1,rfl,#[],qs,rfl,by rw[h2];simp⟩)
    ·rcases old b o e with h1 | ⟨h1,rfl,qs,h2⟩
     ·exact⟨_,h1⟩
     ·exact⟨_,h2⟩
 have dT:∀b,Decidable (tabA=some b):=λb=>inferInstance
 cases hk:K.lookup a with
 |some o=>
  have e:=KX a o hk;rw[ha]at e;cases e;refine core (λb=>if tabA=some b then some (.tbl #[])else none) (λb=>?_) (.inr ⟨_,vs.toArray,_,hk,rfl,rfl,rfl,by rw[bF,lenV];exact hl,by simpa using rv⟩) (λb u z=>?_) (λb z=>?_) (λz=>?_) λP e=>⟨#[],if_pos e⟩
  ·by_cases hb:tabA=some b
   ·exact .inr (.inr ⟨hb,#[],if_pos hb⟩)
   ·exact .inl (if_neg hb)
  ·by_cases hb:tabA=some b
   ·have z':=(if_pos hb).symm.trans z;cases z';exact⟨#[],(hT b hb).1,trivial,λp c q=>by cases q⟩
   ·have z':=(if_neg hb).symm.trans z;cases z'
  ·by_cases hb:tabA=some b
   ·exact .inr hb
   ·exact absurd (if_neg hb) z
  ·exact absurd (if_neg λe=>aT a e rfl) z
 |none=>
  refine core (λb=>if tabA=some b then some (.tbl #[])else if b=a then some (.frz { cls:=.type "list",data:=.seq vs.toArray } (.lst (ns.map V.int)))else none) (λb=>?_) (.inl (.inr ⟨{ cls:=.type "list",data:=.seq vs.toArray },(if_neg λe=>aT a e rfl).trans (if_pos rfl)⟩)) (λb u z=>?_) (λb z=>?_) (λ_=>hk) λP e=>⟨#[],if_pos e⟩
  ·by_cases hT':tabA=some b
   ·exact .inr (.inr ⟨hT',#[],if_pos hT'⟩)
   ·by_cases hb:b=a
    ·exact .inr (.inl ⟨_,_,(if_neg hT').trans (if_pos hb)⟩)
    ·exact .inl ((if_neg hT').trans (if_neg hb))
  ·by_cases hT':tabA=some b
   ·have z':=(if_pos hT').symm.trans z;cases z';exact⟨#[],(hT b hT').1,trivial,λp c q=>by cases q⟩
   ·by_cases hb:b=a
    ·have z':=((if_neg hT').trans (if_pos hb)).symm.trans z;cases z';subst hb;exact⟨ha,by rw[aB];exact hl,vs,_,rv,ha⟩
    ·have z':=((if_neg hT').trans (if_neg hb)).symm.trans z;cases z'
  ·by_cases hT':tabA=some b
   ·exact .inr hT'
   ·by_cases hb:b=a
    ·exact .inl hb
    ·exact absurd ((if_neg hT').trans (if_neg hb)) z
def W7{l:PySem.W.OpenLaw}{n k:Nat}{q loose}{XP:(Str->Option Value)->Heap->Prop}{YP:World->Heap->Prop}{d:DefRec}{K:Params->aL}{CX:World->WY}{sp:World->Sp}{x}
  (hn:l.most=some n) (hn2:n<=bL) (hdf:d.params.defaults=[]) (hr:Room k callerA)
  (hY:∀(w:World)(h:Heap),YP w h->(K w.params).In h) (hT:∀(w:World)(h:Heap),YP w h->∀P,tabA=some P->h.get? P=some { cls:=.none,data:=.fields #[] }/\(K w.params).lookup P=none/\isCodeTable h P)
  (F:∀(w:World)(mg:Str->Option Value)(fa:Addr)(h:Heap),(K w.params).In h->h.Ns jA mg->mg d.name=some (.ref fa) ->
   ∃fd:jL,(∀s(u:Value),BindsTo s fd ⟨[u],[]⟩ [(x,u)]) /\
    ∀base:Heap,(K w.params).In base->base.Ns jA mg->dD l.prog w (K w.params) mg base (CX w) k fa fd [x] (sp w))
  (hsp:∀(w:World)H(a:Addr)(ns:List Int),ns.length<=n->aGl H->mZ (K w.params) H a (ns.map V.int)->sp w [.ref a] H (λv _=>v=.bl true) λ_ _ _=>False)
  (hCX:∀(w:World)H s(e:Value)s',CX w [] H s (λ_ _ _=>False) e s'->False) :
  W1 q loose XP YP l.row.toRowW d [] (λf vs=>PySem.call f vs):=by
 refine Att.attach_call hn hdf λw s₀ s₁ mg mb fa o pm cd doc a vs ns G Y ho hd hcd hmg hobj hints hlen hg=>?_;have KX:=hY w _ Y;obtain⟨fd,hb,hF⟩:=F w mg fa _ KX G.T.g hmg;exact UU KX G.T.g G.T.b G.T.builtins G.T.nolimit hg hobj hints (cI hlen hn2) hr G.T.bmain (hT w _ Y) hF hb (λH hO hS=>hsp w H a ns hlen hO hS) λH e s'=>hCX w H s₁ e s'
noncomputable def xL(s:Stmt):Arguments:=match s with
|.FunctionDef _ a _ _ _ _ _ _ _ _=>a
|_=>{ posonlyargs:=[],args:=[],vararg:=none,kwonlyargs:=[],kw_defaults:=[],kwarg:=none,defaults:=[] }
noncomputable def lQ(s:Stmt):List Stmt:=match s with
|.FunctionDef _ _ b _ _ _ _ _ _ _=>b
|_=>[]
noncomputable def bP(s:Stmt):Scope:=match s with
|.FunctionDef _ _ _ _ _ _ sc _ _ _=>sc
|_=>{ kind:=.function,names:=[],isGenerator:=false,isCoroutine:=false }
abbrev gA:WY:=λ_ _ _ _ _ _=>False
abbrev E0:XK:=λ_ _ _=>False
def tG{X}:zB gA X E0:=λ_ _ _ _ _ _ _ h=>h.elim
structure RV(K:aL)(x qual:Str)(st:Stmt)(f:Addr)(fd:jL):Prop where
 ex:∃(oc:Value)(od:Option Addr)(kV doc pm:Value)(an:Option Addr)(cdv ct:Value)(osl:Array (Option Value)),
  fd=mV x qual (xL st) (lQ st) (bP st) .none kV doc pm an cdv ct/\K.lookup f=some ⟨oc,od,.func fd,osl⟩/\pG K cdv qual=true
 kp:gU K (.ref f)=true
section
variable{P:bX}{w:World}{K:aL}{mg:Str->Option Value}{base:Heap}
def RV.ok{x qual st}{f:Addr}{fd}{N ps:List Str}{k:Nat}{sp:Sp}(F:RV K x qual st f fd)(S:dC N ps (bP st))(len:∀vs H Q E,sp vs H Q E->vs.length=ps.length)
  (hbody:∀(cdv:Value)(A:Around)outer(s:Shared)H(vs:List V)Q E,Room k (A.deeper (envOfC qual (bP st) s.heap.objs.size f cdv))->sp vs H Q E ->
   ∃t,CW (yV gA P w K mg base N qual (bP st) f cdv A outer s H E).nox (lQ st) t/\t { nx:=λ_ H'=>Q .non H',rt:=Q } (oF N vs) H):dD P w K mg base gA (k+1) f fd ps sp:=by
 obtain⟨oc,od,kV,doc,pm,an,cdv,ct,osl,rfl,lk,hcd⟩:=F.ex;refine aJs lk hcd S len λA outer s H vs Q E hr hsp=>?_;obtain⟨t,h,q⟩:=hbody cdv A outer s H vs Q E hr hsp;exact⟨t,h.nox,q⟩
def RV.binds{x qual st}{f:Addr}{fd}{ps:List Str}(F:RV K x qual st f fd)
  (h:∀(kV doc pm:Value)(an:Option Addr)(cdv ct:Value)(us:List Value),us.length=ps.length->bindArgs (mV x qual (xL st) (lQ st) (bP st) .none kV doc pm an cdv ct) ⟨us,[]⟩=pure (ps.zip us)):sQ K fd ps []:=by
 obtain⟨oc,od,kV,doc,pm,an,cdv,ct,osl,rfl,lk,hcd⟩:=F.ex;exact .all (h kV doc pm an cdv ct)
def VG{x qual st}{f:Addr}{oc od an osl kV doc pm cdv ct}(l:K.lookup f=some ⟨oc,od,.func (mV x qual (xL st) (lQ st) (bP st) .none kV doc pm an cdv ct),osl⟩)
  (c:pG K cdv qual=true) (k:gU K (.ref f)=true):RV K x qual st f (mV x qual (xL st) (lQ st) (bP st) .none kV doc pm an cdv ct):=⟨⟨oc,od,kV,doc,pm,an,cdv,ct,osl,rfl,l,c⟩,k⟩
end
def PM{n:Nat}(h:n<=1000):n<bL:=zG h (by decide)
section
variable{X:Cx}
def pv(i:Nat){x:Str}{pos}(hN:X.N[i]?=some x:=by rfl)(hv:Vis X.env.scope x:=by first | exact Or.inl rfl | exact Or.inr (Or.inl rfl) | exact Or.inr (Or.inr rfl))(hd:(x==("__debug__":Str))=false:=by decide)
  (hcd:(x==("__classdict__":Str))=false:=by decide):PE X (.Name x pos) (pL i):=TV hN hv hd hcd
end
def bJ(H H':Hp):Prop:=∀b o,H b=some o->H' b=some o
def bJ.refl(H:Hp):bJ H H:=λ_ _ h=>h
def bJ.trans{H H1 H2}(a:bJ H H1)(b:bJ H1 H2):bJ H H2:=λc o h=>b c o (a c o h)
def bJ.seq{K H H'}{a:Addr}{xs}(e:bJ H H')(h:mZ K H a xs):mZ K H' a xs:=by
 rcases h with(h | ⟨o,h⟩) | h
 ·exact .inl (.inl (e _ _ h))
 ·exact .inl (.inr ⟨o,e _ _ h⟩)
 ·exact .inr h
def ZB{M A}{E:Value->Shared->Prop}{s tg it z t}{Q:Unit->Shared->Prop}(hQ:Q () s) :
  wpAny M A (letOwnedTupleGo tg it (.str z t)) Q E s:=by
 unfold letOwnedTupleGo
 cases tg<;>first
  |exact aE hQ
  | (cases it<;>exact aE hQ)
noncomputable def Its(z:Str):It:=⟨λi _=>i<z.cps.size,λi H x H'=>H'=H/\∃c,z.cps[i]?=some c/\x=.str ⟨#[c]⟩,λi _=>z.cps.size<=i⟩
def PF{P w K tg ty}(it:Addr)(z:Str)(t:Tok)
  (W:∀A:Around,A.handled=none->Walks P w A it [it] [it] z.cps.size (SignAt z) (λi h=>h.IsStrIter it ty z t i))
  (S:∀A(i:Nat)(s:Shared)Q E,s.heap.IsStrIter it ty z t i->Q (.ref it) s->wpAny (model P w) A (pyIter (.ref it)) Q E s) :
  ML P w K tg (Its z) [it] it (λi h=>i<=z.cps.size/\h.IsStrIter it ty z t i) where
 mem:=by simp
 obj:=λi h st b hb=>by
  obtain rfl:b=it:=by simpa using hb
  obtain⟨_,o,e,c,d⟩:=st;exact⟨o,e,λv q=>by rw[d]at q;cases q⟩
 keep:=λi h h' st k=>by
  obtain⟨l,o,e,r⟩:=st;exact⟨l,o,k it (by simp) o e,r⟩
 item:=by
  intro X hP hw hK hc i pins s σ H E I hf st hg;subst hP hw hK;obtain⟨f0,f1,f2,f3,f4,f5⟩:=hf it (by simp);refine(W X.A (I.ok.hd hc)).item i s _ _ hg st.2 λv h' tk hv st' kk=>?_;obtain⟨c,u,hx,rfl⟩:=hv;have I1:eL X pins σ H { s with heap:=h',toks:=tk }:=I.turned (λb o hb e=>kk b o (by simpa using hb) e) f0 f1 f3 f4 f5;exact⟨_,rfl,ZB ⟨.str ⟨#[c]⟩,H,I1,⟨u,rfl⟩,⟨rfl,c,hx,rfl⟩,⟨hg,st'⟩,λb hb=>(hf b hb).1⟩⟩
 done:=by
  intro X hP hw hK hc i pins s σ H E I hf st hg;subst hP hw hK;obtain⟨f0,f1,f2,f3,f4,f5⟩:=hf it (by simp);have e:i=z.cps.size:=Nat.le_antisymm st.1 hg;subst e;exact(W X.A (I.ok.hd hc)).done s _ _ st.2 λh' tk kk=>⟨rfl,I.turned (λb o hb e=>kk b o (by simpa using hb) e) f0 f1 f3 f4 f5⟩
 self:=λA i s Q E st h=>S A i s Q E st.2 h
def aMm(K:aL)(tl:TE):TI:=λσ H R=>tl σ H λx H1=>(∃a,x=.ref a/\(∃xs,mZ K H1 a xs)/\R (Itl K a) H1)\/(∃a,x=.ref a/\(∃xs,tV K H1 a xs)/\R (Itt K a) H1)\/∃z,x=.str z/\R (Its z) H1
def aEt{X:Cx}{tg l tl}(hl:PE X l tl):PI X tg l (aMm X.K tl):=by
 intro pins s σ H R I h;refine jO (hl pins s σ H _ I h) λv s1 zq=>?_;obtain⟨x,H1,I1,r1,q1⟩:=zq;rcases q1 with⟨a,rfl,⟨xs,hq⟩,q⟩ | ⟨a,rfl,⟨xs,hq⟩,q⟩ | ⟨z,rfl,q⟩
 ·cases r1;obtain⟨its,rv,p,hz⟩:=I1.list hq;refine wpAny_pyIter_list p.isList ⟨s1.heap.objs.size,[s1.heap.objs.size],_,_,H1,rfl,I1.kept (t':=s1.toks) λb o e=>aJ _ e,PH a _,⟨_,aS _ rfl,rfl,rfl⟩,λb hb=>?_,q⟩;obtain rfl:b=s1.heap.objs.size:=by simpa using hb
  exact I1.fpOk (aO _) (I1.hok.fresh (aO _))
 ·cases r1;obtain⟨its,rv,p,hz⟩:=I1.tuple hq;refine wpAny_pyIter_tuple (show s1.heap.IsTuple a its.toArray from p) ⟨s1.heap.objs.size,[s1.heap.objs.size],_,_,H1,rfl,I1.kept (t':=s1.toks) λb o e=>aJ _ e,KP a _,⟨_,aS _ rfl,rfl,rfl⟩,λb hb=>?_,q⟩;obtain rfl:b=s1.heap.objs.size:=by simpa using hb
  exact I1.fpOk (aO _) (I1.hok.fresh (aO _))
 ·obtain⟨t,rfl⟩:=r1
  have fin:∀(o:Obj)(ty:String),(∀A:Around,A.handled=none->Walks X.prog X.w A s1.heap.objs.size [s1.heap.objs.size] [s1.heap.objs.size] z.cps.size (SignAt z) (λi h=>h.IsStrIter s1.heap.objs.size ty z t i)) ->
    (∀A(i:Nat)(s:Shared)Q E,s.heap.IsStrIter s1.heap.objs.size ty z t i->Q (.ref s1.heap.objs.size) s->wpAny (model X.prog X.w) A (pyIter (.ref s1.heap.objs.size)) Q E s) ->
    (s1.heap.push o).IsStrIter s1.heap.objs.size ty z t 0->PIE X pins σ tg R (.ref s1.heap.objs.size) { s1 with heap:=s1.heap.push o }:=λo ty W S st=>by
   refine⟨s1.heap.objs.size,[s1.heap.objs.size],_,Its z,H1,rfl,I1.kept (t':=s1.toks) λb o e=>aJ _ e,PF _ z t W S,⟨cL _,st⟩,λb hb=>?_,q⟩;obtain rfl:b=s1.heap.objs.size:=by simpa using hb
   exact I1.fpOk (aO _) (I1.hok.fresh (aO _))
  cases ha:z.cps.all (·<128)
  ·exact wpAny_pyIter_wide ha (fin _ "str_iterator" (λA hA=>Walks.strWide hA _ z t) (λ_ _ _ _ _ st h=>wpAny_pyIter_striter_wide st h) ⟨_,aS _ rfl,rfl,rfl⟩)
  ·exact wpAny_pyIter_ascii ha (fin _ "str_ascii_iterator" (λA hA=>Walks.strAscii hA _ z t) (λ_ _ _ _ _ st h=>wpAny_pyIter_striter_ascii st h) ⟨_,aS _ rfl,rfl,rfl⟩)
structure BP where
 cl:List (Str×Addr)
 C:Addr
 s3:Shared
 H3:Hp
 ex:List Addr
 pn:List (Addr×Obj)
noncomputable def blk(X:Cx)(scope:Scope)(N':List Str)(b:BP):Cx where
 prog:=X.prog
 w:=X.w
 K:=X.K
 mg:=X.mg
 base:=X.base
 A:=X.A
 N:=N'
 s₀:=b.s3
 H₀:=b.H3
 env:=compEnvC scope b.cl b.C X.env
 outer:=X.stack
 stack:=X.stack
 ex:=b.ex
 fn:=λx=>scope.names.lookup x==some .cell
 calm:=X.calm
 pn:=b.pn
 xe:=λ_ _=>False
theorem vW{env:Env}:∀(names:List (Str×NameKind))(acc:List (Str×Addr)),(∀x∈names,x.2=.free->∃c,env.cells.lookup x.1=some c) ->
 (∀n c,acc.lookup n=some c->env.cells.lookup n=some c) ->
 ∃cl:List (Str×Addr),(forIn names acc (λx cs=>match x with | (name,kind)=>if kind==.free then do let a <- cellOf env name;pure (ForInStep.yield ((name,a)::cs))else pure (ForInStep.yield cs)):Sem (List (Str×Addr)))=pure cl /\
  (∀n c,cl.lookup n=some c->env.cells.lookup n=some c)/\(∀n,((∃c,acc.lookup n=some c)\/(n,NameKind.free)∈names)->∃c,cl.lookup n=some c)
|[],acc,_,ha=>⟨acc,rfl,ha,λn h=>h.elim id λz=>absurd z (by simp)⟩
| (n,k)::r,acc,h,ha=>by
 by_cases hk:k=.free
 ·subst hk;obtain⟨c,hc⟩:=h (n,.free) (aR ..) rfl
  obtain⟨cl,e,h1,h2⟩:=vW r ((n,c)::acc) (λx hx=>h x (aM _ hx)) (λm d hm=>by
   rw[iE]at hm
   cases hb:m==n with
   |true=>
    rw[hb]at hm;obtain rfl:m=n:=by simpa using hb
    cases hm;exact hc
   |false=>rw[hb]at hm;exact ha m d hm)
  refine⟨cl,?_,h1,λm hm=>h2 m ?_⟩
  ·rw[aAo];have ec:cellOf env n=pure c:=by unfold cellOf;rw[hc]
   simp only[beq_self_eq_true,if_true,ec];exact e
  ·rcases hm with⟨d,hd⟩ | hm
   ·left
    rw[iE]
    cases hb:m==n with
    |true=>exact⟨c,rfl⟩
    |false=>exact⟨d,hd⟩
   ·rcases bH.mp hm with z | z
    ·left
     cases z;exact⟨c,by simp[iE]⟩
    ·exact .inr z
 ·obtain⟨cl,e,h1,h2⟩:=vW r acc (λx hx=>h x (aM _ hx)) ha;refine⟨cl,?_,h1,λm hm=>h2 m (hm.imp id λz=>?_)⟩
  ·rw[aAo];have eb:(k==NameKind.free)=false:=by simpa using hk
   simp only[eb,iF,if_false];exact e
  ·rcases bH.mp z with z | z
   ·cases z;exact absurd rfl hk
   ·exact z
def CF{env:Env}{scope:Scope}(h:∀x∈scope.names,x.2=.free->∃c,env.cells.lookup x.1=some c) :
  ∃cl,closureFor scope env=pure cl/\(∀n c,cl.lookup n=some c->env.cells.lookup n=some c)/\∀n,(n,NameKind.free)∈scope.names->∃c,cl.lookup n=some c:=by
 obtain⟨cl,e,h1,h2⟩:=vW (env:=env) scope.names [] h (λn c z=>by simp at z);refine⟨cl,?_,h1,λn z=>h2 n (.inr z)⟩;unfold closureFor;refine Eq.trans ?_ (congrArg (λm=>m >>= λr=>(pure r:Sem (List (Str×Addr)))) e)
 rfl
theorem rV{env:Env}{x k}:∀{names:List (Str×NameKind)},
 (names.map λ(n,k)=>if(k==NameKind.free&&env.scope.kind==.function&&env.kindOf n==some .cell)then(n,NameKind.cell)else(n,k)).lookup x=some k ->
 ∃k0,(x,k0)∈names/\(k0=k\/(k0=.free/\k=.cell))
|[],h=>by simp at h
| (n,j)::r,h=>by
 rw[aX,iE]at h;dsimp only at h;by_cases hc:(j==NameKind.free&&env.scope.kind==.function&&env.kindOf n==some .cell)=true
 ·rw[if_pos hc]at h;dsimp only at h
  cases hb:x==n with
  |true=>
   rw[hb]at h;obtain rfl:x=n:=by simpa using hb
   cases h;have hj:j=.free:=by simp only[bY,beq_iff_eq]at hc;exact hc.1.1
   exact⟨j,aR ..,.inr ⟨hj,rfl⟩⟩
  |false=>
   rw[hb]at h;obtain⟨k0,h1,h2⟩:=rV (names:=r) h;exact⟨k0,aM _ h1,h2⟩
 ·rw[if_neg hc]at h;dsimp only at h
  cases hb:x==n with
  |true=>
   rw[hb]at h;obtain rfl:x=n:=by simpa using hb
   cases h;exact⟨_,aR ..,.inl rfl⟩
  |false=>
   rw[hb]at h;obtain⟨k0,h1,h2⟩:=rV (names:=r) h;exact⟨k0,aM _ h1,h2⟩
theorem wQ{env:Env}{x}:∀{names:List (Str×NameKind)},names.lookup x=some .free ->
 (names.map λ(n,k)=>if(k==NameKind.free&&env.scope.kind==.function&&env.kindOf n==some .cell)then(n,NameKind.cell)else(n,k)).lookup x=some .cell \/
 (names.map λ(n,k)=>if(k==NameKind.free&&env.scope.kind==.function&&env.kindOf n==some .cell)then(n,NameKind.cell)else(n,k)).lookup x=some .free
|[],h=>by simp at h
| (n,j)::r,h=>by
 rw[iE]at h;rw[aX,iE];dsimp only
 cases hb:x==n with
 |true=>
  rw[hb]at h;cases h;by_cases hc:(NameKind.free==NameKind.free&&env.scope.kind==.function&&env.kindOf n==some .cell)=true
  ·rw[if_pos hc];dsimp only;rw[hb];exact .inl rfl
  ·rw[if_neg hc];dsimp only;rw[hb];exact .inr rfl
 |false=>
  rw[hb]at h;have ih:=wQ (env:=env) (names:=r) h;by_cases hc:(j==NameKind.free&&env.scope.kind==.function&&env.kindOf n==some .cell)=true
  ·rw[if_pos hc];dsimp only;rw[hb];exact ih
  ·rw[if_neg hc];dsimp only;rw[hb];exact ih
noncomputable def tN(names outer:List (Str×NameKind))(Nx:List Str):List Str->List (Option Nat)->Bool
|[],[]=>true
|x::r,none::f=>tN names outer Nx r f
|x::r,some j::f=>(names.lookup x==some .free)&&(Nx[j]?==some x)&&(outer.lookup x==some .cell)&&tN names outer Nx r f
|_,_=>false
theorem yP{names outer:List (Str×NameKind)}{Nx}:∀{N':List Str}{fr:List (Option Nat)},tN names outer Nx N' fr=true ->
 N'.length=fr.length/\∀(i:Nat)(x:Str)(j:Nat),N'[i]?=some x->fr[i]?=some (some j)->names.lookup x=some .free/\Nx[j]?=some x/\outer.lookup x=some .cell
|[],[],_=>⟨rfl,λi x j h=>by simp at h⟩
|x::r,none::f,h=>by
 obtain⟨h1,h2⟩:=yP (N':=r) (fr:=f) h;refine⟨by simp[h1],λi y j e1 e2=>?_⟩
 cases i with
 |zero=>simp at e2
 |succ i=>exact h2 i y j (by simpa using e1) (by simpa using e2)
|x::r,some k::f,h=>by
 simp only[tN,bY,beq_iff_eq]at h;obtain⟨⟨⟨a1,a2⟩,a3⟩,h⟩:=h;obtain⟨h1,h2⟩:=yP (N':=r) (fr:=f) h;refine⟨by simp[h1],λi y j e1 e2=>?_⟩
 cases i with
 |zero=>
  simp at e1 e2;subst e1;subst e2;exact⟨a1,a2,a3⟩
 |succ i=>exact h2 i y j (by simpa using e1) (by simpa using e2)
|[],_::_,h=>by simp[tN]at h
|_::_,[],h=>by simp[tN]at h
noncomputable def vC(fr:List (Option Nat))(σ:St):St:=fr.map λo=>o.bind λj=>(σ[j]?).join
def KE(X:Cx)(ifs:List Expr)(tt:TT):Prop:=
 ∀pins s σ H(Q:Bool->Hp->Prop),eL X pins σ H s->tt σ H Q ->
  wpAny (model X.prog X.w) X.A (forIn ifs true λc r=>if r=true then do let ok <- isTrue c X.env (eval c X.env);pure (ForInStep.yield ok)else pure (ForInStep.yield r)) (TP X pins σ Q) X.xe s
def XG:TT:=λ_ H Q=>Q true H
def YC{X}:KE X [] XG:=λ_ _ _ H _ I h=>wpAny_tests_nil ⟨H,I,h⟩
def YB{X c tt}(h:PT X c tt):KE X [c] tt:=λpins s σ H Q I q=>wpAny_tests_one (h pins s σ H Q I q)
def KS(fr:List (Option Nat))(wi:TI)(g:BP->TG)(tt:BP->TT)(te:BP->TE):TE:=λσ H Q=>wi σ H λJ H1=>∀(bp:BP)(acc:Addr),H1 acc=none->∃W:Nat->Nat->St->Hp->Prop,
 (∃m,W 0 m (vC fr σ) (gO H1 acc (.lst [])))/\∀i m σ' H',W i m σ' H' ->
  (J.stop i H'/\Q (.ref acc) H')\/(J.go i H'/\∀x H2,J.yld i H' x H2->g bp x σ' H2 λσ2 H3=>tt bp σ2 H3 λb H4=>
   if b=true then te bp σ2 H4 λy H5=>∃ys,H5 acc=some (.lst ys)/\ys.length<bL/\∃m',m'<m/\W (i+1) m' σ2 (gO H5 acc (.lst (ys++[y])))
   else∃m',m'<m/\W (i+1) m' σ2 H4)
theorem sD:∀{names:List (Str×NameKind)},names.filter (λy=>y.2==NameKind.cell)=[]->∀(n:Nat)(acc:List (Str×Addr))h,cellsFrom n names acc=acc/\pushCells h names=h
|[],_,_,_,_=>⟨rfl,rfl⟩
| (x,k)::r,e,n,acc,h=>by
 rw[cX]at e
 cases hk:(k==NameKind.cell)with
 |true=>dsimp only at e;rw[hk,if_pos rfl]at e;cases e
 |false=>
  dsimp only at e;rw[hk,if_neg bE]at e;unfold cellsFrom pushCells;rw[hk,if_neg bE,if_neg bE];exact sD e n acc h
theorem yY{z:Str}:∀{names:List (Str×NameKind)},names.filter (λy=>y.2==NameKind.cell)=[(z,.cell)]->∀(n:Nat)(acc:List (Str×Addr))(h:Heap),cellsFrom n names acc=(z,n)::acc/\pushCells h names=h.push { cls:=.type "cell",data:=.cell none }
|[],e,_,_,_=>by cases e
| (x,k)::r,e,n,acc,h=>by
 rw[cX]at e
 cases hk:(k==NameKind.cell)with
 |true=>
  dsimp only at e;rw[hk,if_pos rfl]at e;injection e with e1 e2
  injection e1 with e1 _
  subst e1;unfold cellsFrom pushCells;rw[hk,if_pos rfl,if_pos rfl];exact sD e2 (n+1) ((x,n)::acc) _
 |false=>
  dsimp only at e;rw[hk,if_neg bE]at e;unfold cellsFrom pushCells;rw[hk,if_neg bE,if_neg bE];exact yY e n acc h
def uN(names:List (Str×NameKind)):Prop:=names.filter (λy=>y.2==NameKind.cell)=[]\/∃z,names.filter (λy=>y.2==NameKind.cell)=[(z,.cell)]/\names.lookup z=some .cell
structure aNb(names:List (Str×NameKind))(cl cl':List (Str×Addr))(h:Heap)(C:Addr):Prop where
 get:∀x c,cl'.lookup x=some c->(C<c/\(x,NameKind.cell)∈names/\h.IsCell c none)\/(cl.lookup x=some c/\(x,NameKind.cell)∉names)
 old:∀x c,names.lookup x=some .free->cl.lookup x=some c->cl'.lookup x=some c
 has:∀x,(x,NameKind.cell)∈names->∃c,cl'.lookup x=some c
 keep:∀x c,cl.lookup x=some c->∃c',cl'.lookup x=some c'
 inj:∀x y c,cl'.lookup x=some c->cl'.lookup y=some c->C<c->x=y
def YS{M A}{E:Value->Shared->Prop}{s:Shared}{scope:Scope}{globals:Addr}{closure:List (Str×Addr)}{qual outer}{Q:Env->Shared->Prop}(hz:uN scope.names)(hlt:∀x c,closure.lookup x=some c->c<s.heap.objs.size)
  (hQ:∀h' cl',h'.Ns s.heap.objs.size (λ_=>none)->(∀b o,s.heap.get? b=some o->h'.get? b=some o)->aNb scope.names closure cl' h' s.heap.objs.size->Q (newEnv scope s.heap.objs.size globals cl' qual none .none (some outer) builtinsNs) { s with heap:=h' }) :
  wpAny M A (newFunctionEnv scope globals closure [] qual none .none (some outer)) Q E s:=by
 simp only[newFunctionEnv,O8,if_true];refine aA (wpAny_alloc ?_);refine aA (wpAny_layCells _ (λname kind cells=>by cases hkc:kind==NameKind.cell<;>simp[hkc]) _ _ _ _ ?_);have mem:∀x,(x,NameKind.cell)∈scope.names->(x,NameKind.cell)∈scope.names.filter (λy=>y.2==NameKind.cell):=λx hx=>bZ.mpr ⟨hx,rfl⟩;rcases hz with hz | ⟨z,hz,hzl⟩
 ·rw[(sD hz _ _ s.heap).1,(sD hz 0 [] _).2]
  have no:∀x,(x,NameKind.cell)∉scope.names:=λx hx=>by
   have:=mem x hx;rw[hz]at this;cases this
  exact aA (aE (aE (hQ _ _ (Heap.Ns.new s.heap (.type "dict")) (λb o e=>aJ _ e) ⟨λx c h=>.inr ⟨h,no x⟩,λx c _ h=>h,λx h=>absurd h (no x),λx c h=>⟨c,h⟩,λx y c h _ l=>absurd (hlt x c h) (tX l)⟩)))
 ·rw[(yY hz _ _ s.heap).1,(yY hz 0 [] _).2,show({ s with heap:=s.heap.push { cls:=.type "dict",data:=.dict #[] } }:Shared).heap.objs.size=s.heap.objs.size+1 from eO ..]
  have isz:∀x,(x,NameKind.cell)∈scope.names->x=z:=λx hx=>by
   have:=mem x hx;rw[hz]at this;exact congrArg Prod.fst (aZ.mp this)
  have lk:∀x c,((z,s.heap.objs.size+1)::closure).lookup x=some c->(x=z/\c=s.heap.objs.size+1)\/(x≠z/\closure.lookup x=some c):=λx c h=>by
   rw[iE]at h
   cases hb:x==z with
   |true=>rw[hb]at h;cases h;exact .inl ⟨eq_of_beq hb,rfl⟩
   |false=>rw[hb]at h;exact .inr ⟨ne_of_beq_false hb,h⟩
  have lko:∀x c,x≠z->closure.lookup x=some c->((z,s.heap.objs.size+1)::closure).lookup x=some c:=λx c hx h=>by
   rw[iE,beq_eq_false_iff_ne.mpr hx];exact h
  have g:((s.heap.push { cls:=.type "dict",data:=.dict #[] }).push { cls:=.type "cell",data:=.cell none }).get? (s.heap.objs.size+1)=some { cls:=.type "cell",data:=.cell none }:=by
   have:=aS (s.heap.push { cls:=.type "dict",data:=.dict #[] }) (o:={ cls:=.type "cell",data:=.cell none }) rfl
   rwa [eO]at this
  refine aA (aE (aE (hQ _ _ ((Heap.Ns.new s.heap (.type "dict")).keeps λb o e=>aJ _ e) (λb o e=>aJ _ (aJ _ e)) ⟨λx c h=>?_,λx c hx h=>lko x c (λe=>by rw[e,hzl]at hx;cases hx) h,λx hx=>⟨s.heap.objs.size+1,by rw[isz x hx];simp⟩,λx c h=>?_,λx y c h1 h2 l=>?_⟩)))
  ·rcases lk x c h with⟨rfl,rfl⟩ | ⟨n,h⟩
   ·exact .inl ⟨eI _,PySem.mem_of_lookup hzl,_,g,rfl⟩
   ·exact .inr ⟨h,λhx=>n (isz x hx)⟩
  ·by_cases e:x=z
   ·exact⟨s.heap.objs.size+1,by rw[e];simp⟩
   ·exact⟨c,lko x c e h⟩
  ·rcases lk x c h1 with⟨e1,_⟩ | ⟨_,g1⟩
   ·rcases lk y c h2 with⟨e2,_⟩ | ⟨_,g2⟩
    ·exact e1.trans e2.symm
    ·exact absurd (hlt y c g2) (tX l)
   ·exact absurd (hlt x c g1) (tX l)
section
variable{X:Cx}
def Q6{prog w A}{R:Result->Shared->Prop}{s elt target iter ifs scope pos it acc env}(I:Nat->Shared->Prop)
  (turn:∀n s,I n s->wpAny (model prog w) A (pyNext it) (λr s₁=>match r with
   |none=>R (.ok .next) s₁
   |some v=>wpAny (model prog w) A (letOwnedTupleGo target it v) (λ_ s1=>wpAny (model prog w) A (assign target env v) (λ_ s₂=>
     wpAny (model prog w) A (forIn ifs true λc r=>if r=true then do let ok <- isTrue c env (eval c env);pure (ForInStep.yield ok)else pure (ForInStep.yield r)) (λok s₃=>
      if ok=true then wpAny (model prog w) A (eval elt env) (λx s₄=>wpAny (model prog w) A (call (.builtin "list.append") [acc,x]) (λ_ s₅=>∃m,m<n/\I m s₅) (λ_ _=>False) s₄) (λ_ _=>False) s₃
      else∃m,m<n/\I m s₃) (λ_ _=>False) s₂) (λ_ _=>False) s1) (λ_ _=>False) s₁) (λ_ _=>False) s)
  (n:Nat) (h:I n s):codeAny (model prog w) A (.compLoop (.ListComp elt [⟨target,iter,ifs,0⟩] scope pos) 0 it acc env) R s:=by
 refine codeAny_loop rfl I (λn s hI=>?_) n h;show wpAny _ A ((compTurn (.ListComp elt [⟨target,iter,ifs,0⟩] scope pos) 0 it acc env).onRaise (λx=>do noteFrame x env;theTreesLotGoes x)) _ _ s;refine wpAny_noted ?_;rw[compTurn_list];have no:∀{E:Value->Shared->Prop}(e:Value)(s:Shared),False->E e s:=λ_ _ z=>z.elim;refine aA (wpAny_standAt (aA (gT (turn n s hI) (λr s₁ h₁=>?_) no)))
 cases r with
 |none=>exact aE h₁
 |some v=>
  refine aA (gT h₁ (λ_ s1 h1=>aA (gT h1 (λ_ s₂ h₂=>aA (gT h₂ (λok s₃ h₃=>?_) no)) no)) no)
  cases ok with
  |false=>exact aE ⟨rfl,h₃⟩
  |true=>exact aA (aA (gT h₃ (λx s₄ h₄=>aA (gT h₄ (λ_ s₅ h₅=>aE (aE ⟨rfl,h₅⟩)) no)) no))
variable{elt iter tg:Expr}{ifs:List Expr}{scope:Scope}{pos:Pos}{N':List Str}{fr:List (Option Nat)}{wi:TI}{g:BP->TG}{tt:BP->TT}{te:BP->TE}
def IZ{pins σ}{H2:Hp}{s2:Shared}{it:Addr}{fp}{tn:Nat->Heap->Prop}{J:It}{Q:VK}{RR:Value->Addr->Result->Shared->Prop}{cl:List (Str×Addr)}{E:Value->Shared->Prop}
  (hcalm:X.calm=true) (hkind:scope.kind=.function) (hz:uN scope.names) (hfr:tN scope.names X.env.scope.names X.N N' fr=true)
  (hcl1:∀n c,cl.lookup n=some c->X.env.cells.lookup n=some c) (hcl2:∀n,(n,NameKind.free)∈scope.names->∃c,cl.lookup n=some c)
  (hY:∀b:BP,PG (blk X scope N' b) tg (g b)/\KE (blk X scope N' b) ifs (tt b)/\PE (blk X scope N' b) elt (te b))
  (I2:eL X pins σ H2 s2) (T:ML X.prog X.w X.K tg J fp it tn) (st2:tn 0 s2.heap) (f2:∀b∈fp,DI X pins H2 b)
  (q:∀(bp:BP)(acc:Addr),H2 acc=none->∃W:Nat->Nat->St->Hp->Prop,(∃m,W 0 m (vC fr σ) (gO H2 acc (.lst [])))/\∀i m σ' H',W i m σ' H' ->
   (J.stop i H'/\Q (.ref acc) H')\/(J.go i H'/\∀x H2,J.yld i H' x H2->g bp x σ' H2 λσ2 H3=>tt bp σ2 H3 λb H4=>
    if b=true then te bp σ2 H4 λy H5=>∃ys,H5 acc=some (.lst ys)/\ys.length<bL/\∃m',m'<m/\W (i+1) m' σ2 (gO H5 acc (.lst (ys++[y])))
    else∃m',m'<m/\W (i+1) m' σ2 H4))
  (hRR:∀acc C s' HY m,eL X pins σ HY s'->DI X pins HY C->s'.heap.Ns C m->Q (.ref acc) HY->RR (.ref acc) C (.ok .next) s') :
  wpAny (model X.prog X.w) X.A (newList []) (λacc s₃=>wpAny (model X.prog X.w) X.A (newFunctionEnv scope X.env.globals cl [] X.env.qual none .none (some X.env)) (λcenv s₄=>
   codeAny (model X.prog X.w) X.A (.compStart (.ListComp elt [⟨tg,iter,ifs,0⟩] scope pos) 0 (.ref it) acc { cenv with scope:=relabel scope X.env }) (RR acc cenv.locals) s₄) E s₃) E s2:=by
 obtain⟨hfl,hfg⟩:=yP hfr;have hacc:H2 s2.heap.objs.size=none:=I2.hok.fresh (aO _);refine cR ?_ (by show 0<=bL;exact cL _)
 generalize hs3:({ s2 with heap:=s2.heap.push { cls:=.type "list",dict:=none,data:=.seq ([]:List Value).toArray } }:Shared)=s3
 have I3:eL X pins σ (gO H2 s2.heap.objs.size (.lst [])) s3:=by
  rw[<- hs3];exact I2.laid (t':=s2.toks) (λb u e=>aJ _ e) (aO _) ⟨cL _,[],0,.nil,aS _ rfl⟩
 have hfp:∀b∈fp,b<s3.heap.objs.size:=λb hb=>by
  obtain⟨o,e,_⟩:=T.obj 0 _ st2 b hb;rw[<- hs3];exact bI (aJ _ e)
 have st3:tn 0 s3.heap:=T.keep 0 _ _ st2 λb _ o e=>by rw[<- hs3];exact aJ _ e
 have f3:∀b∈fp,DI X pins (gO H2 s2.heap.objs.size (.lst [])) b:=λb hb=>⟨by
  obtain⟨o,e,_⟩:=T.obj 0 _ st2 b hb;rw[dA (bO (bI e))];exact(f2 b hb).1,(f2 b hb).2⟩
 refine YS hz (λx c e=>by obtain⟨v,o,ho,_⟩:=I3.cell x c (hcl1 x c e);exact bI ho) λh₁ cl' hns keep hnw=>?_
 generalize hH3:gO H2 s2.heap.objs.size (.lst [])=H3 at *
 generalize hac:s2.heap.objs.size=ac at *
 generalize hC:s3.heap.objs.size=C at *
 obtain⟨W,⟨m0,w0⟩,turn⟩:=q ⟨cl',C,s3,H3,fp,X.pn++pins⟩ ac hacc;rw[hH3]at w0
 have cellLt:∀x c,X.env.cells.lookup x=some c->c<C:=λx c e=>by
  obtain⟨v,o,ho,_⟩:=I3.cell x c e;rw[<- hC];exact bI ho
 have hCfp:∀b∈fp,b≠C:=λb hb=>by exact bO (hfp b hb)
 have hCl:X.env.locals<C:=by rw[<- hC];exact I3.lt
 have hstk:∀b∈RQ X.stack,b≠C/\H3 b=none:=λb hb=>⟨by
  rintro rfl;rcases bH.mp (I3.stkSub b hb)with z | z
  ·rw[z]at hCl;exact absurd hCl (iI _)
  ·exact I3.nofs (by rw[hC];exact aO _) z,I3.stkFree b hb⟩
 have cellNe:∀x c,X.env.cells.lookup x=some c->c≠C:=λx c e z=>by
  obtain⟨v,o,ho,_⟩:=I3.cell x c e;have:=bI ho;rw[z,hC]at this;exact absurd this (iI _)
 -- the block's context
 have okY:(blk X scope N' ⟨cl',C,s3,H3,fp,X.pn++pins⟩).Ok:=by
  refine⟨I3.ok.mod,hkind,I3.ok.glob,I3.ok.blt,pO hC,λx y c h1 h2=>by
   rcases hnw.get x c h1 with⟨l1,_⟩ | ⟨g1,_⟩<;>rcases hnw.get y c h2 with⟨l2,_⟩ | ⟨g2,_⟩
   ·exact hnw.inj x y c h1 h2 l1
   ·exact absurd (cellLt y _ (hcl1 y _ g2)) (tX l1)
   ·exact absurd (cellLt x _ (hcl1 x _ g1)) (tX l2)
   ·exact I3.ok.inj x y c (hcl1 x c g1) (hcl1 y c g2),λx hx=>?_,λx c hf h=>by
   rcases hnw.get x c h with⟨l,_⟩ | ⟨_,n⟩
   ·exact cI (pO hC) (lK l)
   ·exact absurd (PySem.mem_of_lookup (beq_iff_eq.mp hf)) n,λ_=>I3.ok.hd hcalm,I3.ok.frames,.inl rfl,
   λb hb=>⟨hCfp b hb,λx c h=>by
    rcases hnw.get x c h with⟨l,_⟩ | ⟨h,_⟩
    ·exact gY (MV (hfp b hb) l)
    ·exact(f3 b hb).2.2.2.2.1 x c (hcl1 x c h)⟩,λb o e=>I3.bs b o e,?_,λb o e hb=>?_,λb hb hs=>?_,I3.stack,λb hb=>(hstk b hb).2,I3.env0.tab⟩
  ·have back:∀k,(relabel scope X.env).names.lookup x=some k->(k=.cell\/k=.free)->∃c,(cl').lookup x=some c:=λk h hk=>by
    obtain⟨k0,h1,h2⟩:=rV h;rcases(show k0=.cell\/k0=.free from h2.elim (λe=>by rw[e];exact hk) λe=>.inr e.1)with rfl | rfl
    ·exact hnw.has x h1
    ·obtain⟨c,hc⟩:=hcl2 x h1;exact hnw.keep x c hc
   rcases hx with hx | hx
   ·exact back _ hx (.inl rfl)
   ·exact back _ hx (.inr rfl)
  ·exact cI I3.ok.bsz (cI I3.sz (aO _))
  ·rcases(f3 b hb).2.2.2.1 with z | z
   ·exact I3.ok.noex b o e z
   ·exact absurd (cW (bI (I3.ok.bs b o e).1) z) (iI _)
  ·rcases bH.mp (I3.stkSub b hs)with z | z
   ·exact(f3 b hb).2.1 z
   ·exact(f3 b hb).2.2.1 z
 have hH3C:H3 C=none:=I3.hok.fresh (pO hC)
 have IY:eL (blk X scope N' ⟨cl',C,s3,H3,fp,X.pn++pins⟩) [] (vC fr σ) H3 { s3 with heap:=h₁ }:=by
  refine⟨okY,rfl,I3.bare,Un.kept keep,⟨_,hns,λi x v h1 h2 _=>?_⟩,λx c e=>?_,hH3C,λx c e=>(by
   rcases hnw.get x c e with⟨l,_⟩ | ⟨e,_⟩
   ·exact I3.hok.fresh (by rw[hC];exact lK l)
   ·exact I3.freeC x c (hcl1 x c e)),λp hp=>?_,I3.hok.kept keep,?_⟩
  ·have e:∃j,fr[i]?=some (some j)/\σ[j]?=some (some v):=by
    unfold vC at h2;rw[aI]at h2
    cases hf:fr[i]? with
    |none=>rw[hf]at h2;cases h2
    |some o=>
     rw[hf]at h2
     cases o with
     |none=>cases h2
     |some j=>
      refine⟨j,rfl,?_⟩;have h2':(σ[j]?).join=some v:=by simpa using h2
      cases hj:σ[j]? with
      |none=>rw[hj]at h2';cases h2'
      |some o=>rw[hj]at h2';rw[show o=some v from h2']
   obtain⟨j,e1,e2⟩:=e;obtain⟨a1,a2,a3⟩:=hfg i x j h1 e1;obtain⟨m,hn,hl⟩:=I3.loc;obtain⟨u,r,l⟩:=hl j x v a2 e2 (.inr (.inl a3));refine⟨u,r,.inr ⟨wQ a1,?_⟩⟩;rcases l with⟨k,_⟩ | ⟨_,c,hc,o,ho,hd⟩
   ·have k':X.env.scope.names.lookup x=some .local:=k;rw[a3]at k';cases k'
   ·obtain⟨c',hc'⟩:=hcl2 x (PySem.mem_of_lookup a1);have z:=hcl1 x c' hc';rw[hc]at z;cases z;exact⟨c,hnw.old x c a1 hc',o,keep c o ho,hd⟩
  ·rcases hnw.get x c e with⟨_,_,hnc⟩ | ⟨e,_⟩
   ·exact⟨none,hnc⟩
   ·obtain⟨v,o,ho,hd⟩:=I3.cell x c (hcl1 x c e);exact⟨v,o,keep c o ho,hd⟩
  ·obtain⟨e,n,ne,nf,d⟩:=I3.pin p (by have hp':p∈(X.pn++pins)++[]:=hp;simpa using hp');refine⟨keep _ _ e,n,?_,λz=>?_,d⟩
   ·have:=bI e;rw[hC]at this;exact bO this
   ·rcases bH.mp (I3.stkSub p.1 z)with z | z
    ·exact ne z
    ·exact nf z
  ·unfold vC;rw[aB];exact hfl.symm
 have stat:∀{H':Hp},(∀b∈fp,H' b=none)->∀b∈fp,DI (blk X scope N' ⟨cl',C,s3,H3,fp,X.pn++pins⟩) [] H' b:=λ{H'} hn b hb=>
  ⟨hn b hb,hCfp b hb,λz=>by
   rcases bH.mp (I3.stkSub b z)with z | z
   ·exact(f3 b hb).2.1 z
   ·exact(f3 b hb).2.2.1 z,  .inl hb,λx c e=>(by
   rcases hnw.get x c e with⟨l,_⟩ | ⟨e,_⟩
   ·exact gY (MV (hfp b hb) l)
   ·exact(f3 b hb).2.2.2.2.1 x c (hcl1 x c e)),λp hp=>(f3 b hb).2.2.2.2.2 p (by have hp':p∈(X.pn++pins)++[]:=hp;simpa using hp')⟩
 obtain⟨hg,ht,he⟩:=hY ⟨cl',C,s3,H3,fp,X.pn++pins⟩
 have loop:codeAny (model X.prog X.w) X.A (.compLoop (.ListComp elt [⟨tg,iter,ifs,0⟩] scope pos) 0 (.ref it) (.ref ac) (compEnvC scope cl' C X.env)) (RR (.ref ac) C) { s3 with heap:=h₁ }:=by
  refine Q6 (λn s'=>∃i σ' H',eL (blk X scope N' ⟨cl',C,s3,H3,fp,X.pn++pins⟩) [] σ' H' s'/\tn i s'.heap/\(∀b∈fp,H' b=none)/\W i n σ' H') ?_ m0
   ⟨0,vC fr σ,H3,IY,T.keep 0 _ _ st3 λb _ o e=>keep b o e,λb hb=>(f3 b hb).1,w0⟩
  rintro n s4 ⟨i,σ4,H4,I4,st4,fr4,w4⟩;rcases turn i n σ4 H4 w4 with⟨stop,qn⟩ | ⟨go,step⟩
  ·refine jO (T.done (blk X scope N' ⟨cl',C,s3,H3,fp,X.pn++pins⟩) rfl rfl rfl hcalm i [] s4 σ4 H4 _ I4 (stat fr4) st4 stop) λr s5 zq=>?_;obtain⟨hr,I5⟩:=zq;subst hr;obtain⟨m,hn,_⟩:=I5.loc;have IX:eL X pins σ H4 s5:=I3.call' I5.os I5.base I5.hok I5.bare λb hb=>⟨(f3 b hb).2.2.2.1,(f3 b hb).2.1,(f3 b hb).2.2.2.2.1,(f3 b hb).2.2.2.2.2⟩;exact hRR ac C s5 H4 m IX (I3.fpOk (pO hC) I5.free) hn qn
  ·refine jO (T.item (blk X scope N' ⟨cl',C,s3,H3,fp,X.pn++pins⟩) rfl rfl rfl hcalm i [] s4 σ4 H4 (λ_ _=>False) I4 (stat fr4) st4 go) λr s5 zq=>?_;obtain⟨u,hr,h5⟩:=zq;subst hr;refine jO h5 λ_ s6 zq=>?_;obtain⟨x,H6,I6,r6,y6,st6,fr6⟩:=zq;have I6':=I6.pinned (stat fr6) (T.obj _ _ st6);refine jO (hg _ s6 σ4 H6 x u _ I6' r6 (step x H6 y6)) λ_ s7 zq=>?_;obtain⟨σ7,H7,I7,q7⟩:=zq;refine jO (ht _ s7 σ7 H7 _ I7 q7) λok s8 zq=>?_;obtain⟨H8,I8,q8⟩:=zq
   have again:∀{s9:Shared}{σ9:St}{H9:Hp}{m':Nat},eL (blk X scope N' ⟨cl',C,s3,H3,fp,X.pn++pins⟩) ([]++BU fp s6.heap) σ9 H9 s9->m'<n->W (i+1) m' σ9 H9 ->
     ∃m,m<n/\∃i σ' H',eL (blk X scope N' ⟨cl',C,s3,H3,fp,X.pn++pins⟩) [] σ' H' s9/\tn i s9.heap/\(∀b∈fp,H' b=none)/\W i m σ' H':=λ{s9 σ9 H9 m'} I9 hm w9=>by
    refine⟨m',hm,i+1,σ9,H9,I9.unpinned,T.keep _ _ _ st6 λb hb o e=>(I9.pin (b,o) (dW _ (dW _ (rX hb e)))).1,λb hb=>?_,w9⟩;obtain⟨o,e,d⟩:=T.obj _ _ st6 b hb;exact(I9.pin (b,o) (dW _ (dW _ (rX hb e)))).2.1
   cases ok with
   |false=>
    obtain⟨m',hm,w8⟩:=q8;exact again I8 hm w8
   |true=>
    refine jO (he _ s8 σ7 H8 _ I8 q8) λy s9 zq=>?_;obtain⟨yv,H9,I9,r9,ys,hys,hz,m',hm,w9⟩:=zq;refine jO (oR (X:=blk X scope N' ⟨cl',C,s3,H3,fp,X.pn++pins⟩) _ s9 σ7 H9 (.ref ac) [yv] (.ref ac) [y] (λ_ H'=>H'=gO H9 ac (.lst (ys++[yv]))) I9 rfl (.cons r9 .nil) ⟨ac,ys,yv,rfl,rfl,hys,hz,rfl⟩) λ_ s10 zq=>?_;obtain⟨_,H10,I10,_,e10⟩:=zq;subst e10;exact again I10 hm w9
 exact codeAny_compStart_list loop (T.self _ 0 _ _ _ (T.keep 0 _ _ st3 λb _ o e=>keep b o e) loop)
def aIc(hcalm:X.calm=true)(hkind:scope.kind=.function)(hz:uN scope.names)(hfr:tN scope.names X.env.scope.names X.N N' fr=true)
  (hfree:∀y∈scope.names,y.2=.free->X.env.scope.names.lookup y.1=some .cell) (hnames:∀x∈scope.names,x.2=.local->scope.names.lookup x.1=some .local) (hi:PI X tg iter wi)
  (hY:∀b:BP,PG (blk X scope N' b) tg (g b)/\KE (blk X scope N' b) ifs (tt b)/\PE (blk X scope N' b) elt (te b))
  (hs:∀x,foldedSetIterable iter X.env x=pure x:=by intro _;rfl):PE X (.ListComp elt [⟨tg,iter,ifs,0⟩] scope pos) (KS fr wi g tt te):=by
 intro pins s σ H Q I h;obtain⟨cl,hclos,hcl1,hcl2⟩:=CF (env:=X.env) (scope:=scope) λy hy hk=>I.ok.has y.1 (.inl (hfree y hy hk));rw[eval_ListComp];refine wpAny_comprehension_free (use:=none) rfl hs hclos hkind hnames (jO (hi pins s σ H _ I h) λv s1 h1=>jO h1 λitv s2 h2=>?_);obtain⟨it,fp,tn,J,H2,rfl,I2,T,st2,f2,q⟩:=h2;refine IZ (RR:=λacc C=>compPost (model X.prog X.w) X.A X.xe none (EP X pins σ Q) acc C) hcalm hkind hz hfr hcl1 hcl2 hY I2 T st2 f2 q λacc C s' HY m I' f' hn q'=>?_;exact⟨m,hn,λh' sb=>⟨.ref acc,HY,I'.turned (t':=s'.toks) (λb o hb e=>(sb.2 b hb).trans e) f'.1 f'.2.1 f'.2.2.2.1 f'.2.2.2.2.1 f'.2.2.2.2.2,rfl,q'⟩⟩
def TK{i:Nat}{x:Str}{px spos:Pos}(hN:X.N.Nodup)(hix:X.N[i]?=some x)(hx:RH X.env.scope x)(hcalm:X.calm=true)(hkind:scope.kind=.function)(hz:uN scope.names)(hfr:tN scope.names X.env.scope.names X.N N' fr=true)
  (hfree:∀y∈scope.names,y.2=.free->X.env.scope.names.lookup y.1=some .cell) (hnames:∀x∈scope.names,x.2=.local->scope.names.lookup x.1=some .local) (hi:PI X tg iter wi)
  (hY:∀b:BP,PG (blk X scope N' b) tg (g b)/\KE (blk X scope N' b) ifs (tt b)/\PE (blk X scope N' b) elt (te b))
  (hsw:iM (.ListComp elt [⟨tg,iter,ifs,0⟩] scope pos) (some (.Name x px)) spos.line X.env=pure true)
  (hs:∀x,foldedSetIterable iter X.env x=pure x:=by intro _;rfl) (hf:X.fn x=true\/X.env.scope.names.lookup x=some .local:=by first | exact .inl rfl | exact .inr rfl | assumption) :
  PS X (.Assign [.Name x px] (.ListComp elt [⟨tg,iter,ifs,0⟩] scope pos) spos) (vN (KS fr wi g tt te) (jS i)):=by
 intro pins s σ H D I h;obtain⟨cl,hclos,hcl1,hcl2⟩:=CF (env:=X.env) (scope:=scope) λy hy hk=>I.ok.has y.1 (.inl (hfree y hy hk));rw[exec_Assign_Name_used _ _ _ _ hsw];refine aA (wpAny_standAt (aA ?_));show wpAny _ _ (do let _ <- comprehension (.ListComp elt [⟨tg,iter,ifs,0⟩] scope pos) scope X.env _ (newList []) false (eval iter X.env) (some (assign (.Name x px) X.env))) _ _ s
 refine aA (gT (wpAny_comprehension_free (use:=some (assign (.Name x px) X.env)) (Q:=λ_ s'=>SP X pins D .next s') rfl hs hclos hkind hnames
  (jO (hi pins s σ H _ I h) λv s1 h1=>jO h1 λitv s2 h2=>?_)) (λ_ s' hq=>aE (aE hq)) λ_ _ e=>e)
 obtain⟨it,fp,tn,J,H2,rfl,I2,T,st2,f2,q⟩:=h2;refine IZ (RR:=λacc C=>compPost (model X.prog X.w) X.A X.xe (some (assign (.Name x px) X.env)) (λ_ s'=>SP X pins D .next s') acc C) (Q:=λx H1=>jS i x σ H1 D.nx) hcalm hkind hz hfr hcl1 hcl2 hY I2 T st2 f2 q λacc C s' HY m I' f' hn q'=>?_;show wpAny _ _ (assign (.Name x px) X.env (.ref acc)) _ _ _;refine wpAny_assign_Name (DZ I' hN hix hx (v:=.ref acc) rfl (λs2' I2' hch=>?_) hf);obtain⟨a,sb,ha⟩:=hch
 have hCa:C≠a:=by
  rcases ha with z | z
  ·rw[z];exact f'.2.1
  ·exactλe=>f'.2.2.2.2.1 x a z e.symm
 exact⟨m,hn.sameBut sb hCa,λh' sb'=>⟨_,HY,I2'.turned (t':=s2'.toks) (λb o hb e=>(sb'.2 b hb).trans e) f'.1 f'.2.1 f'.2.2.2.1 f'.2.2.2.2.1 f'.2.2.2.2.2,q'⟩⟩
end
section
variable{prog:bX}{w:World}{A:Around}{E:Value->Shared->Prop}{h:Heap}{g:Array GenState}{d:Drawn}{t:Nat}{os:OsState}{a C:Addr}{ox:Obj}{od:Option Obj}{K:aL}
structure GY(K:aL)(C:Addr):Prop where
 ga:fF K (.ref C) "__getattribute__"=some (some (.builtin "BaseException.__getattribute__"))
 gt:fF K (.ref C) "__getattr__"=some none
 cl:fF K (.ref C) "__class__"=some (some (.builtin "object.__class__"))
 ob:DJ K C (.type "object")=some true
 be:DJ K C (.type "BaseException")=some true
def XOk(K:aL)(C:Addr):Prop:=GY K C/\∀T∈["int","str","list","tuple","bool"],kQ K (.ref C) (.type T)=some false
def Q8{M nameV}{Q:Unit->Shared->Prop}(X:K.In h)(c:GY K C)(I:kR h a ox C od)(hq:Q () ⟨h,g,d,t,os⟩):wpAny M A (checkBuiltinCall "BaseException.__getattribute__" ⟨[.ref a,nameV],[]⟩) Q E ⟨h,g,d,t,os⟩:=by
 have hk:builtinKind "BaseException.__getattribute__"=some .slot:=by decide +kernel
 have hsplit:splitId "BaseException.__getattribute__"=some ("BaseException","__getattribute__"):=by decide +kernel
 have ha:=F.args_bexc_ga (.ref a) nameV;have L0:=I.type (M:=M);have L1:=PySem.W.looks_mroIn (M:=M) X c.be;simp only[checkBuiltinCall,hk,hsplit];refine aA ?_;unfold isInstance;refine aA (L0.at (L1.at ?_))
 repeat (first | exact hq | wp_step)
def GO{tk}{Q:Fin->Shared->Prop}(X:K.In h)(c:GY K C)(I:kR h a ox C od)(hq:Q (.done (.ret (.ref C))) ⟨h,g,d,t,os⟩) :
  wpAny (model prog w) A (Builtin.«object.__getattribute__» ⟨[.ref a,.str "__class__" tk],[]⟩) Q E ⟨h,g,d,t,os⟩:=by
 have hT5:(⟨h,g,d,t,os⟩:Shared).TypeIs (.builtin "object.__class__") "getset_descriptor":=F.typeOf_object_class;have f5:=F.typeOf_object_class;have f6:=F.slot_gs_get.lookup;have f7:=F.slot_gs_set.lookup;have L0:=I.type (M:=model prog w);have L1:=nT (M:=model prog w) X c.cl
 repeat (any_goals (first | assumption | with_reducible refine L0.at ?_ | with_reducible refine L1.at ?_ | wp_step))
 refine PySem.W.class_get (s:=⟨h,g,d,t,os⟩) X I c.ob ?_
 repeat (any_goals (first | assumption | wp_step))
def JS{tk}{R:Result->Shared->Prop}(X:K.In h)(c:GY K C)(I:kR h a ox C od)(hq:R (.ok (.ret (.ref C))) ⟨h,g,d,t,os⟩) :
  codeAny (model prog w) A (.call (.builtin "BaseException.__getattribute__") ⟨[.ref a,.str "__class__" tk],[]⟩) R ⟨h,g,d,t,os⟩:=
 codeAny_call_builtin F.excAttr_ValueError.ga.plain F.entry_bexc_ga (Q8 X c I (GO X c I hq))
def Q7{tk}{Q:Value->Shared->Prop}(X:K.In h)(c:GY K C)(I:kR h a ox C od)(hq:Q (.ref C) ⟨h,g,d,t,os⟩):wpAny (model prog w) A (getAttrBy (.ref a) (.str "__class__" tk) false) Q E ⟨h,g,d,t,os⟩:=by
 have f3:=F.excAttr_ValueError.ga.bind (.ref a);have hx2:(Value.builtin "BaseException.__getattribute__"==Value.builtin "object.__getattribute__")=false:=by decide +kernel
 have hx1:(onTheHeap (Value.ref C)&&Value.builtin "BaseException.__getattribute__"==Value.builtin "object.__getattribute__")=false:=by rw[hx2];rfl
 have L0:=I.type (M:=model prog w);have L1:=nT (M:=model prog w) X c.ga;have L2':=nT (M:=model prog w) X c.gt
 repeat (any_goals (first | assumption | with_reducible refine L0.at ?_ | with_reducible refine L1.at ?_ | with_reducible refine L2'.at ?_ | wp_step))
 refine JS X c I ?_
 repeat (any_goals (first | assumption | wp_step))
def JT{Q:Option Value->Shared->Prop}(X:K.In h)(c:GY K C)(I:kR h a ox C od)(hq:Q (some (.ref C)) ⟨h,g,d,t+1,os⟩):wpAny (model prog w) A (getAttr? (.ref a) "__class__") Q E ⟨h,g,d,t,os⟩:=by
 unfold getAttr? getAttrBy?
 repeat (any_goals (first | assumption | with_reducible apply Q7 X c I | wp_step))
def UZ(c:GY K C):PySem.W.KitX K (.ref a) (.ref C) (λh=>∃ox od,kR h a ox C od) where
 ty:=λ_ _ _ ⟨_,_,I⟩=>I.type
 it:=λ_ _ X _=>by
  obtain⟨cd,hc,_⟩:=G8.mp c.ob;unfold WZ at hc;split at hc
  ·rename_i c' d' cd' sl' ho;intro A' Q' E' s' k q;unfold isType loadHead;exact aA (wpAny_loadPart (k _ _ (X _ _ ho)) (aE q))
  ·cases hc
 ne:=λh tp dd its n sl X htp=>by
  obtain⟨cd,hc,_⟩:=G8.mp c.ob;refine AD.mpr λq=>?_;have e:C=tp:=Value.ref.inj (beq_iff_eq.mp q);subst e;unfold WZ at hc;split at hc
  ·rename_i c' d' cd' sl' ho;have z:=(X _ _ ho).symm.trans htp;cases z
  ·cases hc
 ca:=λ{_ _ _ _ _ s} X ⟨_,_,I⟩ k=>by
  obtain⟨hh,g,d,t,os⟩:=s;exact JT X c I k
end
structure aKj(k:Nat)(A:Around):Prop where
 dp:A.depth+3*k+5<recursionLimit
 un:A.units+16*k+200<cLine
 gd:A.guards=some []
def Room.h{k:Nat}{A}(r:Room k A):aKj k A:=⟨r.dp,r.un,r.gd⟩
end L2
namespace TL
open L2
abbrev D:=PySem.PyData
def aE9(p:Addr)(h:Heap):Prop:=∃(its:List Value)(n:Nat),h.get? p=some { cls:=.type "list",data:=.seq its.toArray n }/\its.length<=1000/\∀v∈its,∃(i:Int)(t:Tok),v=.int i t/\0<=i/\i<4096
def JK(p C:Addr)(dx:Option Addr)(h:Heap):Prop:=∃o vs,h.get? p=some o/\o.cls=.ref C/\o.dict=dx/\o.data=.fields vs
def aD4(p q:Addr)(h:Heap):Prop:=∃(a b c:Int)(ta tb tc:Tok)(n:Nat),h.get? p=some { cls:=.type "list",data:=.seq [Value.ref q,.int a ta,.int b tb,.int c tc].toArray n }/\0<=a/\(c=0\/c=1)
def RI(e:Int×Addr×V)(x:DictEntry):Prop:=x.hash=e.1/\x.key=.ref e.2.1/\gB e.2.2 x.val
def O4(p:Addr)(es:List (Int×Addr×V))(h:Heap):Prop:=(p==sysModules)=false/\es.length<=bL/\∃o xs ep,h.get? p=some o/\o.ExactDict/\o.data=.dict xs ep/\Paired RI es xs.toList
noncomputable def vV(p:Addr)(es:List (Int×Addr×V)):HO:=.ext (O4 p es)
def aGn(p:Addr)(es:List (Int×Addr×V))(ep:Nat)(h:Heap):Prop:=(p==sysModules)=false/\es.length<=bL/\∃o xs,h.get? p=some o/\o.ExactDict/\o.data=.dict xs ep/\Paired RI es xs.toList
noncomputable def AH(p:Addr)(es:List (Int×Addr×V))(ep:Nat):HO:=.ext (aGn p es ep)
noncomputable def V2(hs:List Int)(kvs:List (D×D)):D:=.dict ((.str "{}",.list (hs.map aH))::kvs)
mutual
inductive gG(K:aL)(H:Hp):D->V->Prop
|none:gG K H .none .non
|bool (b:Bool):gG K H (.bool b) (.bl b)
|int (i:Int):gG K H (.int i) (.int i)
|str (x:Str):gG K H (.str x) (.str x)
|list {p:Addr} {xs:List V} {ts:List D}:mZ K H p xs->Reps K H ts xs->gG K H (.list ts) (.ref p)
|tuple {p:Addr} {xs:List V} {ts:List D}:tV K H p xs->Reps K H ts xs->gG K H (.tuple ts) (.ref p)
|wild {p:Addr}:H p=some (.ext (aE9 p))->gG K H (.dict []) (.ref p)
|exc {p C:Addr}:XOk K C->H p=some (.ext (JK p C Option.none))->gG K H (.dict [(.int (C:Nat),.none)]) (.ref p)
|excA {p C dx:Addr} {n:Int}:XOk K C->H p=some (.ext (JK p C (some dx)))->H dx=some (.xd [("at",.int n)])->gG K H (.dict [(.int (C:Nat),.int n)]) (.ref p)
|excD {p C dx:Addr} {v:V} {cs:List D}:XOk K C->H p=some (.ext (JK p C (some dx)))->H dx=some (.xd [("case",v)])->gG K H (.tuple cs) v->gG K H (.dict [(.int (C:Nat),.tuple cs)]) (.ref p)
|tape {p q:Addr} {ns:List Int}:H p=some (.ext (aD4 p q))->mZ K H q (ns.map V.int)->gG K H (.dict [(.none,.list (ns.map aH))]) (.ref p)
|dct {p:Addr} {es:List (Int×Addr×V)} {ep:Nat} {kvs:List (D×D)}:H p=some (AH p es ep)->(kvs.map (·.1)).Nodup->Reps K H (kvs.map (·.1)) (es.map λe=>.ref e.2.1)->Reps K H (kvs.map (·.2)) (es.map λe=>e.2.2)->gG K H (.dict ((.str "{}",.list ((es.map (·.1)).map aH))::kvs)) (.ref p)
|addr {p:Addr} (z:List D):gG K H (.dict [(.str "@",.list (.int (p:Nat)::z))]) (.ref p)
|ins {p C dx:Addr} {fs:List (Str×V)} {ds:List D}:H p=some (.ins C dx fs)->Reps K H ds (fs.map (·.2))->gG K H (.dict [(.str "obj",.tuple [.int (C:Nat),.list ((fs.map (·.1)).map aY),.list ds])]) (.ref p)
inductive Reps(K:aL)(H:Hp):List D->List V->Prop
|nil:Reps K H [] []
|cons {t:D} {ts:List D} {x:V} {xs:List V}:gG K H t x->Reps K H ts xs->Reps K H (t::ts) (x::xs)
end
variable{K:aL}{H H' H1 H2:Hp}
def bJ.seqT{a:Addr}{xs}(e:bJ H H')(h:tV K H a xs):tV K H' a xs:=by
 rcases h with(h | ⟨o,h⟩) | h
 ·exact .inl (.inl (e _ _ h))
 ·exact .inl (.inr ⟨o,e _ _ h⟩)
 ·exact .inr h
def gG.same(e:bJ H H'){d:D}{v:V}(r:gG K H d v):gG K H' d v:=
 gG.rec (motive_1:=λd v _=>gG K H' d v) (motive_2:=λds vs _=>Reps K H' ds vs) .none .bool .int .str (λq _ a=>.list (L2.bJ.seq e q) a) (λq _ a=>.tuple (bJ.seqT e q) a) (λh=>.wild (e _ _ h)) (λx h=>.exc x (e _ _ h)) (λx h g=>.excA x (e _ _ h) (e _ _ g))
  (λx h g _ a=>.excD x (e _ _ h) (e _ _ g) a) (λh g=>.tape (e _ _ h) (L2.bJ.seq e g)) (λh n _ _ a b=>.dct (e _ _ h) n a b) .addr (λh _ a=>.ins (e _ _ h) a) .nil (λ_ _ a b=>.cons a b) r
theorem Reps.same(e:bJ H H'){ds:List D}:∀{vs:List V},Reps K H ds vs->Reps K H' ds vs:=by
 induction ds with
 |nil=>intro vs r;cases r;exact .nil
 |cons d ds ih=>
  intro vs r
  cases r with
  |cons a b=>exact .cons (a.same e) (ih b)
theorem Reps.length:∀{ds:List D}{vs:List V},Reps K H ds vs->ds.length=vs.length
|_,_,.nil=>rfl
|_,_,.cons _ s=>by simp[Reps.length s]
theorem Reps.get:∀{ds vs}{i:Nat}{d},Reps K H ds vs->ds[i]?=some d->∃v,vs[i]?=some v/\gG K H d v
|_,_,_,_,.nil,e=>by simp at e
|_,_,0,_,.cons r _,e=>by simp at e;subst e;exact⟨_,rfl,r⟩
|_,_,i+1,d,.cons _ s,e=>by
 obtain⟨v,h1,h2⟩:=Reps.get (i:=i) (d:=d) s (by simpa using e);exact⟨v,by simpa using h1,h2⟩
theorem Reps.get':∀{ds vs}{i:Nat}{v},Reps K H ds vs->vs[i]?=some v->∃d,ds[i]?=some d/\gG K H d v
|_,_,_,_,.nil,e=>by simp at e
|_,_,0,_,.cons r _,e=>by simp at e;subst e;exact⟨_,rfl,r⟩
|_,_,i+1,d,.cons _ s,e=>by
 obtain⟨v,h1,h2⟩:=Reps.get' (i:=i) (v:=d) s (by simpa using e);exact⟨v,by simpa using h1,h2⟩
theorem Reps.append:∀{ds es vs us},Reps K H ds vs->Reps K H es us->Reps K H (ds++es) (vs++us)
|_,_,_,_,.nil,s=>s
|_,_,_,_,.cons r t,s=>.cons r (Reps.append t s)
theorem Reps.take:∀{ds:List D}{vs:List V}(n:Nat),Reps K H ds vs->Reps K H (ds.take n) (vs.take n)
|_,_,0,_=>.nil
|_,_,_+1,.nil=>.nil
|_,_,n+1,.cons r t=>.cons r (Reps.take n t)
theorem Reps.drop:∀{ds:List D}{vs:List V}(n:Nat),Reps K H ds vs->Reps K H (ds.drop n) (vs.drop n)
|_,_,0,r=>r
|_,_,_+1,.nil=>.nil
|_,_,n+1,.cons _ t=>Reps.drop n t
theorem Reps.reverse{ds:List D}{vs:List V}(r:Reps K H ds vs):Reps K H ds.reverse vs.reverse:=by
 induction ds generalizing vs with
 |nil=>cases r;exact .nil
 |cons d ds ih=>
  cases r with
  |cons r s=>
   rw[rE,rE];exact(ih s).append (.cons r .nil)
noncomputable def mask(H:Hp)(ps:List Addr):Hp:=λb=>if b∈ps then none else H b
def bQ{ps}(e:bJ H H'):bJ (mask H ps) (mask H' ps):=λb o h=>by
 unfold mask at h |-
 by_cases hb:b∈ps
 ·rw[if_pos hb]at h;cases h
 ·rw[if_neg hb]at h |-;exact e b o h
def iS{ps ps'}(h:∀p∈ps',p∈ps):bJ (mask H ps) (mask H ps'):=λb o e=>by
 unfold mask at e |-
 by_cases hb:b∈ps
 ·rw[if_pos hb]at e;cases e
 ·rw[if_neg hb]at e;rw[if_neg λz=>hb (h b z)];exact e
def bS{ps}:bJ (mask H ps) H:=λb o e=>by
 unfold mask at e;by_cases hb:b∈ps
 ·rw[if_pos hb]at e;cases e
 ·rw[if_neg hb]at e;exact e
def lD{ps}{p:Addr}{o}(h:H p=none):mask (gO H p o) (p::ps)=mask H ps:=by
 funext b;unfold mask;by_cases hb:b=p
 ·subst hb;rw[if_pos (aR ..),h];by_cases z:b∈ps<;>simp[z]
 ·rw[dA hb];by_cases z:b∈ps
  ·rw[if_pos (aM _ z),if_pos z]
  ·rw[if_neg (λq=>(bH.mp q).elim hb z),if_neg z]
def gR{ps}{p:Addr}{o}(h:p∈ps):mask (gO H p o) ps=mask H ps:=by
 funext b;unfold mask;by_cases hb:b=p
 ·subst hb;rw[if_pos h,if_pos h]
 ·rw[dA hb]
def dN{p:Addr}{o}(h:H p=none):bJ H (gO H p o):=λb u q=>by rw[dA (lX q h)];exact q
def pT{ps}{p:Addr}{o}(h:p∉ps)(e:H p=some o):mask H ps p=some o:=by
 unfold mask;rw[if_neg h];exact e
noncomputable def LT:HO->Bool
|.tup _=>true
|.frz _ (.tup _)=>true
|_=>false
def CQ(u:Option HO):Prop:=∃v,u=some v/\LT v=false
def CQ.ne{u}(h:CQ u):u≠none:=λz=>by obtain⟨v,e,_⟩:=h;rw[z]at e;cases e
theorem CQ.lst{xs}:CQ (some (.lst xs)):=⟨_,rfl,rfl⟩
def iO{ps:List Addr}{p:Addr}(live:∀q∈ps,CQ (H q))(h:H p=none):p∉ps:=λz=>(live p z).ne h
inductive Sl where
|un | val (d:D) | own (ts:List D) | dic (hs:List Int) (kvs:List (D×D))
def pV(K:aL)(B:Hp)(p0:List Addr)(H:Hp)(ps:List Addr)(σT:List Sl)(σ:L2.St):Prop:=∀(i:Nat)(hs:List Int)(kvs:List (D×D)),σT[i]?=some (.dic hs kvs) ->
 (∃(p:Addr)(es:List (Int×Addr×V)),σ[i]?=some (some (.ref p))/\p∈ps/\B p=none/\p∉p0/\H p=some (vV p es)/\hs=es.map (·.1)/\(kvs.map (·.1)).Nodup/\Reps K (mask H ps) (kvs.map (·.1)) (es.map λe=>.ref e.2.1)/\Reps K (mask H ps) (kvs.map (·.2)) (es.map λe=>e.2.2)) /\
 ∀(j:Nat)(hs':List Int)(kws:List (D×D)),σT[j]?=some (.dic hs' kws)->i=j
def pV.to{B B':Hp}{p0 p0' ps ps' σT σT' σ σ'}(o:pV K B p0 H ps σT σ)(hσ:∀(i:Nat)(hs:List Int)(kvs:List (D×D)),σT'[i]?=some (.dic hs kvs)->σT[i]?=some (.dic hs kvs)/\σ'[i]?=σ[i]?)
  (hp:∀(p:Addr)(φ:Heap->Prop),p∈ps->H p=some (.ext φ)->p∉p0->p∈ps'/\H' p=H p) (hB:∀(p:Addr)(φ:Heap->Prop),p∈ps->H p=some (.ext φ)->B p=none->p∉p0->B' p=none/\p∉p0') (hm:bJ (mask H ps) (mask H' ps')):pV K B' p0' H' ps' σT' σ':=λi hs kvs h=>by
 obtain⟨h1,h2⟩:=hσ i hs kvs h;obtain⟨⟨p,es,a1,a2,a3,a4,a5,a6,a7,a8,a9⟩,u⟩:=o i hs kvs h1;obtain⟨b1,b2⟩:=hp p _ a2 a5 a4;obtain⟨c1,c2⟩:=hB p _ a2 a5 a3 a4;exact⟨⟨p,es,h2.trans a1,b1,c1,c2,b2.trans a5,a6,a7,a8.same hm,a9.same hm⟩,λj hs' kws hj=>u j hs' kws (hσ j hs' kws hj).1⟩
def A4{σT:List Sl}{i j:Nat}{s hs kvs}(hn:∀hs kvs,s≠.dic hs kvs)(h:(σT.set i s)[j]?=some (.dic hs kvs)):i≠j/\σT[j]?=some (.dic hs kvs):=by
 by_cases e:i=j
 ·subst e;have hi:i<σT.length:=by simpa using(aG.mp h).1
  rw[bD hi]at h;exact absurd (Option.some.inj h) (hn hs kvs)
 ·rw[bA e]at h;exact⟨e,h⟩
def pV.setS{B p0 ps}{σT:List Sl}{σ:L2.St}(o:pV K B p0 H ps σT σ){i:Nat}{s v}(hn:∀hs kvs,s≠.dic hs kvs):pV K B p0 H ps (σT.set i s) (σ.set i v):=
 o.to (λj hs kvs h=>let ⟨e,h'⟩:=A4 hn h;⟨h',bA e⟩) (λp φ a b _=>⟨a,rfl⟩) (λp φ _ _ a b=>⟨a,b⟩) (L2.bJ.refl _)
def pV.setT{B p0 ps}{σT:List Sl}{σ}(o:pV K B p0 H ps σT σ){i:Nat}{s}(hn:∀hs kvs,s≠.dic hs kvs):pV K B p0 H ps (σT.set i s) σ:=
 o.to (λj hs kvs h=>⟨(A4 hn h).2,rfl⟩) (λp φ a b _=>⟨a,rfl⟩) (λp φ _ _ a b=>⟨a,b⟩) (L2.bJ.refl _)
def pV.grow{B p0 ps σT σ}(o:pV K B p0 H ps σT σ)(e:bJ H H'):pV K B p0 H' ps σT σ:=
 o.to (λj hs kvs h=>⟨h,rfl⟩) (λp φ a b _=>⟨a,(e p _ b).trans b.symm⟩) (λp φ _ _ a b=>⟨a,b⟩) (bQ e)
structure Ok(K:aL)(B:Hp)(p0:List Addr)(H:Hp)(ps:List Addr)(σT:List Sl)(σ:L2.St):Prop where
 base:bJ B H
 sub:∀p∈p0,p∈ps
 live:∀p∈ps,CQ (H p)
 len:σT.length=σ.length
 val:∀(i:Nat)(d:D),σT[i]?=some (.val d)->∃v,σ[i]?=some (some v)/\gG K (mask H ps) d v
 own:∀(i:Nat)(ts:List D),σT[i]?=some (.own ts)->∃p xs,σ[i]?=some (some (.ref p))/\p∈ps/\B p=none/\p∉p0/\H p=some (.lst xs)/\Reps K (mask H ps) ts xs
 dis:∀(i j:Nat)(ts us:List D)(p:Addr),σT[i]?=some (.own ts)->σT[j]?=some (.own us)->σ[i]?=some (some (.ref p))->σ[j]?=some (some (.ref p))->i=j
 dc:pV K B p0 H ps σT σ
variable{B:Hp}{p0 ps:List Addr}{σT:List Sl}{σ:L2.St}
theorem Ok.grow(o:Ok K B p0 H ps σT σ)(e:bJ H H'):Ok K B p0 H' ps σT σ where
 base:=o.base.trans e
 sub:=o.sub
 live:=λp hp=>let ⟨u,h1,h2⟩:=o.live p hp;⟨u,e p u h1,h2⟩
 len:=o.len
 val:=λi d h=>let ⟨v,h1,h2⟩:=o.val i d h;⟨v,h1,h2.same (bQ e)⟩
 own:=λi ts h=>let ⟨p,xs,h1,h2,h3,h4,h5,h6⟩:=o.own i ts h;⟨p,xs,h1,h2,h3,h4,e _ _ h5,h6.same (bQ e)⟩
 dis:=o.dis
 dc:=o.dc.grow e
theorem Ok.set(o:Ok K B p0 H ps σT σ){i:Nat}{d v}(r:gG K (mask H ps) d v):Ok K B p0 H ps (σT.set i (.val d)) (σ.set i (some v)) where
 base:=o.base
 sub:=o.sub
 live:=o.live
 len:=by simpa using o.len
 val:=λj d' h=>by
  by_cases e:i=j
  ·subst e
   have hi:i<σT.length:=by
    have:=(aG.mp h).1;simpa using this
   rw[bD hi]at h;cases h;exact⟨v,by rw[bD (by rw[<- o.len];exact hi)],r⟩
  ·rw[bA e]at h |-
   exact o.val j d' h
 own:=λj ts h=>by
  by_cases e:i=j
  ·subst e
   have hi:i<σT.length:=by
    have:=(aG.mp h).1;simpa using this
   rw[bD hi]at h;cases h
  ·rw[bA e]at h |-
   exact o.own j ts h
 dis:=λj k ts us p h1 h2 h3 h4=>by
  have ne:∀{l:Nat}{ts:List D},(σT.set i (.val d))[l]?=some (.own ts)->i≠l:=λ{l ts} h e=>by
   subst e
   have hi:i<σT.length:=by
    have:=(aG.mp h).1;simpa using this
   rw[bD hi]at h;cases h
  have e1:=ne h1;have e2:=ne h2;rw[bA e1]at h1 h3;rw[bA e2]at h2 h4;exact o.dis j k ts us p h1 h2 h3 h4
 dc:=o.dc.setS λ_ _ z=>nomatch z
def Ok.setOwn(o:Ok K B p0 H ps σT σ){i:Nat}{ts:List D}{xs:List V}{p:Addr}(hp:H p=none)(r:Reps K (mask H ps) ts xs):Ok K B p0 (gO H p (.lst xs)) (p::ps) (σT.set i (.own ts)) (σ.set i (some (.ref p))):=by
 have hm:mask (gO H p (.lst xs)) (p::ps)=mask H ps:=lD hp;have hps:p∉ps:=iO o.live hp
 have hn:∀{l:Nat}{us:List D},i≠l->σT[l]?=some (.own us)->σ[l]?≠some (some (.ref p)):=λ{l us} _ h z=>by
  obtain⟨q,_,h1,h2,_⟩:=o.own l us h;rw[z]at h1;cases h1;exact hps h2
 refine⟨o.base.trans (dN hp),λq hq=>aM _ (o.sub q hq),λq hq=>?_,by simpa using o.len,λj d h=>?_,λj us h=>?_,λj k us ws q h1 h2 h3 h4=>?_,?_⟩
 ·by_cases e:q=p
  ·subst e;rw[dG];exact .lst
  ·rw[dA e];rcases bH.mp hq with z | z
   ·exact absurd z e
   ·exact o.live q z
 ·rw[hm];by_cases e:i=j
  ·subst e;have hi:i<σT.length:=by simpa using(aG.mp h).1
   rw[bD hi]at h;cases h
  ·rw[bA e]at h |-
   exact o.val j d h
 ·rw[hm];by_cases e:i=j
  ·subst e;have hi:i<σT.length:=by simpa using(aG.mp h).1
   rw[bD hi]at h;cases h;refine⟨p,xs,by rw[bD (by rw[<- o.len];exact hi)],aR ..,?_,λz=>hps (o.sub p z),dG,r⟩
   cases q:B p with
   |none=>rfl
   |some u=>rw[o.base p u q]at hp;cases hp
  ·rw[bA e]at h |-
   obtain⟨q,ys,h1,h2,h3,h4,h5,h6⟩:=o.own j us h;refine⟨q,ys,h1,aM _ h2,h3,h4,?_,h6⟩;rw[dA (λz:q=p=>hps (z▸h2))];exact h5
 ·by_cases e1:i=j
  ·by_cases e2:i=k
   ·exact e1.symm.trans e2
   ·subst e1;have hi:i<σT.length:=by simpa using(aG.mp h1).1
    rw[bD (by rw[<- o.len];exact hi)]at h3;cases h3;rw[bA e2]at h2 h4;exact absurd h4 (hn e2 h2)
  ·by_cases e2:i=k
   ·subst e2;have hi:i<σT.length:=by simpa using(aG.mp h2).1
    rw[bD (by rw[<- o.len];exact hi)]at h4;cases h4;rw[bA e1]at h1 h3;exact absurd h3 (hn e1 h1)
   ·rw[bA e1]at h1 h3;rw[bA e2]at h2 h4;exact o.dis j k us ws q h1 h2 h3 h4
 ·exact(o.dc.setS (i:=i) (s:=.own ts) (v:=some (.ref p)) λ_ _ z=>nomatch z).to (λj hs kvs h=>⟨h,rfl⟩) (λq φ a b _=>⟨aM _ a,dA λz=>by rw[z,hp]at b;cases b⟩) (λq φ _ _ a b=>⟨a,b⟩) (by rw[hm];exact L2.bJ.refl _)
def Ok.write(o:Ok K B p0 H ps σT σ){i:Nat}{ts us ys}{p:Addr}(hi:σT[i]?=some (.own ts))(hσ:σ[i]?=some (some (.ref p)))(r:Reps K (mask H ps) us ys) :
  Ok K B p0 (gO H p (.lst ys)) ps (σT.set i (.own us)) σ:=by
 obtain⟨q,zs,h1,h2,h3,h4,h5,h6⟩:=o.own i ts hi;rw[hσ]at h1;cases h1;have hm:mask (gO H p (.lst ys)) ps=mask H ps:=gR h2;have hil:i<σT.length:=(aG.mp hi).1;refine⟨λb u e=>?_,o.sub,λq hq=>?_,by simpa using o.len,λj d h=>?_,λj ws h=>?_,λj k vs ws q k1 k2 k3 k4=>?_,?_⟩
 ·have ne:b≠p:=λz=>by rw[z,h3]at e;cases e
  rw[dA ne];exact o.base b u e
 ·by_cases e:q=p
  ·subst e;rw[dG];exact .lst
  ·rw[dA e];exact o.live q hq
 ·rw[hm];by_cases e:i=j
  ·subst e;rw[bD hil]at h;cases h
  ·rw[bA e]at h;exact o.val j d h
 ·rw[hm];by_cases e:i=j
  ·subst e;rw[bD hil]at h;cases h;exact⟨p,ys,hσ,h2,h3,h4,dG,r⟩
  ·rw[bA e]at h;obtain⟨q,vs,k1,k2,k3,k4,k5,k6⟩:=o.own j ws h;refine⟨q,vs,k1,k2,k3,k4,?_,k6⟩;rw[dA (λz:q=p=>e (o.dis i j ts ws p hi h hσ (z▸k1)))];exact k5
 ·have back:∀{l:Nat}{vs:List D},(σT.set i (.own us))[l]?=some (.own vs)->∃vs',σT[l]?=some (.own vs'):=λ{l vs} h=>by
   by_cases e:i=l
   ·subst e;exact⟨ts,hi⟩
   ·rw[bA e]at h;exact⟨vs,h⟩
  obtain⟨vs',k1⟩:=back k1;obtain⟨ws',k2⟩:=back k2;exact o.dis j k vs' ws' q k1 k2 k3 k4
 ·exact(o.dc.setT (i:=i) (s:=.own us) λ_ _ z=>nomatch z).to (λj hs kvs h=>⟨h,rfl⟩) (λq φ a b _=>⟨a,dA λz=>by rw[z,h5]at b;cases b⟩) (λq φ _ _ a b=>⟨a,b⟩) (by rw[hm];exact L2.bJ.refl _)
def Ok.share(o:Ok K B p0 H ps σT σ){i:Nat}{ts}(hi:σT[i]?=some (.own ts)):∃ps',Ok K B p0 H ps' (σT.set i (.val (.list ts))) σ/\bJ (mask H ps) (mask H ps'):=by
 obtain⟨p,xs,h1,h2,h3,h4,h5,h6⟩:=o.own i ts hi;have hil:i<σT.length:=(aG.mp hi).1;have hsub:bJ (mask H ps) (mask H (ps.filter λq=>decide (q≠p))):=iS λq hq=>(bZ.mp hq).1;have hpn:p∉ps.filter λq=>decide (q≠p):=λz=>(of_decide_eq_true (bZ.mp z).2) rfl;refine⟨ps.filter λq=>decide (q≠p),⟨o.base,λq hq=>bZ.mpr ⟨o.sub q hq,decide_eq_true λz=>h4 (z▸hq)⟩,λq hq=>o.live q (bZ.mp hq).1,by simpa using o.len,λj d h=>?_,λj us h=>?_,λj k us ws q k1 k2 k3 k4=>?_,?_⟩,hsub⟩
 ·by_cases e:i=j
  ·subst e;rw[bD hil]at h;cases h;exact⟨_,h1,.list (mZ.of (pT hpn h5)) (h6.same hsub)⟩
  ·rw[bA e]at h;obtain⟨v,k1,k2⟩:=o.val j d h;exact⟨v,k1,k2.same hsub⟩
 ·by_cases e:i=j
  ·subst e;rw[bD hil]at h;cases h
  ·rw[bA e]at h;obtain⟨q,ys,k1,k2,k3,k4,k5,k6⟩:=o.own j us h;exact⟨q,ys,k1,bZ.mpr ⟨k2,decide_eq_true λz=>e (o.dis i j ts us p hi h h1 (z▸k1))⟩,k3,k4,k5,k6.same hsub⟩
 ·have back:∀{l:Nat}{vs:List D},(σT.set i (.val (.list ts)))[l]?=some (.own vs)->σT[l]?=some (.own vs):=λ{l vs} h=>by
   by_cases e:i=l
   ·subst e;rw[bD hil]at h;cases h
   ·rw[bA e]at h;exact h
  exact o.dis j k us ws q (back k1) (back k2) k3 k4
 ·exact(o.dc.setT (i:=i) (s:=.val (.list ts)) λ_ _ z=>nomatch z).to (λj hs kvs h=>⟨h,rfl⟩) (λq φ a b _=>⟨bZ.mpr ⟨a,decide_eq_true λz=>by rw[z,h5]at b;cases b⟩,rfl⟩) (λq φ _ _ a b=>⟨a,b⟩) hsub
abbrev ET:=List Sl->(D->Prop)->Prop
abbrev yZ:=List Sl->(Bool->Prop)->Prop
abbrev AT:=List Sl->(List D->Prop)->Prop
def hW(X:Cx)(e:Expr)(t:ET):Prop:=∃te:TE,PE X e te/\∀B p0 H ps σT σ (Q:D->Prop)(QV:VK),Ok X.K B p0 H ps σT σ->t σT Q ->
 (∀d v H',bJ H H'->gG X.K (mask H' ps) d v->Q d->QV v H')->te σ H QV
def J2(X:Cx)(e:Expr)(t:yZ):Prop:=∃tt:TT,PT X e tt/\∀B p0 H ps σT σ (Q:Bool->Prop)(QV:Bool->Hp->Prop),Ok X.K B p0 H ps σT σ->t σT Q ->
 (∀b H',bJ H H'->Q b->QV b H')->tt σ H QV
def PWt(X:Cx)(e:Expr)(t:yZ):Prop:=∃tt:TT,PW X e tt/\∀B p0 H ps σT σ (Q:Bool->Prop)(QV:Bool->Hp->Prop),Ok X.K B p0 H ps σT σ->t σT Q ->
 (∀b H',bJ H H'->Q b->QV b H')->tt σ H QV
def CP(X:Cx)(es:List Expr)(t:AT):Prop:=∃ta:TA,PA X es ta/\∀B p0 H ps σT σ (Q:List D->Prop)(QV:List V->Hp->Prop),Ok X.K B p0 H ps σT σ->t σT Q ->
 (∀ds vs H',bJ H H'->Reps X.K (mask H' ps) ds vs->Q ds->QV vs H')->ta σ H QV
structure zZ where
 nx:List Sl->Prop
 rt:D->Prop
 bk:List Sl->Prop:=λ_=>False
 ct:List Sl->Prop:=λ_=>False
 ro:List D->Prop:=λ_=>False
 rp:List D->List D->Prop:=λ_ _=>False
 rq:D->List D->Prop:=λ_ _=>False
 xB:Hp->Prop:=λ_=>True
abbrev vE:=zZ->List Sl->Prop
structure J6(K:aL)(B:Hp)(p0:List Addr)(H:Hp)(ps:List Addr)(DT:zZ)(DV:xR):Prop where
 nx:∀H' ps' σT' σ',Ok K B p0 H' ps' σT' σ'->bJ (mask H ps) (mask H' ps')->DT.nx σT'->DV.nx σ' H'
 bk:∀H' ps' σT' σ',Ok K B p0 H' ps' σT' σ'->bJ (mask H ps) (mask H' ps')->DT.bk σT'->DV.bk σ' H'
 ct:∀H' ps' σT' σ',Ok K B p0 H' ps' σT' σ'->bJ (mask H ps) (mask H' ps')->DT.ct σT'->DV.ct σ' H'
 rt:∀d v H',bJ B H'->gG K (mask H' p0) d v->DT.rt d->DV.rt v H'
 ro:∀ts p xs H',bJ B H'->B p=none->p∉p0->H' p=some (.lst xs)->Reps K (mask H' (p::p0)) ts xs->DT.ro ts->DV.rt (.ref p) H'
 rp:∀as bs r p q xs ys H',bJ B H'->B r=none->B p=none->B q=none->p≠q->H' r=some (.tup [.ref p,.ref q])->H' p=some (.lst xs)->H' q=some (.lst ys)->Reps K (mask H' (p::q::p0)) as xs->Reps K (mask H' (p::q::p0)) bs ys->DT.rp as bs->DV.rt (.ref r) H'
 rq:∀a ts r p x xs H',bJ B H'->B r=none->B p=none->H' r=some (.tup [x,.ref p])->H' p=some (.lst xs)->gG K (mask H' (p::p0)) a x->Reps K (mask H' (p::p0)) ts xs->DT.rq a ts->DV.rt (.ref r) H'
 xb:DT.xB B
def J6.later{DT DV ps'}(f:J6 K B p0 H ps DT DV)(e:bJ (mask H ps) (mask H' ps')):J6 K B p0 H' ps' DT DV:=
 ⟨λ_ _ _ _ o s q=>f.nx _ _ _ _ o (e.trans s) q,λ_ _ _ _ o s q=>f.bk _ _ _ _ o (e.trans s) q,λ_ _ _ _ o s q=>f.ct _ _ _ _ o (e.trans s) q,f.rt,f.ro,f.rp,f.rq,f.xb⟩
def A7(X:Cx)(st:Stmt)(t:vE):Prop:=∃ts:TS,PS X st ts/\∀B p0 H ps σT σ (DT:zZ)(DV:xR),Ok X.K B p0 H ps σT σ->t DT σT->J6 X.K B p0 H ps DT DV->ts DV σ H
def vY(X:Cx)(st:List Stmt)(t:vE):Prop:=∃ts:TS,CW X st ts/\∀B p0 H ps σT σ (DT:zZ)(DV:xR),Ok X.K B p0 H ps σT σ->t DT σT->J6 X.K B p0 H ps DT DV->ts DV σ H
def zD(X:Cx)(r:R2)(f:D->D->(D->Prop)->Prop):Prop:=∀H ps(d1 d2:D)(x y:V)(Q:D->Prop)QV,(∀p∈ps,CQ (H p))->gG X.K (mask H ps) d1 x->gG X.K (mask H ps) d2 y->f d1 d2 Q ->
 (∀d v H',bJ H H'->gG X.K (mask H' ps) d v->Q d->QV v H')->r x y H QV
def oH(X:Cx)(r:List V->Hp->VK->Prop)(f:List D->(D->Prop)->Prop):Prop:=∀H ps(ds:List D)(xs:List V)(Q:D->Prop)QV,(∀p∈ps,CQ (H p))->Reps X.K (mask H ps) ds xs->f ds Q ->
 (∀d v H',bJ H H'->gG X.K (mask H' ps) d v->Q d->QV v H')->r xs H QV
section
variable{X:Cx}{a b e:Expr}{es:List Expr}{ta tb te:ET}{pos:Pos}
inductive aDh(σ:List Sl)(i:Nat)(Q:D->Prop):Prop
|mk (d:D) (h:σ[i]?=some (.val d)) (k:Q d):aDh σ i Q
def aMv(i:Nat):ET:=λσ Q=>aDh σ i Q
def eC(d:D):ET:=λ_ Q=>Q d
def aK(i:Nat){x:Str}{pos}(hN:X.N[i]?=some x:=by rfl)(hv:Vis X.env.scope x:=by first | exact Or.inl rfl | exact Or.inr (Or.inl rfl) | exact Or.inr (Or.inr rfl))(hd:(x==("__debug__":Str))=false:=by decide)
  (hcd:(x==("__classdict__":Str))=false:=by decide):hW X (.Name x pos) (aMv i):=
 ⟨_,TV hN hv hd hcd,λB p0 H ps σT σ Q QV o h k=>by
  obtain⟨d,e,q⟩:=h;obtain⟨v,e1,r⟩:=o.val i d e;exact⟨v,e1,k d v H (L2.bJ.refl H) r q⟩⟩
def aN{i j pos}:hW X (.Constant (.int i) j pos) (eC (.int i)):=⟨_,LD,λ_ _ H _ _ _ _ _ _ h k=>k _ _ H (L2.bJ.refl H) (.int i) h⟩
def nQ{b j pos}:hW X (.Constant (.bool b) j pos) (eC (.bool b)):=⟨_,aId,λ_ _ H _ _ _ _ _ _ h k=>k _ _ H (L2.bJ.refl H) (.bool b) h⟩
def yT{j pos}:hW X (.Constant .none j pos) (eC .none):=⟨_,aEw,λ_ _ H _ _ _ _ _ _ h k=>k _ _ H (L2.bJ.refl H) .none h⟩
def jT{x j pos}:hW X (.Constant (.str x) j pos) (eC (.str x)):=⟨_,oX,λ_ _ H _ _ _ _ _ _ h k=>k _ _ H (L2.bJ.refl H) (.str x) h⟩
def ZM{x:Str}{i:Int}{t pos}(hg:Gl X x)(hm:X.mg x=some (.int i t))(hd:(x==("__debug__":Str))=false:=by decide):hW X (.Name x pos) (eC (.int i)):=⟨_,N0 (v:=.int i) hg hm ⟨t,rfl⟩ hd,λ_ _ H _ _ _ _ _ _ h k=>k _ _ H (L2.bJ.refl H) (.int i) h⟩
def ZY(f:D->D->(D->Prop)->Prop)(ta tb:ET):ET:=λσ Q=>ta σ λx=>tb σ λy=>f x y Q
def AY{r}{f:D->D->(D->Prop)->Prop}(h2:zD X r f){va vb:TE}
  (ha:∀B p0 H ps σT σ (Q:D->Prop)(QV:VK),Ok X.K B p0 H ps σT σ->ta σT Q->(∀d v H',bJ H H'->gG X.K (mask H' ps) d v->Q d->QV v H')->va σ H QV)
  (hb:∀B p0 H ps σT σ (Q:D->Prop)(QV:VK),Ok X.K B p0 H ps σT σ->tb σT Q->(∀d v H',bJ H H'->gG X.K (mask H' ps) d v->Q d->QV v H')->vb σ H QV)
  (B:Hp) (p0:List Addr) (H:Hp) (ps:List Addr) (σT:List Sl) (σ:L2.St) (Q:D->Prop) (QV:VK) (o:Ok X.K B p0 H ps σT σ) (h:ZY f ta tb σT Q) (k:∀d v H',bJ H H'->gG X.K (mask H' ps) d v->Q d->QV v H'):tOp r va vb σ H QV:=by
 refine ha B p0 H ps σT σ _ _ o h λd1 x H1 s1 r1 q1=>?_;refine hb B p0 H1 ps σT σ _ _ (o.grow s1) q1 λd2 y H2 s2 r2 q2=>?_;exact h2 H2 ps d1 d2 x y Q QV ((o.grow s1).grow s2).live (r1.same (bQ s2)) r2 q2 λd v H' s' r' q'=>k d v H' (s1.trans (s2.trans s')) r' q'
def dH{op r}{f:D->D->(D->Prop)->Prop}(ho:nS X (binaryOp op) r)(h2:zD X r f)(ha:hW X a ta)(hb:hW X b tb):hW X (.BinOp a op b pos) (ZY f ta tb):=by
 obtain⟨va,pa,ra⟩:=ha;obtain⟨vb,pb,rb⟩:=hb;exact⟨_,NZ ho pa pb,AY h2 ra rb⟩
def pB{op r}{f:D->D->(D->Prop)->Prop}(ho:nS X (compareOp op) r)(h2:zD X r f)(ha:hW X a ta)(hb:hW X b tb)(hm:behindInMarks op b=false:=by first | exact F5 _ | rfl):hW X (.Compare a [op] [b] pos) (ZY f ta tb):=by
 obtain⟨va,pa,ra⟩:=ha;obtain⟨vb,pb,rb⟩:=hb;exact⟨_,YG ho pa pb hm,AY h2 ra rb⟩
def cZ{r}{f:D->D->(D->Prop)->Prop}(ho:WN X r)(h2:zD X r f)(ha:hW X a ta)(hb:hW X b tb)(hs:A6 b:=by intro _ _;rfl):hW X (.Subscript a b pos) (ZY f ta tb):=by
 obtain⟨va,pa,ra⟩:=ha;obtain⟨vb,pb,rb⟩:=hb;exact⟨_,TY ho pa pb hs,AY h2 ra rb⟩
def aMx(ta:ET):ET:=λσ Q=>ta σ λx=>match x with | .int i=>Q (.int (-i)) | _=>False
def L6(ha:hW X a ta):hW X (.UnaryOp .USub a pos) (aMx ta):=by
 obtain⟨va,pa,ra⟩:=ha;refine⟨_,aIb aDu pa,λB p0 H ps σT σ Q QV o h k=>ra B p0 H ps σT σ _ _ o h λd x H1 s1 r1 q1=>?_⟩
 cases r1 with
 |int i=>exact⟨i,rfl,k _ _ H1 s1 (.int _) q1⟩
 |_=>exact q1.elim
def WJ:AT:=λ_ Q=>Q []
def xO(t:ET)(r:AT):AT:=λσ Q=>t σ λx=>r σ λxs=>Q (x::xs)
def aU:CP X [] WJ:=⟨_,jG,λ_ _ H _ _ _ _ _ _ h k=>k _ _ H (L2.bJ.refl H) .nil h⟩
def aD{tr}(ha:hW X e te)(hr:CP X es tr)(hs:bN (e::es) X.env=(false,eval e X.env)::bN es X.env:=by rfl):CP X (e::es) (xO te tr):=by
 obtain⟨va,pa,ra⟩:=ha;obtain⟨vr,pr,rr⟩:=hr;refine⟨_,fY pa pr hs,λB p0 H ps σT σ Q QV o h k=>ra B p0 H ps σT σ _ _ o h λd x H1 s1 r1 q1=>?_⟩;refine rr B p0 H1 ps σT σ _ _ (o.grow s1) q1 λds xs H2 s2 r2 q2=>?_;exact k _ _ H2 (s1.trans s2) (.cons (r1.same (bQ s2)) r2) q2
def aMw(t:AT):ET:=λσ Q=>t σ λds=>ds.length<=1000/\Q (.tuple ds)
def aMy(t:AT):ET:=λσ Q=>t σ λds=>ds.length<=1000/\Q (.list ds)
def rS{ps:List Addr}{p:Addr}{ds:List D}{xs:List V}(live:∀q∈ps,CQ (H q))(hp:H p=none)(r:Reps K (mask H ps) ds xs):gG K (mask (gO H p (.tup xs)) ps) (.tuple ds) (.ref p):=
 .tuple (tV.of (pT (iO live hp) dG)) (r.same (bQ (dN hp)))
def rT{ps:List Addr}{p:Addr}{ds:List D}{xs:List V}(live:∀q∈ps,CQ (H q))(hp:H p=none)(r:Reps K (mask H ps) ds xs):gG K (mask (gO H p (.lst xs)) ps) (.list ds) (.ref p):=
 .list (mZ.of (pT (iO live hp) dG)) (r.same (bQ (dN hp)))
def xE{n:Nat}(h:n<=1000):n<=bL:=lK (PM h)
def eD{x1 t}(h:CP X es t):hW X (.Tuple es x1 pos) (aMw t):=by
 obtain⟨v,p,r⟩:=h;refine⟨_,TW p,λB p0 H ps σT σ Q QV o h k=>r B p0 H ps σT σ _ _ o h λds xs H1 s1 r1 q1=>⟨xE (by rw[<- r1.length];exact q1.1),λq hq=>?_⟩⟩;exact k _ _ _ (s1.trans (dN hq)) (rS (o.grow s1).live hq r1) q1.2
def pA{t}(h:CP X es t):hW X (.List es pos) (aMy t):=by
 obtain⟨v,p,r⟩:=h;refine⟨_,LB p,λB p0 H ps σT σ Q QV o h k=>r B p0 H ps σT σ _ _ o h λds xs H1 s1 r1 q1=>⟨xE (by rw[<- r1.length];exact q1.1),λq hq=>?_⟩⟩;exact k _ _ _ (s1.trans (dN hq)) (rT (o.grow s1).live hq r1) q1.2
def oG(f:List D->(D->Prop)->Prop)(t:AT):ET:=λσ Q=>t σ λds=>f ds Q
abbrev uM:=List D->(D->Prop)->Prop
def cO(K:aL)(sp:uM):Sp:=λvs H Q _=>∃(ps:List Addr)(ds:List D)(QD:D->Prop),(∀p∈ps,CQ (H p))/\Reps K (mask H ps) ds vs/\sp ds QD/\∀d v H',bJ H H'->gG K (mask H' ps) d v->QD d->Q v H'
def ZO{k:Nat}{f:Addr}{fd pn sp x p t}(F:dD X.prog X.w X.K X.mg X.base gA k f fd pn (cO X.K sp))(hm:X.mg x=some (.ref f))(hk:gU X.K (.ref f)=true)(hb:sQ X.K fd pn [])
  (hr:Room k X.A) (ha:CP X (e::es) t) (pc:∀{ta},PA X (e::es) ta->PE X (.Call (.Name x p) (e::es) [] pos) (BD (cO X.K sp) [] E0 ta)):hW X (.Call (.Name x p) (e::es) [] pos) (oG sp t):=by
 obtain⟨v,pa,ra⟩:=ha;refine⟨_,pc pa,λB p0 H ps σT σ Q QV o h k=>ra B p0 H ps σT σ _ _ o h λds xs H1 s1 r1 q1=>?_⟩;show cO X.K sp (xs++[]) H1 QV E0;rw[dL];exact⟨ps,ds,Q,(o.grow s1).live,r1,q1,λd v H' s' r' q'=>k d v H' (s1.trans s') r' q'⟩
def E1(t:ET):yZ:=λσ Q=>t σ λx=>match x with | .bool b=>Q b | _=>False
def aDx(h:hW X e te)(pt:∀{t},PE X e t->PT X e (tB t)):J2 X e (E1 te):=by
 obtain⟨v,p,r⟩:=h;refine⟨_,pt p,λB p0 H ps σT σ Q QV o h k=>r B p0 H ps σT σ _ _ o h λd x H1 s1 r1 q1=>?_⟩
 cases r1 with
 |bool c=>exact⟨c,rfl,k c H1 s1 q1⟩
 |_=>exact q1.elim
def eP{op r}{f:D->D->(D->Prop)->Prop}(ho:nS X (compareOp op) r)(h2:zD X r f)(ha:hW X a ta)(hb:hW X b tb)(hm:behindInMarks op b=false:=by first | exact F5 _ | rfl):J2 X (.Compare a [op] [b] pos) (E1 (ZY f ta tb)):=by
 obtain⟨va,pa,ra⟩:=ha;obtain⟨vb,pb,rb⟩:=hb;refine⟨_,F0 ho pa pb hm,λB p0 H ps σT σ Q QV o h k=>?_⟩;refine AY h2 ra rb B p0 H ps σT σ (λx=>match x with | .bool b=>Q b | _=>False) _ o h λd v H' s' r' q'=>?_
 cases r' with
 |bool c=>exact⟨c,rfl,k c H' s' q'⟩
 |_=>exact q'.elim
def aF4(t:yZ):yZ:=λσ Q=>t σ λb=>Q (!b)
def aM5(t u:yZ):yZ:=λσ Q=>t σ λb=>if b=true then u σ Q else Q false
def cOr(t u:yZ):yZ:=λσ Q=>t σ λb=>if b=true then Q true else u σ Q
variable{tA tB':yZ}{fT:List Expr}
def nW(h:J2 X a tA):J2 X (.UnaryOp .Not a pos) (aF4 tA):=by
 obtain⟨v,p,r⟩:=h;exact⟨_,aEr p,λB p0 H ps σT σ Q QV o h k=>r B p0 H ps σT σ _ _ o h λb H' s' q'=>k _ H' s' q'⟩
def wF(h:PWt X e tA):J2 X e tA:=by
 obtain⟨v,p,r⟩:=h;exact⟨_,p.pt,r⟩
def XA(h:J2 X a tA):PWt X (.BoolOp .And [a] pos) tA:=by
 obtain⟨v,p,r⟩:=h;exact⟨_,NV p,r⟩
def sT(h:J2 X a tA):PWt X (.BoolOp .Or [a] pos) tA:=by
 obtain⟨v,p,r⟩:=h;exact⟨_,aEq p,r⟩
def aDw(ha:J2 X a tA)(hb:PWt X (.BoolOp .And (b::fT) pos) tB'):PWt X (.BoolOp .And (a::b::fT) pos) (aM5 tA tB'):=by
 obtain⟨va,pa,ra⟩:=ha;obtain⟨vb,pb,rb⟩:=hb;refine⟨_,TF pa pb,λB p0 H ps σT σ Q QV o h k=>ra B p0 H ps σT σ _ _ o h λc H1 s1 q1=>?_⟩
 cases c with
 |true=>exact rb B p0 H1 ps σT σ Q _ (o.grow s1) q1 λb H' s' q'=>k b H' (s1.trans s') q'
 |false=>exact k _ H1 s1 q1
def uZ(ha:J2 X a tA)(hb:PWt X (.BoolOp .Or (b::fT) pos) tB'):PWt X (.BoolOp .Or (a::b::fT) pos) (cOr tA tB'):=by
 obtain⟨va,pa,ra⟩:=ha;obtain⟨vb,pb,rb⟩:=hb;refine⟨_,aH8 pa pb,λB p0 H ps σT σ Q QV o h k=>ra B p0 H ps σT σ _ _ o h λc H1 s1 q1=>?_⟩
 cases c with
 |true=>exact k _ H1 s1 q1
 |false=>exact rb B p0 H1 ps σT σ Q _ (o.grow s1) q1 λb H' s' q'=>k b H' (s1.trans s') q'
def aM1(ta tb:ET):ET:=λσ Q=>ta σ λx=>match x with | .bool c=>if c=true then tb σ Q else Q (.bool false) | _=>False
def yS{op}(h:hW X a ta):hW X (.BoolOp op [a] pos) ta:=by
 obtain⟨v,p,r⟩:=h;exact⟨_,aEu p,r⟩
def rY(ha:hW X a ta)(hb:hW X (.BoolOp .And (b::fT) pos) tb):hW X (.BoolOp .And (a::b::fT) pos) (aM1 ta tb):=by
 obtain⟨va,pa,ra⟩:=ha;obtain⟨vb,pb,rb⟩:=hb;refine⟨_,aEy pa pb,λB p0 H ps σT σ Q QV o h k=>ra B p0 H ps σT σ _ _ o h λd x H1 s1 r1 q1=>?_⟩
 cases r1 with
 |bool c=>
  refine⟨c,rfl,?_⟩
  cases c with
  |true=>exact rb B p0 H1 ps σT σ Q _ (o.grow s1) q1 λd v H' s' r' q'=>k d v H' (s1.trans s') r' q'
  |false=>exact k _ _ H1 s1 (.bool false) q1
 |_=>exact q1.elim
def VW(f g:D->D->(D->Prop)->Prop)(ta tb tc:ET):ET:=λσ Q=>ta σ λx=>tb σ λy=>f x y λz=>match z with | .bool c=>if c=true then tc σ λw=>g y w Q else Q (.bool false) | _=>False
end
end TL
namespace TL
open L2
variable{K:aL}{H H' H1 H2:Hp}{B:Hp}{p0 ps:List Addr}{σT:List Sl}{σ:L2.St}
section
variable{X:Cx}{a b c e:Expr}{es:List Expr}{ta tb tc te:ET}{pos:Pos}
def MD{r r'}{f g:D->D->(D->Prop)->Prop}(h2:zD X r f)(h2':zD X r' g){va vb vc:TE}
  (ha:∀B p0 H ps σT σ (Q:D->Prop)(QV:VK),Ok X.K B p0 H ps σT σ->ta σT Q->(∀d v H',bJ H H'->gG X.K (mask H' ps) d v->Q d->QV v H')->va σ H QV)
  (hb:∀B p0 H ps σT σ (Q:D->Prop)(QV:VK),Ok X.K B p0 H ps σT σ->tb σT Q->(∀d v H',bJ H H'->gG X.K (mask H' ps) d v->Q d->QV v H')->vb σ H QV)
  (hc:∀B p0 H ps σT σ (Q:D->Prop)(QV:VK),Ok X.K B p0 H ps σT σ->tc σT Q->(∀d v H',bJ H H'->gG X.K (mask H' ps) d v->Q d->QV v H')->vc σ H QV)
  (B:Hp) (p0:List Addr) (H:Hp) (ps:List Addr) (σT:List Sl) (σ:L2.St) (Q:D->Prop) (QV:VK) (o:Ok X.K B p0 H ps σT σ) (h:VW f g ta tb tc σT Q) (k:∀d v H',bJ H H'->gG X.K (mask H' ps) d v->Q d->QV v H'):SG r r' va vb vc σ H QV:=by
 refine ha B p0 H ps σT σ _ _ o h λd1 x H1 s1 r1 q1=>?_;refine hb B p0 H1 ps σT σ _ _ (o.grow s1) q1 λd2 y H2 s2 r2 q2=>?_;refine h2 H2 ps d1 d2 x y _ _ ((o.grow s1).grow s2).live (r1.same (bQ s2)) r2 q2 λd3 z H3 s3 r3 q3=>?_
 cases r3 with
 |bool c=>
  refine⟨c,rfl,?_⟩
  cases c with
  |false=>exact k _ _ H3 (s1.trans (s2.trans s3)) (.bool false) q3
  |true=>
   refine hc B p0 H3 ps σT σ _ _ (((o.grow s1).grow s2).grow s3) q3 λd4 w H4 s4 r4 q4=>?_;exact h2' H4 ps d2 d4 y w Q QV ((((o.grow s1).grow s2).grow s3).grow s4).live ((r2.same (bQ s3)).same (bQ s4)) r4 q4 λd v H' s' r' q'=>k d v H' (s1.trans (s2.trans (s3.trans (s4.trans s')))) r' q'
 |_=>exact q3.elim
def B8{op op' r r'}{f g:D->D->(D->Prop)->Prop}(ho:nS X (compareOp op) r)(ho':nS X (compareOp op') r')(h2:zD X r f)(h2':zD X r' g)(ha:hW X a ta)(hb:hW X b tb)(hc:hW X c tc)
  (hm:lastMarks [op,op'] [b,c]=false:=by with_unfolding_all rfl):hW X (.Compare a [op,op'] [b,c] pos) (VW f g ta tb tc):=by
 obtain⟨va,pa,ra⟩:=ha;obtain⟨vb,pb,rb⟩:=hb;obtain⟨vc,pc,rc⟩:=hc;exact⟨_,T3 ho ho' pa pb pc hm,MD h2 h2' ra rb rc⟩
abbrev OT:=List Sl->(Option Int->Prop)->Prop
def POt(X:Cx)(e:Option Expr)(t:OT):Prop:=∃to:TO,PO X e to/\∀B p0 H ps σT σ (Q:Option Int->Prop)(QV:Option Int->Hp->Prop),Ok X.K B p0 H ps σT σ->t σT Q ->
 (∀i H',bJ H H'->Q i->QV i H')->to σ H QV
def aJg:OT:=λ_ Q=>Q none
def aJf(t:ET):OT:=λσ Q=>t σ λx=>match x with | .int i=>Q (some i) | _=>False
def hV:POt X none aJg:=⟨_,YA,λ_ _ H _ _ _ _ _ _ h k=>k _ H (L2.bJ.refl H) h⟩
def gI(h:hW X e te):POt X (some e) (aJf te):=by
 obtain⟨v,p,r⟩:=h;refine⟨_,X9 p,λB p0 H ps σT σ Q QV o h k=>r B p0 H ps σT σ _ _ o h λd x H1 s1 r1 q1=>?_⟩
 cases r1 with
 |int i=>exact⟨i,rfl,k _ H1 s1 q1⟩
 |_=>exact q1.elim
def SlT(X:Cx)(r:V->Option Int->Option Int->Hp->VK->Prop)(f:D->Option Int->Option Int->(D->Prop)->Prop):Prop:=∀H ps(d:D)(x:V)(lo hi:Option Int)(Q:D->Prop)QV,(∀p∈ps,CQ (H p))->gG X.K (mask H ps) d x->f d lo hi Q ->
 (∀d v H',bJ H H'->gG X.K (mask H' ps) d v->Q d->QV v H')->r x lo hi H QV
def eSl(f:D->Option Int->Option Int->(D->Prop)->Prop)(t:ET)(tl th:OT):ET:=λσ Q=>t σ λx=>tl σ λl=>th σ λu=>f x l u Q
def fR{r:V->Option Int->Option Int->Hp->VK->Prop}{f:D->Option Int->Option Int->(D->Prop)->Prop}{lo hi tl th p2}(hr:WL X r)(h2:SlT X r f)(he:hW X e te)(hl:POt X lo tl)(hu:POt X hi th) :
  hW X (.Subscript e (.Slice lo hi none p2) pos) (eSl f te tl th):=by
 obtain⟨ve,pe,re⟩:=he;obtain⟨vl,pl,rl⟩:=hl;obtain⟨vu,pu,ru⟩:=hu;refine⟨_,TX hr pe pl pu,λB p0 H ps σT σ Q QV o h k=>re B p0 H ps σT σ _ _ o h λd x H1 s1 r1 q1=>?_⟩;refine rl B p0 H1 ps σT σ _ _ (o.grow s1) q1 λl H2 s2 q2=>?_;refine ru B p0 H2 ps σT σ _ _ ((o.grow s1).grow s2) q2 λu H3 s3 q3=>?_;exact h2 H3 ps d x l u Q QV (((o.grow s1).grow s2).grow s3).live ((r1.same (bQ s2)).same (bQ s3)) q3 λd v H' s' r' q'=>k d v H' (s1.trans (s2.trans (s3.trans s'))) r' q'
variable{st:Stmt}{fT:List Stmt}{t u:vE}
def oV:vE:=λDT σ=>DT.nx σ
def kI(t u:vE):vE:=λDT σ=>t { DT with nx:=u DT } σ
def hX:vY X [] oV:=⟨_,AU,λB p0 H ps σT σ DT DV o h f=>f.nx H ps σT σ o (L2.bJ.refl _) h⟩
def cS(h1:A7 X st t)(h2:vY X fT u):vY X (st::fT) (kI t u):=by
 obtain⟨v1,p1,r1⟩:=h1;obtain⟨v2,p2,r2⟩:=h2;refine⟨_,qS p1 p2,λB p0 H ps σT σ DT DV o h f=>r1 B p0 H ps σT σ { DT with nx:=u DT } { DV with nx:=v2 DV } o h ⟨λH' ps' σT' σ' o' s' q'=>?_,f.bk,f.ct,f.rt,f.ro,f.rp,f.rq,f.xb⟩⟩;exact r2 B p0 H' ps' σT' σ' DT DV o' q' (f.later s')
def cM(h1:A7 X st t):vY X [st] t:=by
 obtain⟨v1,p1,r1⟩:=h1;exact⟨_,AS p1,r1⟩
def aEg(i:Nat)(t:vE):vE:=λDT σ=>∃ts,σ[i]?=some (.own ts)/\t DT (σ.set i (.val (.list ts)))
def sV{sts}(i:Nat)(h:vY X sts t):vY X sts (aEg i t):=by
 obtain⟨v,p,r⟩:=h;refine⟨_,p,λB p0 H ps σT σ DT DV o h f=>?_⟩;obtain⟨ts,e,h⟩:=h;obtain⟨ps',o',s'⟩:=o.share e;exact r B p0 H ps' _ σ DT DV o' h (f.later s')
def PX(te:ET):vE:=λDT σ=>te σ DT.rt
def dQ(h:hW X e te):A7 X (.Return (some e) pos) (PX te):=by
 obtain⟨v,p,r⟩:=h;refine⟨_,yF p,λB p0 H ps σT σ DT DV o h f=>r B p0 H ps σT σ _ _ o h λd x H' s' r' q'=>?_⟩;exact f.rt d x H' (o.base.trans s') (r'.same (iS o.sub)) q'
def sIf(c:yZ)(t u:vE):vE:=λDT σ=>c σ λb=>if b=true then t DT σ else u DT σ
def iT{c a b tc}(hc:J2 X c tc)(ha:vY X a t)(hb:vY X b u):A7 X (.If c a b pos) (sIf tc t u):=by
 obtain⟨vc,pc,rc⟩:=hc;obtain⟨va,pa,ra⟩:=ha;obtain⟨vb,pb,rb⟩:=hb;refine⟨_,TM pc pa pb,λB p0 H ps σT σ DT DV o h f=>rc B p0 H ps σT σ _ _ o h λd H1 s1 q1=>?_⟩
 cases d with
 |true=>exact ra B p0 H1 ps σT σ DT DV (o.grow s1) q1 (f.later (bQ s1))
 |false=>exact rb B p0 H1 ps σT σ DT DV (o.grow s1) q1 (f.later (bQ s1))
def BJ(i:Nat)(te:ET):vE:=λDT σ=>te σ λd=>DT.nx (σ.set i (.val d))
def SK{i:Nat}{x pos'}(h:hW X e te)(ps':∀{v},PE X e v->PS X (.Assign [.Name x pos'] e pos) (vN v (jS i))):A7 X (.Assign [.Name x pos'] e pos) (BJ i te):=by
 obtain⟨v,p,r⟩:=h;refine⟨_,ps' p,λB p0 H ps σT σ DT DV o h f=>r B p0 H ps σT σ _ _ o h λd x H' s' r' q'=>?_⟩;exact f.nx H' ps _ _ ((o.grow s').set r') (bQ s') q'
def aEh(i:Nat)(t:AT):vE:=λDT σ=>t σ λds=>ds.length<=1000/\DT.nx (σ.set i (.own ds))
def aD8{i:Nat}{x pos' p2 t}(h:CP X es t)(ps':∀{v},PE X (.List es p2) v->PS X (.Assign [.Name x pos'] (.List es p2) pos) (vN v (jS i))):A7 X (.Assign [.Name x pos'] (.List es p2) pos) (aEh i t):=by
 obtain⟨v,p,r⟩:=h;refine⟨_,ps' (LB p),λB p0 H ps σT σ DT DV o h f=>r B p0 H ps σT σ _ _ o h λds xs H1 s1 r1 q1=>⟨xE (by rw[<- r1.length];exact q1.1),λq hq=>?_⟩⟩;exact f.nx _ (q::ps) _ _ ((o.grow s1).setOwn hq r1) ((bQ s1).trans (by rw[lD hq];exact L2.bJ.refl _)) q1.2
def aHw(i:Nat)(te:ET):vE:=λDT σ=>∃ts,σ[i]?=some (.own ts)/\te σ λd=>ts.length<=100000/\DT.nx (σ.set i (.own (ts++[d])))
def BE{i:Nat}{n e te ap cp}(hn:PE X n (pL i))(he:hW X e te)(hs:bN [e] X.env=(false,eval e X.env)::bN [] X.env:=by rfl)
  (pb:∀{ta},PA X [e] ta->PS X (.Expr (.Call (.Attribute n "append" ap) [e] [] cp) pos) (HN (XF X.K "list" NS (pL i) ta))):A7 X (.Expr (.Call (.Attribute n "append" ap) [e] [] cp) pos) (aHw i te):=by
 obtain⟨v,p,r⟩:=he;refine⟨_,pb (fY p jG hs),λB p0 H ps σT σ DT DV o h f=>?_⟩;obtain⟨ts,e,h⟩:=h;obtain⟨q,xs,h1,h2,h3,h4,h5,h6⟩:=o.own i ts e;refine⟨.ref q,h1,.inl ⟨rfl,xs,mZ.of h5⟩,r B p0 H ps σT σ _ _ o h λd x H1 s1 r1 q1=>?_⟩;refine⟨q,xs,x,rfl,rfl,s1 _ _ h5,?_,?_⟩
 ·rw[<- h6.length];have:bL=2^24:=rfl;omega
 ·have o1:=o.grow s1;have hr:Reps X.K (mask H1 ps) (ts++[d]) (xs++[x]):=(h6.same (bQ s1)).append (.cons r1 .nil);exact f.nx _ ps _ σ (o1.write (ys:=xs++[x]) e h1 hr) ((bQ s1).trans (by rw[gR h2];exact L2.bJ.refl _)) q1.2
noncomputable def HX(x:Str):List D:=x.cps.toList.map λc=>.str ⟨#[c]⟩
noncomputable def OF:D->Option (List D)
|.list ts=>some ts
|.tuple ts=>some ts
|.str x=>some (HX x)
|_=>none
def mF(σ:List Sl):Prop:=∀(i:Nat)(s:Sl),(∀d,s≠.val d)->s≠.un->σ[i]?≠some s
def kE{σ:List Sl}(h:mF σ)(i:Nat)(d:D):mF (σ.set i (.val d)):=λj s hv hu e=>by
 by_cases z:i=j
 ·subst z;have hi:i<σ.length:=by simpa using(aG.mp e).1
  rw[bD hi]at e;exact hv d (Option.some.inj e).symm
 ·rw[bA z]at e;exact h j s hv hu e
theorem mF.own{σ}(h:mF σ)(i:Nat)(ts:List D):σ[i]?≠some (.own ts):=h i _ (λ_ z=>nomatch z) λz=>nomatch z
theorem mF.dic{σ}(h:mF σ)(i:Nat)(hs:List Int)(kvs:List (D×D)):σ[i]?≠some (.dic hs kvs):=h i _ (λ_ z=>nomatch z) λz=>nomatch z
abbrev GT:=D->List Sl->(List Sl->Prop)->Prop
def CY(X:Cx)(tg:Expr)(g:GT):Prop:=∃gv:TG,PG X tg gv/\∀B p0 H ps σT σ (d:D)(v:V)(Q:List Sl->Prop)(QV:L2.St->Hp->Prop),Ok X.K B p0 H ps σT σ->gG X.K (mask H ps) d v->g d σT Q ->
 (∀σT' σ',Ok X.K B p0 H ps σT' σ'->(mF σT->mF σT')->Q σT'->QV σ' H)->gv v σ H QV
def gN(i:Nat):GT:=λd σ Q=>Q (σ.set i (.val d))
def eK{i:Nat}{x p}(h:PG X (.Name x p) (jS i)):CY X (.Name x p) (gN i):=
 ⟨_,h,λB p0 H ps σT σ d v Q QV o r h k=>k _ _ (o.set r) (λn=>kE n _ _) h⟩
def gP(i j:Nat):GT:=λd σ Q=>∃a b,d=.tuple [a,b]/\Q ((σ.set i (.val a)).set j (.val b))
def uJ{i j:Nat}{t}(h:PG X t (ZD X.K 2 (vD (jS i) (vD (jS j) ZE)))):CY X t (gP i j):=
 ⟨_,h,λB p0 H ps σT σ d v Q QV o r h k=>by
  obtain⟨a,b,rfl,h⟩:=h
  cases r with
  |@tuple p xs _ hq r=>
   cases r with
   |cons ra r=>
    cases r with
    |cons rb r=>
     cases r;exact⟨_,_,rfl,bJ.seqT bS hq,rfl,_,_,rfl,_,_,rfl,rfl,k _ _ ((o.set ra).set rb) (λn=>kE (kE n _ _) _ _) h⟩⟩
structure MM(K:aL)(Hs:Hp)(ts:List D)(J:It):Prop where
 stop:∀(i:Nat)H,bJ Hs H->ts.length<=i->J.stop i H
 go:∀(i:Nat)H,bJ Hs H->i<ts.length->J.go i H
 yld:∀(i:Nat)H ps(y:V)H',(∀p∈ps,CQ (H p))->bJ Hs (mask H ps)->i<ts.length->J.yld i H y H'->bJ H H'/\∃dx,ts[i]?=some dx/\gG K (mask H' ps) dx y
abbrev IT:=List Sl->(List D->Prop)->Prop
def E8(X:Cx)(tg iter:Expr)(t:IT):Prop:=∃wi:TI,PI X tg iter wi/\∀B p0 H ps σT σ (Q:List D->Prop)(R:It->Hp->Prop),Ok X.K B p0 H ps σT σ->t σT Q ->
 (∀ts J H',bJ H H'->MM X.K (mask H' ps) ts J->Q ts->R J H')->wi σ H R
def aMk(te:ET):IT:=λσ Q=>te σ λd=>∃ts,OF d=some ts/\Q ts
def X1{x d ts Hs}(r:gG K Hs d x)(hi:OF d=some ts){R:It->Hp->Prop}(hs:bJ Hs H1)(h:∀J:It,MM K Hs ts J->R J H1) :
  (∃a,x=.ref a/\(∃xs,mZ K H1 a xs)/\R (Itl K a) H1)\/(∃a,x=.ref a/\(∃xs,tV K H1 a xs)/\R (Itt K a) H1)\/∃z,x=.str z/\R (Its z) H1:=by
 cases r with
 |@list p xs us q rs=>
  obtain rfl:us=ts:=Option.some.inj hi;refine .inl ⟨p,rfl,⟨xs,L2.bJ.seq hs q⟩,h _ ⟨λi H e hl=>⟨xs,L2.bJ.seq e q,by rw[<- rs.length];exact hl⟩,λi H e hl=>?_,λi H ps y H' _ e hl hy=>?_⟩⟩
  ·obtain⟨v,hv,_⟩:=rs.get (aF hl);exact⟨xs,v,L2.bJ.seq e q,hv⟩
  ·obtain⟨rfl,hy⟩:=hy;obtain⟨dx,h1,h2⟩:=rs.get' (hy xs (L2.bJ.seq (e.trans bS) q));exact⟨L2.bJ.refl _,dx,h1,h2.same e⟩
 |@tuple p xs us q rs=>
  obtain rfl:us=ts:=Option.some.inj hi;refine .inr (.inl ⟨p,rfl,⟨xs,bJ.seqT hs q⟩,h _ ⟨λi H e hl=>⟨xs,bJ.seqT e q,by rw[<- rs.length];exact hl⟩,λi H e hl=>?_,λi H ps y H' _ e hl hy=>?_⟩⟩)
  ·obtain⟨v,hv,_⟩:=rs.get (aF hl);exact⟨xs,v,bJ.seqT e q,hv⟩
  ·obtain⟨rfl,hy⟩:=hy;obtain⟨dx,h1,h2⟩:=rs.get' (hy xs (bJ.seqT (e.trans bS) q));exact⟨L2.bJ.refl _,dx,h1,h2.same e⟩
 |str z=>
  obtain rfl:HX z=ts:=Option.some.inj hi;have hl:(HX z).length=z.cps.size:=by unfold HX;simp
  refine .inr (.inr ⟨z,rfl,h _ ⟨λi H _ e=>by rw[hl]at e;exact e,λi H _ e=>by rw[hl]at e;exact e,λi H ps y H' _ _ e hy=>?_⟩⟩);obtain⟨rfl,c,h2,rfl⟩:=hy;refine⟨L2.bJ.refl _,.str ⟨#[c]⟩,?_,.str _⟩;unfold HX;rw[aI];have:z.cps.toList[i]?=some c:=by simpa using h2
  rw[this];rfl
 |_=>cases hi
def fL{tg}(he:hW X e te):E8 X tg e (aMk te):=by
 obtain⟨ve,pe,re⟩:=he;refine⟨_,aEt pe,λB p0 H ps σT σ Q R o h k=>re B p0 H ps σT σ _ _ o h λd x H1 s1 r1 q1=>?_⟩;obtain⟨ts,hi,q⟩:=q1;exact X1 r1 hi bS λJ rj=>k ts J H1 s1 rj q
noncomputable def eW(n:Nat):List D:=(cQ n).map λ(k:Nat)=>aH (k:Int)
def aFn(t:AT):IT:=λσ Q=>t σ λds=>∃n:Int,ds=[.int n]/\-(2^62)<=n/\n<2^62/\Q (eW n.toNat)
def mR{tg e t p p'}(ha:CP X [e] t)(pr:∀{ta},PA X [e] ta->PI X tg (.Call (.Name "range" p) [e] [] p') (OI ta)):E8 X tg (.Call (.Name "range" p) [e] [] p') (aFn t):=by
 obtain⟨va,pa,ra⟩:=ha;refine⟨_,pr pa,λB p0 H ps σT σ Q R o h k=>ra B p0 H ps σT σ _ _ o h λds xs H1 s1 r1 q1=>?_⟩;obtain⟨n,rfl,h1,h2,q⟩:=q1
 cases r1 with
 |cons r1 r2=>
  cases r2;cases r1;refine⟨n,rfl,h1,h2,k (eW n.toNat) _ H1 s1 ?_ q⟩;have hl:(eW n.toNat).length=n.toNat:=by unfold eW;simp
  refine⟨λi H _ e=>by rw[hl]at e;exact e,λi H _ e=>by rw[hl]at e;exact e,λi H ps y H' _ _ e hy=>?_⟩;obtain⟨rfl,rfl⟩:=hy;have ei:(0:Int)+(i:Int)=(i:Int):=by omega
  rw[ei];rw[hl]at e;refine⟨L2.bJ.refl _,.int i,?_,.int _⟩;unfold eW;rw[aI,gZ e];rfl
def X0(ti:IT)(g:GT)(tb:vE):vE:=λDT σ=>ti σ λts=>∃P:Nat->List Sl->Prop,P 0 σ /\
 (∀(k:Nat)(x:D)σ',ts[k]?=some x->P k σ'->g x σ' λσ2=>tb { DT with nx:=P (k+1),ct:=P (k+1),bk:=DT.nx } σ2)/\∀σ',P ts.length σ'->DT.nx σ'
def aD9{tg iter body g tb ti}(he:E8 X tg iter ti)(hg:CY X tg g)(hb:vY X body tb)
  (pf:∀{wi gv bv},PI X tg iter wi->PG X tg gv->CW X body bv->PS X (.For tg iter body [] pos) (SF wi gv bv)):A7 X (.For tg iter body [] pos) (X0 ti g tb):=by
 obtain⟨ve,pe,re⟩:=he;obtain⟨gv,pg,rg⟩:=hg;obtain⟨vb,pb,rb⟩:=hb;refine⟨_,pf pe pg pb,λB p0 H ps σT σ DT DV o h f=>re B p0 H ps σT σ _ _ o h λts J H1 s1 rj q1=>?_⟩;obtain⟨P,h0,hs,hd⟩:=q1;refine⟨λi m σ' H'=>m=ts.length-i/\i<=ts.length/\∃ps' σT',Ok X.K B p0 H' ps' σT' σ'/\bJ (mask H1 ps) (mask H' ps')/\P i σT',⟨_,rfl,cL _,ps,σT,o.grow s1,L2.bJ.refl _,h0⟩,?_⟩;rintro i m σ' H' ⟨rfl,hle,ps',σT',o',s',p'⟩;have sH:bJ (mask H1 ps) H':=s'.trans bS;have f':J6 X.K B p0 H' ps' DT DV:=f.later ((bQ s1).trans s');by_cases hlt:i<ts.length
 ·refine .inr ⟨rj.go i H' sH hlt,λσ2 H2=>∃ps2 σT2,Ok X.K B p0 H2 ps2 σT2 σ2/\bJ (mask H1 ps) (mask H2 ps2)/\P (i+1) σT2,λσ2 H2 z=>⟨ts.length-(i+1),by omega,rfl,hlt,z⟩,λy H2 hy'=>?_⟩;obtain⟨s2,dx,hx,rx⟩:=rj.yld i H' ps' y H2 o'.live s' hlt hy';have f2:=f'.later (bQ (ps:=ps') s2);have s'':bJ (mask H1 ps) (mask H2 ps'):=s'.trans (bQ s2);refine rg B p0 H2 ps' σT' σ' dx y _ _ (o'.grow s2) rx (hs i dx σT' hx p') λσT3 σ3 o3 _ q3=>?_;exact rb B p0 H2 ps' σT3 σ3 _ _ o3 q3 ⟨λH4 ps4 σT4 σ4 o4 s4 q4=>⟨ps4,σT4,o4,s''.trans s4,q4⟩,λH4 ps4 σT4 σ4 o4 s4 q4=>f2.nx H4 ps4 σT4 σ4 o4 s4 q4,λH4 ps4 σT4 σ4 o4 s4 q4=>⟨ps4,σT4,o4,s''.trans s4,q4⟩,f2.rt,f2.ro,f2.rp,f2.rq,f2.xb⟩
 ·obtain rfl:i=ts.length:=by omega
  exact .inl ⟨rj.stop _ H' sH (aO _),f'.nx H' ps' σT' σ' o' (L2.bJ.refl _) (hd σT' p')⟩
noncomputable def JZ(σ:List Sl):Option Nat->Sl
|none=>.un
|some j=>match σ[j]? with | some (.val d)=>.val d | _=>.un
noncomputable def jR(fr:List (Option Nat))(σ:List Sl):List Sl:=fr.map (JZ σ)
def RC{σ q d}(h:JZ σ q=.val d):∃j,q=some j/\σ[j]?=some (.val d):=by
 cases q with
 |none=>cases h
 |some j=>
  refine⟨j,rfl,?_⟩;unfold JZ at h;dsimp only at h;split at h
  ·next e=>cases h;exact e
  ·cases h
def RD{σ q s}(hv:∀d,s≠.val d)(hu:s≠.un):JZ σ q≠s:=λh=>by
 cases q with
 |none=>exact hu h.symm
 |some j=>
  unfold JZ at h;dsimp only at h;split at h
  ·exact hv _ h.symm
  ·exact hu h.symm
def oQ(fr:List (Option Nat))(σ:List Sl):mF (jR fr σ):=λi s hv hu h=>by
 unfold jR at h;rw[aI]at h
 cases hf:fr[i]? with
 |none=>rw[hf]at h;cases h
 |some q=>
  rw[hf]at h;exact RD hv hu (Option.some.inj h)
def Ok.blk(o:Ok K B p0 H ps σT σ)(fr:List (Option Nat)):Ok K B p0 H ps (jR fr σT) (vC fr σ) where
 base:=o.base
 sub:=o.sub
 live:=o.live
 len:=by unfold jR vC;simp
 val:=λi d h=>by
  unfold jR at h;rw[aI]at h
  cases hf:fr[i]? with
  |none=>rw[hf]at h;cases h
  |some q=>
   rw[hf]at h;obtain⟨j,rfl,e⟩:=RC (Option.some.inj h);obtain⟨v,h1,h2⟩:=o.val j d e;refine⟨v,?_,h2⟩;unfold vC;rw[aI,hf];simp[h1]
 own:=λi ts h=>absurd h ((oQ fr σT).own i ts)
 dis:=λi j ts us p h=>absurd h ((oQ fr σT).own i ts)
 dc:=λi hs kvs h=>absurd h ((oQ fr σT).dic i hs kvs)
def Ok.adopt(o:Ok K B p0 H ps σT σ){p:Addr}{u}(hp:H p=none)(hu:LT u=false:=by rfl):Ok K B p0 (gO H p u) (p::ps) σT σ:=by
 have hm:mask (gO H p u) (p::ps)=mask H ps:=lD hp;refine⟨o.base.trans (dN hp),λq hq=>aM _ (o.sub q hq),λq hq=>?_,o.len,λi d h=>by rw[hm];exact o.val i d h,λi ts h=>?_,o.dis,o.dc.to (λj hs kvs h=>⟨h,rfl⟩) (λq φ a b _=>⟨aM _ a,dA λz=>by rw[z,hp]at b;cases b⟩) (λq φ _ _ a b=>⟨a,b⟩) (by rw[hm];exact L2.bJ.refl _)⟩
 ·by_cases e:q=p
  ·subst e;rw[dG];exact⟨_,rfl,hu⟩
  ·rw[dA e];rcases bH.mp hq with z | z
   ·exact absurd z e
   ·exact o.live q z
 ·rw[hm];obtain⟨q,xs,h1,h2,h3,h4,h5,h6⟩:=o.own i ts h;exact⟨q,xs,h1,aM _ h2,h3,h4,by rw[dA λz=>by rw[z,hp]at h5;cases h5];exact h5,h6⟩
def Ok.aside(o:Ok K B p0 H ps σT σ){q:Addr}{u}(hp:q∈ps)(hB:B q=none)(hn:mF σT)(hu:LT u=false:=by rfl):Ok K B p0 (gO H q u) ps σT σ where
 base:=λb w e=>by
  rw[dA λz=>by rw[z,hB]at e;cases e];exact o.base b w e
 sub:=o.sub
 live:=λp hp'=>by
  by_cases e:p=q
  ·subst e;rw[dG];exact⟨_,rfl,hu⟩
  ·rw[dA e];exact o.live p hp'
 len:=o.len
 val:=λi d h=>by rw[gR hp];exact o.val i d h
 own:=λi ts h=>absurd h (hn.own i ts)
 dis:=λi j ts us p h=>absurd h (hn.own i ts)
 dc:=λi hs kvs h=>absurd h (hn.dic i hs kvs)
def zC(X:Cx)(ifs:List Expr)(t:yZ):Prop:=∃tt:TT,KE X ifs tt/\∀B p0 H ps σT σ (Q:Bool->Prop)(QV:Bool->Hp->Prop),Ok X.K B p0 H ps σT σ->t σT Q ->
 (∀b H',bJ H H'->Q b->QV b H')->tt σ H QV
def tU:yZ:=λ_ Q=>Q true
def iA:zC X [] tU:=⟨_,YC,λ_ _ H _ _ _ _ _ _ h k=>k _ H (L2.bJ.refl H) h⟩
def LV{t}(h:J2 X e t):zC X [e] t:=by
 obtain⟨v,p,r⟩:=h;exact⟨_,YB p,r⟩
def WV(fr:List (Option Nat))(ti:IT)(g:GT)(tt:yZ)(te:ET):ET:=λσ Q=>ti σ λts=>ts.length<=100000/\∃P:Nat->List Sl->List D->Prop,P 0 (jR fr σ) [] /\
 (∀(k:Nat)(x:D)σ'(ds:List D),ts[k]?=some x->P k σ' ds->g x σ' λσ2=>tt σ2 λb=>if b=true then te σ2 λy=>P (k+1) σ2 (ds++[y])else P (k+1) σ2 ds)/\∀σ' ds,P ts.length σ' ds->Q (.list ds)
def YX{fr}{ti:IT}{g:GT}{tt:yZ}{te:ET}{wi:TI}{gv:BP->TG}{vt:BP->TT}{ve:BP->TE}
  (ri:∀B p0 H ps σT σ (Q:List D->Prop)(R:It->Hp->Prop),Ok X.K B p0 H ps σT σ->ti σT Q->(∀ts J H',bJ H H'->MM X.K (mask H' ps) ts J->Q ts->R J H')->wi σ H R)
  (rg:∀(bp:BP)B p0 H ps σT σ(d:D)(v:V)(Q:List Sl->Prop)(QV:L2.St->Hp->Prop),Ok X.K B p0 H ps σT σ->gG X.K (mask H ps) d v->g d σT Q->(∀σT' σ',Ok X.K B p0 H ps σT' σ'->(mF σT->mF σT')->Q σT'->QV σ' H)->gv bp v σ H QV)
  (rt:∀(bp:BP)B p0 H ps σT σ(Q:Bool->Prop)(QV:Bool->Hp->Prop),Ok X.K B p0 H ps σT σ->tt σT Q->(∀b H',bJ H H'->Q b->QV b H')->vt bp σ H QV)
  (re:∀(bp:BP)B p0 H ps σT σ(Q:D->Prop)QV,Ok X.K B p0 H ps σT σ->te σT Q->(∀d v H',bJ H H'->gG X.K (mask H' ps) d v->Q d->QV v H')->ve bp σ H QV)
  (B:Hp) (p0:List Addr) (H:Hp) (ps:List Addr) (σT:List Sl) (σ:L2.St) (Q:D->Prop) (QV:VK) (o:Ok X.K B p0 H ps σT σ) (h:WV fr ti g tt te σT Q) (k:∀d v H',bJ H H'->gG X.K (mask H' ps) d v->Q d->QV v H'):KS fr wi gv vt ve σ H QV:=by
 refine ri B p0 H ps σT σ _ _ o h λts J H1 s1 rj q1=>?_;obtain⟨hz,P,h0,hs,hd⟩:=q1;intro bp acc hacc
 have hBacc:B acc=none:=by
  cases q:B acc with
  |none=>rfl
  |some u=>rw[(o.grow s1).base acc u q]at hacc;cases hacc
 have hnps:acc∉ps:=iO (o.grow s1).live hacc
 refine⟨λi m σ' H'=>m=ts.length-i/\i<=ts.length/\∃σT' ds ys,Ok X.K B p0 H' (acc::ps) σT' σ'/\mF σT'/\H' acc=some (.lst ys)/\ds.length<=i/\Reps X.K (mask H' (acc::ps)) ds ys/\bJ (mask H1 ps) (mask H' (acc::ps))/\bJ H1 H'/\P i σT' ds,
  ⟨_,rfl,cL _,jR fr σT,[],[],((o.grow s1).blk fr).adopt hacc,oQ fr σT,dG,aO _,.nil,by rw[lD hacc];exact L2.bJ.refl _,dN hacc,h0⟩,?_⟩
 rintro i m σ' H' ⟨rfl,hle,σT',ds,ys,o',n',ha,hl,hr,s',sF,p'⟩;have hL:bL=2^24:=rfl;by_cases hlt:i<ts.length
 ·refine .inr ⟨rj.go i H' (s'.trans bS) hlt,λy H2 hy=>?_⟩;obtain⟨s2,dx,hx,rx⟩:=rj.yld i H' (acc::ps) y H2 o'.live s' hlt hy;refine rg bp B p0 H2 (acc::ps) σT' σ' dx y _ _ (o'.grow s2) rx (hs i dx σT' ds hx p') λσT3 σ3 o3 n3 q3=>?_;refine rt bp B p0 H2 (acc::ps) σT3 σ3 _ _ o3 q3 λb H4 s4 q4=>?_;have s24:=s2.trans s4
  cases b with
  |false=>
   exact⟨ts.length-(i+1),by omega,rfl,hlt,σT3,ds,ys,o3.grow s4,n3 n',s24 _ _ ha,by omega,hr.same (bQ s24),s'.trans (bQ s24),sF.trans s24,q4⟩
  |true=>
   refine re bp B p0 H4 (acc::ps) σT3 σ3 _ _ (o3.grow s4) q4 λd v H5 s5 r5 q5=>?_;have s25:=s24.trans s5;have hm:mask (gO H5 acc (.lst (ys++[v]))) (acc::ps)=mask H5 (acc::ps):=gR (aR ..);refine⟨ys,s25 _ _ ha,by rw[<- hr.length];omega,ts.length-(i+1),by omega,rfl,hlt,σT3,ds++[d],ys++[v],((o3.grow s4).grow s5).aside (aR ..) hBacc (n3 n'),n3 n',dG,by rw[aV,nV];omega,?_,?_,?_,q5⟩
   ·rw[hm];exact(hr.same (bQ s25)).append (.cons r5 .nil)
   ·rw[hm];exact s'.trans (bQ s25)
   ·intro b u e;have ne:b≠acc:=λz=>by rw[z,hacc]at e;cases e
    rw[dA ne];exact(sF.trans s25) b u e
 ·obtain rfl:i=ts.length:=by omega
  refine .inl ⟨rj.stop _ H' (s'.trans bS) (aO _),k (.list ds) _ H' (s1.trans sF) (.list (mZ.of (pT hnps ha)) (hr.same (iS λp hp=>aM _ hp))) (hd σT' ds p')⟩
def UT{elt iter tg ifs scope fr N' ti g tt te}(hi:E8 X tg iter ti)
  (hY:∀b:BP,CY (blk X scope N' b) tg g/\zC (blk X scope N' b) ifs tt/\hW (blk X scope N' b) elt te) {M:(TE)->Prop}
  (fin:∀{wi}{gv:BP->TG}{vt:BP->TT}{ve:BP->TE},PI X tg iter wi->(∀b:BP,PG (blk X scope N' b) tg (gv b)/\KE (blk X scope N' b) ifs (vt b)/\PE (blk X scope N' b) elt (ve b))->M (KS fr wi gv vt ve)) :
  ∃v:TE,M v/\∀B p0 H ps σT σ (Q:D->Prop)(QV:VK),Ok X.K B p0 H ps σT σ->WV fr ti g tt te σT Q ->
   (∀d v H',bJ H H'->gG X.K (mask H' ps) d v->Q d->QV v H')->v σ H QV:=by
 obtain⟨wi,pi,ri⟩:=hi;refine⟨_,fin (gv:=λb=>Classical.choose (hY b).1) (vt:=λb=>Classical.choose (hY b).2.1) (ve:=λb=>Classical.choose (hY b).2.2) pi λb=>⟨(Classical.choose_spec (hY b).1).1,(Classical.choose_spec (hY b).2.1).1,(Classical.choose_spec (hY b).2.2).1⟩,?_⟩;exact YX ri (λb=>(Classical.choose_spec (hY b).1).2) (λb=>(Classical.choose_spec (hY b).2.1).2) λb=>(Classical.choose_spec (hY b).2.2).2
def aJ1{elt iter tg ifs scope fr N' ti g tt te}(hi:E8 X tg iter ti)
  (hY:∀b:BP,CY (blk X scope N' b) tg g/\zC (blk X scope N' b) ifs tt/\hW (blk X scope N' b) elt te)
  (pl:∀{wi}{gv:BP->TG}{vt:BP->TT}{ve:BP->TE},PI X tg iter wi->(∀b:BP,PG (blk X scope N' b) tg (gv b)/\KE (blk X scope N' b) ifs (vt b)/\PE (blk X scope N' b) elt (ve b))->PE X (.ListComp elt [⟨tg,iter,ifs,0⟩] scope pos) (KS fr wi gv vt ve)) :
  hW X (.ListComp elt [⟨tg,iter,ifs,0⟩] scope pos) (WV fr ti g tt te):=UT hi hY pl
def wG{i:Nat}{x px spos elt iter tg ifs scope fr N' ti g tt te}(hi:E8 X tg iter ti)
  (hY:∀b:BP,CY (blk X scope N' b) tg g/\zC (blk X scope N' b) ifs tt/\hW (blk X scope N' b) elt te)
  (pl:∀{wi}{gv:BP->TG}{vt:BP->TT}{ve:BP->TE},PI X tg iter wi->(∀b:BP,PG (blk X scope N' b) tg (gv b)/\KE (blk X scope N' b) ifs (vt b)/\PE (blk X scope N' b) elt (ve b)) ->
   PS X (.Assign [.Name x px] (.ListComp elt [⟨tg,iter,ifs,0⟩] scope pos) spos) (vN (KS fr wi gv vt ve) (jS i))) :
  A7 X (.Assign [.Name x px] (.ListComp elt [⟨tg,iter,ifs,0⟩] scope pos) spos) (BJ i (WV fr ti g tt te)):=by
 obtain⟨v,p,r⟩:=UT (M:=λv=>PS X (.Assign [.Name x px] (.ListComp elt [⟨tg,iter,ifs,0⟩] scope pos) spos) (vN v (jS i))) (fr:=fr) hi hY pl;refine⟨_,p,λB p0 H ps σT σ DT DV o h f=>r B p0 H ps σT σ _ _ o h λd x H' s' r' q'=>?_⟩;exact f.nx H' ps _ _ ((o.grow s').set r') (bQ s') q'
noncomputable def jQ(N:List Str)(ds:List D):List Sl:=ds.map Sl.val++vG (N.length-ds.length) .un
def qU{N ds vs}(live:∀p∈ps,CQ (H p))(r:Reps K (mask H ps) ds vs):Ok K H ps H ps (jQ N ds) (L2.oF N vs):=by
 have hl:=r.length;refine⟨L2.bJ.refl _,λ_ h=>h,live,?_,λi d h=>?_,λi ts h=>?_,λi j ts us p h=>?_,λi hs kvs h=>?_⟩
 ·unfold jQ L2.oF;simp[hl]
 ·unfold jQ at h;by_cases hi:i<ds.length
  ·rw[dU (by simpa using hi),aI]at h
   cases hd:ds[i]? with
   |none=>rw[hd]at h;cases h
   |some d'=>
    rw[hd]at h;cases h;obtain⟨v,h1,h2⟩:=r.get hd;refine⟨v,?_,h2⟩;unfold L2.oF;rw[dU (by rw[aB,<- hl];exact hi),aI,h1];rfl
  ·rw[dE (by simpa using hi),jW]at h;split at h<;>cases h
 ·unfold jQ at h;by_cases hi:i<ds.length
  ·rw[dU (by simpa using hi),aI]at h
   cases hd:ds[i]? with
   |none=>rw[hd]at h;cases h
   |some d'=>rw[hd]at h;cases h
  ·rw[dE (by simpa using hi),jW]at h;split at h<;>cases h
 ·unfold jQ at h;by_cases hi:i<ds.length
  ·rw[dU (by simpa using hi),aI]at h
   cases hd:ds[i]? with
   |none=>rw[hd]at h;cases h
   |some d'=>rw[hd]at h;cases h
  ·rw[dE (by simpa using hi),jW]at h;split at h<;>cases h
 ·unfold jQ at h;by_cases hi:i<ds.length
  ·rw[dU (by simpa using hi),aI]at h
   cases hd:ds[i]? with
   |none=>rw[hd]at h;cases h
   |some d'=>rw[hd]at h;cases h
  ·rw[dE (by simpa using hi),jW]at h;split at h<;>cases h
def xJ{P w}{mg:Str->Option Value}{base x qual st}{f:Addr}{fd}{N pn:List Str}{k:Nat}{sp:uM}(F:RV K x qual st f fd)(S:dC N pn (bP st))(len:∀ds Q,sp ds Q->ds.length=pn.length)
  (hbody:∀(cdv:Value)(A:Around)outer(s:Shared)H E,Room k (A.deeper (envOfC qual (bP st) s.heap.objs.size f cdv))->∀(ds:List D)(Q:D->Prop),sp ds Q ->
   ∃t,vY (yV gA P w K mg base N qual (bP st) f cdv A outer s H E).nox (lQ st) t/\t { nx:=λ_=>Q .none,rt:=Q } (jQ N ds)):dD P w K mg base gA (k+1) f fd pn (cO K sp):=by
 refine F.ok S (λvs H Q E h=>?_) λcdv A outer s H vs Q E hr h=>?_
 ·obtain⟨ps,ds,QD,_,r,q,_⟩:=h;rw[<- r.length];exact len ds QD q
 ·obtain⟨ps,ds,QD,live,r,q,k⟩:=h;obtain⟨t,⟨ts,p,rd⟩,h⟩:=hbody cdv A outer s H E hr ds QD q;refine⟨ts,p,rd H ps H ps _ _ _ _ (qU live r) h ⟨λH' ps' σT' σ' o' s' q'=>?_,λ_ _ _ _ _ _ q'=>q'.elim,λ_ _ _ _ _ _ q'=>q'.elim,λd v H' s' r' q'=>k d v H' s' r' q',λ_ _ _ _ _ _ _ _ _ q'=>q'.elim,λ_ _ _ _ _ _ _ _ _ _ _ _ _ _ _ _ _ _ q'=>q'.elim,λ_ _ _ _ _ _ _ _ _ _ _ _ _ _ q'=>q'.elim,True.intro⟩⟩;exact k _ _ H' o'.base .none q'
end
end TL
namespace HT
section
variable{prog:bX}{w:World}{A:Around}{E:Value->Shared->Prop}{s:Shared}
def getItem_tuple_all{t sl:Addr}{items:Array Value}{vl vu lo hi}{Q:Value->Shared->Prop}(ht:IsTup s.heap t items)(hs:s.heap.IsSliceOf sl vl vu .none)(pl:IsPart vl lo)(pu:IsPart vu hi)
  (hw:sIx items.size 0 lo=0/\sIx items.size items.size hi=items.size) (h:Q (.ref t) s):wpAny (model prog w) A (getItem (.ref t) (.ref sl)) Q E s:=by
 obtain⟨os,hos,hcs,hds⟩:=id hs;have hTs:s.TypeIs (.ref sl) "slice":=⟨os,hos,hcs⟩;unfold getItem
 try with_reducible refine wpAny_holding ?_
 first | refine aA (aE ?_) | skip
 refine aA (wpAny_sequenceKey ht.typeIs (by decide) ?_)
 refine aA (wpAny_callSpecial?_slot (name:=Str.ofString "__getitem__") ht.typeIs PyProof.Rows.slot_tuple_getitem
  (dB PyProof.Rows.slot_tuple_getitem ht.typeIs entry_tuple_getitem ?_ (args_tuple_getitem _ _)))
 show wpAny _ _ (Builtin.Tuple.tupleItemsOf (.ref t) >>= _) _ _ s;refine aA (tupleItemsOf_ ht ?_);refine aA (wpAny_typeOf hTs ?_);rw[if_pos (by decide)];refine aA (qQ hs pl pu ?_)
 have hyes:(((sIx items.size 0 lo:Nat):Int)==0&&(1:Int)==1&&(sIx items.size items.size hi-sIx items.size 0 lo)==items.size)=true:=by
  rw[hw.1,hw.2];simp
 show wpAny _ _ (if(((sIx items.size 0 lo:Nat):Int)==0&&(1:Int)==1&&(sIx items.size items.size hi-sIx items.size 0 lo)==items.size)=true then _ else _) _ _ s;rw[if_pos hyes];unfold Builtin.Tuple.tupleIsExact;refine aA (aA (wpAny_typeOf ht.typeIs (aE ?_)));rw[if_pos (by decide)]
 first
  |exact aA (wpAny_rule (aA (aE (aE ⟨_,rfl,aE h⟩))))
  |exact aA (wpAny_rule (aE ⟨_,rfl,aE h⟩))
  |exact aA (wpAny_rule (aA (aE ⟨_,rfl,aE h⟩)))
end
end HT
namespace L2
section
variable{X:Cx}
def aHz:V->Option Int->Option Int->Hp->VK->Prop:=λx lo hi H Q=>∃z,x=.str z/\z.length<=bL/\Q (.str (Txt.slice z lo hi)) H
def aEd:WL X aHz:=by
 intro pins s σ H x v vl vu lo hi sl Q I rx hs pl pu h;obtain⟨z,rfl,hz,q⟩:=h;obtain⟨t,rfl⟩:=rx;refine⟨"str",_,PySem.F.slot_str_getitem.lookup,typeIs_str _ _ _,?_⟩
 have fin:∀lo hi:Option Int,Q (.str (Txt.slice z lo hi)) H->(Txt.slice z lo hi).length<=bL/\∀(t':Tok)(k:Nat),EP X pins σ Q (.str (Txt.slice z lo hi) t') { s with toks:=k }:=λlo hi q=>
  ⟨cI (Txt.slice_le z _ _) hz,λt' k=>⟨.str _,H,I.tok k,⟨t',rfl⟩,q⟩⟩
 cases pl with
 |none=>
  cases pu with
  |none=>exact wpAny_getItem_str_slice (l:=none) (u:=none) (st:=none) hs rfl (post_val_or_str (fin none none q))
  |int j uj=>exact wpAny_getItem_str_slice (l:=none) (u:=some (j,uj)) (st:=none) hs rfl (post_val_or_str (fin none (some j) q))
 |int i ui=>
  cases pu with
  |none=>exact wpAny_getItem_str_slice (l:=some (i,ui)) (u:=none) (st:=none) hs rfl (post_val_or_str (fin (some i) none q))
  |int j uj=>exact wpAny_getItem_str_slice (l:=some (i,ui)) (u:=some (j,uj)) (st:=none) hs rfl (post_val_or_str (fin (some i) (some j) q))
def aCm(K:aL):V->Option Int->Option Int->Hp->VK->Prop:=λx lo hi H Q=>∃a xs,x=.ref a/\tV K H a xs /\
 ((HT.sIx xs.length 0 lo=0/\HT.sIx xs.length xs.length hi=xs.length)->Q (.ref a) H)/\(¬(HT.sIx xs.length 0 lo=0/\HT.sIx xs.length xs.length hi=xs.length)->∀p,H p=none->Q (.ref p) (gO H p (.tup (GL xs lo hi))))
def XO:WL X (aCm X.K):=by
 intro pins s σ H x v vl vu lo hi sl Q I rx hs pl pu h;obtain⟨a,xs,rfl,hx,q1,q2⟩:=h;by_cases hw:HT.sIx xs.length 0 lo=0/\HT.sIx xs.length xs.length hi=xs.length
 ·cases rx;obtain⟨its,r,ht,hz⟩:=I.tuple hx;have hlen:its.toArray.size=xs.length:=by rw[bF];exact r.length.symm
  exact⟨"tuple",_,PyProof.Rows.slot_tuple_getitem.lookup,ht.typeIs,HT.getItem_tuple_all ht hs pl pu (by rw[hlen];exact hw) ⟨.ref a,H,I,rfl,q1 hw⟩⟩
 ·exact aEc pins s σ H (.ref a) v vl vu lo hi sl Q I rx hs pl pu ⟨a,xs,rfl,hx,hw,q2 hw⟩
def S9(K:aL):V->Option Int->Option Int->Hp->VK->Prop:=λx lo hi H Q=>aH0 K x lo hi H Q\/aCm K x lo hi H Q\/aHz x lo hi H Q
def iQ:WL X (S9 X.K):=XQ.or (XO.or aEd)
def TD(K:aL):R2:=λx y H Q=>∃a b xs ys,x=.ref a/\y=.ref b/\tV K H a xs/\tV K H b ys/\xs.length+ys.length<=bL /\
 (xs=[]->Q (.ref b) H)/\(xs≠[]->ys=[]->Q (.ref a) H)/\(xs≠[]->ys≠[]->∀p,H p=none->Q (.ref p) (gO H p (.tup (xs++ys))))
def T7:nS X (binaryOp .Add) (TD X.K):=by
 intro pins s σ H x y v u Q I rx ry h;obtain⟨a,b,xs,ys,rfl,rfl,ha,hb,hz,q0,q1,q2⟩:=h;by_cases hx:xs=[]
 ·cases rx;cases ry;obtain⟨its,r1,p1,_⟩:=I.tuple ha;obtain⟨its2,r2,p2,_⟩:=I.tuple hb;obtain⟨⟨cls,dd,data,sl⟩,ho,hc,n,hd⟩:=id p1;obtain⟨⟨cls2,dd2,data2,sl2⟩,ho2,hc2,n2,hd2⟩:=id p2;simp only at hc hd hc2 hd2;subst hc hd hc2 hd2;have he:its=[]:=r1.nil_iff.mpr hx;exact concat_meets ⟨_,ho,rfl⟩ ⟨_,ho2,rfl⟩ noFill_tuple_add seq_tuple_add sL rB (qJ _ _) (tuple_addW0 a b its.toArray its2.toArray n n2 dd dd2 sl sl2 (by simp[he])) ⟨ho,ho2,⟨.ref b,H,I,rfl,q0 hx⟩⟩
 ·exact YJ pins s σ H (.ref a) (.ref b) v u Q I rx ry ⟨a,b,xs,ys,rfl,rfl,ha,hb,hx,hz,q1 hx,q2 hx⟩
def aCq(K:aL):R2:=λx y H Q=>∃l b xs zs,x=.ref l/\y=.ref b/\mZ K H l xs/\mZ K H b zs/\xs.length+zs.length<=bL/\∀p,H p=none->Q (.ref p) (gO H p (.lst (xs++zs)))
def N3:nS X (binaryOp .Add) (aCq X.K):=by
 intro pins s σ H x y v u Q I rx ry h;obtain⟨l,b,xs,zs,rfl,rfl,ha,hb,hz,q⟩:=h;cases rx;cases ry;obtain⟨its,r1,⟨⟨cls,dd,data,sl⟩,n,ho,hc,hdd,hd⟩,_⟩:=I.list ha;obtain⟨its2,r2,⟨⟨cls2,dd2,data2,sl2⟩,n2,ho2,hc2,hdd2,hd2⟩,_⟩:=I.list hb;simp only at hc hd hc2 hd2;subst hc hd hc2 hd2;have hz':its.toArray.size+its2.toArray.size<=bL:=by rw[bF,bF,<- r1.length,<- r2.length];exact hz
 refine concat_meets ⟨_,ho,rfl⟩ ⟨_,ho2,rfl⟩ noFill_list_add seq_list_add PySem.F.slot_list_add PySem.F.entry_list_add (PySem.F.args_list_add_2 _ _) (list_addW l b its.toArray its2.toArray n n2 dd dd2 sl sl2 hz') ⟨ho,ho2,?_⟩;have ea:its.toArray++its2.toArray=(its++its2).toArray:=by simp
 rw[ea];exact⟨.ref _,_,I.lnew (t':=s.toks) (r1.append r2) (by rw[aV];exact hz),rfl,q _ I.fresh⟩
def NU(K:aL):R2:=λx y H Q=>(TB λi j=>.int (i+j)) x y H Q\/(∃i j,x=.str i/\y=.str j/\i.length+j.length<=bL/\Q (.str (i++j)) H)\/TD K x y H Q\/aCq K x y H Q
def cA:nS X (binaryOp .Add) (NU X.K):=aE5.or (LH.or (T7.or N3))
def NQ:R2:=λx y H Q=>(rI MT λi j=>.int (i*j)) x y H Q\/∃z n,x=.str z/\y=.int n/\z.length<=1000/\0<=n/\n<=1000/\Q (.str (Txt.mul z n)) H
def LF:nS X (binaryOp .Mult) (λx y H Q=>∃z n,x=.str z/\y=.int n/\z.length<=1000/\0<=n/\n<=1000/\Q (.str (Txt.mul z n)) H):=by
 intro pins s σ H x y v u Q I rx ry h;obtain⟨z,n,rfl,rfl,hz,h0,h1,q⟩:=h;obtain⟨t,rfl⟩:=rx;obtain⟨t',rfl⟩:=ry;refine SB.mul ⟨by simp;omega,λa _=>?_,λ_ _=>?_⟩ λt'' k=>⟨.str _,H,I.tok k,⟨t'',rfl⟩,q⟩
 ·have hn:1<=n:=by omega
  have:(1000:Int)<=(2^63-1) / n:=by
   rw[Int.le_ediv_iff_mul_le (by omega)];omega
  omega
 ·have:z.length*n.toNat<=1000*1000:=Nat.mul_le_mul hz (by omega);unfold Builtin.Str.tooLong;have hL:bL=2^24:=rfl;simp only[decide_eq_false_iff_not];omega
def iZ:nS X (binaryOp .Mult) NQ:=aE0.or LF
def sE(hc:X.calm=true):jE X (.builtin "all") (λxs H Q=>∃(p:Addr)(bs:List Bool),xs=[.ref p]/\mZ X.K H p (bs.map V.bl)/\Q (.bl (bs.all id)) H):=by
 intro pins s σ H xs us Q I r h;obtain⟨p,bs,rfl,hq,q⟩:=h;obtain⟨u,rfl,rx⟩:=nM r;cases rx;obtain⟨its,rv,pl,hz⟩:=I.list hq
 have hne:p≠s.heap.objs.size:=by
  obtain⟨o,ho,_⟩:=pl.isList;exact bO (bI ho)
 have hl1:=pl.isList;refine call_all_walk (wpAny_pyIter_list hl1 ?_);refine⟨_,_,_,_,_,_,λi=>(bs[i]?).getD true,rfl,Walks.list (A:=X.A.in1) (I.ok.hd hc) _ p hne its.toArray,⟨⟨_,aS _ rfl,rfl,rfl⟩,hl1.push _⟩,λi v s' Q' E' hP hq'=>?_,λh' tk hk=>?_⟩
 ·have hv:its[i]?=some v:=by simpa using hP
  have hlen:=rv.length;have hi:i<its.length:=(aG.mp hv).1;have hb:i<bs.length:=by rw[aB]at hlen;omega
  obtain⟨w',h1,h2⟩:=rv.get (i:=i) (x:=.bl bs[i]) (by rw[aI,aF hb];rfl);rw[hv]at h1;cases h1;cases h2;refine wpAny_truthy_bool ?_;dsimp only at hq';rw[aF hb]at hq';exact hq'
 ·have e:(cQ its.toArray.size).all (λi=>(bs[i]?).getD true)=bs.all id:=by
   have hlen:=rv.length;rw[aB]at hlen;rw[bF,<- hlen];rw[gH,fX,fX];constructor
   ·intro h b hb;obtain⟨i,hi,rfl⟩:=vI.mp hb;have:=h i (dI.mpr hi);rw[aF hi]at this;exact this
   ·intro h i hi;have hi':=dI.mp hi;rw[aF hi'];exact h _ (fA hi')
  rw[e];have I1:eL X pins σ H { s with heap:=s.heap.push { cls:=.type "list_iterator",data:=.fields #[.ref p,.int 0 0] } }:=I.kept (t':=s.toks) λb o e=>aJ _ e;refine⟨.bl _,H,I.kept λb o e=>hk b o ?_ (aJ _ e),rfl,q⟩;intro z;have:b=s.heap.objs.size:=by simpa using z
  exact absurd (bI e) (by rw[this];exact iI _)
def aEp:R2:=λx y H Q=>∃b,y=.bl b/\Q (.bl (decide (x=.bl b))) H
def FY:R2:=λx y H Q=>∃b,y=.bl b/\Q (.bl (!decide (x=.bl b))) H
def aCx{x v}{b:Bool}(r:gB x v):plainIs v (.bool b)=true/\(v==Value.bool b)=decide (x=.bl b):=by
 cases x with
 |non=>cases r;exact⟨rfl,rfl⟩
 |bl c=>cases r;cases b<;>cases c<;>exact⟨rfl,rfl⟩
 |int _=>obtain⟨t,rfl⟩:=r;exact⟨rfl,rfl⟩
 |str _=>obtain⟨t,rfl⟩:=r;exact⟨rfl,rfl⟩
 |byt _=>obtain⟨t,rfl⟩:=r;exact⟨rfl,rfl⟩
 |flt _=>obtain⟨t,rfl⟩:=r;exact⟨rfl,rfl⟩
 |ref _=>cases r;exact⟨rfl,rfl⟩
 |ty _=>cases r;exact⟨rfl,rfl⟩
def P3:nS X (compareOp .IsNot) FY:=by
 intro pins s σ H x y v u Q I rx ry h;obtain⟨b,rfl,q⟩:=h;cases ry;obtain⟨h1,h2⟩:=aCx (b:=b) rx;refine wpAny_isNot_plain h1 ?_;rw[h2];exact⟨.bl _,H,I,rfl,q⟩
def aE2:nS X (compareOp .Is) aEp:=by
 intro pins s σ H x y v u Q I rx ry h;obtain⟨b,rfl,q⟩:=h;cases ry;obtain⟨h1,h2⟩:=aCx (b:=b) rx;refine wpAny_is_plain h1 ?_;rw[h2];exact⟨.bl _,H,I,rfl,q⟩
theorem M8:∀{ys:List Str}{us},fS (ys.map V.str) us->StrsAre us ys
|[],_,r=>by rw[iH]at r;cases r;exact .nil
|y::ys,us,r=>by
 rw[aX]at r
 cases r with
 |cons r1 r2=>
  obtain⟨t,rfl⟩:=r1;exact .cons y t (M8 r2)
def YT:MtR X "str.join" (λx xs H Q=>∃z p ys,x=.str z/\xs=[.ref p]/\mZ X.K H p (ys.map V.str)/\(ys.map (·.length)).sum+ys.length*z.length<=16777216/\Q (.str (Txt.join z ys)) H):=by
 intro pins s σ H x xs v us Q I rx r h;obtain⟨z,p,ys,rfl,rfl,hq,hz,q⟩:=h;obtain⟨t,rfl⟩:=rx;obtain⟨u,rfl,ru⟩:=nM r;cases ru;obtain⟨its,rv,pl,_⟩:=I.list hq;exact PyProof.Rows.join_list pl.isList (by simpa using M8 rv) hz λt' k=>⟨.str _,H,I.tok k,⟨t',rfl⟩,q⟩
def KO(K:aL)(H:Hp):V->String->Prop
|.non,T=>T="NoneType"
|.bl _,T=>T="bool"
|.int _,T=>T="int"
|.str _,T=>T="str"
|.ref p,T=>(T="list"/\∃xs,mZ K H p xs)\/(T="tuple"/\∃xs,tV K H p xs)\/(T="list"/\∃P,H p=some (.ext P)/\∀h:Heap,P h->∃o,h.get? p=some o/\o.cls=.type "list")
|_,_=>False
def Y5{pins σ H s A}{E:Value->Shared->Prop}{Q:Value->Shared->Prop}{x u c T}{b:Bool}(I:eL X pins σ H s)(rx:gB x u)(ty:KO X.K H x T)
  (e:kQ X.K (.type T) c=some b) (h:∀tk,Q (.bool b) { s with toks:=tk }):wpAny (model X.prog X.w) A (call (.builtin "isinstance") [u,c]) Q E s:=by
 cases x with
 |non=>cases (show T="NoneType" from ty);exact uH I rx .non e h
 |bl y=>cases (show T="bool" from ty);exact uH I rx (.bl y) e h
 |int i=>cases (show T="int" from ty);exact uH I rx (.int i) e h
 |str y=>cases (show T="str" from ty);exact uH I rx (.str y) e h
 |ref p=>
  cases rx;rcases ty with⟨rfl,xs,hq⟩ | ⟨rfl,xs,hq⟩ | ⟨rfl,P,hq,hP⟩
  ·obtain⟨its,_,pl,_⟩:=I.list hq;obtain⟨o,n,ho,hc,_⟩:=pl;exact eS pW I.kIn ⟨o,ho,hc⟩ e (λz=>nomatch z) h
  ·obtain⟨its,_,pl,_⟩:=I.tuple hq;obtain⟨o,ho,hc,_⟩:=pl;exact eS MU I.kIn ⟨o,ho,hc⟩ e (λz=>nomatch z) h
  ·obtain⟨o,ho,hc⟩:=hP _ (I.hok p _ hq).1;exact eS pW I.kIn ⟨o,ho,hc⟩ e (λz=>nomatch z) h
 |_=>exact False.elim ty
end
end L2
namespace TL
open L2
variable{K:aL}{H H' H1:Hp}{B:Hp}{p0 ps:List Addr}{σT:List Sl}{σ:L2.St}
section
variable{X:Cx}{a b c e:Expr}{es:List Expr}{ta te:ET}{pos p:Pos}
def fI(C:Int->Int->Prop)(g:Int->Int->Int):D->D->(D->Prop)->Prop
|.int i,.int j,Q=>C i j/\Q (.int (g i j))
|_,_,_=>False
def fI0(g:Int->Int->Int):D->D->(D->Prop)->Prop
|.int i,.int j,Q=>Q (.int (g i j))
|_,_,_=>False
def fB0(g:Int->Int->Bool):D->D->(D->Prop)->Prop
|.int i,.int j,Q=>Q (.bool (g i j))
|_,_,_=>False
def A1{C:Int->Int->Prop}{g:Int->Int->Int}:zD X (rI C λi j=>.int (g i j)) (fI C g):=by
 intro H ps d1 d2 x y Q QV live r1 r2 h k
 cases r1 with
 |int i=>
  cases r2 with
  |int j=>exact⟨i,j,rfl,rfl,h.1,k _ _ H (L2.bJ.refl H) (.int _) h.2⟩
  |_=>exact h.elim
 |_=>exact h.elim
def vQ{g:Int->Int->Int}:zD X (TB λi j=>.int (g i j)) (fI0 g):=by
 intro H ps d1 d2 x y Q QV live r1 r2 h k
 cases r1 with
 |int i=>
  cases r2 with
  |int j=>exact⟨i,j,rfl,rfl,k _ _ H (L2.bJ.refl H) (.int _) h⟩
  |_=>exact h.elim
 |_=>exact h.elim
def qB{g:Int->Int->Bool}:zD X (TB λi j=>.bl (g i j)) (fB0 g):=by
 intro H ps d1 d2 x y Q QV live r1 r2 h k
 cases r1 with
 |int i=>
  cases r2 with
  |int j=>exact⟨i,j,rfl,rfl,k _ _ H (L2.bJ.refl H) (.bool _) h⟩
  |_=>exact h.elim
 |_=>exact h.elim
def aMu:D->D->(D->Prop)->Prop
|.int i,.int j,Q=>Q (.int (i+j))
|.str x,.str y,Q=>x.length+y.length<=100000/\Q (.str (x++y))
|.tuple x,.tuple y,Q=>x.length+y.length<=100000/\Q (.tuple (x++y))
|.list x,.list y,Q=>x.length+y.length<=100000/\Q (.list (x++y))
|_,_,_=>False
def zO{n:Nat}(h:n<=100000):n<=bL:=by have:bL=2^24:=rfl;omega
def fN:zD X (NU X.K) aMu:=by
 intro H ps d1 d2 x y Q QV live r1 r2 h k
 cases r1 with
 |int i=>
  cases r2 with
  |int j=>exact .inl ⟨i,j,rfl,rfl,k _ _ H (L2.bJ.refl H) (.int _) h⟩
  |_=>exact h.elim
 |str i=>
  cases r2 with
  |str j=>exact .inr (.inl ⟨i,j,rfl,rfl,zO h.1,k _ _ H (L2.bJ.refl H) (.str _) h.2⟩)
  |_=>exact h.elim
 |tuple q1 s1=>
  cases r2 with
  |tuple q2 s2=>
   refine .inr (.inr (.inl ⟨_,_,_,_,rfl,rfl,bJ.seqT bS q1,bJ.seqT bS q2,zO (by rw[<- s1.length,<- s2.length];exact h.1),λz=>?_,λz1 z2=>?_,λz1 z2 p hp=>?_⟩))
   ·subst z;cases s1;exact k _ _ H (L2.bJ.refl H) (.tuple q2 s2) h.2
   ·subst z2;cases s2;have e:=h.2;rw[dL]at e;exact k _ _ H (L2.bJ.refl H) (.tuple q1 s1) e
   ·exact k _ _ _ (dN hp) (rS live hp (s1.append s2)) h.2
  |_=>exact h.elim
 |list q1 s1=>
  cases r2 with
  |list q2 s2=>
   exact .inr (.inr (.inr ⟨_,_,_,_,rfl,rfl,L2.bJ.seq bS q1,L2.bJ.seq bS q2,zO (by rw[<- s1.length,<- s2.length];exact h.1),λp hp=>k _ _ _ (dN hp) (rT live hp (s1.append s2)) h.2⟩))
  |_=>exact h.elim
 |_=>exact h.elim
def aMs:D->D->(D->Prop)->Prop
|.int i,.int j,Q=>MT i j/\Q (.int (i*j))
|.str z,.int n,Q=>z.length<=1000/\0<=n/\n<=1000/\Q (.str (Txt.mul z n))
|_,_,_=>False
def sM:zD X NQ aMs:=by
 intro H ps d1 d2 x y Q QV live r1 r2 h k
 cases r1 with
 |int i=>
  cases r2 with
  |int j=>exact .inl ⟨i,j,rfl,rfl,h.1,k _ _ H (L2.bJ.refl H) (.int _) h.2⟩
  |_=>exact h.elim
 |str z=>
  cases r2 with
  |int n=>exact .inr ⟨z,n,rfl,rfl,h.1,h.2.1,h.2.2.1,k _ _ H (L2.bJ.refl H) (.str _) h.2.2.2⟩
  |_=>exact h.elim
 |_=>exact h.elim
noncomputable def eqF:D->D->Option Bool
|.none,.none=>some true
|.bool x,.bool y=>some (decide (x=y))
|.int x,.int y=>some (decide (x=y))
|.str x,.str y=>some (decide (x=y))
|.str _,.none | .none,.str _=>some false
|_,_=>none
def fEq(x y:D)(Q:D->Prop):Prop:=match eqF x y with | some c=>Q (.bool c) | none=>False
def VR{x y:D}{u v:V}{c:Bool}(r1:gG K H x u)(r2:gG K H y v)(h:eqF x y=some c):aHj u v=true/\decide (u=v)=c:=by
 unfold eqF at h;split at h<;>cases h<;>cases r1<;>cases r2<;>exact⟨rfl,by simp⟩
def nB:zD X rEq fEq:=by
 intro H ps d1 d2 x y Q QV live r1 r2 h k;unfold fEq at h
 cases e:eqF d1 d2 with
 |none=>rw[e]at h;exact h.elim
 |some c=>
  rw[e]at h;obtain⟨h1,h2⟩:=VR r1 r2 e;refine⟨h1,?_⟩;rw[h2];exact k _ _ H (L2.bJ.refl H) (.bool c) h
noncomputable def uI(b:Bool):D->Bool
|.bool c=>decide (c=b)
|_=>false
theorem Reps.atI{ds vs}{i:Int}{d}(r:Reps K H ds vs)(h:atI ds i=some d):∃v,atI vs i=some v/\gG K H d v:=by
 unfold L2.atI at h |-
 rw[<- r.length]
 cases e:Y4 ds.length i with
 |none=>rw[e]at h;cases h
 |some j=>
  rw[e]at h;exact r.get h
inductive MQ(ts:List D)(i:Int)(Q:D->Prop):Prop
|mk (d:D) (h:atI ts i=some d) (k:Q d):MQ ts i Q
def fIx(x y:D)(Q:D->Prop):Prop:=match x,y with
|.list ts,.int i=>MQ ts i Q
|.tuple ts,.int i=>MQ ts i Q
|.str z,.int i=>z.length<=100000/\∃c,atI z.cps.toList i=some c/\Q (.str ⟨#[c]⟩)
|_,_=>False
def eN:zD X (rIx X.K) fIx:=by
 intro H ps d1 d2 x y Q QV live r1 r2 h k
 cases r2 with
 |int i=>
  cases r1 with
  |list q s=>
   obtain⟨d,e,h⟩:=h;obtain⟨v,e',r⟩:=s.atI e;exact .inl ⟨_,_,i,v,rfl,rfl,L2.bJ.seq bS q,e',k _ _ H (L2.bJ.refl H) r h⟩
  |tuple q s=>
   obtain⟨d,e,h⟩:=h;obtain⟨v,e',r⟩:=s.atI e;exact .inr (.inl ⟨_,_,i,v,rfl,rfl,bJ.seqT bS q,e',k _ _ H (L2.bJ.refl H) r h⟩)
  |str z=>
   obtain⟨hz,c,e,h⟩:=h;exact .inr (.inr ⟨z,i,c,rfl,rfl,zO hz,e,k _ _ H (L2.bJ.refl H) (.str _) h⟩)
  |_=>exact h.elim
 |_=>cases d1<;>exact h.elim
noncomputable def iB{α:Type}(xs:List α)(lo hi:Option Int):List α:=(xs.drop (HT.sIx xs.length 0 lo)).take (HT.sIx xs.length xs.length hi-HT.sIx xs.length 0 lo)
def fSl(x:D)(lo hi:Option Int)(Q:D->Prop):Prop:=match x with
|.list ts=>Q (.list (iB ts lo hi))
|.tuple ts=>Q (.tuple (iB ts lo hi))
|.str z=>z.length<=100000/\Q (.str (Txt.slice z lo hi))
|_=>False
def Reps.cut{ds vs}(r:Reps K H ds vs)(lo hi:Option Int):Reps K H (iB ds lo hi) (GL vs lo hi):=by
 unfold iB GL;rw[r.length];exact(r.drop _).take _
def oY:SlT X (S9 X.K) fSl:=by
 intro H ps d x lo hi Q QV live r h k
 cases r with
 |list q s=>exact .inl ⟨_,_,rfl,L2.bJ.seq bS q,λp hp=>k _ _ _ (dN hp) (rT live hp (s.cut lo hi)) h⟩
 |@tuple p xs ts q s=>
  refine .inr (.inl ⟨_,_,rfl,bJ.seqT bS q,λz=>?_,λ_ p hp=>k _ _ _ (dN hp) (rS live hp (s.cut lo hi)) h⟩)
  have e:iB ts lo hi=ts:=by
   unfold iB;rw[s.length,z.1,z.2,aKq,FM,<- s.length,dY]
  have h':Q (.tuple (iB ts lo hi)):=h;rw[e]at h';exact k _ _ H (L2.bJ.refl H) (.tuple q s) h'
 |str z=>exact .inr (.inr ⟨z,rfl,zO h.1,k _ _ H (L2.bJ.refl H) (.str _) h.2⟩)
 |_=>exact h.elim
theorem D2:∀{ys:List Str}{vs},Reps K H (ys.map aY) vs->vs=ys.map V.str
|[],_,r=>by rw[iH]at r;cases r;rfl
|y::ys,vs,r=>by
 rw[aX]at r
 cases r with
 |cons r1 r2=>
  cases r1;rw[aX,D2 r2]
def aC6{r:List V->Hp->VK->Prop}{f:List D->(D->Prop)->Prop}{t g}(hf:oH X r f)(ha:CP X (e::es) t)(pc:∀{ta},PA X (e::es) ta->PE X (.Call g (e::es) [] pos) (M6 r ta)):hW X (.Call g (e::es) [] pos) (oG f t):=by
 obtain⟨v,pa,ra⟩:=ha;refine⟨_,pc pa,λB p0 H ps σT σ Q QV o h k=>ra B p0 H ps σT σ _ _ o h λds xs H1 s1 r1 q1=>?_⟩;exact hf H1 ps ds xs Q QV (o.grow s1).live r1 q1 λd v H' s' r' q'=>k d v H' (s1.trans s') r' q'
def f1(f:D->(D->Prop)->Prop):List D->(D->Prop)->Prop
|[d],Q=>f d Q
|_,_=>False
def c1{r:List V->Hp->VK->Prop}{f:D->(D->Prop)->Prop}(h:∀H ps(d:D)(x:V)(Q:D->Prop)QV,(∀p∈ps,CQ (H p))->gG X.K (mask H ps) d x->f d Q ->
  (∀d v H',bJ H H'->gG X.K (mask H' ps) d v->Q d->QV v H')->r [x] H QV):oH X r (f1 f):=by
 intro H ps ds xs Q QV live rs hf k
 cases rs with
 |nil=>exact hf.elim
 |cons r1 r2=>
  cases r2 with
  |nil=>exact h H ps _ _ Q QV live r1 hf k
  |cons _ _=>exact hf.elim
def aMp(d:D)(Q:D->Prop):Prop:=match d with
|.list ts=>Q (.int ts.length)
|.tuple ts=>Q (.int ts.length)
|.str z=>z.length<=100000/\Q (.int z.length)
|_=>False
def dR:jE X (.builtin "len") (λxs H Q=>(∃p ys,xs=[.ref p]/\(mZ X.K H p ys\/tV X.K H p ys)/\Q (.int ys.length) H)\/∃z,xs=[.str z]/\z.length<=bL/\Q (.int z.length) H):=GS.or GR
def jZ:oH X (λxs H Q=>(∃p ys,xs=[.ref p]/\(mZ X.K H p ys\/tV X.K H p ys)/\Q (.int ys.length) H)\/∃z,xs=[.str z]/\z.length<=bL/\Q (.int z.length) H) (f1 aMp):=c1 λH ps d x Q QV live r h k=>by
 cases r with
 |list q s=>
  refine .inl ⟨_,_,rfl,.inl (L2.bJ.seq bS q),?_⟩;rw[<- s.length];exact k _ _ H (L2.bJ.refl H) (.int _) h
 |tuple q s=>
  refine .inl ⟨_,_,rfl,.inr (bJ.seqT bS q),?_⟩;rw[<- s.length];exact k _ _ H (L2.bJ.refl H) (.int _) h
 |str z=>exact .inr ⟨z,rfl,zO h.1,k _ _ H (L2.bJ.refl H) (.int _) h.2⟩
 |_=>exact h.elim
def GF(d:D)(Q:D->Prop):Prop:=match d with
|.list ts=>Q (.tuple ts)
|.tuple ts=>Q (.tuple ts)
|_=>False
def sG:oH X (λxs H Q=>∃p ys,xs=[.ref p]/\((mZ X.K H p ys/\∀l,H l=none->Q (.ref l) (gO H l (.tup ys)))\/(tV X.K H p ys/\Q (.ref p) H))) (f1 GF):=c1 λH ps d x Q QV live r h k=>by
 cases r with
 |list q s=>exact⟨_,_,rfl,.inl ⟨L2.bJ.seq bS q,λl hl=>k _ _ _ (dN hl) (rS live hl s) h⟩⟩
 |tuple q s=>exact⟨_,_,rfl,.inr ⟨bJ.seqT bS q,k _ _ H (L2.bJ.refl H) (.tuple q s) h⟩⟩
 |_=>exact h.elim
def aCz(d:D)(Q:D->Prop):Prop:=match d with
|.list ts=>Q (.list ts)
|.tuple ts=>Q (.list ts)
|_=>False
def vX:oH X (λxs H Q=>∃p ys,xs=[.ref p]/\(mZ X.K H p ys\/tV X.K H p ys)/\∀l,H l=none->Q (.ref l) (gO H l (.lst ys))) (f1 aCz):=c1 λH ps d x Q QV live r h k=>by
 cases r with
 |list q s=>exact⟨_,_,rfl,.inl (L2.bJ.seq bS q),λl hl=>k _ _ _ (dN hl) (rT live hl s) h⟩
 |tuple q s=>exact⟨_,_,rfl,.inr (bJ.seqT bS q),λl hl=>k _ _ _ (dN hl) (rT live hl s) h⟩
 |_=>exact h.elim
theorem IH:∀{ys:List Bool}{vs},Reps K H (ys.map qK) vs->vs=ys.map V.bl
|[],_,r=>by rw[iH]at r;cases r;rfl
|y::ys,vs,r=>by
 rw[aX]at r
 cases r with
 |cons r1 r2=>
  cases r1;rw[aX,IH r2]
theorem qR:∀{ys:List Int}{vs},Reps K H (ys.map aH) vs->vs=ys.map V.int
|[],_,r=>by rw[iH]at r;cases r;rfl
|y::ys,vs,r=>by
 rw[aX]at r
 cases r with
 |cons r1 r2=>
  cases r1;rw[aX,qR r2]
def aMq(d:D)(Q:D->Prop):Prop:=∃bs:List Bool,d=.list (bs.map qK)/\Q (.bool (bs.all id))
def WA:oH X (λxs H Q=>∃(p:Addr)(bs:List Bool),xs=[.ref p]/\mZ X.K H p (bs.map V.bl)/\Q (.bl (bs.all id)) H) (f1 aMq):=c1 λH ps d x Q QV live r h k=>by
 obtain⟨bs,rfl,h⟩:=h
 cases r with
 |list q s=>
  have e:=IH s;subst e;exact⟨_,bs,rfl,L2.bJ.seq bS q,k _ _ H (L2.bJ.refl H) (.bool _) h⟩
def f2(f:D->D->(D->Prop)->Prop):List D->(D->Prop)->Prop
|[d,d'],Q=>f d d' Q
|_,_=>False
def aJo(x y:D)(Q:D->Prop):Prop:=match x,y with | .int i,.int j=>Q (.int (if j<i then j else i)) | _,_=>False
def V7:oH X (λxs H Q=>∃i j,xs=[.int i,.int j]/\Q (.int (if j<i then j else i)) H) (f2 aJo):=by
 intro H ps ds xs Q QV live rs hf k
 cases rs with
 |nil=>exact hf.elim
 |cons r1 r2=>
  cases r2 with
  |nil=>exact hf.elim
  |cons r3 r4=>
   cases r4 with
   |cons _ _=>exact hf.elim
   |nil=>
    cases r1 with
    |int i=>
     cases r3 with
     |int j=>exact⟨i,j,rfl,k _ _ H (L2.bJ.refl H) (.int _) hf⟩
     |_=>exact hf.elim
    |_=>exact hf.elim
noncomputable def tyD:D->String
|.none=>"NoneType"
|.bool _=>"bool"
|.int _=>"int"
|.str _=>"str"
|.list _=>"list"
|.tuple _=>"tuple"
|.dict []=>"list"
|.dict [(.none,_)]=>"list"
|.dict _=>"dict"
noncomputable def U4(T:String)(d:D):Bool:=(tyD d==T)||(T=="int"&&tyD d=="bool")
def GA{T}{i:Int}{x}(h:T∈["int","str","list","tuple","bool"]):U4 T (.dict [(.int i,x)])=false:=by
 simp only[bH,gM,or_false]at h;rcases h with rfl | rfl | rfl | rfl | rfl<;>rfl
def U3(T:String)(d:D)(Q:D->Prop):Prop:=match d with | .dict ((.str _,_)::_)=>False | d=>Q (.bool (U4 T d))
def Y6{T d}{Q:D->Prop}(h:∀x y r,d≠.dict ((.str x,y)::r))(q:U3 T d Q):Q (.bool (U4 T d)):=by
 unfold U3 at q;split at q
 ·exact q.elim
 ·exact q
def aMz(T:String)(te:ET):ET:=λσ Q=>te σ λd=>U3 T d Q
def O2(K:aL)(T:String):Prop:=∀tn∈["NoneType","bool","int","str","list","tuple"],kQ K (.type tn) (.type T)=some ((tn==T)||(T=="int"&&tn=="bool"))
def aEo(K:aL)(T:String):List V->Hp->VK->Prop:=λxs H Q=>∃x b,xs=[x,.ty T]/\((∃Tn,KO K H x Tn/\kQ K (.type Tn) (.type T)=some b)\/(∃p C dx,x=.ref p/\H p=some (.ext (JK p C dx))/\(∀d,dx=some d->∃fs,H d=some (.xd fs))/\GY K C/\kQ K (.ref C) (.type T)=some b))/\Q (.bl b) H
def LS{pins s σ}{H:Hp}{A}{E:Value->Shared->Prop}{Q:Value->Shared->Prop}{p C:Addr}{dx c}{b:Bool}(I:eL X pins σ H s)(hp:H p=some (.ext (JK p C dx)))(hd:∀d,dx=some d->∃fs,H d=some (.xd fs))(x:GY X.K C)
  (e:kQ X.K (.ref C) c=some b) (h:∀tk,Q (.bool b) { s with toks:=tk }):wpAny (model X.prog X.w) A (call (.builtin "isinstance") [.ref p,c]) Q E s:=by
 refine eS (UZ x) I.kIn ?_ e (λz=>nomatch z) h;obtain⟨⟨o,vs,h1,h2,h3,h4⟩,_⟩:=I.hok p _ hp;have hn:WQ o=true:=by unfold WQ;rw[h4]
 cases dx with
 |none=>exact⟨o,none,h1,h2,hn,by rw[h3];trivial⟩
 |some d=>
  obtain⟨fs,hf⟩:=hd d rfl;obtain⟨mA,⟨od,es,ep,he,_⟩,_⟩:=I.hok d _ hf;exact⟨o,some od,h1,h2,hn,by rw[h3];exact he⟩
def xM{T}:jE X (.builtin "isinstance") (aEo X.K T):=by
 intro pins s σ H xs us Q I r h;obtain⟨x,b,rfl,⟨Tn,ht,hk⟩ | ⟨p,C,dx,rfl,hp,hd,hx,hk⟩,q⟩:=h
 ·obtain⟨u,w,rfl,ru,rw'⟩:=M0 r;cases rw';exact Y5 I ru ht hk λtk=>⟨.bl b,H,I.tok tk,rfl,q⟩
 ·obtain⟨u,w,rfl,ru,rw'⟩:=M0 r;cases rw';cases ru;exact LS I hp hd hx hk λtk=>⟨.bl b,H,I.tok tk,rfl,q⟩
def GI{T g1 g2}(hk:O2 X.K T)(he:hW X e te)
  (pc:∀{v},PE X e v->PE X (.Call g1 [e,g2] [] pos) (M6 (aEo X.K T) (pR v (pR (tC (.ty T)) yB))))
  (hT:T∈["int","str","list","tuple","bool"]:=by decide):hW X (.Call g1 [e,g2] [] pos) (aMz T te):=by
 obtain⟨v,pe,re⟩:=he;refine⟨_,pc pe,λB p0 H ps σT σ Q QV o h k=>re B p0 H ps σT σ _ _ o h λd x H1 s1 r1 q1=>?_⟩
 have fin:∀tn,tn∈["NoneType","bool","int","str","list","tuple"]->tyD d=tn->KO X.K H1 x tn->aEo X.K T [x,V.ty T] H1 QV:=λtn hm ht hn=>by
  refine⟨x,_,rfl,.inl ⟨tn,hn,hk tn hm⟩,?_⟩;have q:Q (.bool (U4 T d)):=Y6 (λx y r z=>by subst z;have z2:("dict":String)=tn:=ht;subst z2;exact absurd hm (by decide)) q1;unfold U4 at q;rw[ht]at q;exact k _ _ H1 s1 (.bool _) q
 cases r1 with
 |none=>exact fin "NoneType" (by simp) rfl rfl
 |bool b=>exact fin "bool" (by simp) rfl rfl
 |int i=>exact fin "int" (by simp) rfl rfl
 |str z=>exact fin "str" (by simp) rfl rfl
 |list q s=>exact fin "list" (by simp) rfl (.inl ⟨rfl,_,L2.bJ.seq bS q⟩)
 |tuple q s=>exact fin "tuple" (by simp) rfl (.inr (.inl ⟨rfl,_,bJ.seqT bS q⟩))
 |wild h=>exact fin "list" (by simp) rfl (.inr (.inr ⟨rfl,_,bS _ _ h,λ_ ⟨_,_,e,_⟩=>⟨_,e,rfl⟩⟩))
 |tape h _=>exact fin "list" (by simp) rfl (.inr (.inr ⟨rfl,_,bS _ _ h,λ_ ⟨_,_,_,_,_,_,_,e,_⟩=>⟨_,e,rfl⟩⟩))
 |exc x h=>
  refine⟨_,false,rfl,.inr ⟨_,_,_,rfl,bS _ _ h,(λ_ z=>nomatch z),x.1,x.2 T hT⟩,?_⟩;have q2:Q (.bool (U4 T (.dict _))):=q1;rw[GA hT]at q2;exact k _ _ H1 s1 (.bool _) q2
 |excA x h g=>
  refine⟨_,false,rfl,.inr ⟨_,_,_,rfl,bS _ _ h,λ_ z=>by cases z;exact⟨_,bS _ _ g⟩,x.1,x.2 T hT⟩,?_⟩;have q2:Q (.bool (U4 T (.dict _))):=q1;rw[GA hT]at q2;exact k _ _ H1 s1 (.bool _) q2
 |excD x h g _=>
  refine⟨_,false,rfl,.inr ⟨_,_,_,rfl,bS _ _ h,λ_ z=>by cases z;exact⟨_,bS _ _ g⟩,x.1,x.2 T hT⟩,?_⟩;have q2:Q (.bool (U4 T (.dict _))):=q1;rw[GA hT]at q2;exact k _ _ H1 s1 (.bool _) q2
 |dct _ _ _ _=>exact(show False from q1).elim
 |addr z=>exact(show False from q1).elim
 |ins _ _=>exact(show False from q1).elim
def aJq(z:Str)(ds:List D)(Q:D->Prop):Prop:=match ds with | [.list ts]=>∃ys:List Str,ts=ys.map aY/\(ys.map (·.length)).sum+ys.length*z.length<=16777216/\Q (.str (Txt.join z ys)) | _=>False
def gG.reads{pins:List (Addr×Obj)}{s:Shared}{σ:L2.St}(I:eL X pins σ H s){d:D}{x:V}{u:Value}(hd:d.hasDict=false)(r:gG X.K H d x)(rv:gB x u):∃as,Reads s.heap u d as:=by
 refine gG.rec (motive_1:=λd x _=>∀u,d.hasDict=false->gB x u->∃as,Reads s.heap u d as) (motive_2:=λds xs _=>∀us,kJ ds=false->fS xs us->∃as,ReadsAll s.heap us ds as)
  (λu _ r=>by cases r;exact⟨_,.none⟩) (λb u _ r=>by cases r;exact⟨_,.bool b⟩) (λi u _ r=>by obtain⟨t,rfl⟩:=r;exact⟨_,.int i t⟩) (λz u _ r=>by obtain⟨t,rfl⟩:=r;exact⟨_,.str z t⟩)
  (λq _ a u hd r=>?_) (λq _ a u hd r=>?_) ?_ ?_ ?_ ?_ ?_ ?_ ?_ ?_ (λus _ r=>by cases r;exact⟨_,.nil⟩) (λ{d ds x xs} _ _ a b us hd r=>?_) r u hd rv
 ·cases r;obtain⟨its,rv,⟨o,n,h1,h2,_,h3⟩,_⟩:=I.list q;obtain⟨as,h4⟩:=a _ hd rv;exact⟨_,.list h1 h2 h3 (by simpa using h4)⟩
 ·cases r;obtain⟨its,rv,⟨o,h1,h2,n,h3⟩,_⟩:=I.tuple q;obtain⟨as,h4⟩:=a _ hd rv;exact⟨_,.tuple h1 h2 h3 (by simpa using h4)⟩
 case refine_11=>
  have hd':(d.hasDict||kJ ds)=false:=hd;rw[Bool.or_eq_false_iff]at hd'
  cases r with
  |cons v1 v2=>
   obtain⟨as,h1⟩:=a _ hd'.1 v1;obtain⟨bs,h2⟩:=b _ hd'.2 v2;exact⟨_,.cons h1 h2⟩
 all_goals intros;rename_i hd _;cases hd
end
end TL
namespace TL
open L2
noncomputable def aE6(names:List (Str×NameKind)):Bool:=match names.filter (λy=>y.2==NameKind.cell)with
|[]=>true
|[x]=>names.lookup x.1==some .cell
|_=>false
def YL{names}(h:aE6 names=true):uN names:=by
 unfold aE6 at h;split at h
 ·rename_i e;exact .inl e
 ·rename_i x e;have hx:x∈names.filter (λy=>y.2==NameKind.cell):=by rw[e];exact aZ.mpr rfl
  have hk:x.2=.cell:=eq_of_beq (bZ.mp hx).2;exact .inr ⟨x.1,by rw[e,<- hk],beq_iff_eq.mp h⟩
 ·cases h
noncomputable def sN(sc out:Scope)(Nx N':List Str)(fr:List (Option Nat)):Bool:=
 decide (sc.kind=.function)&&aE6 sc.names&&sc.names.all (λy=>decide (y.2≠.free)||decide (out.names.lookup y.1=some .cell))&&sc.names.all (λy=>decide (y.2≠.local)||decide (sc.names.lookup y.1=some .local))&&tN sc.names out.names Nx N' fr
section
variable{X:Cx}{elt iter tg:Expr}{ifs:List Expr}{scope:Scope}{pos:Pos}{N':List Str}{fr:List (Option Nat)}{wi:TI}{g:BP->TG}{tt:BP->TT}{te:BP->TE}
def EE{out:Scope}{Nx}(h:sN scope out Nx N' fr=true):scope.kind=.function/\uN scope.names/\(∀y∈scope.names,y.2=.free->out.names.lookup y.1=some .cell)/\(∀y∈scope.names,y.2=.local->scope.names.lookup y.1=some .local)/\tN scope.names out.names Nx N' fr=true:=by
 unfold sN at h;simp only[bY,fX,C4,decide_eq_true_eq]at h;obtain⟨⟨⟨⟨h1,h2⟩,h3⟩,h4⟩,h5⟩:=h;exact⟨h1,YL h2,λy hy e=>(h3 y hy).elim (λz=>absurd e z) id,λy hy e=>(h4 y hy).elim (λz=>absurd e z) id,h5⟩
def LC(h:sN scope X.env.scope X.N N' fr=true)(hcalm:X.calm=true)(hi:PI X tg iter wi)
  (hY:∀b:BP,PG (blk X scope N' b) tg (g b)/\KE (blk X scope N' b) ifs (tt b)/\PE (blk X scope N' b) elt (te b)) (hs:∀x,foldedSetIterable iter X.env x=pure x:=by intro _;rfl):PE X (.ListComp elt [⟨tg,iter,ifs,0⟩] scope pos) (KS fr wi g tt te):=by
 obtain⟨h1,h2,h3,h4,h5⟩:=EE h;exact aIc hcalm h1 h2 h5 h3 h4 hi hY hs
def qT{i:Nat}{x}{px spos:Pos}(h:sN scope X.env.scope X.N N' fr=true)(hN:X.N.Nodup)(hix:X.N[i]?=some x)(hx:RH X.env.scope x)(hcalm:X.calm=true)(hi:PI X tg iter wi)
  (hY:∀b:BP,PG (blk X scope N' b) tg (g b)/\KE (blk X scope N' b) ifs (tt b)/\PE (blk X scope N' b) elt (te b))
  (hsw:iM (.ListComp elt [⟨tg,iter,ifs,0⟩] scope pos) (some (.Name x px)) spos.line X.env=pure true) (hs:∀x,foldedSetIterable iter X.env x=pure x:=by intro _;rfl) (hf:X.fn x=true\/X.env.scope.names.lookup x=some .local:=by first | exact .inl rfl | exact .inr rfl) :
  PS X (.Assign [.Name x px] (.ListComp elt [⟨tg,iter,ifs,0⟩] scope pos) spos) (vN (KS fr wi g tt te) (jS i)):=by
 obtain⟨h1,h2,h3,h4,h5⟩:=EE h;exact TK hN hix hx hcalm h1 h2 h5 h3 h4 hi hY hsw hs hf
end
def MH:bootBuiltins "all"=some (.builtin "all"):=by decide +kernel
def WE:bootBuiltins "min"=some (.builtin "min"):=by decide +kernel
def CL:bootBuiltins "max"=some (.builtin "max"):=by decide +kernel
def nL:bootBuiltins "isinstance"=some (.builtin "isinstance"):=by decide +kernel
def iG:bootBuiltins "len"=some (.builtin "len"):=by decide +kernel
def WC:bootBuiltins "set"=some (.type "set"):=by decide +kernel
def lF:bootBuiltins "tuple"=some (.type "tuple"):=by decide +kernel
def sI:bootBuiltins "list"=some (.type "list"):=by decide +kernel
def OY:bootBuiltins "bool"=some (.type "bool"):=by decide +kernel
def aF7:bootBuiltins "int"=some (.type "int"):=by decide +kernel
def QL(K:aL):O2 K "tuple":=by
 intro tn h;simp only[bH,gM,or_false]at h;rcases h with rfl | rfl | rfl | rfl | rfl | rfl<;>first | rfl | (with_unfolding_all rfl) | decide +kernel
def JC(K:aL):O2 K "bool":=by
 intro tn h;simp only[bH,gM,or_false]at h;rcases h with rfl | rfl | rfl | rfl | rfl | rfl<;>first | rfl | (with_unfolding_all rfl) | decide +kernel
def Y0(K:aL):O2 K "int":=by
 intro tn h;simp only[bH,gM,or_false]at h;rcases h with rfl | rfl | rfl | rfl | rfl | rfl<;>first | rfl | (with_unfolding_all rfl) | decide +kernel
def set_set{α:Type}(l:List α)(i:Nat)(a b:α):(l.set i a).set i b=l.set i b:=by
 apply gC;intro j;by_cases h:i=j
 ·subst h;by_cases hl:i<l.length
  ·rw[bD (by simpa using hl),bD hl]
  ·rw[eZ (by simpa using hl),eZ (by simpa using hl)]
 ·rw[bA h,bA h,bA h]
def aCu{ts:List D}{σb:List Sl}{te:ET}{Q:D->Prop}(R:Nat->D->D->Prop)(hz:ts.length<=100000)
  (ht:∀(k:Nat)(x:D)(q:D->Prop),ts[k]?=some x->(∀y,R k x y->q y)->te (σb.set 0 (.val x)) q)
  (hq:∀ys:List D,ys.length=ts.length->(∀(k:Nat)(x y:D),ts[k]?=some x->ys[k]?=some y->R k x y)->Q (.list ys)) :
  ts.length<=100000/\∃P:Nat->List Sl->List D->Prop,P 0 σb [] /\
   (∀(k:Nat)(x:D)(σ':List Sl)(ds:List D),ts[k]?=some x->P k σ' ds->gN 0 x σ' λσ2=>tU σ2 λb=>if b=true then te σ2 λy=>P (k+1) σ2 (ds++[y])else P (k+1) σ2 ds)/\∀σ' ds,P ts.length σ' ds->Q (.list ds):=by
 refine⟨hz,λk σ' ds=>(∀x,σ'.set 0 (.val x)=σb.set 0 (.val x))/\ds.length=k/\∀(j:Nat)(x y:D),ts[j]?=some x->ds[j]?=some y->R j x y,⟨λ_=>rfl,rfl,λj x y _ h=>by simp at h⟩,λk x σ' ds hx h=>?_,λσ' ds h=>hq ds h.2.1 h.2.2⟩;obtain⟨h1,h2,h3⟩:=h;show te (σ'.set 0 (.val x)) _;rw[h1 x];refine ht k x _ hx λy hy=>⟨λz=>set_set _ _ _ _,by simp[h2],λj x' y' e1 e2=>?_⟩;by_cases hj:j<k
 ·rw[dU (by omega)]at e2;exact h3 j x' y' e1 e2
 ·rw[dE (by omega)]at e2
  have:j=k:=by
   by_cases e:j=k
   ·exact e
   ·have:j-ds.length≠0:=by omega
    cases q:j-ds.length with
    |zero=>exact absurd q this
    |succ n=>rw[q]at e2;simp at e2
  subst this;rw[hx]at e1;cases e1;simp[h2]at e2;subst e2;exact hy
def aFe{ts:List D}{σb:List Sl}{te:ET}{Q:D->Prop}(f:D->D)(hz:ts.length<=100000)(ht:∀(x:D)(q:D->Prop),x∈ts->q (f x)->te (σb.set 0 (.val x)) q)(hq:Q (.list (ts.map f))) :
  ts.length<=100000/\∃P:Nat->List Sl->List D->Prop,P 0 σb [] /\
   (∀(k:Nat)(x:D)σ'(ds:List D),ts[k]?=some x->P k σ' ds->gN 0 x σ' λσ2=>tU σ2 λb=>if b=true then te σ2 λy=>P (k+1) σ2 (ds++[y])else P (k+1) σ2 ds)/\∀σ' ds,P ts.length σ' ds->Q (.list ds):=by
 refine aCu (λk x y=>y=f x) hz (λk x q hx h=>ht x q (aW hx) (h _ rfl)) λys hl h=>?_
 have e:ys=ts.map f:=by
  apply gC;intro i;rw[aI]
  cases hx:ts[i]? with
  |none=>
   rw[eZ (by rw[hl];exact List.getElem?_eq_none_iff.mp hx)];rfl
  |some x=>
   have hi:i<ys.length:=by rw[hl];exact(aG.mp hx).1
   have:=h i x ys[i] hx (aF hi);rw[aF hi,this];rfl
 rw[e];exact hq
def YY{ts:List D}{σb:List Sl}{tt:yZ}{te:ET}{Q:D->Prop}(p:D->Bool)(f:D->D)(hz:ts.length<=100000)(hp:∀(x:D)(q:Bool->Prop),x∈ts->q (p x)->tt (σb.set 0 (.val x)) q)
  (ht:∀(x:D)(q:D->Prop),x∈ts->q (f x)->te (σb.set 0 (.val x)) q) (hq:Q (.list ((ts.filter p).map f))) :
  ts.length<=100000/\∃P:Nat->List Sl->List D->Prop,P 0 σb [] /\
   (∀(k:Nat)(x:D)(σ':List Sl)(ds:List D),ts[k]?=some x->P k σ' ds->gN 0 x σ' λσ2=>tt σ2 λb=>if b=true then te σ2 λy=>P (k+1) σ2 (ds++[y])else P (k+1) σ2 ds)/\∀σ' ds,P ts.length σ' ds->Q (.list ds):=by
 refine⟨hz,λk σ' ds=>(∀x,σ'.set 0 (.val x)=σb.set 0 (.val x))/\ds=((ts.take k).filter p).map f,⟨λ_=>rfl,rfl⟩,λk x σ' ds hx h=>?_,λσ' ds h=>?_⟩
 ·obtain⟨h1,rfl⟩:=h;have hm:x∈ts:=aW hx;show tt (σ'.set 0 (.val x)) _;rw[h1 x];refine hp x _ hm ?_;have e:ts.take (k+1)=ts.take k++[x]:=by rw[cP,hx];rfl
  cases hb:p x with
  |true=>
   rw[if_pos rfl];refine ht x _ hm ⟨λz=>set_set _ _ _ _,?_⟩;rw[e,gK,bG];simp[hb]
  |false=>
   rw[if_neg (by decide)];refine⟨λz=>set_set _ _ _ _,?_⟩;rw[e,gK,bG];simp[hb]
 ·obtain⟨_,rfl⟩:=h;rw[dY];exact hq
section
variable{fr:List (Option Nat)}{ti:IT}{tt:yZ}{te:ET}{σ:List Sl}{Q:D->Prop}{ts:List D}
abbrev qI(ti:IT)(σ:List Sl)(ts:List D):Prop:=∀R:List D->Prop,R ts->ti σ R
def iC(hti:qI ti σ ts)(f:D->D)(hz:ts.length<=100000)(ht:∀(x:D)(q:D->Prop),x∈ts->q (f x)->te ((jR fr σ).set 0 (.val x)) q)(hq:Q (.list (ts.map f))):WV fr ti (gN 0) tU te σ Q:=
 hti _ (aFe (te:=te) (Q:=Q) f hz ht hq)
def UQ(hti:qI ti σ ts)(R:Nat->D->D->Prop)(hz:ts.length<=100000)
  (ht:∀(k:Nat)(x:D)(q:D->Prop),ts[k]?=some x->(∀y,R k x y->q y)->te ((jR fr σ).set 0 (.val x)) q)
  (hq:∀ys:List D,ys.length=ts.length->(∀(k:Nat)(x y:D),ts[k]?=some x->ys[k]?=some y->R k x y)->Q (.list ys)):WV fr ti (gN 0) tU te σ Q:=
 hti _ (aCu (te:=te) (Q:=Q) R hz ht hq)
def B2(hti:qI ti σ ts)(p:D->Bool)(f:D->D)(hz:ts.length<=100000)(hp:∀(x:D)(q:Bool->Prop),x∈ts->q (p x)->tt ((jR fr σ).set 0 (.val x)) q)
  (ht:∀(x:D)(q:D->Prop),x∈ts->q (f x)->te ((jR fr σ).set 0 (.val x)) q) (hq:Q (.list ((ts.filter p).map f))):WV fr ti (gN 0) tt te σ Q:=
 hti _ (YY (tt:=tt) (te:=te) (Q:=Q) p f hz hp ht hq)
def aFp{g:GT}{tb}{DT:zZ}(hti:qI ti σ ts)(P:Nat->List Sl->Prop)(h0:P 0 σ)
  (hs:∀(k:Nat)(x:D)σ',ts[k]?=some x->P k σ'->g x σ' λσ2=>tb { DT with nx:=P (k+1),ct:=P (k+1),bk:=DT.nx } σ2) (hd:∀σ',P ts.length σ'->DT.nx σ'):X0 ti g tb DT σ:=hti _ ⟨P,h0,hs,hd⟩
end
def uL(x y:Str):(x++y).cps.toList=x.cps.toList++y.cps.toList:=by
 show(x.cps++y.cps).toList=_;simp
def LA(xs:Array Nat)(a k:Nat):(cQ k).filterMap (λm=>xs[a+m]?)=(xs.toList.drop a).take k:=by
 induction k with
 |zero=>simp
 |succ k ih=>
  rw[List.range_succ,List.filterMap_append,ih,cP,iV];congr 1;simp only[eQ,List.filterMap_nil];rw[cD];cases xs[a+k]?<;>rfl
def OV(v:Option Int)(n d:Nat)(hd:d<=n):(match v with | none=>(d:Int) | some i=>max 0 (min (if i<0 then i+(n:Int)else i) (n:Int)))=((HT.sIx n d v:Nat):Int):=by
 cases v with
 |none=>rfl
 |some i=>
  have:=HT.clip_eq i n d;rw[<- this];dsimp only;split<;>omega
def V5(v:Option Int)(n:Nat):(match v with | none=>(0:Int) | some i=>max 0 (min (if i<0 then i+(n:Int)else i) (n:Int)))=((HT.sIx n 0 v:Nat):Int):=OV v n 0 (cL _)
def SM{a a' b b':Int}(h1:a=a')(h2:b=b'):sliceRange a b 1=sliceRange a' b' 1:=by rw[h1,h2]
def sZ(z:Str)(lo hi:Option Int):(Txt.slice z lo hi).cps.toList=iB z.cps.toList lo hi:=by
 have hn:z.cps.toList.length=z.length:=by simp[Str.length]
 have ha:=HT.sIx_le z.length 0 (cL _) lo;have hb:=HT.sIx_le z.length z.length (aO _) hi
 have hI:Builtin.Str.strSliceIndices lo hi 1 z.length=(cQ (HT.sIx z.length z.length hi-HT.sIx z.length 0 lo)).map (λk=>HT.sIx z.length 0 lo+k):=by
  unfold Builtin.Str.strSliceIndices;simp only[show(1:Int)>0 by decide,if_true];refine(SM (V5 lo z.length) (OV hi z.length z.length (aO _))).trans ?_;unfold sliceRange;simp only[show(1:Int)>0 by decide,if_true]
  generalize HT.sIx z.length 0 lo=a
  generalize HT.sIx z.length z.length hi=b
  have ec:(if(a:Int)<(b:Int)then((b:Int)-a+1-1) / 1 else 0).toNat=b-a:=by split<;>omega
  rw[ec];apply lU;intro k _;omega
 unfold Txt.slice iB;rw[hn,hI]
 generalize HT.sIx z.length 0 lo=a at *
 generalize HT.sIx z.length z.length hi=b at *
 split
 ·next h=>
  simp only[beq_self_eq_true,HG,beq_iff_eq,aB,cH]at h;have h1:a=0:=by omega
  have h2:b-a=z.cps.toList.length:=by rw[hn];exact h
  rw[h2,h1,FM,dY]
 ·rw[R3];exact LA z.cps a (b-a)
def LR:∀ys:List Str,(Txt.join ⟨#[]⟩ ys).cps.toList=(ys.map (·.cps.toList)).flatten:=by
 intro ys;show(Builtin.Str.glued ⟨#[]⟩ ys).cps.toList=_;rw[StrLaws.glued_eq_join]
 induction ys with
 |nil=>rfl
 |cons x ys ih=>
  cases ys with
  |nil=>simp[Str.join]
  |cons y r=>
   show(x++⟨#[]⟩++Str.join ⟨#[]⟩ (y::r)).cps.toList=_;rw[uL,uL,ih];simp
def U8(x:Str)(c:Nat):Txt.contains x ⟨#[c]⟩=decide (c∈x.cps.toList):=StrLaws.found_one x c
section
variable{te:ET}{u t e:vE}{c:yZ}{DT:zZ}{σ:List Sl}{i:Nat}
def eU(v:D)(h:∀q:D->Prop,q v->te σ q)(k:u DT (σ.set i (.val v))):kI (BJ i te) u DT σ:=h _ k
def tD(R:D->Prop)(h:∀q:D->Prop,(∀v,R v->q v)->te σ q)(k:∀v,R v->u DT (σ.set i (.val v))):kI (BJ i te) u DT σ:=h _ k
def jF(R:Bool->Prop)(h:∀q:Bool->Prop,(∀b,R b->q b)->c σ q)(k1:R true->t { DT with nx:=u DT } σ)(k0:R false->e { DT with nx:=u DT } σ):kI (sIf c t e) u DT σ:=by
 refine h _ λb hb=>?_
 cases b with
 |true=>rw[if_pos rfl];exact k1 hb
 |false=>rw[if_neg (by decide)];exact k0 hb
def nZ(R:Bool->Prop)(h:∀q:Bool->Prop,(∀b,R b->q b)->c σ q)(k1:R true->t DT σ)(k0:R false->e DT σ):sIf c t e DT σ:=by
 refine h _ λb hb=>?_
 cases b with
 |true=>rw[if_pos rfl];exact k1 hb
 |false=>rw[if_neg (by decide)];exact k0 hb
def lM{ti}{ts:List D}{g:GT}{tb}(hti:qI ti σ ts)(P:Nat->List Sl->Prop)(h0:P 0 σ)
  (hs:∀(k:Nat)(x:D)σ',ts[k]?=some x->P k σ'->g x σ' λσ2=>tb { DT with nx:=P (k+1),ct:=P (k+1),bk:=u DT } σ2) (hd:∀σ',P ts.length σ'->u DT σ'):kI (X0 ti g tb) u DT σ:=
 aFp (DT:={ DT with nx:=u DT }) hti P h0 hs hd
def pS{t:AT}(ds:List D)(hz:ds.length<=1000)(h:∀q:List D->Prop,q ds->t σ q)(k:u DT (σ.set i (.own ds))):kI (aEh i t) u DT σ:=h _ ⟨hz,k⟩
def wW{ts:List D}(v:D)(ho:σ[i]?=some (.own ts))(hz:ts.length<=100000)(h:∀q:D->Prop,q v->te σ q)(k:DT.nx (σ.set i (.own (ts++[v])))):aHw i te DT σ:=⟨ts,ho,h _ ⟨hz,k⟩⟩
def wV(v:D)(h:∀q:D->Prop,q v->te σ q)(k:DT.nx (σ.set i (.val v))):BJ i te DT σ:=h _ k
end
mutual
theorem nF:∀{d:D},d.canLay0=true->d.hasDict=false
|.none,_=>rfl
|.bool _,_=>rfl
|.int _,_=>rfl
|.str _,_=>rfl
|.list _,h=>noDictAll h
|.tuple _,h=>noDictAll h
|.dict _,h=>by cases h
theorem noDictAll:∀{ds:List D},dP ds=true->kJ ds=false
|[],_=>rfl
|d::ds,h=>by
 have h':(d.canLay0&&dP ds)=true:=h;rw[bY]at h';show(d.hasDict||kJ ds)=false;rw[nF h'.1,noDictAll h'.2];rfl
end
section
variable{X:Cx}{b e:Expr}
def zI(K:aL)(ok:D->D->Prop)(f:D->D->Bool):R2:=λx y H Q=>∃d1 d2,gG K H d1 x/\gG K H d2 y/\ok d1 d2/\Q (.bl (f d1 d2)) H
def aJx(ok:D->D->Prop)(f:D->D->Bool)(x y:D)(Q:D->Prop):Prop:=ok x y/\Q (.bool (f x y))
def qA{ok:D->D->Prop}{f:D->D->Bool}:zD X (zI X.K ok f) (aJx ok f):=by
 intro H ps d1 d2 x y Q QV live r1 r2 h k;exact⟨d1,d2,r1.same bS,r2.same bS,h.1,k _ _ H (L2.bJ.refl H) (.bool _) h.2⟩
def aJb(d1 d2:D):Prop:=d1.canLay0=true/\d2.canLay0=true/\min d1.depth d2.depth<=60
def vP{k:Nat}(hr:Room k X.A):nS X (compareOp .Eq) (zI X.K aJb cG):=by
 intro pins s σ H x y v u Q I rx ry h;obtain⟨d1,d2,r1,r2,⟨c1,c2,hm⟩,q⟩:=h;obtain⟨as,h1⟩:=gG.reads I (nF c1) r1 rx;obtain⟨bs,h2⟩:=gG.reads I (nF c2) r2 ry;exact SeqAt.compareEq_reads h1 h2 c1 c2 (by have:=hr.un;omega) ⟨.bl _,H,I,rfl,q⟩
def T6{k:Nat}(hr:Room k X.A):nS X (compareOp .NotEq) (zI X.K aJb λx y=>!cG x y):=by
 intro pins s σ H x y v u Q I rx ry h;obtain⟨d1,d2,r1,r2,⟨c1,c2,hm⟩,q⟩:=h;obtain⟨as,h1⟩:=gG.reads I (nF c1) r1 rx;obtain⟨bs,h2⟩:=gG.reads I (nF c2) r2 ry;exact SeqAt.compareNe_reads h1 h2 c1 c2 (by have:=hr.un;omega) ⟨.bl _,H,I,rfl,q⟩
def BW(x y:D):Prop:=match y with
|.list ts=>dP ts=true/\x.canLay0=true/\min (bU ts) x.depth<=60
|.tuple ts=>dP ts=true/\x.canLay0=true/\min (bU ts) x.depth<=60
|_=>False
noncomputable def JE(x y:D):Bool:=match y with
|.list ts=>ts.any λz=>cG z x
|.tuple ts=>ts.any λz=>cG z x
|_=>false
def P6{k:Nat}(hr:Room k X.A):nS X (compareOp .In) (zI X.K BW JE):=by
 intro pins s σ H x y v u Q I rx ry h;obtain⟨d1,d2,r1,r2,ho,q⟩:=h
 have hd:d1.hasDict=false/\d2.hasDict=false:=by
  cases d2 with
  |list ts=>exact⟨nF ho.2.1,noDictAll ho.1⟩
  |tuple ts=>exact⟨nF ho.2.1,noDictAll ho.1⟩
  |_=>exact ho.elim
 obtain⟨as,h1⟩:=gG.reads I hd.1 r1 rx;obtain⟨bs,h2⟩:=gG.reads I hd.2 r2 ry
 cases d2 with
 |list ts=>exact SeqAt.in_list_reads h2 h1 ho.1 ho.2.1 (by have:=hr.un;have:=ho.2.2;omega) ⟨.bl _,H,I,rfl,q⟩
 |tuple ts=>exact SeqAt.in_tuple_reads h2 h1 ho.1 ho.2.1 (by have:=hr.un;have:=ho.2.2;omega) ⟨.bl _,H,I,rfl,q⟩
 |_=>exact ho.elim
def F3{k:Nat}(hr:Room k X.A):nS X (compareOp .NotIn) (zI X.K BW λx y=>!JE x y):=by
 intro pins s σ H x y v u Q I rx ry h;obtain⟨d1,d2,r1,r2,ho,q⟩:=h
 have hd:d1.hasDict=false/\d2.hasDict=false:=by
  cases d2 with
  |list ts=>exact⟨nF ho.2.1,noDictAll ho.1⟩
  |tuple ts=>exact⟨nF ho.2.1,noDictAll ho.1⟩
  |_=>exact ho.elim
 obtain⟨as,h1⟩:=gG.reads I hd.1 r1 rx;obtain⟨bs,h2⟩:=gG.reads I hd.2 r2 ry
 cases d2 with
 |list ts=>exact SeqAt.notIn_list_reads h2 h1 ho.1 ho.2.1 (by have:=hr.un;have:=ho.2.2;omega) ⟨.bl _,H,I,rfl,q⟩
 |tuple ts=>exact SeqAt.notIn_tuple_reads h2 h1 ho.1 ho.2.1 (by have:=hr.un;have:=ho.2.2;omega) ⟨.bl _,H,I,rfl,q⟩
 |_=>exact ho.elim
def aJw(x y:D)(Q:D->Prop):Prop:=match x,y with
|.str z,.str y=>Q (.bool (Txt.contains y z))
|x,y=>BW x y/\Q (.bool (JE x y))
def LG{k:Nat}(hr:Room k X.A):nS X (compareOp .In) (λx y H Q=>(∃i j,x=.str i/\y=.str j/\Q (.bl (!(Builtin.Str.occurrences j i 0 j.length 1).isEmpty)) H)\/zI X.K BW JE x y H Q):=P5.or (P6 hr)
def UA:zD X (λx y H Q=>(∃i j,x=.str i/\y=.str j/\Q (.bl (!(Builtin.Str.occurrences j i 0 j.length 1).isEmpty)) H)\/zI X.K BW JE x y H Q) aJw:=by
 intro H ps d1 d2 x y Q QV live r1 r2 h k;have gen:BW d1 d2/\Q (.bool (JE d1 d2))->_:=λh=>(.inr ⟨d1,d2,r1.same bS,r2.same bS,h.1,k _ _ H (L2.bJ.refl H) (.bool _) h.2⟩:(∃i j,x=.str i/\y=.str j/\QV (.bl (!(Builtin.Str.occurrences j i 0 j.length 1).isEmpty)) H)\/zI X.K BW JE x y H QV)
 cases r1 with
 |str z=>
  cases r2 with
  |str w=>exact .inl ⟨z,w,rfl,rfl,k _ _ H (L2.bJ.refl H) (.bool _) h⟩
  |_=>exact gen h
 |_=>exact gen h
noncomputable def pU:D->Bool
|.none=>true
|_=>false
def fIs(x y:D)(Q:D->Prop):Prop:=match y with | .bool b=>Q (.bool (uI b x)) | .none=>Q (.bool (pU x)) | _=>False
def ZH(x y:D)(Q:D->Prop):Prop:=match y with | .bool b=>Q (.bool (!uI b x)) | .none=>Q (.bool (!pU x)) | _=>False
def aE3:nS X (compareOp .Is) (λx y H Q=>aEp x y H Q\/(y=.non/\Q (.bl (decide (x=.non))) H)):=aE2.or aE1
def P4:nS X (compareOp .IsNot) (λx y H Q=>FY x y H Q\/(y=.non/\Q (.bl (!decide (x=.non))) H)):=P3.or YI
def aJd:zD X (λx y H Q=>aEp x y H Q\/(y=.non/\Q (.bl (decide (x=.non))) H)) fIs:=by
 intro H ps d1 d2 x y Q QV live r1 r2 h k
 cases r2 with
 |bool b=>
  refine .inl ⟨b,rfl,?_⟩;have e:(decide (x=V.bl b))=uI b d1:=by cases r1<;>simp[uI]
  rw[e];exact k _ _ H (L2.bJ.refl H) (.bool _) h
 |none=>
  refine .inr ⟨rfl,?_⟩;have e:(decide (x=V.non))=pU d1:=by cases r1<;>simp[pU]
  rw[e];exact k _ _ H (L2.bJ.refl H) (.bool _) h
 |_=>exact h.elim
def T9:zD X (λx y H Q=>FY x y H Q\/(y=.non/\Q (.bl (!decide (x=.non))) H)) ZH:=by
 intro H ps d1 d2 x y Q QV live r1 r2 h k
 cases r2 with
 |bool b=>
  refine .inl ⟨b,rfl,?_⟩;have e:(!decide (x=V.bl b))=!uI b d1:=by cases r1<;>simp[uI]
  rw[e];exact k _ _ H (L2.bJ.refl H) (.bool _) h
 |none=>
  refine .inr ⟨rfl,?_⟩;have e:(!decide (x=V.non))=!pU d1:=by cases r1<;>simp[pU]
  rw[e];exact k _ _ H (L2.bJ.refl H) (.bool _) h
 |_=>exact h.elim
def aJp(x y:D)(Q:D->Prop):Prop:=match x,y with | .int i,.int j=>Q (.int (if j>i then j else i)) | _,_=>False
def V8:oH X (λxs H Q=>∃i j,xs=[.int i,.int j]/\Q (.int (if j>i then j else i)) H) (f2 aJp):=by
 intro H ps ds xs Q QV live rs hf k
 cases rs with
 |nil=>exact hf.elim
 |cons r1 r2=>
  cases r2 with
  |nil=>exact hf.elim
  |cons r3 r4=>
   cases r4 with
   |cons _ _=>exact hf.elim
   |nil=>
    cases r1 with
    |int i=>
     cases r3 with
     |int j=>exact⟨i,j,rfl,k _ _ H (L2.bJ.refl H) (.int _) hf⟩
     |_=>exact hf.elim
    |_=>exact hf.elim
end
section
def PR{α:Type}(l:List α)(a b c d:α):(((l.set 0 a).set 1 b).set 0 c).set 1 d=(l.set 0 c).set 1 d:=by
 match l with
 |[]=>rfl
 |[_]=>rfl
 |_::_::_=>rfl
end
end TL
namespace L2
open PySem.SeqAt
open AutoSeq1 (wpAny_loadPart')
def C7(l:Addr)(items:Array Value)(n:Nat)(dd:Option Addr)(sl:Array (Option Value))(x:Value)(e:Value->Bool)(j:Nat)(hj:j<items.size)(hit:e items[j]=true)(hno:∀m (hm:m<items.size),m<j->e items[m]=false) :
  Meets (Builtin.«tuple.index» ⟨[.ref l,x],[]⟩)
   (λA R s=>s.heap.get? l=some { cls:=.type "tuple",dict:=dd,data:=.seq items n,slots:=sl }/\(∀y,y∈items->EqAt A.in1 s y x (e y))/\R (.ok (.ret (.int j s.toks))) { s with toks:=s.toks+1 }):=by
 intro prog w A R s h;obtain⟨hp,g,d,tk,os⟩:=s;obtain⟨hl,he,h⟩:=h;unfold Builtin.«tuple.index»;simp only[Std.Legacy.Range.forIn_eq_forIn_range']
 wp_walk using wpAny_loadPart' hl
 have hN:([:min items.size items.size]:Std.Legacy.Range).size=items.size:=by simp[Std.Legacy.Range.size]
 rw[hN];show wpAny _ _ (forIn (O9 0 items.size) (none,()) _) _ _ _;refine wpAny_forIn_list _ (λfT b s'=>b=(none,())/\s'=⟨hp,g,d,tk,os⟩/\∃k,fT=O9 k (items.size-k)/\k<=j) _ (λi fT b s' h1=>?_) (λb s' h1=>?_) _ _ ⟨rfl,rfl,0,by simp,cL _⟩
 ·obtain⟨rfl,rfl,k,hr,hk⟩:=h1;have hkN:k<items.size:=by omega
  have e1:items.size-k=(items.size-(k+1))+1:=by omega
  rw[e1,W3]at hr;obtain⟨rfl,rfl⟩:=List.cons.inj hr;have hi:items[i]?=some items[i]:=by simp[hkN]
  rw[hi];refine aA (he _ (Array.getElem_mem hkN) prog w _ _ ?_);by_cases hij:i=j
  ·subst hij;rw[hit,if_pos rfl]
   wp_walk
   exact h
  ·have hlt:i<j:=by omega
   rw[hno i hkN hlt,if_neg (by decide)];exact aE ⟨rfl,rfl,i+1,rfl,hlt⟩
 ·obtain⟨_,_,k,hr,hk⟩:=h1;have:=congrArg iL hr;simp at this;omega
end L2
namespace TL
open L2 PySem.SeqAt
section
variable{X:Cx}{e:Expr}{es:List Expr}{te ta:ET}{pos:Pos}
def P8(ts:List D)(d:D)(j:Nat):Prop:=dP ts=true/\d.canLay0=true/\min (bU ts) d.depth<=60/\(∃t,ts[j]?=some t/\cG t d=true)/\∀(m:Nat) t,m<j->ts[m]?=some t->cG t d=false
def K4(K:aL):V->List V->Hp->VK->Prop:=λx xs H Q=>∃(y:V)(ts:List D)(d:D)(j:Nat),xs=[y]/\gG K H (.tuple ts) x/\gG K H d y/\P8 ts d j/\Q (.int j) H
def QE(hu:X.A.units+200<cLine):MtR X "tuple.index" (K4 X.K):=by
 intro pins s σ H x xs v us Q I rx rv h;obtain⟨y,ts,d,j,rfl,r1,r2,⟨c1,c2,hm,⟨t,ht,he⟩,hno⟩,q⟩:=h;obtain⟨u,rfl,ru⟩:=rv.one;obtain⟨as,h1⟩:=gG.reads I (show(fJ ts).hasDict=false from noDictAll c1) r1 rx;obtain⟨bs,h2⟩:=gG.reads I (nF c2) r2 ru
 cases h1 with
 |@tuple l o items n _ as' h3 h4 h5 h6=>
  have hmap:=readsAll_map ts items.toList _ c1 h6;have hlen:items.size=ts.length:=by rw[<- hmap,aB,aP]
  have hjl:j<ts.length:=(aG.mp ht).1;have hj:j<items.size:=by omega
  have rd:∀(m:Nat)(hm:m<items.size),ts[m]?=some (readOf s.heap items[m]):=λm hm=>by
   rw[<- hmap,aI];simp[hm]
  obtain⟨oc,od,odt,osl⟩:=o;cases h4;cases h5;refine call_meets F.slot_tuple_index ⟨_,h3,rfl⟩ F.entry_tuple_index (F.args_tuple_index_2 _ _) (C7 _ items _ od osl u (λy=>cG (readOf s.heap y) d) j hj ?_ ?_) ⟨h3,items_eqAt h6 h2 c1 c2 (by have:=hu;omega),?_⟩
  ·have:=rd j hj;rw[ht]at this;rw[<- Option.some.inj this];exact he
  ·intro m hm' hlt;exact hno m _ hlt (rd m hm')
  ·exact⟨.int j,H,I.tok _,⟨_,rfl⟩,q⟩
def xA{k:Nat}(hr:Room k X.A):MtR X "tuple.index" (K4 X.K):=QE (by have:=hr.un;omega)
def aFv(te:ET)(t:AT):ET:=λσ Q=>te σ λd=>∃ts,d=.tuple ts/\t σ λds=>∃(x:D)(j:Nat),ds=[x]/\P8 ts x j/\Q (.int j)
def xK{n ap t}(hn:hW X n te)(ha:CP X (e::es) t)
  (pc:∀{v ta},PE X n v->PA X (e::es) ta->PE X (.Call (.Attribute n "index" ap) (e::es) [] pos) (XF X.K "tuple" (K4 X.K) v ta)):hW X (.Call (.Attribute n "index" ap) (e::es) [] pos) (aFv te t):=by
 obtain⟨v,pe,re⟩:=hn;obtain⟨va,pa,ra⟩:=ha;refine⟨_,pc pe pa,λB p0 H ps σT σ Q QV o h k=>re B p0 H ps σT σ _ _ o h λd x H1 s1 r1 q1=>?_⟩;obtain⟨ts,rfl,q1⟩:=q1
 cases r1 with
 |@tuple p xs _ hq rs=>
  refine⟨.inr (.inl ⟨rfl,.inr ⟨_,bJ.seqT bS hq⟩⟩),ra B p0 H1 ps σT σ _ _ (o.grow s1) q1 λds ys H2 s2 r2 q2=>?_⟩;obtain⟨d,j,rfl,hok,q⟩:=q2
  cases r2 with
  |cons r3 r4=>
   cases r4;exact⟨_,ts,d,j,rfl,(gG.tuple hq rs).same ((bQ s2).trans bS),r3.same bS,hok,k _ _ H2 (s1.trans s2) (.int _) q⟩
end
section
variable{K:aL}{H H':Hp}
noncomputable def aC1:D->Bool
|.none=>true
|.bool _=>true
|.int _=>true
|.str _=>true
|_=>false
def gG.flat{d v}(r:gG K H d v)(h:aC1 d=true):gG K H' d v:=by
 cases r with
 |none=>exact .none
 |bool b=>exact .bool b
 |int i=>exact .int i
 |str x=>exact .str x
 |_=>cases h
noncomputable def without(H:Hp)(p:Addr):Hp:=λb=>if b=p then none else H b
def bJ.free'(s:bJ H H'){p:Addr}(h:H' p=none):H p=none:=by
 cases q:H p with
 |none=>rfl
 |some u=>rw[s p u q]at h;cases h
end
section
variable{X:Cx}{a b c e:Expr}{es:List Expr}{ta tb te:ET}{pos:Pos}
def Z0(i:Nat)(t:ET):ET:=λσ Q=>∃ts,σ[i]?=some (.own ts)/\t (σ.set i (.val (.list ts))) λd=>aC1 d=true/\Q d
def Q0(i:Nat)(h:hW X e te):hW X e (Z0 i te):=by
 obtain⟨v,p,r⟩:=h;refine⟨_,p,λB p0 H ps σT σ Q QV o h k=>?_⟩;obtain⟨ts,e,h⟩:=h;obtain⟨ps',o',s'⟩:=o.share e;exact r B p0 H ps' _ σ _ _ o' h λd x H1 s1 r1 q1=>k d x H1 s1 (r1.flat q1.1) q1.2
abbrev FT:=List Sl->(List D->Prop)->Prop
def PFt(X:Cx)(e:Expr)(t:FT):Prop:=∃te:TE,PE X e te/\∀B p0 H ps σT σ (Q:List D->Prop)(QV:VK),Ok X.K B p0 H ps σT σ->t σT Q ->
 (∀ts p xs H',bJ H H'->H p=none->H' p=some (.lst xs)->Reps X.K (mask H' (p::ps)) ts xs->Q ts->QV (.ref p) H')->te σ H QV
def eFr(t:FT):ET:=λσ Q=>t σ λts=>Q (.list ts)
def OR{t}(h:PFt X e t):hW X e (eFr t):=by
 obtain⟨v,p,r⟩:=h;refine⟨_,p,λB p0 H ps σT σ Q QV o h k=>r B p0 H ps σT σ _ _ o h λts p xs H' s hp hx rs q=>k _ _ H' s ?_ q⟩;exact .list (mZ.of (pT (iO o.live hp) hx)) (rs.same (iS λq hq=>aM _ hq))
def aC4(ta tb:ET):FT:=λσ Q=>ta σ λx=>tb σ λy=>∃as bs,x=.list as/\y=.list bs/\as.length+bs.length<=100000/\Q (as++bs)
def aFo(ha:hW X a ta)(hb:hW X b tb):PFt X (.BinOp a .Add b pos) (aC4 ta tb):=by
 obtain⟨va,pa,ra⟩:=ha;obtain⟨vb,pb,rb⟩:=hb;refine⟨_,NZ N3 pa pb,λB p0 H ps σT σ Q QV o h k=>ra B p0 H ps σT σ _ _ o h λd1 x H1 s1 r1 q1=>?_⟩;refine rb B p0 H1 ps σT σ _ _ (o.grow s1) q1 λd2 y H2 s2 r2 q2=>?_;obtain⟨as,bs,rfl,rfl,hz,q⟩:=q2
 cases r1 with
 |list h1 t1=>
  cases r2 with
  |list h2 t2=>
   refine⟨_,_,_,_,rfl,rfl,L2.bJ.seq ((bQ s2).trans bS) h1,L2.bJ.seq bS h2,zO (by rw[<- t1.length,<- t2.length];exact hz),λp hp=>?_⟩;exact k _ p _ _ ((s1.trans s2).trans (dN hp)) (bJ.free' (s1.trans s2) hp) dG (by rw[lD hp];exact(t1.same (bQ s2)).append t2) q
def fLc(fr:List (Option Nat))(ti:IT)(g:GT)(tt:yZ)(te:ET):FT:=λσ Q=>ti σ λts=>ts.length<=100000/\∃P:Nat->List Sl->List D->Prop,P 0 (jR fr σ) [] /\
 (∀(k:Nat)(x:D)σ'(ds:List D),ts[k]?=some x->P k σ' ds->g x σ' λσ2=>tt σ2 λb=>if b=true then te σ2 λy=>P (k+1) σ2 (ds++[y])else P (k+1) σ2 ds)/\∀σ' ds,P ts.length σ' ds->Q ds
def asL(Q:List D->Prop)(d:D):Prop:=match d with | .list ds=>Q ds | _=>False
def aFq{fr ti g tt te σ}{Q:List D->Prop}(h:WV fr ti g tt te σ (asL Q)):fLc fr ti g tt te σ Q:=h
def US{fr}{ti:IT}{g:GT}{tt:yZ}{te:ET}{wi:TI}{gv:BP->TG}{vt:BP->TT}{ve:BP->TE}
  (ri:∀B p0 H ps σT σ (Q:List D->Prop)(R:It->Hp->Prop),Ok X.K B p0 H ps σT σ->ti σT Q->(∀ts J H',bJ H H'->MM X.K (mask H' ps) ts J->Q ts->R J H')->wi σ H R)
  (rg:∀(bp:BP)B p0 H ps σT σ(d:D)(v:V)(Q:List Sl->Prop)(QV:L2.St->Hp->Prop),Ok X.K B p0 H ps σT σ->gG X.K (mask H ps) d v->g d σT Q->(∀σT' σ',Ok X.K B p0 H ps σT' σ'->(mF σT->mF σT')->Q σT'->QV σ' H)->gv bp v σ H QV)
  (rt:∀(bp:BP)B p0 H ps σT σ(Q:Bool->Prop)(QV:Bool->Hp->Prop),Ok X.K B p0 H ps σT σ->tt σT Q->(∀b H',bJ H H'->Q b->QV b H')->vt bp σ H QV)
  (re:∀(bp:BP)B p0 H ps σT σ(Q:D->Prop)QV,Ok X.K B p0 H ps σT σ->te σT Q->(∀d v H',bJ H H'->gG X.K (mask H' ps) d v->Q d->QV v H')->ve bp σ H QV)
  (B:Hp) (p0:List Addr) (H:Hp) (ps:List Addr) (σT:List Sl) (σ:L2.St) (Q:List D->Prop) (QV:VK) (o:Ok X.K B p0 H ps σT σ) (h:fLc fr ti g tt te σT Q) (k:∀ts p xs H',bJ H H'->H p=none->H' p=some (.lst xs)->Reps X.K (mask H' (p::ps)) ts xs->Q ts->QV (.ref p) H'):KS fr wi gv vt ve σ H QV:=by
 refine ri B p0 H ps σT σ _ _ o h λts J H1 s1 rj q1=>?_;obtain⟨hz,P,h0,hs,hd⟩:=q1;intro bp acc hacc;have hBacc:B acc=none:=bJ.free' (o.grow s1).base hacc
 refine⟨λi m σ' H'=>m=ts.length-i/\i<=ts.length/\∃σT' ds ys,Ok X.K B p0 H' (acc::ps) σT' σ'/\mF σT'/\H' acc=some (.lst ys)/\ds.length<=i/\Reps X.K (mask H' (acc::ps)) ds ys/\bJ (mask H1 ps) (mask H' (acc::ps))/\bJ H1 H'/\P i σT' ds,
  ⟨_,rfl,cL _,jR fr σT,[],[],((o.grow s1).blk fr).adopt hacc,oQ fr σT,dG,aO _,.nil,by rw[lD hacc];exact L2.bJ.refl _,dN hacc,h0⟩,?_⟩
 rintro i m σ' H' ⟨rfl,hle,σT',ds,ys,o',n',ha,hl,hr,s',sF,p'⟩;have hL:bL=2^24:=rfl;by_cases hlt:i<ts.length
 ·refine .inr ⟨rj.go i H' (s'.trans bS) hlt,λy H2 hy=>?_⟩;obtain⟨s2,dx,hx,rx⟩:=rj.yld i H' (acc::ps) y H2 o'.live s' hlt hy;refine rg bp B p0 H2 (acc::ps) σT' σ' dx y _ _ (o'.grow s2) rx (hs i dx σT' ds hx p') λσT3 σ3 o3 n3 q3=>?_;refine rt bp B p0 H2 (acc::ps) σT3 σ3 _ _ o3 q3 λb H4 s4 q4=>?_;have s24:=s2.trans s4
  cases b with
  |false=>
   exact⟨ts.length-(i+1),by omega,rfl,hlt,σT3,ds,ys,o3.grow s4,n3 n',s24 _ _ ha,by omega,hr.same (bQ s24),s'.trans (bQ s24),sF.trans s24,q4⟩
  |true=>
   refine re bp B p0 H4 (acc::ps) σT3 σ3 _ _ (o3.grow s4) q4 λd v H5 s5 r5 q5=>?_;have s25:=s24.trans s5;have hm:mask (gO H5 acc (.lst (ys++[v]))) (acc::ps)=mask H5 (acc::ps):=gR (aR ..);refine⟨ys,s25 _ _ ha,by rw[<- hr.length];omega,ts.length-(i+1),by omega,rfl,hlt,σT3,ds++[d],ys++[v],((o3.grow s4).grow s5).aside (aR ..) hBacc (n3 n'),n3 n',dG,by rw[aV,nV];omega,?_,?_,?_,q5⟩
   ·rw[hm];exact(hr.same (bQ s25)).append (.cons r5 .nil)
   ·rw[hm];exact s'.trans (bQ s25)
   ·intro b u e;have ne:b≠acc:=λz=>by rw[z,hacc]at e;cases e
    rw[dA ne];exact(sF.trans s25) b u e
 ·obtain rfl:i=ts.length:=by omega
  exact .inl ⟨rj.stop _ H' (s'.trans bS) (aO _),k ds acc ys H' (s1.trans sF) (bJ.free' s1 hacc) ha hr (hd σT' ds p')⟩
def YZ{elt iter tg ifs scope fr N' ti g tt te}(hi:E8 X tg iter ti)
  (hY:∀b:BP,CY (blk X scope N' b) tg g/\zC (blk X scope N' b) ifs tt/\hW (blk X scope N' b) elt te) {M:(TE)->Prop}
  (fin:∀{wi}{gv:BP->TG}{vt:BP->TT}{ve:BP->TE},PI X tg iter wi->(∀b:BP,PG (blk X scope N' b) tg (gv b)/\KE (blk X scope N' b) ifs (vt b)/\PE (blk X scope N' b) elt (ve b))->M (KS fr wi gv vt ve)) :
  ∃v:TE,M v/\∀B p0 H ps σT σ (Q:List D->Prop)(QV:VK),Ok X.K B p0 H ps σT σ->fLc fr ti g tt te σT Q ->
   (∀ts p xs H',bJ H H'->H p=none->H' p=some (.lst xs)->Reps X.K (mask H' (p::ps)) ts xs->Q ts->QV (.ref p) H')->v σ H QV:=by
 obtain⟨wi,pi,ri⟩:=hi;refine⟨_,fin (gv:=λb=>Classical.choose (hY b).1) (vt:=λb=>Classical.choose (hY b).2.1) (ve:=λb=>Classical.choose (hY b).2.2) pi λb=>⟨(Classical.choose_spec (hY b).1).1,(Classical.choose_spec (hY b).2.1).1,(Classical.choose_spec (hY b).2.2).1⟩,?_⟩;exact US ri (λb=>(Classical.choose_spec (hY b).1).2) (λb=>(Classical.choose_spec (hY b).2.1).2) λb=>(Classical.choose_spec (hY b).2.2).2
def aJr{elt iter tg ifs scope fr N' ti g tt te}(hi:E8 X tg iter ti)
  (hY:∀b:BP,CY (blk X scope N' b) tg g/\zC (blk X scope N' b) ifs tt/\hW (blk X scope N' b) elt te)
  (pl:∀{wi}{gv:BP->TG}{vt:BP->TT}{ve:BP->TE},PI X tg iter wi->(∀b:BP,PG (blk X scope N' b) tg (gv b)/\KE (blk X scope N' b) ifs (vt b)/\PE (blk X scope N' b) elt (ve b))->PE X (.ListComp elt [⟨tg,iter,ifs,0⟩] scope pos) (KS fr wi gv vt ve)) :
  PFt X (.ListComp elt [⟨tg,iter,ifs,0⟩] scope pos) (fLc fr ti g tt te):=YZ hi hY pl
abbrev SpF:=List D->(List D->Prop)->Prop
def lO(K:aL)(sp:SpF):Sp:=λvs H Q _=>∃(ps:List Addr)(ds:List D)(QD:List D->Prop),(∀p∈ps,CQ (H p))/\Reps K (mask H ps) ds vs/\sp ds QD /\
 ∀ts p xs H',bJ H H'->H p=none->H' p=some (.lst xs)->Reps K (mask H' (p::ps)) ts xs->QD ts->Q (.ref p) H'
def aC3(sp:SpF)(t:AT):FT:=λσ Q=>t σ λds=>sp ds Q
def ZF{k:Nat}{f:Addr}{fd pn sp x p t}(F:dD X.prog X.w X.K X.mg X.base gA k f fd pn (lO X.K sp))(hm:X.mg x=some (.ref f))(hk:gU X.K (.ref f)=true)(hb:sQ X.K fd pn [])
  (hr:Room k X.A) (ha:CP X (e::es) t) (pc:∀{ta},PA X (e::es) ta->PE X (.Call (.Name x p) (e::es) [] pos) (BD (lO X.K sp) [] E0 ta)):PFt X (.Call (.Name x p) (e::es) [] pos) (aC3 sp t):=by
 obtain⟨v,pa,ra⟩:=ha;refine⟨_,pc pa,λB p0 H ps σT σ Q QV o h k=>ra B p0 H ps σT σ _ _ o h λds xs H1 s1 r1 q1=>?_⟩;show lO X.K sp (xs++[]) H1 QV E0;rw[dL];exact⟨ps,ds,Q,(o.grow s1).live,r1,q1,λts p xs' H' s' hp hx rs q=>k ts p xs' H' (s1.trans s') (bJ.free' s1 hp) hx rs q⟩
def fnF{P w K}{mg:Str->Option Value}{base x qual st}{f:Addr}{fd}{N pn:List Str}{k:Nat}{sp:SpF}(F:RV K x qual st f fd)(S:dC N pn (bP st))(len:∀ds Q,sp ds Q->ds.length=pn.length)
  (hbody:∀(cdv:Value)(A:Around)outer(s:Shared)H E,Room k (A.deeper (envOfC qual (bP st) s.heap.objs.size f cdv))->∀(ds:List D)(Q:List D->Prop),sp ds Q ->
   ∃t,vY (yV gA P w K mg base N qual (bP st) f cdv A outer s H E).nox (lQ st) t/\t { nx:=λ_=>False,rt:=λ_=>False,ro:=Q } (jQ N ds)):dD P w K mg base gA (k+1) f fd pn (lO K sp):=by
 refine F.ok S (λvs H Q E h=>?_) λcdv A outer s H vs Q E hr h=>?_
 ·obtain⟨ps,ds,QD,_,r,q,_⟩:=h;rw[<- r.length];exact len ds QD q
 ·obtain⟨ps,ds,QD,live,r,q,k⟩:=h;obtain⟨t,⟨ts,p,rd⟩,h⟩:=hbody cdv A outer s H E hr ds QD q;exact⟨ts,p,rd H ps H ps _ _ _ _ (qU live r) h ⟨λ_ _ _ _ _ _ q'=>q'.elim,λ_ _ _ _ _ _ q'=>q'.elim,λ_ _ _ _ _ _ q'=>q'.elim,λ_ _ _ _ _ q'=>q'.elim,λts p xs H' s' hB hp hx rs q'=>k ts p xs H' s' hB hx rs q',λ_ _ _ _ _ _ _ _ _ _ _ _ _ _ _ _ _ _ q'=>q'.elim,λ_ _ _ _ _ _ _ _ _ _ _ _ _ _ q'=>q'.elim,True.intro⟩⟩
def aCj(t:FT):vE:=λDT σ=>t σ DT.ro
def NC{t}(h:PFt X e t):A7 X (.Return (some e) pos) (aCj t):=by
 obtain⟨v,p,r⟩:=h;refine⟨_,yF p,λB p0 H ps σT σ DT DV o h f=>r B p0 H ps σT σ _ _ o h λts p xs H' s hp hx rs q=>?_⟩;refine f.ro ts p xs H' (o.base.trans s) (bJ.free' o.base hp) (λz=>iO o.live hp (o.sub p z)) hx (rs.same (iS λq hq=>?_)) q;rcases bH.mp hq with rfl | hq
 ·exact aR ..
 ·exact aM _ (o.sub q hq)
def XZ(i:Nat):vE:=λDT σ=>∃ts,σ[i]?=some (.own ts)/\DT.ro ts
def PL{i:Nat}{n}(hn:PE X n (pL i)):A7 X (.Return (some n) pos) (XZ i):=by
 refine⟨_,yF hn,λB p0 H ps σT σ DT DV o h f=>?_⟩;obtain⟨ts,e,h⟩:=h;obtain⟨q,xs,h1,h2,h3,h4,h5,h6⟩:=o.own i ts e;refine⟨.ref q,h1,f.ro ts q xs H o.base h3 h4 h5 (h6.same (iS λz hz=>?_)) h⟩;rcases bH.mp hz with rfl | hz
 ·exact h2
 ·exact o.sub z hz
def gP3(i j k:Nat):GT:=λd σ Q=>∃a b c,d=.tuple [a,b,c]/\Q (((σ.set i (.val a)).set j (.val b)).set k (.val c))
def qW{i j k:Nat}{t}(h:PG X t (ZD X.K 3 (vD (jS i) (vD (jS j) (vD (jS k) ZE))))):CY X t (gP3 i j k):=
 ⟨_,h,λB p0 H ps σT σ d v Q QV o r h k=>by
  obtain⟨a,b,c,rfl,h⟩:=h
  cases r with
  |@tuple p xs _ hq r=>
   cases r with
   |cons ra r=>
    cases r with
    |cons rb r=>
     cases r with
     |cons rc r=>
      cases r;exact⟨_,_,rfl,bJ.seqT bS hq,rfl,_,_,rfl,_,_,rfl,_,_,rfl,rfl,k _ _ (((o.set ra).set rb).set rc) (λn=>kE (kE (kE n _ _) _ _) _ _) h⟩⟩
def SW(te:ET)(g:GT):vE:=λDT σ=>te σ λd=>g d σ DT.nx
def NA{tg g}(he:hW X e te)(hg:CY X tg g)(pa:∀{v gv},PE X e v->PG X tg gv->PS X (.Assign [tg] e pos) (vN v gv)):A7 X (.Assign [tg] e pos) (SW te g):=by
 obtain⟨v,pe,re⟩:=he;obtain⟨gv,pg,rg⟩:=hg;refine⟨_,pa pe pg,λB p0 H ps σT σ DT DV o h f=>re B p0 H ps σT σ _ _ o h λd x H1 s1 r1 q1=>?_⟩;exact rg B p0 H1 ps σT σ d x _ _ (o.grow s1) r1 q1 λσT' σ' o' _ q'=>f.nx H1 ps _ _ o' (bQ s1) q'
def eIf(c:yZ)(ta tb:ET):ET:=λσ Q=>c σ λb=>if b=true then ta σ Q else tb σ Q
def B7{tc}(hc:J2 X c tc)(ha:hW X a ta)(hb:hW X b tb):hW X (.IfExp c a b pos) (eIf tc ta tb):=by
 obtain⟨vc,pc,rc⟩:=hc;obtain⟨va,pa,ra⟩:=ha;obtain⟨vb,pb,rb⟩:=hb;refine⟨_,T0 pc pa pb,λB p0 H ps σT σ Q QV o h k=>rc B p0 H ps σT σ _ _ o h λd H1 s1 q1=>?_⟩
 cases d with
 |true=>
  rw[if_pos rfl]at q1 |-
  exact ra B p0 H1 ps σT σ Q _ (o.grow s1) q1 λd v H' s' r' q'=>k d v H' (s1.trans s') r' q'
 |false=>
  rw[if_neg (by decide)]at q1 |-
  exact rb B p0 H1 ps σT σ Q _ (o.grow s1) q1 λd v H' s' r' q'=>k d v H' (s1.trans s') r' q'
end
end TL
namespace L2
open PySem.SeqAt
open AutoSeq1 (wpAny_loadPart')
def L4(l:Addr)(items:Array Value)(n:Nat)(b:Addr)(items2:Array Value)(n2:Nat)(dd:Option Addr)(sl:Array (Option Value))(hc0:¬(!items.isEmpty&&Builtin.List.listTooLong (items.size+items2.size))=true)(hc1:items.size<=bL)(hs2:items.size+items2.size<=bL+1) :
  Meets (Builtin.«list.extend» ⟨[.ref l,.ref b],[]⟩) (λ_ R s=>s.heap.get? l=some { cls:=.type "list",dict:=none,data:=.seq items n,slots:=#[] }/\s.heap.get? b=some { cls:=.type "list",dict:=dd,data:=.seq items2 n2,slots:=sl }/\R (.ok (.ret Value.none)) { s with heap:=s.heap.update l (Obj.mapSeq λx=>x++items2),toks:=s.toks }):=
 .of_wp λprog w A R s h=>by
  obtain⟨hp,g,d,tk,os⟩:=s;obtain⟨hl,hb,h⟩:=h;have f1:=AutoSeq1.idx_int;have f2:=AutoSeq1.sub_tuple_tuple;have f3:=AutoSeq1.sub_list_list;have f4:=AutoSeq1.sub_tuple_list;have f5:=AutoSeq1.sub_list_tuple;have hz':(items++items2).size<=bL+1:=by rw[R5];exact hs2
  wp_walk using(wpAny_updateSeq hl rfl (hz:=hc1) (_hz':=hz')),wpAny_loadPart' hl,wpAny_loadPart' hb
  exact⟨_,rfl,h⟩
section
variable{X:Cx}
def aCp(K:aL):V->List V->Hp->VK->Prop:=λx vs H Q=>∃l b xs zs,x=.ref l/\vs=[.ref b]/\H l=some (.lst xs)/\mZ K H b zs/\xs.length+zs.length<=bL/\Q .non (gO H l (.lst (xs++zs)))
def N7:MtM X "list.extend" (aCp X.K):=by
 intro pins s σ H x vs v us Q I rx rv h;obtain⟨l,b,xs,zs,rfl,rfl,hH,hB,hz,q⟩:=h;cases rx;obtain⟨u,rfl,ru⟩:=rv.one;cases ru;obtain⟨z,its,n,r,hl,e⟩:=I.lstM hH;obtain⟨its2,r2,⟨o,n2,e2,hc,hdn,hd⟩,z2⟩:=I.list hB;have hl2:=r2.length;have hsz:its.toArray.size+its2.toArray.size<=bL:=by rw[bF,bF];omega
 have hlong:¬(!its.toArray.isEmpty&&Builtin.List.listTooLong (its.toArray.size+its2.toArray.size))=true:=by
  rw[UC hsz,Bool.and_false];exact bE
 obtain⟨oc,od,odt,osl⟩:=o;cases hc;cases hd;refine call_meets F.slot_list_extend ⟨_,e,rfl⟩ F.entry_list_extend (F.args_list_extend_2 _ _) (L4 l its.toArray n b its2.toArray n2 od osl hlong (by rw[bF];omega) (by omega)) ⟨e,e2,?_⟩;refine⟨.non,_,I.lset (its':=its++its2) hH e (by simp) (r.append r2) ?_,rfl,q⟩;rw[aV];omega
end
end L2
namespace TL
open L2
section
variable{X:Cx}{e:Expr}{ta te:ET}{pos:Pos}
def aCk(i:Nat)(te:ET):vE:=λDT σ=>∃ts,σ[i]?=some (.own ts)/\te σ λd=>∃us,d=.list us/\ts.length+us.length<=100000/\DT.nx (σ.set i (.own (ts++us)))
def ND{i:Nat}{n e te ap cp}(hn:PE X n (pL i))(he:hW X e te)(hs:bN [e] X.env=(false,eval e X.env)::bN [] X.env:=by rfl)
  (pb:∀{ta},PA X [e] ta->PS X (.Expr (.Call (.Attribute n "extend" ap) [e] [] cp) pos) (HN (XF X.K "list" (aCp X.K) (pL i) ta))):A7 X (.Expr (.Call (.Attribute n "extend" ap) [e] [] cp) pos) (aCk i te):=by
 obtain⟨v,p,r⟩:=he;refine⟨_,pb (fY p jG hs),λB p0 H ps σT σ DT DV o h f=>?_⟩;obtain⟨ts,e,h⟩:=h;obtain⟨q,xs,h1,h2,h3,h4,h5,h6⟩:=o.own i ts e;refine⟨.ref q,h1,.inl ⟨rfl,xs,mZ.of h5⟩,r B p0 H ps σT σ _ _ o h λd x H1 s1 r1 q1=>?_⟩;obtain⟨us,rfl,hz,q1⟩:=q1;have o1:=o.grow s1
 cases r1 with
 |@list p2 zs _ hq rs=>
  refine⟨q,p2,xs,zs,rfl,rfl,s1 _ _ h5,L2.bJ.seq bS hq,zO (by rw[<- h6.length,<- rs.length];exact hz),?_⟩;have hr:Reps X.K (mask H1 ps) (ts++us) (xs++zs):=(h6.same (bQ s1)).append rs;exact f.nx _ ps _ σ (o1.write (ys:=xs++zs) e h1 hr) ((bQ s1).trans (by rw[gR h2];exact L2.bJ.refl _)) q1
def VH{P w K}{mg:Str->Option Value}{base}{k:Nat}{f:Addr}{fd pn}:dD P w K mg base gA k f fd pn (cO K λ_ _=>False):=
 ⟨λvs H Q E ⟨_,_,_,_,_,h,_⟩=>h.elim,λA outer s H args us vs Q E _ _ _ _ ⟨_,_,_,_,_,h,_⟩=>h.elim⟩
def aMo(d:D)(Q:D->Prop):Prop:=∃ns:List Int,d=.list (ns.map aH)/\ns≠[]/\∀m,m∈ns->(∀n∈ns,n<=m)->Q (.int m)
end
end TL
namespace L2
section
variable{X:Cx}
def qG(hc:X.calm=true):jE X (.builtin "max") (λxs H Q=>∃(p:Addr)(ns:List Int),xs=[.ref p]/\mZ X.K H p (ns.map V.int)/\ns≠[]/\∀m,m∈ns->(∀n∈ns,n<=m)->Q (.int m) H):=by
 intro pins s σ H xs us Q I r h;obtain⟨p,ns,rfl,hq,hne0,q⟩:=h;obtain⟨u,rfl,rx⟩:=nM r;cases rx;obtain⟨its,rv,pl,hz⟩:=I.list hq;have hlen:=rv.length;rw[aB]at hlen;have hpos:0<ns.length:=RN.mpr hne0
 have hne:p≠s.heap.objs.size:=by
  obtain⟨o,ho,_⟩:=pl.isList;exact bO (bI ho)
 have hl1:=pl.isList
 have hplt:p<s.heap.objs.size:=by
  obtain⟨o,ho,_⟩:=hl1;exact bI ho
 have hval:∀(i:Nat)(v:Value),its.toArray[i]?=some v->∃t,v=.int ((ns[i]?).getD 0) t:=λi v hP=>by
  have hv:its[i]?=some v:=by simpa using hP
  have hi:i<its.length:=(aG.mp hv).1;have hb:i<ns.length:=by omega
  obtain⟨w',h1,h2⟩:=rv.get (i:=i) (x:=.int ns[i]) (by rw[aI,aF hb];rfl);rw[hv]at h1;cases h1;rw[aF hb];exact h2
 refine call_max_walk (wpAny_pyIter_list hl1 ?_);refine⟨_,_,_,_,_,_,_,rfl,Walks.list (A:=X.A.in1) (I.ok.hd hc) _ p hne its.toArray,⟨⟨_,aS _ rfl,rfl,rfl⟩,hl1.push _⟩,λb hb=>?_,by rw[bF];omega,CmpOf.ints_gt (λi=>(ns[i]?).getD 0) hval,λv h' tk hP hk=>?_⟩
 ·show b<(s.heap.push _).objs.size;rw[eO];have:b=s.heap.objs.size\/b=p:=by simpa using hb
  rcases this with rfl | rfl
  ·exact eI _
  ·exact eJ hplt
 ·obtain⟨t,rfl⟩:=hval _ _ hP;have hb:=argBest_gt (λi=>(ns[i]?).getD 0) (its.toArray.size-1);have hsz:its.toArray.size=ns.length:=by rw[bF];omega
  have hi:argBest (λi j=>decide ((ns[i]?).getD 0>(ns[j]?).getD 0)) (its.toArray.size-1)<ns.length:=by have:=hb.1;omega
  refine⟨.int _,H,I.kept λb o e=>hk b o ?_ (aJ _ e),⟨t,rfl⟩,q _ ?_ λn hn=>?_⟩
  ·intro z;have:b=s.heap.objs.size:=by simpa using z
   exact absurd (bI e) (by rw[this];exact iI _)
  ·rw[aF hi];exact fA hi
  ·obtain⟨j,hj,rfl⟩:=vI.mp hn;have:=hb.2 j (by omega);rw[aF hj]at this;exact this
end
end L2
namespace TL
open L2
section
variable{X:Cx}{e:Expr}
def V9:oH X (λxs H Q=>∃(p:Addr)(ns:List Int),xs=[.ref p]/\mZ X.K H p (ns.map V.int)/\ns≠[]/\∀m,m∈ns->(∀n∈ns,n<=m)->Q (.int m) H) (f1 aMo):=c1 λH ps d x Q QV live r h k=>by
 obtain⟨ns,rfl,hne,h⟩:=h
 cases r with
 |list q s=>
  have e:=qR s;subst e;exact⟨_,ns,rfl,L2.bJ.seq bS q,hne,λm hm hn=>k _ _ H (L2.bJ.refl H) (.int _) (h m hm hn)⟩
end
def Ok.setUn{K B H p0 ps}{σT:List Sl}{σ:L2.St}(o:Ok K B p0 H ps σT σ){i:Nat}{v}:Ok K B p0 H ps (σT.set i .un) (σ.set i (some v)) where
 base:=o.base
 sub:=o.sub
 live:=o.live
 len:=by simpa using o.len
 val:=λj d' h=>by
  by_cases e:i=j
  ·subst e
   have hi:i<σT.length:=by
    have:=(aG.mp h).1;simpa using this
   rw[bD hi]at h;cases h
  ·rw[bA e]at h |-
   exact o.val j d' h
 own:=λj ts h=>by
  by_cases e:i=j
  ·subst e
   have hi:i<σT.length:=by
    have:=(aG.mp h).1;simpa using this
   rw[bD hi]at h;cases h
  ·rw[bA e]at h |-
   exact o.own j ts h
 dis:=λj k ts us p h1 h2 h3 h4=>by
  have ne:∀{l:Nat}{ts:List D},(σT.set i .un)[l]?=some (.own ts)->i≠l:=λ{l ts} h e=>by
   subst e
   have hi:i<σT.length:=by
    have:=(aG.mp h).1;simpa using this
   rw[bD hi]at h;cases h
  have e1:=ne h1;have e2:=ne h2;rw[bA e1]at h1 h3;rw[bA e2]at h2 h4;exact o.dis j k ts us p h1 h2 h3 h4
 dc:=o.dc.setS λ_ _ z=>nomatch z
end TL
namespace L2
open PySem.SeqAt
section
variable{X:Cx}
theorem tF(ns:List Int):∀k:Nat,preSum (λi=>(ns[i]?).getD 0) k=(ns.take k).sum
|0=>rfl
|k+1=>by
 show preSum _ k+(ns[k]?).getD 0=_;rw[tF ns k,cP,List.sum_append]
 cases ns[k]? with
 |none=>simp
 |some x=>simp
theorem DW:∀ns:List Int,(∀n∈ns,0<=n/\n<2^40)->0<=ns.sum/\ns.sum<=(ns.length:Int)*2^40
|[],_=>by simp
|n::ns,h=>by
 have h1:=h n (aR ..);have h2:=DW ns λx hx=>h x (aM _ hx);rw[aGo,cU];constructor
 ·omega
 ·have:((ns.length+1:Nat):Int)*2^40=(ns.length:Int)*2^40+2^40:=by rw[DQ,Int.add_mul];rfl
  omega
def DA(hc:X.calm=true):jE X (.builtin "sum") (λxs H Q=>∃(p:Addr)(ns:List Int),xs=[.ref p]/\mZ X.K H p (ns.map V.int)/\(∀n∈ns,0<=n/\n<2^40)/\ns.length<=1000/\Q (.int ns.sum) H):=by
 intro pins s σ H xs us Q I r h;obtain⟨p,ns,rfl,hq,hsm,hlen0,q⟩:=h;obtain⟨u,rfl,rx⟩:=nM r;cases rx;obtain⟨its,rv,pl,hz⟩:=I.list hq;have hlen:=rv.length;rw[aB]at hlen
 have hne:p≠s.heap.objs.size:=by
  obtain⟨o,ho,_⟩:=pl.isList;exact bO (bI ho)
 have hl1:=pl.isList
 have hplt:p<s.heap.objs.size:=by
  obtain⟨o,ho,_⟩:=hl1;exact bI ho
 have hval:∀(i:Nat)(v:Value),its.toArray[i]?=some v->∃t,v=.int ((ns[i]?).getD 0) t:=λi v hP=>by
  have hv:its[i]?=some v:=by simpa using hP
  have hi:i<its.length:=(aG.mp hv).1;have hb:i<ns.length:=by omega
  obtain⟨w',h1,h2⟩:=rv.get (i:=i) (x:=.int ns[i]) (by rw[aI,aF hb];rfl);rw[hv]at h1;cases h1;rw[aF hb];exact h2
 have small:∀k:Nat,0<=(ns.take k).sum/\(ns.take k).sum<2^63:=λk=>by
  have h1:=DW (ns.take k) λn hn=>hsm n (eT hn);have h2:(ns.take k).length<=1000:=by rw[bC];omega
  have h3:((ns.take k).length:Int)*2^40<=1000*2^40:=Int.mul_le_mul_of_nonneg_right (by omega) (by decide);omega
 refine call_sum_walk (wpAny_pyIter_list hl1 ?_);refine⟨_,_,_,_,_,_,λi=>(ns[i]?).getD 0,rfl,Walks.list (A:=X.A.in1) (I.ok.hd hc) _ p hne its.toArray,⟨⟨_,aS _ rfl,rfl,rfl⟩,hl1.push _⟩,λb hb=>?_,hval,λj hj=>?_,λh' tk t' hk=>?_⟩
 ·show b<(s.heap.push _).objs.size;rw[eO];have:b=s.heap.objs.size\/b=p:=by simpa using hb
  rcases this with rfl | rfl
  ·exact eI _
  ·exact eJ hplt
 ·rw[bF]at hj;have hj':j<ns.length:=by omega
  refine⟨?_,?_⟩
  ·have:=hsm ns[j] (fA hj');show InLong ((ns[j]?).getD 0);rw[aF hj'];show -(2^63)<=ns[j]/\ns[j]<2^63;omega
  ·rw[tF];have:=small (j+1);show -(2^63)<=_/\_<2^63;omega
 ·refine⟨.int _,H,I.kept λb o e=>hk b o ?_ (aJ _ e),⟨t',rfl⟩,?_⟩
  ·intro z;have:b=s.heap.objs.size:=by simpa using z
   exact absurd (bI e) (by rw[this];exact iI _)
  ·rw[tF,fW (by rw[bF];omega)];exact q
end
end L2
namespace TL
open L2 PySem.SeqAt
variable{K:aL}
def aGm(K:aL)(a:Addr)(ys:List Str):Prop:=∃(o:Obj)(its:Array Value)(n:Nat),K.lookup a=some o/\o.cls=.type "tuple"/\o.dict=none/\o.data=.seq its n/\its.size<=bL/\fS (ys.map V.str) its.toList
theorem BM{H}:∀ys:List Str,Reps K H (ys.map aY) (ys.map V.str)
|[]=>.nil
|y::ys=>.cons (.str y) (BM ys)
section
variable{X:Cx}{e:Expr}{es:List Expr}{ta te:ET}{pos:Pos}
def ZL{x:Str}{p:Addr}{ys:List Str}{pos}(hg:Gl X x)(hm:X.mg x=some (.ref p))(hk:aGm X.K p ys)(hd:(x==("__debug__":Str))=false:=by decide):hW X (.Name x pos) (eC (.tuple (ys.map aY))):=
 ⟨_,N0 (v:=.ref p) hg hm rfl hd,λ_ _ H _ _ _ _ _ _ h k=>k _ _ H (L2.bJ.refl H) (.tuple (.inr hk) (BM ys)) h⟩
def aMn(d:D)(Q:D->Prop):Prop:=∃ns:List Int,d=.list (ns.map aH)/\(∀n∈ns,0<=n/\n<2^40)/\ns.length<=1000/\Q (.int ns.sum)
def aKb:oH X (λxs H Q=>∃(p:Addr)(ns:List Int),xs=[.ref p]/\mZ X.K H p (ns.map V.int)/\(∀n∈ns,0<=n/\n<2^40)/\ns.length<=1000/\Q (.int ns.sum) H) (f1 aMn):=c1 λH ps d x Q QV live r h k=>by
 obtain⟨ns,rfl,hs,hl,h⟩:=h
 cases r with
 |list q s=>
  have e:=qR s;subst e;exact⟨_,ns,rfl,L2.bJ.seq bS q,hs,hl,k _ _ H (L2.bJ.refl H) (.int _) h⟩
def FW(K:aL):V->List V->Hp->VK->Prop:=λx xs H Q=>∃(y:V)(ts:List D)(d:D)(j:Nat),xs=[y]/\gG K H (.list ts) x/\gG K H d y/\P8 ts d j/\j<1000000/\Q (.int j) H
def LK(hu:X.A.units+200<cLine):MtR X "list.index" (FW X.K):=by
 intro pins s σ H x xs v us Q I rx rv h;obtain⟨y,ts,d,j,rfl,r1,r2,⟨c1,c2,hm,⟨t,ht,he⟩,hno⟩,hj0,q⟩:=h;obtain⟨u,rfl,ru⟩:=rv.one;obtain⟨as,h1⟩:=gG.reads I (show(KH ts).hasDict=false from noDictAll c1) r1 rx;obtain⟨bs,h2⟩:=gG.reads I (nF c2) r2 ru
 cases h1 with
 |@list l o items n _ as' h3 h4 h5 h6=>
  have hmap:=readsAll_map ts items.toList _ c1 h6;have hlen:items.size=ts.length:=by rw[<- hmap,aB,aP]
  have hjl:j<ts.length:=(aG.mp ht).1;have hj:j<items.size:=by omega
  have rd:∀(m:Nat)(hm:m<items.size),ts[m]?=some (readOf s.heap items[m]):=λm hm=>by
   rw[<- hmap,aI];simp[hm]
  obtain⟨oc,od,odt,osl⟩:=o;cases h4;cases h5;refine call_meets F.slot_list_index ⟨_,h3,rfl⟩ F.entry_list_index (F.args_list_index_2 _ _) (list_indexAt _ items _ od osl u (λy=>cG (readOf s.heap y) d) j hj (by omega) ?_ ?_) ⟨h3,items_eqAt h6 h2 c1 c2 (by have:=hu;omega),?_⟩
  ·have:=rd j hj;rw[ht]at this;rw[<- Option.some.inj this];exact he
  ·intro m hm' hlt;exact hno m _ hlt (rd m hm')
  ·exact⟨.int j,H,I.tok _,⟨_,rfl⟩,q⟩
def EB{k:Nat}(hr:Room k X.A):MtR X "list.index" (FW X.K):=LK (by have:=hr.un;omega)
def GJ(te:ET)(t:AT):ET:=λσ Q=>te σ λd=>∃ts,d=.list ts/\t σ λds=>∃(x:D)(j:Nat),ds=[x]/\P8 ts x j/\j<1000000/\Q (.int j)
def ER{n ap t}(hn:hW X n te)(ha:CP X (e::es) t)
  (pc:∀{v ta},PE X n v->PA X (e::es) ta->PE X (.Call (.Attribute n "index" ap) (e::es) [] pos) (XF X.K "list" (FW X.K) v ta)):hW X (.Call (.Attribute n "index" ap) (e::es) [] pos) (GJ te t):=by
 obtain⟨v,pe,re⟩:=hn;obtain⟨va,pa,ra⟩:=ha;refine⟨_,pc pe pa,λB p0 H ps σT σ Q QV o h k=>re B p0 H ps σT σ _ _ o h λd x H1 s1 r1 q1=>?_⟩;obtain⟨ts,rfl,q1⟩:=q1
 cases r1 with
 |@list p xs _ hq rs=>
  refine⟨.inl ⟨rfl,_,L2.bJ.seq bS hq⟩,ra B p0 H1 ps σT σ _ _ (o.grow s1) q1 λds ys H2 s2 r2 q2=>?_⟩;obtain⟨d,j,rfl,hok,hj,q⟩:=q2
  cases r2 with
  |cons r3 r4=>
   cases r4;exact⟨_,ts,d,j,rfl,(gG.list hq rs).same ((bQ s2).trans bS),r3.same bS,hok,hj,k _ _ H2 (s1.trans s2) (.int _) q⟩
def aJc(ts:List D)(d:D):Prop:=dP ts=true/\d.canLay0=true/\min (bU ts) d.depth<=60
def FX(K:aL):V->List V->Hp->VK->Prop:=λx xs H Q=>∃(y:V)(ts:List D)(d:D),xs=[y]/\gG K H (.list ts) x/\gG K H d y/\aJc ts d/\Q (.int ((ts.countP λt=>cG t d:Nat):Int)) H
def LL(hu:X.A.units+200<cLine):MtR X "list.count" (FX X.K):=by
 intro pins s σ H x xs v us Q I rx rv h;obtain⟨y,ts,d,rfl,r1,r2,⟨c1,c2,hm⟩,q⟩:=h;obtain⟨u,rfl,ru⟩:=rv.one;obtain⟨as,h1⟩:=gG.reads I (show(KH ts).hasDict=false from noDictAll c1) r1 rx;obtain⟨bs,h2⟩:=gG.reads I (nF c2) r2 ru
 cases h1 with
 |@list l o items n _ as' h3 h4 h5 h6=>
  have hmap:=readsAll_map ts items.toList _ c1 h6;obtain⟨oc,od,odt,osl⟩:=o;cases h4;cases h5;refine call_meets F.slot_list_count ⟨_,h3,rfl⟩ F.entry_list_count (F.args_list_count_2 _ _) (list_countAt _ items _ od osl u (λy=>cG (readOf s.heap y) d)) ⟨h3,items_eqAt h6 h2 c1 c2 (by have:=hu;omega),?_⟩;refine⟨.int _,H,I.tok _,⟨_,rfl⟩,?_⟩
  have e:(items.toList.countP λy=>cG (readOf s.heap y) d)=ts.countP λt=>cG t d:=by
   rw[<- hmap,aAq];rfl
  rw[e];exact q
def ED{k:Nat}(hr:Room k X.A):MtR X "list.count" (FX X.K):=LL (by have:=hr.un;omega)
def ZZ(te:ET)(t:AT):ET:=λσ Q=>te σ λd=>∃ts,d=.list ts/\t σ λds=>∃x:D,ds=[x]/\aJc ts x/\Q (.int ((ts.countP λt=>cG t x:Nat):Int))
def ES{n ap t}(hn:hW X n te)(ha:CP X (e::es) t)
  (pc:∀{v ta},PE X n v->PA X (e::es) ta->PE X (.Call (.Attribute n "count" ap) (e::es) [] pos) (XF X.K "list" (FX X.K) v ta)):hW X (.Call (.Attribute n "count" ap) (e::es) [] pos) (ZZ te t):=by
 obtain⟨v,pe,re⟩:=hn;obtain⟨va,pa,ra⟩:=ha;refine⟨_,pc pe pa,λB p0 H ps σT σ Q QV o h k=>re B p0 H ps σT σ _ _ o h λd x H1 s1 r1 q1=>?_⟩;obtain⟨ts,rfl,q1⟩:=q1
 cases r1 with
 |@list p xs _ hq rs=>
  refine⟨.inl ⟨rfl,_,L2.bJ.seq bS hq⟩,ra B p0 H1 ps σT σ _ _ (o.grow s1) q1 λds ys H2 s2 r2 q2=>?_⟩;obtain⟨d,rfl,hok,q⟩:=q2
  cases r2 with
  |cons r3 r4=>
   cases r4;exact⟨_,ts,d,rfl,(gG.list hq rs).same ((bQ s2).trans bS),r3.same bS,hok,k _ _ H2 (s1.trans s2) (.int _) q⟩
end
end TL
namespace TL
def aF6:bootBuiltins "sum"=some (.builtin "sum"):=by decide +kernel
end TL
namespace L2
open PySem.Builtin
section
variable{X:Cx}{e:Expr}
def BL(r:Addr)(j:Int)(h:Heap):Prop:=∃t u v,IsRange h r 0 j 1 t u v
def JW:jE X (.type "range") (λxs H Q=>∃j:Int,xs=[.int j]/\∀r,H r=none->Q (.ref r) (gO H r (.ext (BL r j)))):=by
 intro pins s σ H xs us Q I r h;obtain⟨j,rfl,q⟩:=h;obtain⟨u,rfl,ru⟩:=nM r;obtain⟨t,rfl⟩:=ru;refine call_range_1 ⟨.ref s.heap.objs.size,_,I.laid (t':=s.toks+1+1) (o:=.ext (BL s.heap.objs.size j)) (λb u e=>aJ _ e) (aO _) ?_,rfl,q _ (I.hok.fresh (aO _))⟩;exact⟨⟨_,_,_,aS _ rfl⟩,⟨_,aS _ rfl⟩,λh1 h2 ⟨t,u,v,z⟩ k=>⟨t,u,v,k _ z⟩⟩
theorem HH:∀(n a:Nat)(us:List Value),us.length=n->(∀(j:Nat) v,us[j]?=some v->∃t,v=.int ((a+j:Nat):Int) t)->fS ((O9 a n).map λ(k:Nat)=>V.int (k:Int)) us
|0,_,us,hl,_=>by rw[mW.mp hl];exact .nil
|n+1,a,us,hl,h=>by
 match us,hl with
 |u::us,hl=>
  rw[W3,aX];obtain⟨t,ht⟩:=h 0 u rfl;refine .cons ⟨t,by rw[ht];rfl⟩ (HH n (a+1) us (by simpa using hl) λj v hv=>?_);obtain⟨t',ht'⟩:=h (j+1) v (by simpa using hv);exact⟨t',by rw[ht'];congr 2;omega⟩
theorem OH:∀{ns:List Int}{us},fS (ns.map V.int) us->IntsAre us ns
|[],_,r=>by rw[iH]at r;cases r;exact .nil
|n::ns,us,r=>by
 rw[aX]at r
 cases r with
 |cons r1 r2=>
  obtain⟨t,rfl⟩:=r1;exact .cons n t (OH r2)
theorem N5:∀{ns:List Int}{us},IntsAre us ns->fS (ns.map V.int) us
|_,_,.nil=>.nil
|_,_,.cons n t r=>.cons ⟨t,rfl⟩ (N5 r)
end
end L2
namespace TL
open L2
section
theorem IG{K H}:∀l:List Nat,Reps K H (l.map λ(k:Nat)=>aH (k:Int)) (l.map λ(k:Nat)=>V.int (k:Int))
|[]=>.nil
|k::l=>.cons (.int _) (IG l)
theorem NM{K H}:∀l:List Int,Reps K H (l.map aH) (l.map V.int)
|[]=>.nil
|k::l=>.cons (.int _) (NM l)
def RE:bootBuiltins "sorted"=some (.builtin "sorted"):=by decide +kernel
def WD:bootBuiltins "range"=some (.type "range"):=by decide +kernel
end
section
variable{X:Cx}{e:Expr}{es:List Expr}{te:ET}{pos:Pos}
inductive aAm:List Expr->List Str->Prop
|nil:aAm [] []
|cons {z:Str} {x1:Nat} {p:Pos} {es:List Expr} {zs:List Str}:aAm es zs->aAm (.Constant (.str z) x1 p::es) (z::zs)
def RF{es:List Expr}{zs:List Str}(h:aAm es zs):CP X es (λ_ Q=>Q (zs.map aY)):=by
 induction h with
 |nil=>exact aU
 |cons _ ih=>exact aD jT ih
def NB{i:Nat}{x pos'}(hN:X.N.Nodup)(hi:X.N[i]?=some x)(hx:RH X.env.scope x)(he:hW X e te)(hs:iM e (some (.Name x pos')) pos.line X.env=pure false:=by rfl)(hf:X.fn x=true\/X.env.scope.names.lookup x=some .local:=by first | exact .inl rfl | exact .inr rfl | assumption) :
  A7 X (.Assign [.Name x pos'] e pos) (BJ i te):=SK he λh=>tE hN hi hx h hs hf
end
noncomputable def vS(s:Stmt)(j:Nat):Stmt:=match s with
|.ClassDef _ _ _ b _ _ _ _ _ _ _=>b.getD j (.Pass ⟨0,0,0,0⟩)
|_=>.Pass ⟨0,0,0,0⟩
noncomputable def LU(C:Addr)(ns:List Str)(ds:List D):D:=.dict [(.str "obj",.tuple [.int (C:Nat),.list (ns.map aY),.list ds])]
theorem HP:∀{xs ys:List Str},xs.map aY=ys.map aY->xs=ys
|[],[],_=>rfl
|[],_::_,h=>by cases h
|_::_,[],h=>by cases h
|x::xs,y::ys,h=>by
 rw[aX,aX]at h;injection h with h1 h2
 injection h1 with h1
 rw[h1,HP h2]
def NN{K}{H:Hp}{C:Addr}{ns ds v}(r:gG K H (LU C ns ds) v):∃(p dx:Addr)(fs:List (Str×V)),v=.ref p/\H p=some (.ins C dx fs)/\fs.map (·.1)=ns/\Reps K H ds (fs.map (·.2)):=by
 unfold LU at r
 generalize hg:(AL [(.str "obj",.tuple [.int (C:Nat),.list (ns.map aY),.list ds])])=d at r
 cases r with
 |@ins p C' dx fs ds' h1 h2=>
  injection hg with hg
  injection hg with hg _
  injection hg with _ hg
  injection hg with hg
  injection hg with g1 hg
  injection hg with g2 hg
  injection hg with g3 _
  injection g1 with g1
  injection g2 with g2
  injection g3 with g3
  obtain rfl:C=C':=wE.inj g1;subst g3;exact⟨p,dx,fs,rfl,h1,(HP g2).symm,h2⟩
 |@dct p es ep kvs h1 h2 h3 h4=>
  injection hg with hg
  injection hg with hg _
  injection hg with hg _
  injection hg with hg
  exact absurd hg (by decide +kernel)
 |addr z=>
  injection hg with hg
  injection hg with hg _
  injection hg with hg _
  injection hg with hg
  exact absurd hg (by decide +kernel)
 |_=>cases hg
theorem BZ{K H f x}:∀{fs:List (Str×V)}{ds},Reps K H ds (fs.map (·.2))->((fs.map (·.1)).zip ds).lookup f=some x->∃v,fs.lookup f=some v/\gG K H x v
|[],_,_,h=>by cases h
| (g,u)::fs,ds,r,h=>by
 cases r with
 |@cons t ts _ _ r1 r2=>
  show∃v,(match f==g with | true=>some u | false=>fs.lookup f)=some v/\_;have h':(match f==g with | true=>some t | false=>((fs.map (·.1)).zip ts).lookup f)=some x:=h
  cases hb:f==g with
  |true=>
   rw[hb]at h';cases h';exact⟨u,rfl,r1⟩
  |false=>
   rw[hb]at h';exact BZ r2 h'
theorem zN{f}:∀{fs:List (Str×V)},f∉fs.map (·.1)->fs.lookup f=none
|[],_=>rfl
| (g,u)::fs,h=>by
 have hg:(f==g)=false:=beq_eq_false_iff_ne.mpr λz=>h (by rw[z];exact aR ..);show(match f==g with | true=>some u | false=>fs.lookup f)=none;rw[hg];exact zN λz=>h (aM _ z)
section
variable{X:Cx}{o e:Expr}{es:List Expr}{te:ET}{pos apos:Pos}
def aM0(K:aL)(f:Str)(te:ET):ET:=λσ Q=>te σ λd=>∃(C:Addr)(ns:List Str)(ds:List D)(x:D),d=LU C ns ds/\RX K C/\mS K C f/\(ns.zip ds).lookup f=some x/\Q x
def yU{K f}(hK:X.K=K)(he:hW X e te)(hb:attributeBase e f X.env (eval e X.env)=eval e X.env:=by rfl):hW X (.Attribute e f pos) (aM0 K f te):=by
 subst hK;obtain⟨v,p,r⟩:=he;refine⟨_,aEx p hb,λB p0 H ps σT σ Q QV o h k=>r B p0 H ps σT σ _ _ o h λd x H1 s1 r1 q1=>?_⟩;obtain⟨C,ns,ds,y,rfl,hc,hn,hl,q⟩:=q1;obtain⟨a,dx,fs,rfl,h1,rfl,h2⟩:=NN r1;obtain⟨w,hw,rw'⟩:=BZ h2 hl;exact⟨a,C,dx,fs,w,rfl,bS _ _ h1,hc,hn,hw,k _ _ H1 s1 rw' q⟩
def aFu(C:Addr)(m:Str)(sp:uM)(te:ET)(t:AT):ET:=λσ Q=>te σ λd=>∃(ns:List Str)(ds:List D),d=LU C ns ds/\m∉ns/\t σ λas=>sp (d::as) Q
def B6{C:Addr}{m sp t}(he:hW X o te)(ha:CP X (e::es) t)
  (pc:∀{v ta},PE X o v->PA X (e::es) ta->PE X (.Call (.Attribute o m apos) (e::es) [] pos) (aAs C m (cO X.K sp) [] E0 v ta)):hW X (.Call (.Attribute o m apos) (e::es) [] pos) (aFu C m sp te t):=by
 obtain⟨v,pe,re⟩:=he;obtain⟨va,pa,ra⟩:=ha;refine⟨_,pc pe pa,λB p0 H ps σT σ Q QV o h k=>re B p0 H ps σT σ _ _ o h λd x H1 s1 r1 q1=>?_⟩;obtain⟨ns,ds,rfl,hm,q1⟩:=q1;obtain⟨a,dx,fs,rfl,h1,rfl,h2⟩:=NN r1;refine⟨a,dx,fs,rfl,bS _ _ h1,zN hm,ra B p0 H1 ps σT σ _ _ (o.grow s1) q1 λas xs H2 s2 r2 q2=>?_⟩;show cO X.K sp (.ref a::(xs++[])) H2 QV E0;rw[dL];exact⟨ps,LU C (fs.map (·.1)) ds::as,Q,((o.grow s1).grow s2).live,.cons (r1.same (bQ s2)) r2,q2,λd v H' s' r' q'=>k d v H' (s1.trans (s2.trans s')) r' q'⟩
end
end TL
namespace L2
noncomputable instance decD:DecidableEq PyData:=λ_ _=>Classical.propDecidable _
mutual
def hk:PyData->Bool
|.none=>true
|.int _=>true
|.str x=>(aY x).canLay0
|.tuple xs=>hkAll xs
|.bool _=>false
|.list _=>false
|.dict _=>false
def hkAll:List PyData->Bool
|[]=>true
|x::xs=>hk x&&hkAll xs
end
mutual
def eF(w:World):PyData->Int
|.none=>0xFCA86420
|.int i=>hashInt i
|.str x=>hashStr w x
|.tuple xs=>reduceHash (Builtin.Tuple.tupleHashOf (hashDs w xs))
|.bool _=>0
|.list _=>0
|.dict _=>0
def hashDs(w:World):List PyData->List Int
|[]=>[]
|x::xs=>eF w x::hashDs w xs
end
mutual
def oC:PyData->Nat
|.tuple xs=>hdrawsAll xs+1
|.none=>1
|.int _=>1
|.str _=>1
|.bool _=>1
|.list _=>1
|.dict _=>1
def hdrawsAll:List PyData->Nat
|[]=>0
|x::xs=>oC x+hdrawsAll xs
end
section
variable{prog:bX}{w:World}{A:Around}{E:Value->Shared->Prop}{s:Shared}
def K8{Q:Int->Shared->Prop}(h:Q 0xFCA86420 { s with toks:=s.toks+1 }):wpAny (model prog w) A (pyHash .none) Q E s:=by
 have hT:s.TypeIs .none "NoneType":=rfl;unfold pyHash pyHashByItsType;refine aA (wpAny_cRoomFor_byValue rfl ?_);refine aA (wpAny_specialOf hT kU.lookup ?_);show wpAny _ _ (if(some (Value.builtin "NoneType.__hash__")==some Value.none)=true then _ else _) Q E s;rw[if_neg (by rw[beq_builtin_none];exact bE)];refine aA (wpAny_specialOf hT kU.lookup ?_);show wpAny _ _ (callSpecialIfBoundUnlessNone? .none "__hash__" _ >>= _) Q E s;refine aA (wpAny_callSpecialIfBoundUnlessNone?_slot hT kU (dB kU hT PySem.F.entry_NoneType_hash (show wpAny _ _ (do ret (<- mkInt 0xFCA86420)) _ _ s from wpAny_ret_mkInt ?_) (PySem.F.args_NoneType_hash_1 _)));show wpAny _ _ (if(decide (-(2:Int)^63<=0xFCA86420)&&decide ((0xFCA86420:Int)<2^63))=true then _ else _) Q E _;rw[if_pos (by decide)];exact aE h
def zF(prog:bX)(w:World)(A:Around)(s:Shared)(d:PyData)(v:Value):Prop:=∀(tk:Nat)E(Q:Int->Shared->Prop),Q (eF w d) { s with toks:=tk+oC d }->wpAny (model prog w) A (pyHash v) Q E { s with toks:=tk }
def VD{xs}{a:Addr}{o:Obj}{items:Array Value}{n:Nat}(hu:A.units<cLine)(ho:s.heap.get? a=some o)(hc:o.cls=.type "tuple")(hd:o.data=.seq items n)(hi:Paired (zF prog w A.in1 s) xs items.toList):zF prog w A s (.tuple xs) (.ref a):=by
 intro tk E Q h;have hT:Shared.TypeIs { s with toks:=tk } (.ref a) "tuple":=⟨o,ho,hc⟩;unfold pyHash
 first | unfold pyHashByItsType | skip
 refine aA (wpAny_cRoomFor_or (.inr hu) ?_);refine aA (wpAny_specialOf hT jV.lookup ?_);show wpAny _ _ (if(some (Value.builtin "tuple.__hash__")==some Value.none)=true then _ else _) Q E _;rw[if_neg (by rw[beq_builtin_none];exact bE)];refine aA (wpAny_specialOf hT jV.lookup ?_);show wpAny _ _ (callSpecialIfBoundUnlessNone? (.ref a) "__hash__" _ >>= _) Q E _;refine aA (wpAny_callSpecialIfBoundUnlessNone?_slot hT jV (dB jV hT PySem.F.entry_tuple_hash ?_ (PySem.F.args_tuple_hash_1 _)));show wpAny _ _ (Builtin.Tuple.tupleItemsOf (.ref a) >>= _) _ _ _;refine aA (wpAny_tupleItemsOf ho hd ?_);refine aA ?_;rw[<- pP];refine wpAny_forIn_list _ (λfT (b:Array Int) s'=>∃done left:List PyData,xs=done++left/\Paired (zF prog w A.in1 s) left fT/\b.toList=hashDs w done/\s'={ s with toks:=tk+hdrawsAll done }) _ ?_ ?_ _ _ ⟨[],xs,rfl,hi,rfl,rfl⟩
 ·rintro x fT b s' ⟨done,left,rfl,hl,hb,rfl⟩
  cases hl with
  |@cons d _ left' _ h1 hl'=>
   have e1:∀ys:List PyData,hashDs w (ys++[d])=hashDs w ys++[eF w d]:=λys=>by
    induction ys with
    |nil=>rfl
    |cons y ys ih=>show eF w y::hashDs w (ys++[d])=_;rw[ih];rfl
   have e2:∀ys:List PyData,hdrawsAll (ys++[d])=hdrawsAll ys+oC d:=λys=>by
    induction ys with
    |nil=>show oC d+0=0+oC d;omega
    |cons y ys ih=>show oC y+hdrawsAll (ys++[d])=oC y+hdrawsAll ys+oC d;rw[ih];omega
   have fin:∃done' left'':List PyData,done++d::left'=done'++left''/\Paired (zF prog w A.in1 s) left'' fT/\(b.push (eF w d)).toList=hashDs w done'/\({ s with toks:=tk+hdrawsAll done+oC d }:Shared)={ s with toks:=tk+hdrawsAll done' }:=
    ⟨done++[d],left',by simp,hl',by rw[e1,qN,hb],by rw[e2,KA]⟩
   refine aA (h1 _ _ _ ?_)
   first
    |exact aE fin
    |exact aA (aE (aE fin))
 ·rintro b s' ⟨done,left,rfl,hl,hb,rfl⟩;cases hl;rw[dL]at h;show wpAny _ _ (retInt (Builtin.Tuple.tupleHashOf b.toList)) _ _ _;rw[hb];refine wpAny_ret_mkInt ?_;have h':Q (reduceHash (Builtin.Tuple.tupleHashOf (hashDs w done))) { s with toks:=tk+(hdrawsAll done+1) }:=h;show wpAny _ _ (if(decide (-(2:Int)^63<=Builtin.Tuple.tupleHashOf (hashDs w done))&&decide (Builtin.Tuple.tupleHashOf (hashDs w done)<2^63))=true then _ else _) Q E _;unfold reduceHash at h';by_cases hr:(decide (-(2:Int)^63<=Builtin.Tuple.tupleHashOf (hashDs w done))&&decide (Builtin.Tuple.tupleHashOf (hashDs w done)<2^63))=true
  ·rw[if_pos hr];rw[if_pos hr]at h';exact aE (by simpa[KA]using h')
  ·rw[if_neg hr];rw[if_neg hr]at h';exact aA (wpAny_rule (aE (by simpa[KA]using h')))
mutual
theorem B5(prog:bX)(w:World)(s:Shared):∀(d:PyData)(A:Around)(v:Value)as,Reads s.heap v d as->hk d=true->A.units+d.depth<cLine->zF prog w A s d v
|.none,A,_,_,r,_,_=>by cases r;exactλtk E Q h=>K8 h
|.int i,A,_,_,r,_,_=>by cases r;exactλtk E Q h=>wpAny_pyHash_int h
|.str x,A,_,_,r,_,_=>by cases r;exactλtk E Q h=>wpAny_pyHash_str h
|.tuple xs,A,_,_,r,h,hu=>by
 cases r with
 |tuple h1 h2 h3 h4=>
  have hu':A.units+(bU xs+1)<cLine:=hu;exact VD (by omega) h1 h2 h3 (hash_readsAll prog w s xs A.in1 _ _ h4 h (by show A.units+1+_<_;omega))
|.bool _,_,_,_,_,h,_=>by cases h
|.list _,_,_,_,_,h,_=>by cases h
|.dict _,_,_,_,_,h,_=>by cases h
theorem hash_readsAll(prog:bX)(w:World)(s:Shared):∀(xs:List PyData)(A:Around)(vs:List Value)as,ReadsAll s.heap vs xs as->hkAll xs=true->A.units+bU xs<cLine->Paired (zF prog w A s) xs vs
|[],A,_,_,r,_,_=>by cases r;exact .nil
|x::xs,A,_,_,r,h,hu=>by
 cases r with
 |cons r1 r2=>
  have h':(hk x&&hkAll xs)=true:=h;rw[bY]at h';have hu':A.units+max x.depth (bU xs)<cLine:=hu;exact .cons (B5 prog w s x A _ _ r1 h'.1 (by omega)) (hash_readsAll prog w s xs A _ _ r2 h'.2 (by omega))
end
mutual
theorem yM:∀{d:PyData},hk d=true->d.canLay0=true
|.none,_=>rfl
|.int _,_=>rfl
|.str _,h=>h
|.tuple _,h=>hk_layAll h
|.bool _,h=>by cases h
|.list _,h=>by cases h
|.dict _,h=>by cases h
theorem hk_layAll:∀{xs:List PyData},hkAll xs=true->dP xs=true
|[],_=>rfl
|x::xs,h=>by
 have h':(hk x&&hkAll xs)=true:=h;rw[bY]at h';show(x.canLay0&&dP xs)=true;rw[yM h'.1,hk_layAll h'.2];rfl
end
mutual
theorem VA:∀{d e:PyData},hk d=true->hk e=true->cG d e=true->d=e
|.none,.none,_,_,_=>rfl
|.none,.int _,_,_,h=>by cases h
|.none,.str _,_,_,h=>by cases h
|.none,.tuple _,_,_,h=>by cases h
|.int _,.none,_,_,h=>by cases h
|.int i,.int j,_,_,h=>by
 have h':decide (i=j)=true:=by simpa[cG]using h
 rw[of_decide_eq_true h']
|.int _,.str _,_,_,h=>by cases h
|.int _,.tuple _,_,_,h=>by cases h
|.str _,.none,_,_,h=>by cases h
|.str _,.int _,_,_,h=>by cases h
|.str x,.str y,_,_,h=>by
 have h':decide (x=y)=true:=by simpa[cG]using h
 rw[of_decide_eq_true h']
|.str _,.tuple _,_,_,h=>by cases h
|.tuple _,.none,_,_,h=>by cases h
|.tuple _,.int _,_,_,h=>by cases h
|.tuple _,.str _,_,_,h=>by cases h
|.tuple xs,.tuple ys,h1,h2,h=>by
 have h':qM xs ys=true:=by simpa[cG]using h
 rw[hk_eqvAll h1 h2 h']
|.bool _,_,h,_,_=>by cases h
|.list _,_,h,_,_=>by cases h
|.dict _,_,h,_,_=>by cases h
|_,.bool _,_,h,_=>by cases h
|_,.list _,_,h,_=>by cases h
|_,.dict _,_,h,_=>by cases h
theorem hk_eqvAll:∀{xs ys:List PyData},hkAll xs=true->hkAll ys=true->qM xs ys=true->xs=ys
|[],[],_,_,_=>rfl
|[],_::_,_,_,h=>by cases h
|_::_,[],_,_,h=>by cases h
|x::xs,y::ys,h1,h2,h=>by
 have a1:(hk x&&hkAll xs)=true:=h1;have a2:(hk y&&hkAll ys)=true:=h2;rw[bY]at a1 a2;have h':(cG x y&&qM xs ys)=true:=by simpa[qM]using h
 rw[bY]at h';rw[VA a1.1 a2.1 h'.1,hk_eqvAll a1.2 a2.2 h'.2]
end
def QS{d e}(h1:hk d=true)(h2:hk e=true):cG d e=decide (d=e):=by
 by_cases h:d=e
 ·subst h;rw[SeqAt.eqv_refl d (yM h1),decide_eq_true rfl]
 ·rw[decide_eq_false h]
  cases q:cG d e with
  |false=>rfl
  |true=>exact absurd (VA h1 h2 q) h
mutual
theorem zJ(prog:bX)(w:World)(s:Shared):∀(d:PyData)A E(v:Value)as(n:Nat)(Q:Bool->Shared->Prop),Reads s.heap v d as->hk d=true->d.depth<=n->Q true s->wpAny (model prog w) A (eqIsQuiet n v) Q E s
|.none,A,E,_,_,n,Q,r,_,_,q=>by cases r;rw[eqIsQuiet_byValue n rfl];exact aE q
|.int i,A,E,_,_,n,Q,r,_,_,q=>by cases r;rw[eqIsQuiet_byValue n rfl];exact aE q
|.str x,A,E,_,_,n,Q,r,_,_,q=>by cases r;rw[eqIsQuiet_byValue n rfl];exact aE q
|.tuple xs,A,E,_,_,0,Q,r,_,hn,q=>by
 have:bU xs+1<=0:=hn;omega
|.tuple xs,A,E,_,_,n+1,Q,r,h,hn,q=>by
 cases r with
 |@tuple a o vs m _ _ h1 h2 h3 h4=>
  have hT:s.TypeIs (.ref a) "tuple":=⟨o,h1,h2⟩;have hn':bU xs+1<=n+1:=hn;unfold eqIsQuiet;refine aA (wpAny_specialOf hT PySem.F.slot_tuple_eq.lookup ?_);show wpAny _ _ (isInstance (.ref a) (.type "tuple") >>= _) _ _ s;refine aA (wpAny_isInstance hT isSubtype_tuple_tuple ?_);simp only[aGr,iF,if_false];refine aA (wpAny_seqItems h1 h3 ?_);refine aA ?_;show wpAny _ _ (forIn vs _ _) _ _ s;rw[<- pP];refine wpAny_forIn_list _ (λfT r s'=>r.1=none/\s'=s/\∀v∈fT,∀(Q:Bool->Shared->Prop),Q true s->wpAny (model prog w) A (eqIsQuiet n v) Q E s) _ ?_ ?_ _ _ ⟨rfl,rfl,λv hv Q hQ=>quiet_readsAll prog w s xs A E _ _ n Q h4 h (by omega) v hv hQ⟩
  ·rintro v fT r s' ⟨hr,rfl,hall⟩;refine aA (hall v aR _ ?_);simp only[aGr,iF,if_false];exact aE ⟨rfl,rfl,λu hu'=>hall u (aM _ hu')⟩
  ·rintro⟨r1,r2⟩ s' ⟨hr,rfl,_⟩;simp only at hr;subst hr;exact aE q
|.bool _,_,_,_,_,_,_,_,h,_,_=>by cases h
|.list _,_,_,_,_,_,_,_,h,_,_=>by cases h
|.dict _,_,_,_,_,_,_,_,h,_,_=>by cases h
theorem quiet_readsAll(prog:bX)(w:World)(s:Shared):∀(xs:List PyData)A E(vs:List Value)as(n:Nat)(Q:Bool->Shared->Prop),ReadsAll s.heap vs xs as->hkAll xs=true->bU xs<=n->∀v∈vs,Q true s->wpAny (model prog w) A (eqIsQuiet n v) Q E s
|[],A,E,_,_,n,Q,r,_,_,v,hv,_=>by cases r;cases hv
|x::xs,A,E,_,_,n,Q,r,h,hn,v,hv,q=>by
 cases r with
 |cons r1 r2=>
  have h':(hk x&&hkAll xs)=true:=h;rw[bY]at h';have hn':max x.depth (bU xs)<=n:=hn;rcases bH.mp hv with rfl | hv
  ·exact zJ prog w s x A E _ _ n Q r1 h'.1 (by omega) q
  ·exact quiet_readsAll prog w s xs A E _ _ n Q r2 h'.2 (by omega) v hv q
end
mutual
theorem oW{h h':Heap}(hk':∀(b:Addr)(o:Obj)(vs:Array Value)(n:Nat),h.get? b=some o->o.data=.seq vs n->h'.get? b=some o):∀{d:PyData}{v:Value}{as:List Addr},Reads h v d as->hk d=true->Reads h' v d as
|.none,_,_,r,_=>by cases r;exact .none
|.int i,_,_,r,_=>by cases r;exact .int i _
|.str x,_,_,r,_=>by cases r;exact .str x _
|.tuple xs,_,_,r,hh=>by
 cases r with
 |tuple h1 h2 h3 h4=>exact .tuple (hk' _ _ _ _ h1 h3) h2 h3 (reads_stayAll hk' h4 hh)
|.bool _,_,_,_,hh=>by cases hh
|.list _,_,_,_,hh=>by cases hh
|.dict _,_,_,_,hh=>by cases hh
theorem reads_stayAll{h h':Heap}(hk':∀(b:Addr)(o:Obj)(vs:Array Value)(n:Nat),h.get? b=some o->o.data=.seq vs n->h'.get? b=some o):∀{xs:List PyData}{vs:List Value}{as:List Addr},ReadsAll h vs xs as->hkAll xs=true->ReadsAll h' vs xs as
|[],_,_,r,_=>by cases r;exact .nil
|x::xs,_,_,r,hh=>by
 cases r with
 |cons r1 r2=>
  have hh':(hk x&&hkAll xs)=true:=hh;rw[bY]at hh';exact .cons (oW hk' r1 hh'.1) (reads_stayAll hk' r2 hh'.2)
end
end
def eV(prog:bX)(w:World):HeapKind prog w PyData where
 is:=λh k a=>hk k=true/\k.depth<=8/\∃as,Reads h (.ref a) k as
 hash:=eF w
 draws:=oC
 room:=λA=>A.units+8<cLine
 inj:=λ⟨h1,_,as,r1⟩ ⟨_,_,bs,r2⟩=>SeqAt.Reads.unique _ _ _ _ _ (yM h1) r1 r2
 keeps:=λ⟨h1,h2,as,r⟩ ho hd hs=>⟨h1,h2,as,oW (λb o vs n e ed=>(hs.2 b (λz=>by
  subst z;rw[ho]at e;cases e;rw[hd]at ed;cases ed)).trans e) r h1⟩
 pyHash:=λ{A E s k a Q} hu ⟨h1,h2,as,r⟩ h=>B5 prog w s k A _ _ r h1 (by omega) s.toks E Q h
 eqBool:=λ{A E s x y a b Q} hu ⟨h1,h2,as,r⟩ ⟨g1,g2,bs,r'⟩ h=>SeqAt.eqAt_reads x y A s _ _ _ _ r r' (yM h1) (yM g1) (by omega) prog w E Q (by rw[QS h1 g1];exact h)
 quiet:=λ{A E s k a Q} ⟨h1,h2,as,r⟩ h=>zJ prog w s k A E _ _ 8 Q r h1 h2 h
section
variable{κ:Type}[DecidableEq κ]
noncomputable def vL(kvs:List (κ×V))(k:κ):Option V:=(kvs.find? λkv=>decide (kv.1=k)).map (·.2)
noncomputable def pM(kvs:List (κ×V))(k:κ)(v:V):List (κ×V):=
 if(kvs.any λkv=>decide (kv.1=k))=true then kvs.map (λkv=>if kv.1=k then(kv.1,v)else kv)else kvs++[(k,v)]
def oU{p:κ×V}{r k}(e:p.1=k):vL (p::r) k=some p.2:=by simp[vL,mK,e]
def mO{p:κ×V}{r k}(e:¬p.1=k):vL (p::r) k=vL r k:=by simp[vL,mK,e]
theorem HJ(k:κ):∀kvs:List (κ×V),(kvs.any λkv=>decide (kv.1=k))=(vL kvs k).isSome
|[]=>rfl
|p::r=>by
 rw[xY];by_cases e:p.1=k
 ·simp only[oU e,decide_eq_true e,aGw,O8]
 ·rw[mO e,decide_eq_false e,Bool.false_or];exact HJ k r
def tJ(kvs:List (κ×V))(k:κ)(v:V):(pM kvs k v).length<=kvs.length+1:=by
 unfold pM;split
 ·rw[aB];omega
 ·rw[aV,cU,tY];omega
def uV.isSome_eq{o:Option V}{u:Option Value}(r:uV o u):o.isSome=u.isSome:=by
 cases o with
 |none=>cases u with
  |none=>rfl
  |some _=>exact(show False from r).elim
 |some _=>cases u with
  |none=>exact(show False from r).elim
  |some _=>rfl
def KV.val{kvs vs}(r:KV kvs vs)(k:κ):uV (vL kvs k) (valueAt vs k):=by
 unfold KV at r
 induction r with
 |nil=>exact True.intro
 |@cons p q ps qs h t ih=>
  obtain⟨h1,h2⟩:=h;by_cases e:p.1=k
  ·have e':q.1=k:=h1.symm.trans e;have b:valueAt (q::qs) k=some q.2:=by simp[valueAt,mK,e']
   rw[oU e,b];exact h2
  ·have e':¬q.1=k:=λz=>e (h1.trans z);have b:valueAt (q::qs) k=valueAt qs k:=by simp[valueAt,mK,e']
   rw[mO e,b];exact ih
theorem KV.any{kvs:List (κ×V)}{vs:List (κ×Value)}(r:KV kvs vs)(k:κ):(kvs.any λkv=>decide (kv.1=k))=vs.any λkv=>decide (kv.1=k):=by
 unfold KV at r
 induction r with
 |nil=>rfl
 |cons h t ih=>rw[xY,xY,ih,h.1]
def KV.repl{kvs:List (κ×V)}{vs:List (κ×Value)}(r:KV kvs vs)(k:κ){y u}(ry:gB y u) :
  KV (kvs.map λkv=>if kv.1=k then(kv.1,y)else kv) (vs.map λkv=>if kv.1=k then(kv.1,u)else kv):=by
 unfold KV at r |-
 induction r with
 |nil=>exact .nil
 |@cons p q ps qs h t ih=>
  rw[aX,aX];refine .cons ?_ ih;obtain⟨h1,h2⟩:=h;by_cases e:p.1=k
  ·rw[if_pos e,if_pos (h1.symm.trans e)];exact⟨h1,ry⟩
  ·rw[if_neg e,if_neg (λz=>e (h1.trans z))];exact⟨h1,h2⟩
def KV.put{kvs vs}(r:KV kvs vs)(k:κ){y u}(ry:gB y u):KV (pM kvs k y) (stored vs k u):=by
 unfold pM stored;rw[r.any k];by_cases e:(vs.any λkv=>decide (kv.1=k))=true
 ·rw[if_pos e,if_pos e];exact r.repl k ry
 ·rw[if_neg e,if_neg e];exact Paired.snoc r ⟨rfl,ry⟩
theorem KV.length{kvs:List (κ×V)}{vs:List (κ×Value)}(r:KV kvs vs):kvs.length=vs.length:=Paired.length r
end
def OD{P w k u}(r:gB (kV k) u):(jX P w).is k u=true:=by
 cases k with
 |inl i=>obtain⟨t,e⟩:=(show∃t,u=Value.int i t from r);subst e;exact IV P w i t
 |inr x=>obtain⟨t,e⟩:=(show∃t,u=Value.str x t from r);subst e;exact IU P w x t
theorem EI{P w}:∀{ks:List pK}{us},fS (ks.map kV) us->ItemsAre (jX P w) ks us
|[],_,r=>by rw[iH]at r;cases r;exact .nil
|k::ks,_,r=>by
 rw[aX]at r
 cases r with
 |cons h t=>exact .cons (OD h) (EI t)
abbrev KT(H:Hp):List (List pK×V)->List (List pK×Addr×Value)->Prop:=Paired λp q=>p.1=q.1/\H q.2.1=some (.tup (p.1.map kV))/\gB p.2 q.2.2
def KT.val{H kvs xs}(r:KT H kvs xs)(k:List pK):uV (vL kvs k) ((atKey xs k).map (·.2)):=by
 induction r with
 |nil=>exact True.intro
 |@cons p q ps qs h t ih=>
  obtain⟨h1,_,h2⟩:=h;by_cases e:p.1=k
  ·have e':q.1=k:=h1.symm.trans e;have b:atKey (q::qs) k=some q.2:=by simp[atKey,mK,e']
   rw[oU e,b];exact h2
  ·have e':¬q.1=k:=λz=>e (h1.trans z);have b:atKey (q::qs) k=atKey qs k:=by simp[atKey,mK,e']
   rw[mO e,b];exact ih
def KT.repl{H}{kvs:List (List pK×V)}{xs:List (List pK×Addr×Value)}(r:KT H kvs xs)(k:List pK){y u}(ry:gB y u) :
  KT H (kvs.map λkv=>if kv.1=k then(kv.1,y)else kv) (xs.map (putAt k u)):=by
 induction r with
 |nil=>exact .nil
 |@cons p q ps qs h t ih=>
  rw[aX,aX];refine .cons ?_ ih;obtain⟨h1,h2,h3⟩:=h;unfold putAt;by_cases e:p.1=k
  ·rw[if_pos e,if_pos (h1.symm.trans e)];exact⟨h1,h2,ry⟩
  ·rw[if_neg e,if_neg (λz=>e (h1.trans z))];exact⟨h1,h2,h3⟩
def KT.put{H kvs xs}(r:KT H kvs xs)(k:List pK){b:Addr}{y u}(hb:H b=some (.tup (k.map kV)))(ry:gB y u) :
  KT H (pM kvs k y) (storedH xs k b u):=by
 have e:(kvs.any λkv=>decide (kv.1=k))=(atKey xs k).isSome:=by
  rw[HJ,(r.val k).isSome_eq,qL]
 unfold pM storedH;rw[e];by_cases q:(atKey xs k).isSome=true
 ·rw[if_pos q,if_pos q];exact r.repl k ry
 ·rw[if_neg q,if_neg q];exact Paired.snoc r ⟨rfl,hb,ry⟩
def KT.keeps{H H':Hp}{kvs xs}(r:KT H kvs xs)(ht:∀b ys,H b=some (.tup ys)->H' b=some (.tup ys)):KT H' kvs xs:=
 Paired.mapP r λ_ _ z=>⟨z.1,ht _ _ z.2.1,z.2.2⟩
section
variable{P:bX}{w:World}{H:Hp}{h:Heap}{a:Addr}
def aCl{u}(ok:wD P w H h)(e:Rd H a u):iN P w H h a u:=e.ok ok
def VZ{kvs:List (pK×V)}(ok:wD P w H h)(e:Rd H a (.dK kvs)):kvs.length<=bL/\(a==sysModules)=false/\∃vs,KV kvs vs/\h.DictOf (jX P w) a vs:=
 show iN P w H h a (.dK kvs)from aCl ok e
def aC9{kvs:List (pK×V)}(ok:wD P w H h)(e:H a=some (.dK kvs)):kvs.length<=bL/\(a==sysModules)=false/\∃vs,KV kvs vs/\h.DictOf (jX P w) a vs:=VZ ok (.inl e)
def LQ{ks:List pK}(ok:wD P w H h)(e:H a=some (.tup (ks.map kV))):(tupleKind (jX P w)).is h ks a:=by
 obtain⟨_,its,r,o,h1,h2,n,h3,_⟩:=(show iN P w H h a (.tup (ks.map kV))from ok a _ e);exact⟨o,its.toArray,n,h1,h2,h3,by simpa using EI r⟩
def VX{kvs:List (List pK×V)}(ok:wD P w H h)(e:Rd H a (.dT kvs)):kvs.length<=bL/\(a==sysModules)=false /\
  ∃xs,KT H kvs xs/\h.DictOfH (tupleKind (jX P w)) a xs:=by
 obtain⟨z,y,xs,r,o,es,ep,h1,h2,h3,h4,h5⟩:=(show iN P w H h a (.dT kvs)from aCl ok e);refine⟨z,y,xs,r,o,es,ep,h1,h2,h3,h4,λx hx=>?_,h5⟩
 have all:∀{l:List (List pK×V)}{m:List (List pK×Addr×Value)},KT H l m->∀x∈m,(tupleKind (jX P w)).is h x.1 x.2.1:=by
  intro l m q
  induction q with
  |nil=>intro x hx;exact nomatch hx
  |@cons p q ps qs hq t ih=>
   intro x hx;rcases bH.mp hx with e | hx
   ·subst e;exact LQ ok (by rw[<- hq.1];exact hq.2.1)
   ·exact ih x hx
 exact all r x hx
def aJ7{kvs:List (List pK×V)}(ok:wD P w H h)(e:H a=some (.dT kvs)):kvs.length<=bL/\(a==sysModules)=false /\
  ∃xs,KT H kvs xs/\h.DictOfH (tupleKind (jX P w)) a xs:=VX ok (.inl e)
end
def G2(H:Hp)(a:Addr)(y:V)(r:Option V):Prop:=
 (∃kvs k,Rd H a (.dK kvs)/\y=kV k/\r=vL kvs k)\/∃kvs k b,Rd H a (.dT kvs)/\y=.ref b/\H b=some (.tup (k.map kV))/\r=vL kvs k
def RJ(H:Hp)(a:Addr)(y v:V)(H':Hp):Prop:=
 (∃kvs k,H a=some (.dK kvs)/\y=kV k/\kvs.length<bL/\H'=gO H a (.dK (pM kvs k v))) \/
 ∃kvs k b,H a=some (.dT kvs)/\y=.ref b/\H b=some (.tup (k.map kV))/\kvs.length<bL/\H'=gO H a (.dT (pM kvs k v))
theorem G2.k{H}{a:Addr}{kvs k}(e:H a=some (.dK kvs)):G2 H a (kV k) (vL kvs k):=.inl ⟨kvs,k,.inl e,rfl,rfl⟩
theorem RJ.k{H}{a:Addr}{kvs:List (pK×V)}{k v}(e:H a=some (.dK kvs))(hl:kvs.length<bL):RJ H a (kV k) v (gO H a (.dK (pM kvs k v))):=.inl ⟨kvs,k,e,rfl,hl,rfl⟩
section
variable{X:Cx}{pins:List (Addr×Obj)}{σ:St}{H:Hp}{s:Shared}{a:Addr}{y v:V}{u r:Value}{o:Option V}{A:Around}{E:Value->Shared->Prop}
def eL.big(I:eL X pins σ H s):sysModules<s.heap.objs.size:=by
 have h:jA<s.heap.objs.size:=(I.mod.glob.keeps I.bk).lt;exact MV (by decide) h
def Q4{Q:Value->Shared->Prop}(hu:A.units+1<cLine)(I:eL X pins σ H s)(g:G2 H a y (some v))(ry:gB y u)(h:∀w' s',eL X pins σ H s'->gB v w'->Q w' s') :
  wpAny (model X.prog X.w) A (getItem (.ref a) u) Q E s:=by
 rcases g with⟨kvs,k,e,ey,l⟩ | ⟨kvs,k,b,e,ey,eb,l⟩
 ·subst ey;obtain⟨z,hd,vs,rel,dd⟩:=VZ I.hok e;obtain⟨w',hw,rw'⟩:=uV.some_of (v:=v) (o:=valueAt vs k) (by rw[l];exact rel.val k);exact wpAny_getItem_of (OD ry) dd.mapOf hw (h w' _ (I.tok _) rw')
 ·subst ey;cases (show u=Value.ref b from ry);obtain⟨z,hd,xs,rel,dd⟩:=VX I.hok e;obtain⟨w',hw,rw'⟩:=uV.some_of (v:=v) (o:=(atKey xs k).map (·.2)) (by rw[l];exact rel.val k);obtain⟨p,hp,hp2⟩:=bT.mp hw;refine wpAny_getItem_heap (tupleKind_room_in1 hu) (LQ I.hok eb) dd hp ?_;rw[hp2];exact h w' _ (I.tok _) rw'
def GK{h':Heap}{t':Nat}{ob}(I:eL X pins σ H s)(mu:Mut (H a))(hs:cV a s.heap h')(he:∃q,h'.get? a=some q)(new:iN X.prog X.w (gO H a ob) h' a ob) :
  eL X pins σ (gO H a ob) { s with heap:=h',toks:=t' }:=
 I.write (x:=a) (e:=a) mu (.inl rfl) (λb q hb z=>(hs.2 b hb).trans z) he new
def V0{P w H'}{h':Heap}{kvs:List (pK×V)}{vs}(z:kvs.length<=bL)(hd:(a==sysModules)=false)(rel:KV kvs vs)(dd:h'.DictOf (jX P w) a vs) :
  iN P w H' h' a (.dK kvs):=⟨z,hd,vs,rel,dd⟩
def Q3{H'}{Q:Unit->Shared->Prop}(hu:A.units+1<cLine)(I:eL X pins σ H s)(g:RJ H a y v H')(ry:gB y u)(rv:gB v r)(h:∀s',eL X pins σ H' s'->Q () s') :
  wpAny (model X.prog X.w) A (setItem (.ref a) u r) Q E s:=by
 rcases g with⟨kvs,k,e,ey,l,eH⟩ | ⟨kvs,k,b,e,ey,eb,l,eH⟩
 ·subst ey eH;obtain⟨z,hd,vs,rel,dd⟩:=aC9 I.hok e;have hz:vs.length<=bL:=by rw[<- rel.length];exact z
  have hl:(pM kvs k v).length<=bL:=by have:=tJ kvs k v;omega
  refine wpAny_setItem_pairs (hsz:=hz) (OD ry) dd λh' dd' hs=>h _ ?_;have he:∃q,h'.get? a=some q:=let ⟨q,_,_,hq,_⟩:=dd';⟨q,hq⟩
  exact GK I (by rw[e];exact True.intro) hs he (V0 hl hd (rel.put k rv) dd')
 ·subst ey eH;cases (show u=Value.ref b from ry);obtain⟨z,hd,xs,rel,dd⟩:=aJ7 I.hok e;have hz:xs.length<=bL:=by rw[<- Paired.length rel];exact z
  have hl:(pM kvs k v).length<=bL:=by have:=tJ kvs k v;omega
  refine wpAny_setItem_heap (hsz:=hz) (tupleKind_room_in1 hu) (LQ I.hok eb) dd λh' dd' hs=>h _ ?_;obtain⟨q,es,ep,hq,h2,h3,h4,_,h5⟩:=dd';refine GK I (by rw[e];exact True.intro) hs ⟨q,hq⟩ ⟨hl,hd,_,(rel.put k eb rv).keeps λc ys ec=>?_,q,es,ep,hq,h2,h3,h4,h5⟩;rw[dA (aJh ec e (λz=>nomatch z))];exact ec
end
def MO(i:Expr):Prop:=∀ov iv,subscripted i false ov iv=operate [ov,iv] (getItem ov iv)
def M7{prog w A}{E:Value->Shared->Prop}{s env value slice pos T id}{Q:Value->Shared->Prop}
  (hl:typeLookup (.type T) "__getitem__"=pure (some (.builtin id))) (hs:MO slice)
  (h:wpAny (model prog w) A (eval value env) (λo s₁=>wpAny (model prog w) A (eval slice env) (λi s₂=>s₂.TypeIs o T/\wpAny (model prog w) A (getItem o i) Q E s₂) E s₁) E s) :
  wpAny (model prog w) A (eval (.Subscript value slice pos) env) Q E s:=by
 refine Subscript_ (gT h (λo s₁ h₁=>gT h₁ (λi s₂ h₂=>?_) λ_ _ x=>x) λ_ _ x=>x);obtain⟨hT,h₂⟩:=h₂;unfold subscriptTail;refine aA ?_;rw[getitemInPython_of_ne hT.not_modules];refine aA (wpAny_specialOf hT hl ?_)
 have fin:wpAny (model prog w) A (subscripted slice false o i) (λr s₃=>wpAny (model prog w) A (letTemporaryGo value o r >>= λ_=>pure r) Q E s₃) E s₂:=by
  rw[hs o i];exact wpAny_operating (gT h₂ (λr s₃ h₃=>aA (wpAny_letTemporaryGo (aE h₃))) λ_ _ x=>x)
 first
  |exact aE (aA fin)
  |exact aA (aE (aA fin))
  |exact aA fin
def JP{X pins σ H}{s:Shared}{a:Addr}{y o}(I:eL X pins σ H s)(g:G2 H a y o):s.TypeIs (.ref a) "dict":=by
 rcases g with⟨kvs,k,e,_,_⟩ | ⟨kvs,k,b,e,_,_,_⟩
 ·obtain⟨_,_,vs,_,dd⟩:=VZ I.hok e;exact dd.typeIs
 ·obtain⟨_,_,xs,_,dd⟩:=VX I.hok e;exact dd.typeIs
def aG8(td ty:TE):TE:=λσ H Q=>td σ H λx H1=>ty σ H1 λy H2=>∃a v,x=.ref a/\G2 H2 a y (some v)/\Q v H2
def aHv(td ty tv:TE):TS:=λD σ H=>tv σ H λv H1=>td σ H1 λx H2=>ty σ H2 λy H3=>∃a H4,x=.ref a/\RJ H3 a y v H4/\D.nx σ H4
section
variable{X:Cx}{o i value:Expr}{pos pos':Pos}{td ty tv:TE}
def AV(hu:X.A.units+1<cLine)(ho:PE X o td)(hi:PE X i ty)(hs:MO i):PE X (.Subscript o i pos) (aG8 td ty):=by
 intro pins s σ H Q I h;refine M7 CZ.lookup hs (jO (ho pins s σ H _ I h) λu s1 ⟨x,H1,I1,rx,q1⟩=>jO (hi pins s1 σ H1 _ I1 q1) λiv s2 zq=>?_);obtain⟨y,H2,I2,ry,a,v,ex,g,q2⟩:=zq;subst ex;obtain rfl:u=Value.ref a:=rx;exact⟨JP I2 g,Q4 hu I2 g ry λw' s3 I3 rw'=>⟨v,H2,I3,rw',q2⟩⟩
def NW(hu:X.A.units+1<cLine)(ho:PE X o td)(hi:PE X i ty)(hv:PE X value tv)(hs:iM value (some (.Subscript o i pos')) pos.line X.env=pure false) :
  PS X (.Assign [.Subscript o i pos'] value pos) (aHv td ty tv):=by
 intro pins s σ H D I h;refine wpAny_Assign_Subscript (jO (hv pins s σ H _ I h) λr s1 ⟨v,H1,I1,rv,q1⟩=>jO (ho pins s1 σ H1 _ I1 q1) λu s2 ⟨x,H2,I2,rx,q2⟩=>jO (hi pins s2 σ H2 _ I2 q2) λiv s3 zq=>?_) hs;obtain⟨y,H3,I3,ry,a,H4,ex,g,q3⟩:=zq;subst ex;obtain rfl:u=Value.ref a:=rx;exact Q3 hu I3 g ry rv λs4 I4=>⟨σ,H4,I4,q3⟩
end
def V1{P w H}(h:Heap)(hb:sysModules<h.objs.size):iN P w H (h.push { cls:=.type "dict",data:=.dict #[] }) h.objs.size (.dK []):=
 ⟨cL _,beq_eq_false_iff_ne.mpr (Ne.symm (bO hb)),[],.nil,Heap.DictOf.new h⟩
def KR:List (TE×TE)->St->Hp->(List (V×V)->Hp->Prop)->Prop
|[],_,H,Q=>Q [] H
| (tk,tv)::r,σ,H,Q=>tk σ H λx H1=>tv σ H1 λy H2=>KR r σ H2 λps H3=>Q ((x,y)::ps) H3
abbrev VV:List (V×V)->List (Value×Value)->Prop:=Paired λp q=>gB p.1 q.1/\gB p.2 q.2
def PPs(X:Cx)(pos:Pos)(keys:List (Option Expr))(values:List Expr)(trs:List (TE×TE)):Prop:=
 ∀pins s σ H(Q:List (V×V)->Hp->Prop),eL X pins σ H s->KR trs σ H Q ->
  wpAny (model X.prog X.w) X.A (evalPairs (pairTrees keys values X.env pos)) (λvs s'=>∃ps H',eL X pins σ H' s'/\VV ps vs/\Q ps H') X.xe s
def X8{X pos}:PPs X pos [] [] []:=λpins s σ H Q I h=>pairTrees_nil_walk ⟨[],H,I,.nil,h⟩
def wT{X pos k v ks vs tk tv trs}(hk:PE X k tk)(hv:PE X v tv)(hr:PPs X pos ks vs trs) :
  PPs X pos (some k::ks) (v::vs) ((tk,tv)::trs):=λpins s σ H Q I h=>
 pairTrees_cons_walk (jO (hk pins s σ H _ I h) λu s1 ⟨x,H1,I1,rx,q1⟩=>jO (hv pins s1 σ H1 _ I1 q1) λw2 s2 ⟨y,H2,I2,ry,q2⟩=>
  jO (hr pins s2 σ H2 _ I2 q2) λws s3 ⟨ps,H3,I3,rel,q3⟩=>⟨(x,y)::ps,H3,I3,.cons ⟨rx,ry⟩ rel,q3⟩)
noncomputable def vT(kvs more:List (pK×V)):List (pK×V):=more.foldl (λacc kv=>pM acc kv.1 kv.2) kvs
def KV.merge:∀{more rs kvs vs},KV more rs->KV kvs vs->KV (vT kvs more) (merged vs rs):=by
 intro more rs kvs vs r;unfold KV at r
 induction r generalizing kvs vs with
 |nil=>intro q;exact q
 |@cons p q ps qs h t ih=>
  intro r0
  have e:KV (pM kvs p.1 p.2) (stored vs q.1 q.2):=by
   have:=r0.put p.1 h.2;rw[<- h.1];exact this
  exact ih e
theorem vB:∀(more kvs:List (pK×V)),(vT kvs more).length<=kvs.length+more.length
|[],kvs=>by show kvs.length<=kvs.length+0;omega
|p::r,kvs=>by
 have h1:=vB r (pM kvs p.1 p.2);have h2:=tJ kvs p.1 p.2;show(vT (pM kvs p.1 p.2) r).length<=_;rw[cU];omega
theorem CJ{P w}:∀{kvs:List (pK×V)}{ws},VV (kvs.map λkv=>(kV kv.1,kv.2)) ws->∃rs,Carries (jX P w) ws rs/\KV kvs rs
|[],_,r=>by rw[iH]at r;cases r;exact⟨[],True.intro,.nil⟩
|p::kvs,_,r=>by
 rw[aX]at r
 cases r with
 |@cons a b as bs h t=>
  obtain⟨rs,c,q⟩:=CJ (P:=P) (w:=w) t;obtain⟨b1,b2⟩:=b;exact⟨(p.1,b2)::rs,⟨OD h.1,rfl,c⟩,.cons ⟨rfl,h.2⟩ q⟩
def aAu(trs:List (TE×TE)):TE:=λσ H Q=>∀p,H p=none->KR trs σ (gO H p (.dK [])) λps H2=>H2 p=some (.dK [])/\∃kvs:List (pK×V),ps=kvs.map (λkv=>(kV kv.1,kv.2))/\kvs.length<=15/\Q (.ref p) (gO H2 p (.dK (vT [] kvs)))
def YF{X pos}{keys:List (Option Expr)}{values:List Expr}{trs}(h:PPs X pos keys values trs)(hall:keys.all (·.isSome)=true)(hl:keys.length=values.length)(h0:keys≠[])
  (h15:keys.length<=15):PE X (.Dict keys values pos) (aAu trs):=by
 intro pins s σ H Q I q;have hn:=I.hok.fresh (aO s.heap.objs.size);have I1:=I.laid (a:=s.heap.objs.size) (o:=.dK []) (h':=s.heap.push { cls:=.type "dict",data:=.dict #[] }) (t':=s.toks) (λ_ _ q=>aJ _ q) (aO _) (V1 s.heap I.big);refine wpAny_Dict_walk (knd:=jX X.prog X.w) hall hl h0 h15 (jO (h pins _ σ _ _ I1 (q _ hn)) λws s2 zq=>?_);obtain⟨ps,H2,I2,rel,e,kvs,ep,lk,q2⟩:=zq;subst ep;obtain⟨rs,c,rk⟩:=CJ (P:=X.prog) (w:=X.w) rel;obtain⟨z,hd,vs0,r0,dd⟩:=aC9 I2.hok e;cases r0;refine⟨rs,c,dd,λh' dd' hs=>⟨.ref s.heap.objs.size,_,?_,rfl,q2⟩⟩
 have hz:(vT [] kvs).length<=bL:=by
  have h1:=vB kvs [];rw[tY]at h1;rw[sizeLine_eq];omega
 have he:∃q,h'.get? s.heap.objs.size=some q:=let ⟨q,_,_,hq,_⟩:=dd';⟨q,hq⟩
 exact GK I2 (by rw[e];exact True.intro) hs he (V0 hz hd (rk.merge .nil) dd')
open TL
def mT(k:D):Prop:=hk k=true/\k.depth<=8
structure DK(K:aL)(w:World)(H:Hp)(es:List (Int×Addr×V))(ks:List D):Prop where
 rep:Reps K H ks (es.map λe=>.ref e.2.1)
 nd:ks.Nodup
 ok:∀k∈ks,mT k
 hs:es.map (·.1)=ks.map (eF w)
theorem DK.same{K w H H' es ks}(x:DK K w H es ks)(e:bJ H H'):DK K w H' es ks:=⟨x.rep.same e,x.nd,x.ok,x.hs⟩
section
variable{X:Cx}{pins:List (Addr×Obj)}{σ:St}{H:Hp}{s:Shared}{p a:Addr}{es:List (Int×Addr×V)}{ks:List D}{k:D}
def yK(I:eL X pins σ H s)(r:gG X.K H k (.ref a))(ok:mT k):(eV X.prog X.w).is s.heap k a:=by
 obtain⟨as,h⟩:=gG.reads I (nF (yM ok.1)) r (u:=.ref a) rfl;exact⟨ok.1,ok.2,as,h⟩
theorem F8(I:eL X pins σ H s):∀{ks}{as:List Addr},Reps X.K H ks (as.map V.ref)->(∀k∈ks,mT k)->Paired (λk a=>(eV X.prog X.w).is s.heap k a) ks as
|[],[],_,_=>.nil
|[],_::_,r,_=>by cases r
|_::_,[],r,_=>by cases r
|k::ks,a::as,r,h=>by
 cases r with
 |cons r1 r2=>exact .cons (yK I r1 (h k (aR ..))) (F8 I r2 λz hz=>h z (aM _ hz))
abbrev EX(es:List (Int×Addr×V))(ks:List D)(xs:List (D×Addr×Value)):Prop:=xs.map (·.1)=ks/\Paired (λ(e:Int×Addr×V) (x:D×Addr×Value)=>x.2.1=e.2.1/\gB e.2.2 x.2.2) es xs
theorem aC5(w:World)(prog:bX):∀{es:List (Int×Addr×V)}{ks:List D}{ds},Paired RI es ds->es.map (·.1)=ks.map (eF w)->∃xs,EX es ks xs/\ds=xs.map (entryOfKey (eV prog w))
|[],[],_,.nil,_=>⟨[],⟨rfl,.nil⟩,rfl⟩
|[],_::_,_,_,h=>by simp at h
|_::_,[],_,_,h=>by simp at h
|e::es,k::ks,_,.cons (b:=d) r t,h=>by
 rw[aX,aX]at h;injection h with h1 h2
 obtain⟨xs,⟨x1,x2⟩,x3⟩:=aC5 w prog t h2;refine⟨(k,e.2.1,d.val)::xs,⟨by rw[aX,x1],.cons ⟨rfl,r.2.2⟩ x2⟩,?_⟩;rw[aX,x3];congr 1;obtain⟨r1,r2,r3⟩:=r;show d=⟨eF w k,.ref e.2.1,d.val⟩;rw[<- h1,<- r1,<- r2]
theorem OQ:∀{es:List (Int×Addr×V)}{xs:List (D×Addr×Value)},Paired (λ(e:Int×Addr×V) (x:D×Addr×Value)=>x.2.1=e.2.1/\gB e.2.2 x.2.2) es xs->xs.map (λx=>x.2.1)=es.map λe=>e.2.1
|_,_,.nil=>rfl
|_,_,.cons r t=>by rw[aX,aX,r.1,OQ t]
def RU(H:Hp)(p:Addr)(es:List (Int×Addr×V)):Prop:=H p=some (vV p es)\/∃ep,H p=some (AH p es ep)
def RU.at(I:eL X pins σ H s)(h:RU H p es):O4 p es s.heap:=by
 rcases h with h | ⟨ep,h⟩
 ·exact(I.hok p _ h).1
 ·obtain⟨⟨h1,h2,o,xs,h3,h4,h5,h6⟩,_⟩:=I.hok p _ h;exact⟨h1,h2,o,xs,ep,h3,h4,h5,h6⟩
def CD(I:eL X pins σ H s)(h:RU H p es)(dk:DK X.K X.w H es ks):(p==sysModules)=false/\es.length<=bL/\∃xs,EX es ks xs/\s.heap.DictOfH (eV X.prog X.w) p xs:=by
 obtain⟨h1,h2,o,ds,ep,h3,h4,h5,h6⟩:=RU.at I h;obtain⟨xs,x1,x2⟩:=aC5 X.w X.prog h6 dk.hs;refine⟨h1,h2,xs,x1,o,ds,ep,h3,h4,h5,x2,?_,by rw[x1.1];exact dk.nd⟩;have ka:=F8 I (as:=es.map λe=>e.2.1) (by rw[bM];exact dk.rep) dk.ok;have hm:=OQ x1.2;rw[<- hm,<- x1.1]at ka;clear hm x2 x1;intro x hx
 induction xs with
 |nil=>cases hx
 |cons y ys ih=>
  rw[aX,aX]at ka
  cases ka with
  |cons r t=>
   rcases bH.mp hx with rfl | hx
   ·exact r
   ·exact ih t hx
def VM{xs}{i:Nat}{e:Int×Addr×V}(ex:EX es ks xs)(nd:ks.Nodup)(hk':ks[i]?=some k)(he:es[i]?=some e):∃u,atKey xs k=some u/\gB e.2.2 u.2:=by
 obtain⟨h1,h2⟩:=ex;have hl:es.length=xs.length:=Paired.length h2;have hi:i<xs.length:=by rw[<- hl];exact(aG.mp he).1
 have hx:xs[i]?=some xs[i]:=aF hi
 have e1:xs[i].1=k:=by
  have:(xs.map (·.1))[i]?=some k:=by rw[h1];exact hk'
  rw[aI,hx]at this;exact Option.some.inj this
 refine⟨xs[i].2,atKey_of_get (by rw[h1];exact nd) (i:=i) (by rw[hx,<- e1]),?_⟩;clear hk' nd h1 e1
 induction h2 generalizing i with
 |nil=>simp at hi
 |cons r t ih=>
  cases i with
  |zero=>simp at he;subst he;exact r.2
  |succ j=>exact ih (i:=j) (by simpa using he) (by simpa using hl) (by simpa using hi) (aF _)
def aH5(K:aL)(w:World):R2:=λx y H Q=>∃(p:Addr)(es:List (Int×Addr×V))(ks:List D)(k:D)(i:Nat)(e:Int×Addr×V),x=.ref p/\RU H p es/\DK K w H es ks/\gG K H k y/\mT k/\ks[i]?=some k/\es[i]?=some e/\Q e.2.2 H
def M1(I:eL X pins σ H s)(h:RU H p es):s.TypeIs (.ref p) "dict":=by
 obtain⟨_,_,o,ds,ep,h3,h4,_⟩:=RU.at I h;exact⟨o,h3,h4.1⟩
def kN{K xs v}(r:gG K H (.tuple xs) v):∃a,v=.ref a:=by cases r;exact⟨_,rfl⟩
end
section
variable{X:Cx}{o i:Expr}{pos:Pos}{td ty:TE}
def IL(hu:X.A.units+9<cLine)(ho:PE X o td)(hi:PE X i ty)(hs:MO i):PE X (.Subscript o i pos) (λσ H Q=>td σ H λx H1=>ty σ H1 λy H2=>(∃a,y=.ref a)/\aH5 X.K X.w x y H2 Q):=by
 intro pins s σ H Q I h;refine M7 CZ.lookup hs (jO (ho pins s σ H _ I h) λu s1 ⟨x,H1,I1,rx,q1⟩=>jO (hi pins s1 σ H1 _ I1 q1) λiv s2 zq=>?_);obtain⟨y,H2,I2,ry,⟨b,ey⟩,p,es,ks,k,j,e,ex,hp,dk,rk,ok,e1,e2,q2⟩:=zq;subst ex ey;obtain rfl:u=Value.ref p:=rx;obtain rfl:iv=Value.ref b:=ry;obtain⟨h1,h2,xs,x1,x2⟩:=CD I2 hp dk;obtain⟨v,v1,v2⟩:=VM x1 dk.nd e1 e2;exact⟨M1 I2 hp,wpAny_getItem_heap (show X.A.units+1+8<cLine by omega) (yK I2 rk ok) x2 v1 ⟨_,H2,I2.tok _,v2,q2⟩⟩
def FV:List (Int×Addr×V)->List D->D->V->List (Int×Addr×V)
|e::es,k'::ks,k,v=>(if k'=k then(e.1,e.2.1,v)else e)::FV es ks k v
|_,_,_,_=>[]
def wS(w:World)(es:List (Int×Addr×V))(ks:List D)(k:D)(a:Addr)(v:V):List (Int×Addr×V):=if k∈ks then FV es ks k v else es++[(eF w k,a,v)]
def BR(ks:List D)(k:D):List D:=if k∈ks then ks else ks++[k]
end
section
variable{w:World}{prog:bX}{es:List (Int×Addr×V)}{ks:List D}{xs:List (D×Addr×Value)}{k:D}{a:Addr}{v:V}{u:Value}
theorem VS:∀{es:List (Int×Addr×V)}{ks:List D}{xs:List (D×Addr×Value)},EX es ks xs->es.map (·.1)=ks.map (eF w)->Paired RI es (xs.map (entryOfKey (eV prog w)))
|[],_,_,⟨_,.nil⟩,_=>.nil
|e::es,[],x::xs,⟨h,_⟩,_=>by simp at h
|e::es,k::ks,x::xs,⟨h,.cons r t⟩,g=>by
 rw[aX]at h;injection h with h1 h2
 rw[aX,aX]at g;injection g with g1 g2
 refine .cons ⟨?_,?_,r.2⟩ (VS ⟨h2,t⟩ g2)
 ·show eF w x.1=e.1;rw[h1,g1]
 ·show Value.ref x.2.1=Value.ref e.2.1;rw[r.1]
theorem S6:∀{es ks}{xs:List (D×Addr×Value)}(k:D),EX es ks xs->gB v u->EX (FV es ks k v) ks (xs.map (putAt k u))
|[],ks,[],k,⟨h,.nil⟩,_=>⟨by rw[<- h];rfl,by cases ks<;>exact .nil⟩
|e::es,[],x::xs,k,⟨h,_⟩,_=>by simp at h
|e::es,k'::ks,x::xs,k,⟨h,.cons r t⟩,rv=>by
 rw[aX]at h;injection h with h1 h2
 obtain⟨i1,i2⟩:=S6 (es:=es) (ks:=ks) (xs:=xs) k ⟨h2,t⟩ rv;unfold FV putAt;rw[aX];refine⟨?_,.cons ?_ ?_⟩
 ·rw[aX];congr 1;split<;>exact h1
 ·by_cases e1:k'=k
  ·rw[if_pos e1,if_pos (h1.trans e1)];exact⟨r.1,rv⟩
  ·rw[if_neg e1,if_neg (λz=>e1 (h1.symm.trans z))];exact r
 ·exact i2
def aFs(ex:EX es ks xs)(rv:gB v u):EX (wS w es ks k a v) (BR ks k) (storedH xs k a u):=by
 have hk':(atKey xs k).isSome=true↔k∈ks:=by
  rw[<- ex.1];unfold atKey;rw[qL,AB,aQ];exact⟨λ⟨x,h1,h2⟩=>⟨x,h1,of_decide_eq_true h2⟩,λ⟨x,h1,h2⟩=>⟨x,h1,decide_eq_true h2⟩⟩
 unfold wS BR storedH;by_cases hm:k∈ks
 ·rw[if_pos hm,if_pos hm,if_pos (hk'.mpr hm)];exact S6 k ex rv
 ·rw[if_neg hm,if_neg hm,if_neg (λz=>hm (hk'.mp z))];refine⟨by rw[bG,ex.1];rfl,Paired.snoc ex.2 ⟨rfl,rv⟩⟩
theorem BO:∀{es:List (Int×Addr×V)}{ks:List D}(k:D),es.length=ks.length->(FV es ks k v).map (·.1)=es.map (·.1)/\(FV es ks k v).map (λe=>e.2.1)=es.map (λe=>e.2.1)
|[],[],k,_=>⟨rfl,rfl⟩
|[],_::_,k,h=>by simp at h
|_::_,[],k,h=>by simp at h
|e::es,k'::ks,k,h=>by
 obtain⟨i1,i2⟩:=BO (es:=es) (ks:=ks) k (by simpa using h);unfold FV;refine⟨?_,?_⟩
 ·rw[aX,aX,i1];congr 1;split<;>rfl
 ·rw[aX,aX,i2];congr 1;split<;>rfl
def DK.len{K H}(x:DK K w H es ks):es.length=ks.length:=by
 have:=congrArg iL x.hs;simpa using this
def DK.put{K H}(x:DK K w H es ks)(r:gG K H k (.ref a))(ok:mT k):DK K w H (wS w es ks k a v) (BR ks k):=by
 unfold wS BR;by_cases hm:k∈ks
 ·rw[if_pos hm,if_pos hm];obtain⟨h1,h2⟩:=BO (v:=v) k x.len;refine⟨?_,x.nd,x.ok,h1.trans x.hs⟩
  have e:(FV es ks k v).map (λe=>V.ref e.2.1)=es.map λe=>V.ref e.2.1:=by
   have:=congrArg (vJ V.ref) h2
   rwa [bM,bM]at this
  rw[e];exact x.rep
 ·rw[if_neg hm,if_neg hm];refine⟨by rw[bG];exact x.rep.append (.cons r .nil),?_,λz hz=>?_,by rw[bG,bG,x.hs];rfl⟩
  ·rw[jN];exact⟨x.nd,by simp,λc hc b hb=>by rw[aZ.mp hb];exactλz=>hm (z▸hc)⟩
  ·rcases cK.mp hz with hz | hz
   ·exact x.ok z hz
   ·rw[aZ.mp hz];exact ok
def TH(h:es.length=ks.length):(wS w es ks k a v).length<=es.length+1:=by
 unfold wS;split
 ·have:=congrArg iL (BO (v:=v) k h).1;simp at this;omega
 ·simp
end
section
variable{p:Addr}{es:List (Int×Addr×V)}{ks:List D}
def CC:∀h1 h2:Heap,O4 p es h1->(∀o,h1.get? p=some o->h2.get? p=some o)->O4 p es h2:=λh1 h2 ⟨a,b,o,xs,ep,e,r⟩ k=>⟨a,b,o,xs,ep,k _ e,r⟩
def aFy{P w H'}{h':Heap}{xs}(hd:(p==sysModules)=false)(hl:es.length<=bL)(ex:EX es ks xs)(hh:es.map (·.1)=ks.map (eF w))(dd:h'.DictOfH (eV P w) p xs):iN P w H' h' p (vV p es):=by
 obtain⟨o,ds,ep,h1,h2,h3,h4,_⟩:=dd;exact⟨⟨hd,hl,o,ds,ep,h1,h2,h3,by rw[h4];exact VS ex hh⟩,⟨o,h1⟩,CC⟩
end
section
variable{X:Cx}{o i value:Expr}{pos pos':Pos}{td ty tv:TE}
def aEj(K:aL)(w:World)(td ty tv:TE):TS:=λD' σ H=>tv σ H λv H1=>td σ H1 λx H2=>ty σ H2 λy H3=>∃(p a:Addr)(es:List (Int×Addr×V))(ks:List D)(k:D),x=.ref p/\y=.ref a/\H3 p=some (vV p es)/\DK K w H3 es ks/\gG K H3 k (.ref a)/\mT k/\es.length<bL/\D'.nx σ (gO H3 p (vV p (wS w es ks k a v)))
def IJ(hu:X.A.units+9<cLine)(ho:PE X o td)(hi:PE X i ty)(hv:PE X value tv)(hs:iM value (some (.Subscript o i pos')) pos.line X.env=pure false) :
  PS X (.Assign [.Subscript o i pos'] value pos) (aEj X.K X.w td ty tv):=by
 intro pins s σ H D' I h;refine wpAny_Assign_Subscript (jO (hv pins s σ H _ I h) λr s1 ⟨v,H1,I1,rv,q1⟩=>jO (ho pins s1 σ H1 _ I1 q1) λu s2 ⟨x,H2,I2,rx,q2⟩=>jO (hi pins s2 σ H2 _ I2 q2) λiv s3 zq=>?_) hs;obtain⟨y,H3,I3,ry,p,a,es,ks,k,ex,ey,hp,dk,rk,ok,hl,q3⟩:=zq;subst ex ey;obtain rfl:u=Value.ref p:=rx;obtain rfl:iv=Value.ref a:=ry;obtain⟨h1,h2,xs,x1,x2⟩:=CD I3 (.inl hp) dk;refine wpAny_setItem_heap (hsz:=by rw[<- Paired.length x1.2];exact h2) (show X.A.units+1+8<cLine by omega) (yK I3 rk ok) x2 λh' dd' hs'=>⟨σ,_,?_,q3⟩;have hq:∃q,h'.get? p=some q:=let ⟨q,_,_,e,_⟩:=dd';⟨q,e⟩
 have:=TH (w:=X.w) (k:=k) (a:=a) (v:=v) dk.len;exact I3.write (x:=p) (e:=p) (by rw[hp];exact True.intro) (.inl rfl) (λb q hb z=>(hs'.2 b hb).trans z) hq (aFy (ks:=BR ks k) h1 (by omega) (aFs x1 rv) (dk.put rk ok).hs dd')
def aD6:TE:=λ_ H Q=>∀p,H p=none->Q (.ref p) (gO H p (vV p []))
def T1:PE X (.Dict [] [] pos) aD6:=λpins s σ H Q I h=>
 wpAny_Dict_empty ⟨.ref s.heap.objs.size,_,I.laid (a:=s.heap.objs.size) (o:=vV s.heap.objs.size []) (t':=s.toks) (λ_ _ q=>aJ _ q) (aO _)
  ⟨⟨beq_eq_false_iff_ne.mpr (Ne.symm (bO I.big)),cL _,_,#[],0,aS _ rfl,⟨rfl,rfl,rfl⟩,rfl,.nil⟩,⟨_,aS _ rfl⟩,CC⟩,rfl,h _ (I.hok.fresh (aO _))⟩
end
end L2
namespace TL
open L2
def nH(w:World)(kvs:List (D×D)):D:=V2 (kvs.map λkv=>eF w kv.1) kvs
def tR(w:World)(kvs:List (D×D)):Sl:=.dic (kvs.map λkv=>eF w kv.1) kvs
def BT(kvs:List (D×D))(k v:D):List (D×D):=if k∈kvs.map (·.1)then kvs.map (λkv=>if kv.1=k then(kv.1,v)else kv)else kvs++[(k,v)]
def DH(k:D):Prop:=mT k/\∃xs,k=.tuple xs
section
variable{K:aL}{H B:Hp}{p0 ps:List Addr}{σT σT':List Sl}{σ:L2.St}{p:Addr}
def Ok.re(o:Ok K B p0 H ps σT σ)(hl:σT'.length=σT.length)(hv:∀(j:Nat)(d:D),σT'[j]?=some (.val d)->σT[j]?=some (.val d))(ho:∀(j:Nat)(ts:List D),σT'[j]?=some (.own ts)->σT[j]?=some (.own ts))(hd:pV K B p0 H ps σT' σ):Ok K B p0 H ps σT' σ where
 base:=o.base
 sub:=o.sub
 live:=o.live
 len:=hl.trans o.len
 val:=λj d h=>o.val j d (hv j d h)
 own:=λj ts h=>o.own j ts (ho j ts h)
 dis:=λi j ts us q h1 h2 h3 h4=>o.dis i j ts us q (ho i ts h1) (ho j us h2) h3 h4
 dc:=hd
def Ok.poke(o:Ok K B p0 H ps σT σ){φ:Heap->Prop}{u}(hp:p∈ps)(hB:B p=none)(he:H p=some (.ext φ))(hn:∀(j:Nat)(hs:List Int)(kvs:List (D×D)),σT[j]?≠some (.dic hs kvs))(hu:LT u=false:=by rfl):Ok K B p0 (gO H p u) ps σT σ where
 base:=λb w e=>by
  rw[dA λz=>by rw[z,hB]at e;cases e];exact o.base b w e
 sub:=o.sub
 live:=λq hq=>by
  by_cases e:q=p
  ·subst e;rw[dG];exact⟨_,rfl,hu⟩
  ·rw[dA e];exact o.live q hq
 len:=o.len
 val:=λi d h=>by rw[gR hp];exact o.val i d h
 own:=λi ts h=>by
  rw[gR hp];obtain⟨q,xs,h1,h2,h3,h4,h5,h6⟩:=o.own i ts h;exact⟨q,xs,h1,h2,h3,h4,by rw[dA λz=>by rw[z,he]at h5;cases h5];exact h5,h6⟩
 dis:=o.dis
 dc:=λi hs kvs h=>absurd h (hn i hs kvs)
def NI{i j:Nat}{s d}(hs:∀d,s≠.val d)(h:(σT.set i s)[j]?=some (.val d)):i≠j/\σT[j]?=some (.val d):=by
 by_cases e:i=j
 ·subst e;have hi:i<σT.length:=by simpa using(aG.mp h).1
  rw[bD hi]at h;exact absurd (Option.some.inj h) (hs d)
 ·rw[bA e]at h;exact⟨e,h⟩
def wL{i j:Nat}{s ts}(hs:∀ts,s≠.own ts)(h:(σT.set i s)[j]?=some (.own ts)):i≠j/\σT[j]?=some (.own ts):=by
 by_cases e:i=j
 ·subst e;have hi:i<σT.length:=by simpa using(aG.mp h).1
  rw[bD hi]at h;exact absurd (Option.some.inj h) (hs ts)
 ·rw[bA e]at h;exact⟨e,h⟩
structure MS(K:aL)(B:Hp)(p0:List Addr)(H:Hp)(ps:List Addr)(p:Addr)(es:List (Int×Addr×V))(hs:List Int)(kvs:List (D×D)):Prop where
 mem:p∈ps
 new:B p=none
 out:p∉p0
 obj:H p=some (vV p es)
 hsh:hs=es.map (·.1)
 nd:(kvs.map (·.1)).Nodup
 ks:Reps K (mask H ps) (kvs.map (·.1)) (es.map λe=>.ref e.2.1)
 vs:Reps K (mask H ps) (kvs.map (·.2)) (es.map λe=>e.2.2)
def Ok.toDic(o:Ok K B p0 H ps σT σ){i:Nat}{es hs kvs}(hσ:σ[i]?=some (some (.ref p)))(hn:∀(j:Nat)(hs:List Int)(kvs:List (D×D)),i≠j->σT[j]?≠some (.dic hs kvs))(x:MS K B p0 H ps p es hs kvs):Ok K B p0 H ps (σT.set i (.dic hs kvs)) σ:=by
 refine o.re (by simp) (λj d h=>(NI (by intro _ z;cases z) h).2) (λj ts h=>(wL (by intro _ z;cases z) h).2) λj hs' kws h=>?_;have hi:i<σT.length:=by rw[o.len];exact(aG.mp hσ).1
 have only:∀(l:Nat)(hs'':List Int)(kws'':List (D×D)),(σT.set i (.dic hs kvs))[l]?=some (.dic hs'' kws'')->i=l:=λl hs'' kws'' hl=>by
  by_cases e:i=l
  ·exact e
  ·rw[bA e]at hl;exact absurd hl (hn l hs'' kws'' e)
 obtain rfl:=only j hs' kws h;rw[bD hi]at h;injection h with h
 injection h with h1 h2
 subst h1 h2;exact⟨⟨p,es,hσ,x.mem,x.new,x.out,x.obj,x.hsh,x.nd,x.ks,x.vs⟩,λl hs'' kws'' hl=>only l hs'' kws'' hl⟩
def Ok.isDic(o:Ok K B p0 H ps σT σ){i:Nat}{hs kvs}(h:σT[i]?=some (.dic hs kvs)):(∃(p:Addr)(es:List (Int×Addr×V)),σ[i]?=some (some (.ref p))/\MS K B p0 H ps p es hs kvs)/\∀(j:Nat)(hs':List Int)(kws:List (D×D)),i≠j->σT[j]?≠some (.dic hs' kws):=by
 obtain⟨⟨p,es,a1,a2,a3,a4,a5,a6,a7,a8,a9⟩,u⟩:=o.dc i hs kvs h;exact⟨⟨p,es,a1,a2,a3,a4,a5,a6,a7,a8,a9⟩,λj hs' kws ne e=>ne (u j hs' kws e)⟩
def Ok.forget(o:Ok K B p0 H ps σT σ){i:Nat}{hs kvs}(h:σT[i]?=some (.dic hs kvs)):Ok K B p0 H ps (σT.set i .un) σ/\∀(j:Nat)(hs:List Int)(kvs:List (D×D)),(σT.set i .un)[j]?≠some (.dic hs kvs):=by
 have no:∀(j:Nat)(hs:List Int)(kvs:List (D×D)),(σT.set i .un)[j]?≠some (.dic hs kvs):=λj hs' kws e=>by
  obtain⟨ne,e'⟩:=A4 (by intro _ _ z;cases z) e;exact(o.isDic h).2 j hs' kws ne e'
 exact⟨o.re (by simp) (λj d h=>(NI (by intro _ z;cases z) h).2) (λj ts h=>(wL (by intro _ z;cases z) h).2) λj hs' kws e=>absurd e (no j hs' kws),no⟩
def Ok.newDic(o:Ok K B p0 H ps σT σ){i:Nat}(hi:i<σT.length)(hn:∀(j:Nat)(hs:List Int)(kvs:List (D×D)),σT[j]?≠some (.dic hs kvs))(hp:H p=none):Ok K B p0 (gO H p (vV p [])) (p::ps) (σT.set i (.dic [] [])) (σ.set i (some (.ref p))):=by
 have o1:=(o.adopt (u:=vV p []) hp).setUn (i:=i) (v:=.ref p);have hσ:(σ.set i (some (V.ref p)))[i]?=some (some (.ref p)):=bD (by rw[<- o.len];exact hi)
 have o2:=o1.toDic (i:=i) (es:=[]) (hs:=[]) (kvs:=[]) hσ (λj hs kvs ne e=>by
  rw[bA ne]at e;exact hn j hs kvs e) ⟨aR ..,bJ.free' o.base hp,λz=>iO o.live hp (o.sub p z),dG,rfl,by simp,.nil,.nil⟩
 rwa [AA]at o2
def Ok.shareD(o:Ok K B p0 H ps σT σ){i:Nat}{hs kvs}(hi:σT[i]?=some (.dic hs kvs)):∃(p:Addr)(es:List (Int×Addr×V)),σ[i]?=some (some (.ref p))/\MS K B p0 H ps p es hs kvs/\∀ep,Ok K B p0 (gO H p (AH p es ep)) (ps.filter λq=>decide (q≠p)) (σT.set i (.val (V2 hs kvs))) σ/\bJ (mask H ps) (mask (gO H p (AH p es ep)) (ps.filter λq=>decide (q≠p))):=by
 obtain⟨⟨p,es,hσ,x⟩,u⟩:=o.isDic hi;refine⟨p,es,hσ,x,λep=>?_⟩;have hil:i<σT.length:=(aG.mp hi).1;have hpn:p∉ps.filter λq=>decide (q≠p):=λz=>(of_decide_eq_true (bZ.mp z).2) rfl
 have hsub:bJ (mask H ps) (mask (gO H p (AH p es ep)) (ps.filter λq=>decide (q≠p))):=λb v hb=>by
  unfold mask at hb |-
  by_cases hbp:b∈ps
  ·rw[if_pos hbp]at hb;cases hb
  ·rw[if_neg hbp]at hb;have hne:b≠p:=λz=>hbp (z▸x.mem);rw[if_neg λz=>hbp (bZ.mp z).1,dA hne];exact hb
 refine⟨⟨λb v hb=>?_,λq hq=>bZ.mpr ⟨o.sub q hq,decide_eq_true λz=>x.out (z▸hq)⟩,λq hq=>?_,by simpa using o.len,λj d h=>?_,λj us h=>?_,λj k us ws q k1 k2 k3 k4=>?_,λj hs' kws h=>?_⟩,hsub⟩
 ·have hne:b≠p:=λz=>by rw[z,x.new]at hb;cases hb
  rw[dA hne];exact o.base b v hb
 ·have hne:q≠p:=of_decide_eq_true (bZ.mp hq).2;rw[dA hne];exact o.live q (bZ.mp hq).1
 ·by_cases e:i=j
  ·subst e;rw[bD hil]at h;cases h;refine⟨_,hσ,?_⟩;have:=gG.dct (K:=K) (ep:=ep) (pT hpn (dG (H:=H) (o:=AH p es ep))) x.nd (x.ks.same hsub) (x.vs.same hsub);rw[<- x.hsh]at this;exact this
  ·rw[bA e]at h;obtain⟨v,k1,k2⟩:=o.val j d h;exact⟨v,k1,k2.same hsub⟩
 ·obtain⟨_,h⟩:=wL (by intro _ z;cases z) h;obtain⟨q,ys,k1,k2,k3,k4,k5,k6⟩:=o.own j us h;have hne:q≠p:=λz=>by rw[z,x.obj]at k5;cases k5
  exact⟨q,ys,k1,bZ.mpr ⟨k2,decide_eq_true hne⟩,k3,k4,by rw[dA hne];exact k5,k6.same hsub⟩
 ·exact o.dis j k us ws q (wL (by intro _ z;cases z) k1).2 (wL (by intro _ z;cases z) k2).2 k3 k4
 ·obtain⟨ne,h⟩:=A4 (by intro _ _ z;cases z) h;exact absurd h (u j hs' kws ne)
end
section
variable{X:Cx}{a b e n:Expr}{es:List Expr}{ta tb tk:ET}{pos:Pos}
def SX(i:Nat):vE:=λDT σ=>i<σ.length/\(∀(j:Nat)(hs:List Int)(kvs:List (D×D)),σ[j]?≠some (.dic hs kvs))/\DT.nx (σ.set i (.dic [] []))
def XM{i:Nat}{x pos' p2}(ps':∀{v},PE X (.Dict [] [] p2) v->PS X (.Assign [.Name x pos'] (.Dict [] [] p2) pos) (vN v (jS i))):A7 X (.Assign [.Name x pos'] (.Dict [] [] p2) pos) (SX i):=by
 refine⟨_,ps' T1,λB p0 H ps σT σ DT DV o h f p hp=>?_⟩;exact f.nx _ (p::ps) _ _ (o.newDic h.1 h.2.1 hp) (by rw[lD hp];exact L2.bJ.refl _) h.2.2
def nG{K w H}{es:List (Int×Addr×V)}{kvs:List (D×D)}(hh:kvs.map (λkv=>eF w kv.1)=es.map (·.1))(nd:(kvs.map (·.1)).Nodup)(ok:∀kv∈kvs,mT kv.1)(r:Reps K H (kvs.map (·.1)) (es.map λe=>.ref e.2.1)):DK K w H es (kvs.map (·.1)):=
 ⟨r,nd,λk hk=>by obtain⟨kv,h1,rfl⟩:=aQ.mp hk;exact ok kv h1,by rw[<- hh,bM];rfl⟩
def HI{K w H v x}{a:Addr}:∀{es:List (Int×Addr×V)}{kvs:List (D×D)}(k:D),Reps K H (kvs.map (·.2)) (es.map λe=>e.2.2)->gG K H v x->Reps K H ((BT kvs k v).map (·.2)) ((wS w es (kvs.map (·.1)) k a x).map λe=>e.2.2):=by
 intro es kvs k r rv;unfold BT wS;by_cases hm:k∈kvs.map (·.1)
 ·rw[if_pos hm,if_pos hm];clear hm
  induction kvs generalizing es with
  |nil=>cases es with
   |nil=>exact .nil
   |cons e es=>cases r
  |cons kv kvs ih=>cases es with
   |nil=>cases r
   |cons e es=>
    rw[aX,aX]at r
    cases r with
    |cons r1 r2=>
     rw[aX,aX,aX];unfold FV;rw[aX];refine .cons ?_ (ih r2);by_cases e1:kv.1=k
     ·rw[if_pos e1,if_pos e1];exact rv
     ·rw[if_neg e1,if_neg e1];exact r1
 ·rw[if_neg hm,if_neg hm,bG,bG];exact r.append (.cons rv .nil)
def oP(kvs:List (D×D))(k v:D):(BT kvs k v).map (·.1)=BR (kvs.map (·.1)) k:=by
 unfold BT BR;split
 ·rw[bM];apply lU;intro kv _;show(if kv.1=k then(kv.1,v)else kv).1=kv.1;split<;>rfl
 ·rw[bG];rfl
def aEi(w:World)(i:Nat)(tk tv:ET):vE:=λDT σ=>∃kvs,σ[i]?=some (tR w kvs)/\tv σ λv=>tk σ λk=>DH k/\(∀kv∈kvs,mT kv.1)/\kvs.length<=100000/\DT.nx (σ.set i (tR w (BT kvs k v)))
def HU{i:Nat}{p2 value tv}(hu:X.A.units+9<cLine)(hn:PE X n (pL i))(hk':hW X e tk)(hv:hW X value tv)(hs:iM value (some (.Subscript n e p2)) pos.line X.env=pure false:=by rfl) :
  A7 X (.Assign [.Subscript n e p2] value pos) (aEi X.w i tk tv):=by
 obtain⟨vv,pv',rv⟩:=hv;obtain⟨vk,pk,rk⟩:=hk';refine⟨_,IJ hu hn pk pv' hs,λB p0 H ps σT σ DT DV o h f=>?_⟩;obtain⟨kvs,hi,h⟩:=h;obtain⟨⟨p,es,hσ,x⟩,u⟩:=o.isDic hi;refine rv B p0 H ps σT σ _ _ o h λv y H1 s1 r1 q1=>⟨.ref p,hσ,rk B p0 H1 ps σT σ _ _ (o.grow s1) q1 λk z H2 s2 r2 q2=>?_⟩;obtain⟨⟨kok,ys,rfl⟩,hok,hlen,q⟩:=q2;obtain⟨a,rfl⟩:=kN r2;have s12:=s1.trans s2;have o2:=o.grow s12;have hm:=bQ (ps:=ps) s12;have ks2:=x.ks.same hm;have vs2:=x.vs.same hm;have ob2:=s12 _ _ x.obj;have dk2:=nG (w:=X.w) x.hsh x.nd hok ks2
 have hl:es.length=kvs.length:=by
  have:=congrArg iL x.hsh;simpa using this.symm
 have hL:bL=2^24:=rfl;have dk3:=dk2.put (v:=y) r2 kok;refine⟨p,a,es,kvs.map (·.1),_,rfl,rfl,ob2,dk2.same bS,r2.same bS,kok,by omega,?_⟩;obtain⟨o3,no3⟩:=o2.forget (i:=i) hi;have o4:=o3.poke (u:=vV p (wS X.w es (kvs.map (·.1)) (.tuple ys) a y)) x.mem x.new ob2 no3;have hm4:mask (gO H2 p (vV p (wS X.w es (kvs.map (·.1)) (.tuple ys) a y))) ps=mask H2 ps:=gR x.mem
 have o5:=o4.toDic (i:=i) (es:=wS X.w es (kvs.map (·.1)) (.tuple ys) a y) (hs:=(BT kvs (.tuple ys) v).map λkv=>eF X.w kv.1) (kvs:=BT kvs (.tuple ys) v) hσ (λj hs kws _=>no3 j hs kws)
  ⟨x.mem,x.new,x.out,dG,?_,?_,?_,?_⟩
 ·rw[AA]at o5;exact f.nx _ ps _ σ o5 (by rw[hm4];exact hm) q
 ·rw[dk3.hs,<- oP kvs _ v,bM];rfl
 ·rw[oP];exact dk3.nd
 ·rw[hm4,oP];exact dk3.rep
 ·rw[hm4];exact HI _ vs2 (r1.same (bQ s2))
def Reps.two{K H}{i:Nat}:∀{kvs:List (D×D)}{es:List (Int×Addr×V)}{kv:D×D},Reps K H (kvs.map (·.2)) (es.map λe=>e.2.2)->kvs[i]?=some kv->∃e,es[i]?=some e/\gG K H kv.2 e.2.2:=by
 intro kvs es kv r h;obtain⟨v,h1,h2⟩:=r.get (i:=i) (d:=kv.2) (by rw[aI,h];rfl);rw[aI]at h1;obtain⟨e,e1,rfl⟩:=bT.mp h1;exact⟨e,e1,h2⟩
def aFw(w:World)(i:Nat)(tk:ET):ET:=λσ Q=>∃kvs,σ[i]?=some (tR w kvs)/\tk σ λk=>DH k/\(∀kv∈kvs,mT kv.1)/\∃v,(k,v)∈kvs/\Q v
def VO{i:Nat}(hu:X.A.units+9<cLine)(hn:PE X n (pL i))(hk':hW X e tk)(hs:MO e):hW X (.Subscript n e pos) (aFw X.w i tk):=by
 obtain⟨vk,pk,rk⟩:=hk';refine⟨_,IL hu hn pk hs,λB p0 H ps σT σ Q QV o h k=>?_⟩;obtain⟨kvs,hi,h⟩:=h;obtain⟨⟨p,es,hσ,x⟩,u⟩:=o.isDic hi;refine⟨.ref p,hσ,rk B p0 H ps σT σ _ _ o h λkd z H1 s1 r1 q1=>?_⟩;obtain⟨⟨kok,ys,rfl⟩,hok,v,hm,q⟩:=q1;obtain⟨a,rfl⟩:=kN r1;obtain⟨j,hj⟩:=bV hm;have hm1:=bQ (ps:=ps) s1;obtain⟨en,e1,e2⟩:=(x.vs.same hm1).two hj;exact⟨⟨a,rfl⟩,p,es,kvs.map (·.1),_,j,en,rfl,.inl (s1 _ _ x.obj),(nG (w:=X.w) x.hsh x.nd hok (x.ks.same hm1)).same bS,r1.same bS,kok,by rw[aI,hj];rfl,e1,k _ _ H1 s1 e2 q⟩
def wP{K}{H:Hp}{w}{kvs:List (D×D)}{v}(r:gG K H (nH w kvs) v):∃(p:Addr)(es:List (Int×Addr×V))(ep:Nat),v=.ref p/\H p=some (AH p es ep)/\kvs.map (λkv=>eF w kv.1)=es.map (·.1)/\(kvs.map (·.1)).Nodup/\Reps K H (kvs.map (·.1)) (es.map λe=>.ref e.2.1)/\Reps K H (kvs.map (·.2)) (es.map λe=>e.2.2):=by
 unfold nH V2 at r
 generalize hg:(AL ((.str "{}",.list ((kvs.map λkv=>eF w kv.1).map aH))::kvs))=d at r
 cases r with
 |@dct p es ep kws h1 h2 h3 h4=>
  injection hg with hg
  injection hg with hg1 hg2
  subst hg2;injection hg1 with _ hg1
  injection hg1 with hg1
  have e:=congrArg (vJ λd:D=>match d with | .int i=>i | _=>0) hg1;simp only[bM,Function.comp_def]at e;exact⟨p,es,ep,rfl,h1,e,h2,h3,h4⟩
 |addr z=>
  injection hg with hg
  injection hg with hg1 hg2
  injection hg1 with hg1 _
  injection hg1 with hg1
  exact absurd hg1 (by decide +kernel)
 |ins _ _=>
  injection hg with hg
  injection hg with hg1 hg2
  injection hg1 with hg1 _
  injection hg1 with hg1
  exact absurd hg1 (by decide +kernel)
 |_=>cases hg
def aC2(w:World)(d k:D)(Q:D->Prop):Prop:=∃kvs,d=nH w kvs/\DH k/\(∀kv∈kvs,mT kv.1)/\∃v,(k,v)∈kvs/\Q v
def ZN(hu:X.A.units+9<cLine)(ha:hW X a ta)(hb:hW X b tb)(hs:MO b:=by intro _ _;rfl):hW X (.Subscript a b pos) (ZY (aC2 X.w) ta tb):=by
 obtain⟨va,pa,ra⟩:=ha;obtain⟨vb,pb,rb⟩:=hb;refine⟨_,IL hu pa pb hs,λB p0 H ps σT σ Q QV o h k=>ra B p0 H ps σT σ _ _ o h λd x H1 s1 r1 q1=>?_⟩;refine rb B p0 H1 ps σT σ _ _ (o.grow s1) q1 λkd z H2 s2 r2 q2=>?_;obtain⟨kvs,rfl,⟨kok,ys,rfl⟩,hok,v,hm,q⟩:=q2;obtain⟨c,rfl⟩:=kN r2;obtain⟨p,es,ep,rfl,h1,h2,h3,h4,h5⟩:=wP (r1.same (bQ s2));obtain⟨j,hj⟩:=bV hm;obtain⟨en,e1,e2⟩:=h5.two hj;exact⟨⟨c,rfl⟩,p,es,kvs.map (·.1),_,j,en,rfl,.inr ⟨ep,bS _ _ h1⟩,(nG (w:=X.w) h2 h3 hok h4).same bS,r2.same bS,kok,by rw[aI,hj];rfl,e1,k _ _ H2 (s1.trans s2) e2 q⟩
def D5{sts}{ts:TS}(p:CW X sts ts):CW X sts (λDV σ H=>∃(a:Addr)(es:List (Int×Addr×V)),H a=some (vV a es)/\∀ep,ts DV σ (gO H a (AH a es ep))):=by
 intro pins s σ H D I ⟨a,es,ha,h⟩;obtain⟨⟨h1,h2,o,xs,ep,h3,h4,h5,h6⟩,_⟩:=I.hok a _ ha;refine p pins s σ _ D ?_ (h ep);exact I.write (x:=a) (e:=a) (h':=s.heap) (t':=s.toks) (by rw[ha];exact True.intro) (.inl rfl) (λb u _ z=>z) ⟨o,h3⟩ (show iN X.prog X.w _ _ _ (AH a es ep)from⟨⟨h1,h2,o,xs,h3,h4,h5,h6⟩,⟨o,h3⟩,λh1 h2 ⟨a,b,o,xs,e,r⟩ k=>⟨a,b,o,xs,k _ e,r⟩⟩)
def XY(i:Nat)(t:vE):vE:=λDT σ=>∃hs kvs,σ[i]?=some (.dic hs kvs)/\t DT (σ.set i (.val (V2 hs kvs)))
def D0{sts t}(i:Nat)(h:vY X sts t):vY X sts (XY i t):=by
 obtain⟨v,p,r⟩:=h;refine⟨_,D5 p,λB p0 H ps σT σ DT DV o h f=>?_⟩;obtain⟨hs,kvs,e,h⟩:=h;obtain⟨a,es,_,ha,hs'⟩:=o.shareD e;refine⟨a,es,ha.obj,λep=>?_⟩;obtain⟨o',s'⟩:=hs' ep;exact r B p0 _ _ _ σ DT DV o' h (f.later s')
end
end TL
namespace L2
open TL
section
theorem JM:∀{es ds}{j:Nat}{d},Paired RI es ds->ds[j]?=some d->∃e,es[j]?=some e/\RI e d
|_,_,_,_,.nil,h=>by simp at h
|_,_,0,_,.cons r t,h=>by simp at h;subst h;exact⟨_,rfl,r⟩
|_,_,j+1,d,.cons r t,h=>by
 obtain⟨e,h1,h2⟩:=JM (j:=j) (d:=d) t (by simpa using h);exact⟨e,by simpa using h1,h2⟩
end
def aGg(h:Heap)(d:Addr)(es:Array DictEntry)(ep:Nat):Prop:=∃o,h.get? d=some o/\o.ExactDict/\o.data=.dict es ep
section
variable{prog:bX}{w:World}{A:Around}{E:Value->Shared->Prop}{s:Shared}
def U2{d:Addr}{es:Array DictEntry}{ep:Nat}{Q:Value->Shared->Prop}(hd:(d==sysModules)=false)(hm:aGg s.heap d es ep)
  (hQ:Q (.ref s.heap.objs.size) { s with heap:=s.heap.push { cls:=.type "dict_keyiterator",data:=.fields #[.ref d,.int 0 0,.int es.size 0,.int ep 0] } }) :
  wpAny (model prog w) A (pyIter (.ref d)) Q E s:=by
 obtain⟨o,ho,hc,hdat⟩:=id hm;have hT:s.TypeIs (.ref d) "dict":=⟨o,ho,hc.1⟩;refine wpAny_pyIter_slot hT G6 (dB G6 hT PySem.F.entry_dict_iter ?_ (PySem.F.args_dict_iter_1 _));unfold Builtin.«dict.__iter__»;refine aA ?_;unfold Builtin.Dict.dictSlotNone;refine aA (wpAny_notOrdered_dict hT ?_);show wpAny _ _ (pure (Value.ref d)) _ _ s;refine aE ?_;show wpAny _ _ (Builtin.Dict.showsAll d >>= _) _ _ s;unfold Builtin.Dict.showsAll;rw[if_neg (by rw[hd];exact bE)];refine aA (aE ?_);refine aA (wpAny_dictEntries ho hdat ?_);refine aA (wpAny_dictEpoch ho hdat ?_);have hsz:es.size=es.size:=rfl;refine aA (cR (aE ⟨_,rfl,"dict_keyiterator",_,⟨_,aS _ rfl,rfl⟩,gE.lookup,?_⟩));simpa[rawInt,hsz]using hQ
def UG{it d:Addr}{i ep:Nat}{es:Array DictEntry}{Q:Option Value->Shared->Prop}(hit:s.heap.IsKeyIter it d i es.size ep)
  (hm:aGg s.heap d es ep) (hlt':i<es.size)
  (hQ:∀h',h'.IsKeyIter it d (i+1) es.size ep->cV it s.heap h'->Q (some es[i].key) { s with heap:=h' }) :
  wpAny (model prog w) A (pyNext (.ref it)) Q E s:=by
 obtain⟨o,ho,hc,hd⟩:=id hit;obtain⟨od,hod,hcd,hdd⟩:=id hm;unfold pyNext
 refine aA (wpAny_attempt (wpAny_callSpecial?_slot (name:=Str.ofString "__next__") hit.typeIs gE
  (dB gE hit.typeIs vF ?_ (uX _))))
 refine aA (aE ?_);refine aA ?_;refine aA ?_
 first | refine aA (wpAny_typeNameOfWhole_keyiter hit.typeIs (aE ?_)) | refine aA (wpAny_typeNameOf_keyiter hit.typeIs (aE ?_))
 refine aA (wpAny_fieldsOf ho hd ?_);have hown:Builtin.Dict_items.ownsTuple "dict_keyiterator"=false:=by decide
 simp only[hown,iF,if_false];show wpAny _ _ (if(Value.ref d==Value.none)=true then _ else _) _ _ s;rw[if_neg (show¬((Value.ref d==Value.none)=true)from bE)];refine aA (aE ?_);refine aA (wpAny_dictEntries hod hdd ?_);have hsz:es.size=es.size:=rfl;rw[if_neg (by simp)];refine aA (aE ?_);refine aA (wpAny_dictEpoch hod hdd ?_);rw[if_neg (by simp)];refine aE ?_;simp only[show¬((i:Int)<0)from by omega,if_false,dZ,bK hlt'];refine aA ?_
 first | refine aA (wpAny_typeNameOfWhole_keyiter hit.typeIs (aE ?_)) | refine aA (wpAny_typeNameOf_keyiter hit.typeIs (aE ?_))
 refine aA (wpAny_isOneOf_keyiter hit.typeIs ?_);show wpAny _ _ (setField (.ref it) 1 (rawInt ((i:Int)+1)) >>= _) _ _ s;refine aA (wpAny_setField ho hd (by simp) ?_)
 have hit':(s.heap.update it (Obj.mapFields (·.setIfInBounds 1 (rawInt ((i:Int)+1))))).IsKeyIter it d (i+1) es.size ep:=
  ⟨_,dM _ ho (Obj.isFreed_of_fields (Obj.data_mapFields hd _)),(Obj.cls_mapFields ..).trans hc,by rw[Obj.data_mapFields hd];simp[rawInt]⟩
 refine aA (wpAny_holding ?_);refine aA (wpAny_isOneOf_keyiter (s:={ s with heap:=s.heap.update it (Obj.mapFields (·.setIfInBounds 1 (rawInt ((i:Int)+1)))) }) hit'.typeIs ?_);show wpAny _ _ (pure es[i].key) _ _ _;exact aE (aE ⟨_,rfl,aE (hQ _ hit' (cV.update ..))⟩)
def ZQ{it d:Addr}{i ep:Nat}{es:Array DictEntry}{Q:Option Value->Shared->Prop}(hh:A.handled=none)(hit:s.heap.IsKeyIter it d i es.size ep)
  (hm:aGg s.heap d es ep) (hx:es.size<=i)
  (hQ:∀h',vK it s.heap h'->Q none { s with heap:=h' }):wpAny (model prog w) A (pyNext (.ref it)) Q E s:=by
 obtain⟨o,ho,hc,hd⟩:=id hit;obtain⟨od,hod,hcd,hdd⟩:=id hm;unfold pyNext
 refine aA (wpAny_attempt (wpAny_callSpecial?_slot (name:=Str.ofString "__next__") hit.typeIs gE
  (dB gE hit.typeIs vF ?_ (uX _))))
 refine aA (aE ?_);refine aA ?_;refine aA ?_
 first | refine aA (wpAny_typeNameOfWhole_keyiter hit.typeIs (aE ?_)) | refine aA (wpAny_typeNameOf_keyiter hit.typeIs (aE ?_))
 refine aA (wpAny_fieldsOf ho hd ?_);have hown:Builtin.Dict_items.ownsTuple "dict_keyiterator"=false:=by decide
 simp only[hown,iF,if_false];show wpAny _ _ (if(Value.ref d==Value.none)=true then _ else _) _ _ s;rw[if_neg (show¬((Value.ref d==Value.none)=true)from bE)];refine aA (aE ?_);refine aA (wpAny_dictEntries hod hdd ?_);have hsz:es.size=es.size:=rfl;rw[if_neg (by simp)];refine aA (aE ?_);refine aA (wpAny_dictEpoch hod hdd ?_);rw[if_neg (by simp)];refine aE ?_;have hge:es.size<=i:=hx;simp only[show¬((i:Int)<0)from by omega,if_false,dZ,iP hge];refine aA ?_
 first | refine aA (wpAny_typeNameOfWhole_keyiter hit.typeIs (aE ?_)) | refine aA (wpAny_typeNameOf_keyiter hit.typeIs (aE ?_))
 show wpAny _ _ (setField (.ref it) 0 .none >>= _) _ _ s;refine aA (wpAny_setField ho hd (by simp) ?_);show wpAny _ _ (newExc (.type "StopIteration") [] >>= _) _ _ _;refine aA ?_;simp only[newExc,newTuple];refine aA (cR ?_ (by size_fits));refine aA (m:=firstArgMember _ _) (wpAny_of_eq (a:=Value.none) (by first | rfl | (simp only[firstArgMember];rfl)) ?_);refine cR ?_ (by size_fits);simp only[raiseNew];refine aA (wpAny_handled ?_);rw[show A.in1.handled=none from hh];refine aA (aE (wpAny_throw ?_));refine aA (wpAny_isInstance (T:="StopIteration") (b:=true) ⟨_,aS _ rfl,rfl⟩ isSubtype_stop ?_);exact aE (hQ _ (((cV.update ..).extBut.push _).push _))
end
noncomputable def Itd(p:Addr)(es:List (Int×Addr×V))(ep:Nat):It:=⟨λi H=>H p=some (AH p es ep)/\i<es.length,λi H x H'=>H'=H/\∃e,es[i]?=some e/\x=.ref e.2.1,λi H=>H p=some (AH p es ep)/\es.length<=i⟩
def PJ{P w K tg}(p it:Addr)(es:List (Int×Addr×V))(ep:Nat):ML P w K tg (Itd p es ep) [it] it (λi h=>h.IsKeyIter it p i es.length ep) where
 mem:=by simp
 obj:=λi h st b hb=>by
  have e:b=it:=by simpa using hb
  subst e;obtain⟨o,e,c,d⟩:=st;exact⟨o,e,λv z=>by rw[d]at z;cases z⟩
 keep:=λi h h' st k=>by
  obtain⟨o,e,r⟩:=st;exact⟨o,k it (by simp) o e,r⟩
 item:=by
  intro X hP hw hK hc i pins s σ H E I hf st hg;subst hP hw hK;obtain⟨hp,hi⟩:=hg;obtain⟨⟨h1,h2,o,xs,h3,h4,h5,h6⟩,_⟩:=I.hok p _ hp;have hsz:es.length=xs.size:=by rw[<- aP];exact Paired.length h6
  have hix:i<xs.size:=by omega
  obtain⟨f0,f1,f2,f3,f4,f5⟩:=hf it (by simp);rw[hsz]at st;refine UG st ⟨o,h3,h4,h5⟩ hix λh' st' sb=>?_;have I1:eL X pins σ H { s with heap:=h' }:=I.turned (t':=s.toks) (λb o hb e=>(sb.2 b hb).trans e) f0 f1 f3 f4 f5;obtain⟨en,e1,e2⟩:=JM (j:=i) (d:=xs[i]) h6 (by simp[hix]);obtain⟨o',e,c,d⟩:=id st';rw[<- hsz]at st';rw[e2.2.1];exact⟨_,rfl,OM (s:={ s with heap:=h' }) e c d (by decide) ⟨.ref en.2.1,H,I1,rfl,⟨rfl,en,e1,rfl⟩,st',λb hb=>(hf b hb).1⟩⟩
 done:=by
  intro X hP hw hK hc i pins s σ H E I hf st hg;subst hP hw hK;obtain⟨hp,hi⟩:=hg;obtain⟨⟨h1,h2,o,xs,h3,h4,h5,h6⟩,_⟩:=I.hok p _ hp;have hsz:es.length=xs.size:=by rw[<- aP];exact Paired.length h6
  obtain⟨f0,f1,f2,f3,f4,f5⟩:=hf it (by simp);rw[hsz]at st;exact ZQ (I.ok.hd hc) st ⟨o,h3,h4,h5⟩ (by omega) λh' eb=>⟨rfl,I.turned (t':=s.toks) (λb o hb e=>eb b o hb e) f0 f1 f3 f4 f5⟩
 self:=λ_ _ _ _ _ st h=>wpAny_pyIter_keyiter st h
section
variable{X:Cx}{tg:Expr}
def aMl(tl:TE):TI:=λσ H R=>tl σ H λx H1=>∃(p:Addr)(es:List (Int×Addr×V))(ep:Nat),x=.ref p/\H1 p=some (AH p es ep)/\R (Itd p es ep) H1
def YD{l tl}(hl:PE X l tl):PI X tg l (aMl tl):=by
 intro pins s σ H R I h;refine jO (hl pins s σ H _ I h) λv s1 zq=>?_;obtain⟨x,H1,I1,r1,q1⟩:=zq;obtain⟨p,es,ep,e,hp,q⟩:=q1;subst e;obtain rfl:v=Value.ref p:=r1;obtain⟨⟨h1,h2,o,xs,h3,h4,h5,h6⟩,_⟩:=I1.hok p _ hp;have hsz:es.length=xs.size:=by rw[<- aP];exact Paired.length h6
 refine U2 h1 ⟨o,h3,h4,h5⟩ ?_;refine⟨s1.heap.objs.size,[s1.heap.objs.size],_,_,H1,rfl,I1.kept (t':=s1.toks) λb o e=>aJ _ e,PJ p _ es ep,⟨_,aS _ rfl,rfl,by rw[hsz];rfl⟩,λb hb=>?_,q⟩;have e:b=s1.heap.objs.size:=by simpa using hb
 subst e;exact I1.fpOk (aO _) (I1.hok.fresh (aO _))
end
end L2
namespace TL
open L2
section
variable{X:Cx}{e:Expr}{te:ET}
def aJj(w:World)(te:ET):IT:=λσ Q=>te σ λd=>∃kvs,d=nH w kvs/\Q (kvs.map (·.1))
def F9{tg}(he:hW X e te):E8 X tg e (aJj X.w te):=by
 obtain⟨ve,pe,re⟩:=he;refine⟨_,YD pe,λB p0 H ps σT σ Q R o h k=>re B p0 H ps σT σ _ _ o h λd x H1 s1 r1 q1=>?_⟩;obtain⟨kvs,rfl,q⟩:=q1;obtain⟨p,es,ep,rfl,h1,h2,h3,h4,h5⟩:=wP r1;refine⟨p,es,ep,rfl,bS _ _ h1,k (kvs.map (·.1)) _ H1 s1 ?_ q⟩;have hl:(kvs.map (·.1)).length=es.length:=by rw[h4.length,aB]
 refine⟨λi H e hi=>⟨e _ _ h1,by omega⟩,λi H e hi=>⟨e _ _ h1,by omega⟩,λi H qs y H' _ e hi hy=>?_⟩;obtain⟨rfl,en,e1,rfl⟩:=hy;obtain⟨dx,g1,g2⟩:=h4.get' (i:=i) (v:=.ref en.2.1) (by rw[aI,e1];rfl);exact⟨L2.bJ.refl _,dx,g1,g2.same e⟩
end
end TL
namespace L2
open TL
theorem DR:∀{xs:List V}{us:List Value},fS xs us->∀n,fS (xs.take n) (us.take n)
|_,_,.nil,n=>by rw[xV,xV];exact .nil
|_,_,.cons _ _,0=>.nil
|_,_,.cons r t,n+1=>.cons r (DR t n)
theorem DU:∀{xs:List V}{us:List Value},fS xs us->∀n,fS (xs.drop n) (us.drop n)
|_,_,.nil,n=>by rw[xX,xX];exact .nil
|_,_,.cons r t,0=>.cons r t
|_,_,.cons _ t,n+1=>DU t n
section
variable{X:Cx}
def NR:V->List V->Hp->VK->Prop:=λx vs H Q=>∃(l:Addr)(xs:List V)(n:Nat)(y:V),x=.ref l/\vs=[.int (n:Int),y]/\H l=some (.lst xs)/\n<=xs.length/\xs.length<100000/\Q .non (gO H l (.lst (xs.take n++y::xs.drop n)))
def QC:MtM X "list.insert" NR:=by
 intro pins s σ H x vs v us Q I rx rv h;obtain⟨l,xs,n,y,rfl,rfl,hH,hn,hz,q⟩:=h;cases rx;obtain⟨z,its,c,r,hl,e⟩:=I.lstM hH;have hlen:=r.length;have hL:bL=2^24:=rfl;have hsz:its.toArray.size<=bL:=by rw[bF,<- hlen,hL];omega
 have hfit:Builtin.List.listFitsIndex (n:Int)=true:=by
  unfold Builtin.List.listFitsIndex;simp only[bY,decide_eq_true_eq];omega
 have hnew:∀u:Value,(its.toArray.extract 0 n).push u++its.toArray.extract n its.toArray.size=(its.take n++u::its.drop n).toArray:=λu=>by
  apply Array.toList_inj.mp;simp;exact fW (by rw[eG];exact aO _)
 have hx0:¬(n:Int)<0:=by omega
 have hmin:min ((n:Int)).toNat its.toArray.size=n:=by rw[dZ,bF,<- hlen];omega
 generalize (n:Int)=x at *
 cases rv with
 |cons r1 rr=>
  cases rr with
  |@cons _ u _ _ r2 rr=>
   cases rr;obtain⟨t,rfl⟩:=r1;refine call_meets DN ⟨_,e,rfl⟩ PySem.F.entry_list_insert (PySem.F.args_list_insert_3 _ _ _) (PySem.AutoSeq1.list_insert_list_int_val_1 l its.toArray c x t u (by simp[hfit]) hsz) ⟨e,?_⟩;refine⟨.non,_,I.lset (its':=its.take n++u::its.drop n) hH e ?_ ?_ ?_,rfl,q⟩
   ·show(its.toArray.extract 0 (if x<0 then(x+(its.toArray.size:Int)).toNat else min x.toNat its.toArray.size)).push u++its.toArray.extract (if x<0 then(x+(its.toArray.size:Int)).toNat else min x.toNat its.toArray.size)=_;rw[if_neg hx0,hmin];exact hnew u
   ·exact(DR r n).append (.cons r2 (DU r n))
   ·rw[aV,cU,bC,eG];omega
end
end L2
namespace TL
open L2
section
variable{n:Expr}
theorem D1{K H}:∀{ds:List D}{xs:List V},Reps K H ds xs->∀n,Reps K H (ds.take n) (xs.take n)
|_,_,.nil,n=>by rw[xV,xV];exact .nil
|_,_,.cons _ _,0=>.nil
|_,_,.cons r t,n+1=>.cons r (D1 t n)
theorem D3{K H}:∀{ds:List D}{xs:List V},Reps K H ds xs->∀n,Reps K H (ds.drop n) (xs.drop n)
|_,_,.nil,n=>by rw[xX,xX];exact .nil
|_,_,.cons r t,0=>.cons r t
|_,_,.cons _ t,n+1=>D3 t n
end
def tP{X:Cx}{a b pos ta tb w}(hw:X.w=w)(hu:X.A.units+9<cLine)(ha:hW X a ta)(hb:hW X b tb)(hs:MO b:=by intro _ _;rfl):hW X (.Subscript a b pos) (ZY (aC2 w) ta tb):=by
 subst hw;exact ZN hu ha hb hs
section
variable{K:aL}{B B' H:Hp}{p0 ps:List Addr}{σT:List Sl}{σ:L2.St}
def Ok.less(o:Ok K B p0 H ps σT σ)(hs:bJ B' B):Ok K B' p0 H ps σT σ where
 base:=hs.trans o.base
 sub:=o.sub
 live:=o.live
 len:=o.len
 val:=o.val
 own:=λi ts h=>let ⟨p,xs,h1,h2,h3,h4⟩:=o.own i ts h;⟨p,xs,h1,h2,bJ.free' hs h3,h4⟩
 dis:=o.dis
 dc:=o.dc.to (λ_ _ _ h=>⟨h,rfl⟩) (λ_ _ a _ _=>⟨a,rfl⟩) (λ_ _ _ _ a b=>⟨bJ.free' hs a,b⟩) (L2.bJ.refl _)
def Ok.pokeI(o:Ok K B p0 H ps σT σ){p C dx:Addr}{fs u}(hp:p∈ps)(hB:B p=none)(he:H p=some (.ins C dx fs))(hn:∀(j:Nat)(hs:List Int)(kvs:List (D×D)),σT[j]?≠some (.dic hs kvs))(hu:LT u=false:=by rfl):Ok K B p0 (gO H p u) ps σT σ where
 base:=λb w e=>by
  rw[dA λz=>by rw[z,hB]at e;cases e];exact o.base b w e
 sub:=o.sub
 live:=λq hq=>by
  by_cases e:q=p
  ·subst e;rw[dG];exact⟨_,rfl,hu⟩
  ·rw[dA e];exact o.live q hq
 len:=o.len
 val:=λi d h=>by rw[gR hp];exact o.val i d h
 own:=λi ts h=>by
  rw[gR hp];obtain⟨q,xs,h1,h2,h3,h4,h5,h6⟩:=o.own i ts h;exact⟨q,xs,h1,h2,h3,h4,by rw[dA λz=>by rw[z,he]at h5;cases h5];exact h5,h6⟩
 dis:=o.dis
 dc:=λi hs kvs h=>absurd h (hn i hs kvs)
theorem BS{f y}:∀{fs:List (Str×V)},f∉fs.map (·.1)->pZ f y fs=fs++[(f,y)]
|[],_=>rfl
| (g,x)::r,h=>by
 have hg:¬g=f:=λz=>h (by rw[<- z];exact aR ..);show(if g=f then(g,y)::r else(g,x)::pZ f y r)=_;rw[if_neg hg,BS λz=>h (aM _ z)]
 rfl
def HS{N ds}(j:Nat)(hs:List Int)(kvs:List (D×D)):(jQ N ds)[j]?≠some (.dic hs kvs):=λh=>by
 have hm:=aW h;unfold jQ at hm;rcases cK.mp hm with hm | hm
 ·obtain⟨_,_,z⟩:=aQ.mp hm;cases z
 ·have z:=(List.mem_replicate.mp hm).2;cases z
end
abbrev SpI:=List D->(List D->Prop)->Prop
def xD(C:Addr)(ns:List Str)(K:aL)(sp:SpI):Sp:=λvs H Q _=>∃(x dx:Addr)(fT:List V)(ps:List Addr)(ds:List D)(QD:List D->Prop),vs=.ref x::fT/\x∈ps/\H x=some (.ins C dx [])/\(∀p∈ps,CQ (H p))/\Reps K (mask H ps) ds fT/\sp ds QD /\
 ∀(dsF:List D)(fs:List (Str×V))H',bJ (mask H [x]) H'->H' x=some (.ins C dx fs)->fs.map (·.1)=ns->Reps K (mask H' ps) dsF (fs.map (·.2))->QD dsF->Q .non H'
abbrev NT:=(List (Str×D)->Prop)->List (Str×D)->List Sl->Prop
def PNt(X:Cx)(C:Addr)(st:List Stmt)(t:NT):Prop:=∃ts:TS,CW X st ts/\∀B p0 H ps σT σ (p dx:Addr)(fs:List (Str×V))(fd:List (Str×D))(Q:List (Str×D)->Prop)(DV:xR),
 Ok X.K B p0 H ps σT σ->(∀(j:Nat)(hs:List Int)(kvs:List (D×D)),σT[j]?≠some (.dic hs kvs))->σ[0]?=some (some (.ref p))->p∈ps->B p=none->H p=some (.ins C dx fs)->fs.map (·.1)=fd.map (·.1)->Reps X.K (mask H ps) (fd.map (·.2)) (fs.map (·.2))->t Q fd σT ->
 (∀H'(fs':List (Str×V))(fd':List (Str×D)),bJ B H'->H' p=some (.ins C dx fs')->fs'.map (·.1)=fd'.map (·.1)->Reps X.K (mask H' ps) (fd'.map (·.2)) (fs'.map (·.2))->Q fd'->DV.nx σ H')->ts DV σ H
section
variable{X:Cx}{o e value:Expr}{es:List Expr}{te:ET}{pos pos':Pos}{C:Addr}{fT:List Stmt}{r:NT}{f:Str}
def aL7:NT:=λQ fd _=>Q fd
def aFa:PNt X C [] aL7:=⟨_,AU,λ_ _ H _ _ _ _ _ fs fd _ _ o _ _ _ _ hi hk rs h k=>k H fs fd o.base hi hk rs h⟩
def aJi(f:Str)(te:ET)(r:NT):NT:=λQ fd σ=>te σ λd=>fd.length<=100/\f∉fd.map (·.1)/\r Q (fd++[(f,d)]) σ
def wX(c:RX X.K C)(hna:mS X.K C f)(ho:PE X o (pL 0))(hv:hW X value te)(h2:PNt X C fT r)(hs:iM value (some (.Attribute o f pos')) pos.line X.env=pure false:=by rfl) :
  PNt X C (.Assign [.Attribute o f pos'] value pos::fT) (aJi f te r):=by
 obtain⟨vv,pv,rv⟩:=hv;obtain⟨v2,p2,r2⟩:=h2;refine⟨_,qS (aEs ho pv hs) p2,λB p0 H ps σT σ p dx fs fd Q DV o hn h0 hp hB hi hk rs h k=>?_⟩;refine rv B p0 H ps σT σ _ _ o h λd y H1 s1 r1 q1=>⟨.ref p,h0,p,C,dx,fs,rfl,s1 _ _ hi,c,hna,?_,?_⟩
 ·have:=congrArg iL hk;rw[aB,aB]at this;have:=q1.1;omega
 ·have hf:f∉fs.map (·.1):=by rw[hk];exact q1.2.1
  have o2:=(o.grow s1).pokeI (u:=.ins C dx (pZ f y fs)) hp hB (s1 _ _ hi) hn;have hm:mask (gO H1 p (.ins C dx (pZ f y fs))) ps=mask H1 ps:=gR hp;refine r2 B p0 _ ps σT σ p dx (pZ f y fs) (fd++[(f,d)]) Q DV o2 hn h0 hp hB dG ?_ ?_ q1.2.2 k
  ·rw[BS hf,bG,bG,hk];rfl
  ·rw[hm,BS hf,bG,bG];exact(rs.same (bQ s1)).append (.cons r1 .nil)
def fnI{P w K}{mg:Str->Option Value}{base x qual st}{f:Addr}{fd:jL}{N pn:List Str}{k:Nat}{sp:SpI}{ns}(F:RV K x qual st f fd)(S:dC N pn (bP st))(len:∀ds Q,sp ds Q->ds.length+1=pn.length)
  (hbody:∀(cdv:Value)(A:Around)outer(s:Shared)H E,Room k (A.deeper (envOfC qual (bP st) s.heap.objs.size f cdv))->∀(z:D)(ds:List D)(Q:List D->Prop),sp ds Q ->
   ∃t,PNt (yV gA P w K mg base N qual (bP st) f cdv A outer s H E).nox C (lQ st) t/\t (λfd=>fd.map (·.1)=ns/\Q (fd.map (·.2))) [] (jQ N (z::ds))):dD P w K mg base gA (k+1) f fd pn (xD C ns K sp):=by
 refine F.ok S (λvs H Q E h=>?_) λcdv A outer s H vs Q E hr h=>?_
 ·obtain⟨x,dx,fT,ps,ds,QD,rfl,_,_,_,r,q,_⟩:=h;rw[cU,<- r.length];exact len ds QD q
 ·obtain⟨x,dx,fT,ps,ds,QD,rfl,hx,hi,live,r,q,k⟩:=h;obtain⟨t,⟨ts,p,rd⟩,h⟩:=hbody cdv A outer s H E hr (.dict [(.str "@",.list [.int (x:Nat)])]) ds QD q;have o0:Ok K H ps H ps (jQ N (.dict [(.str "@",.list [.int (x:Nat)])]::ds)) (L2.oF N (.ref x::fT)):=qU live (.cons (.addr []) r);refine⟨ts,p,rd (mask H [x]) ps H ps _ _ x dx [] [] _ _ (o0.less bS) HS rfl hx (if_pos (aR ..)) hi rfl .nil h λH' fs' fd' s' hi' hk' rs' q'=>?_⟩;exact k _ fs' H' s' hi' (hk'.trans q'.1) rs' q'.2
def aJ5(C:Addr)(ns:List Str)(sp:SpI)(t:AT):ET:=λσ Q=>t σ λds=>sp ds λfs=>Q (LU C ns fs)
def ZK{ns sp x p t}(ha:CP X (e::es) t)(pc:∀{ta},PA X (e::es) ta->PE X (.Call (.Name x p) (e::es) [] pos) (aAt C (xD C ns X.K sp) [] E0 ta)):hW X (.Call (.Name x p) (e::es) [] pos) (aJ5 C ns sp t):=by
 obtain⟨v,pa,ra⟩:=ha;refine⟨_,pc pa,λB p0 H ps σT σ Q QV o h k=>ra B p0 H ps σT σ _ _ o h λds xs H1 s1 r1 q1=>λx dx hx hdx hne=>?_⟩;show xD C ns X.K sp (.ref x::(xs++[])) _ _ E0;rw[dL];have live:=(o.grow s1).live;have hxps:x∉ps:=iO live hx;have h1x:gO H1 dx (.own x) x=none:=by rw[dA (Ne.symm hne)];exact hx
 have hm:mask (gO (gO H1 dx (.own x)) x (.ins C dx [])) (x::ps)=mask (gO H1 dx (.own x)) ps:=lD h1x;refine⟨x,dx,xs,x::ps,ds,_,rfl,aR ..,dG,λq hq=>?_,?_,q1,λdsF fs H' s' hx' hns rs qf=>⟨rfl,?_⟩⟩
 ·by_cases e:q=x
  ·subst e;rw[dG];exact⟨_,rfl,rfl⟩
  ·rw[dA e];rcases bH.mp hq with z | z
   ·exact absurd z e
   ·by_cases e2:q=dx
    ·subst e2;rw[dG];exact⟨_,rfl,rfl⟩
    ·rw[dA e2];exact live q z
 ·rw[hm];exact r1.same (bQ (dN hdx))
 ·subst hns;refine k _ _ H' (s1.trans λb u eb=>s' b u ?_) (.ins (pT hxps hx') (rs.same (iS λq hq=>aM _ hq))) qf;have nx:b≠x:=λz=>by rw[z,hx]at eb;cases eb
  have nd:b≠dx:=λz=>by rw[z,hdx]at eb;cases eb
  unfold mask;rw[if_neg (by simpa using nx),dA nx,dA nd];exact eb
end
section
variable{X:Cx}
def gP4(i j k l:Nat):GT:=λd σ Q=>∃a b c e,d=.tuple [a,b,c,e]/\Q ((((σ.set i (.val a)).set j (.val b)).set k (.val c)).set l (.val e))
def ZA{i j k l:Nat}{t}(h:PG X t (ZD X.K 4 (vD (jS i) (vD (jS j) (vD (jS k) (vD (jS l) ZE)))))):CY X t (gP4 i j k l):=
 ⟨_,h,λB p0 H ps σT σ d v Q QV o r h k=>by
  obtain⟨a,b,c,e,rfl,h⟩:=h
  cases r with
  |@tuple p xs _ hq r=>
   cases r with
   |cons ra r=>
    cases r with
    |cons rb r=>
     cases r with
     |cons rc r=>
      cases r with
      |cons re r=>
       cases r;exact⟨_,_,rfl,bJ.seqT bS hq,rfl,_,_,rfl,_,_,rfl,_,_,rfl,_,_,rfl,rfl,k _ _ ((((o.set ra).set rb).set rc).set re) (λn=>kE (kE (kE (kE n _ _) _ _) _ _) _ _) h⟩⟩
end
end TL
namespace L2
open TL
def DF:bootBuiltins "reversed"=some (.type "reversed"):=by decide +kernel
end L2
namespace TL
open L2
structure mC where
 p:Addr
 q:Addr
 ns:List Int
 b:Bool
noncomputable def HM(T:mC)(n:Nat)(l:Int):HO:=.dK [(.inr "script",.ref T.q),(.inr "at",.int n),(.inr "left",.int l),(.inr "digits",.bl T.b)]
noncomputable def nX(T:mC):D:=.dict [(.str "@",.list [.int (T.p:Nat),.int (T.q:Nat),.bool T.b,.list (T.ns.map aH)])]
def aEn{K H}(T:mC):gG K H (nX T) (.ref T.p):=.addr _
def K1{K H}{T:mC}{v}(r:gG K H (nX T) v):v=.ref T.p:=by
 unfold nX at r
 generalize hg:(AL [(.str "@",.list [.int (T.p:Nat),.int (T.q:Nat),.bool T.b,.list (T.ns.map aH)])])=d at r
 cases r with
 |@addr p z=>
  injection hg with hg
  injection hg with hg _
  injection hg with _ hg
  injection hg with hg
  injection hg with hg _
  injection hg with hg
  rw[wE.inj hg]
 |dct=>
  injection hg with hg
  injection hg with hg _
  injection hg with hg _
  injection hg with hg
  exact absurd hg (by decide +kernel)
 |_=>cases hg
section
variable{K:aL}{H H' H1 H2 B:Hp}{p0 ps:List Addr}{σT:List Sl}{σ:L2.St}{T:mC}{n n':Nat}{p:Addr}
def iU(p:Addr)(H H':Hp):Prop:=∀a o,a≠p->H a=some o->H' a=some o
def iU.of(s:bJ H H'):iU p H H':=λa o _ e=>s a o e
def iU.refl:iU p H H:=λ_ _ _ e=>e
def iU.trans(s:iU p H H1)(t:iU p H1 H2):iU p H H2:=λa o n e=>t a o n (s a o n e)
theorem iU.mask(hp:p∈ps)(s:iU p H H'):bJ (mask H ps) (mask H' ps):=λa o e=>by
 unfold TL.mask at e |-
 by_cases ha:a∈ps
 ·rw[if_pos ha]at e;cases e
 ·rw[if_neg ha]at e |-
  exact s a o (λz=>ha (z▸hp)) e
structure qH(K:aL)(H:Hp)(ps:List Addr)(T:mC)(n:Nat):Prop where
 obj:∃l,H T.p=some (HM T n l)
 scr:mZ K (mask H ps) T.q (T.ns.map V.int)
 dig:T.b=true->0<T.ns.length
def qH.grow(t:qH K H ps T n)(s:bJ H H'):qH K H' ps T n:=⟨let ⟨l,e⟩:=t.obj;⟨l,s _ _ e⟩,L2.bJ.seq (bQ s) t.scr,t.dig⟩
structure nA(K:aL)(B:Hp)(p0:List Addr)(H:Hp)(ps:List Addr)(σT:List Sl)(σ:L2.St)(T:mC)(n:Nat):Prop where
 ok:Ok K B p0 H ps σT σ
 mem:T.p∈p0
 nb:B T.p=none
 tp:qH K H ps T n
 bq:mZ K (mask B p0) T.q (T.ns.map V.int)
def nA.mem'(o:nA K B p0 H ps σT σ T n):T.p∈ps:=o.ok.sub _ o.mem
theorem nA.grow(o:nA K B p0 H ps σT σ T n)(s:bJ H H'):nA K B p0 H' ps σT σ T n:=⟨o.ok.grow s,o.mem,o.nb,o.tp.grow s,o.bq⟩
def Ok.growX(o:Ok K B p0 H ps σT σ)(hp:p∈p0)(hB:B p=none)(s:iU p H H')(hl:CQ (H' p)):Ok K B p0 H' ps σT σ where
 base:=λa u e=>s a u (λz=>by rw[z,hB]at e;cases e) (o.base a u e)
 sub:=o.sub
 live:=λq hq=>by
  by_cases e:q=p
  ·subst e;exact hl
  ·obtain⟨u,h1,h2⟩:=o.live q hq;exact⟨u,s q u e h1,h2⟩
 len:=o.len
 val:=λi d h=>let ⟨v,h1,h2⟩:=o.val i d h;⟨v,h1,h2.same (s.mask (o.sub p hp))⟩
 own:=λi ts h=>let ⟨q,xs,h1,h2,h3,h4,h5,h6⟩:=o.own i ts h;⟨q,xs,h1,h2,h3,h4,s q _ (λz=>h4 (z▸hp)) h5,h6.same (s.mask (o.sub p hp))⟩
 dis:=o.dis
 dc:=o.dc.to (λj hs kvs h=>⟨h,rfl⟩) (λq φ a b c=>⟨a,(s q _ (λz=>c (z▸hp)) b).trans b.symm⟩) (λq φ _ _ a b=>⟨a,b⟩) (s.mask (o.sub p hp))
theorem nA.growX(o:nA K B p0 H ps σT σ T n)(s:iU T.p H H')(t:qH K H' ps T n'):nA K B p0 H' ps σT σ T n':=
 ⟨o.ok.growX o.mem o.nb s (by obtain⟨l,e⟩:=t.obj;rw[e];exact⟨_,rfl,rfl⟩),o.mem,o.nb,t,o.bq⟩
theorem nA.set(o:nA K B p0 H ps σT σ T n){i:Nat}{d v}(r:gG K (mask H ps) d v):nA K B p0 H ps (σT.set i (.val d)) (σ.set i (some v)) T n:=⟨o.ok.set r,o.mem,o.nb,o.tp,o.bq⟩
end
abbrev EC:=D->Nat->List Sl->(Nat->D->Prop)->Prop
abbrev AC:=D->Nat->List Sl->(Nat->List D->Prop)->Prop
abbrev TC:=D->Nat->List Sl->(Nat->Bool->Prop)->Prop
def qZ(X:Cx)(e:Expr)(t:EC):Prop:=∃te:TE,PE X e te/\∀B p0 H ps σT σ (T:mC)(n:Nat)(Q:Nat->D->Prop)(QV:VK),nA X.K B p0 H ps σT σ T n->t (nX T) n σT Q ->
 (∀n' d v H',iU T.p H H'->qH X.K H' ps T n'->gG X.K (mask H' ps) d v->Q n' d->QV v H')->te σ H QV
def RT(X:Cx)(es:List Expr)(t:AC):Prop:=∃ta:TA,PA X es ta/\∀B p0 H ps σT σ (T:mC)(n:Nat)(Q:Nat->List D->Prop)(QV:List V->Hp->Prop),nA X.K B p0 H ps σT σ T n->t (nX T) n σT Q ->
 (∀n' ds vs H',iU T.p H H'->qH X.K H' ps T n'->Reps X.K (mask H' ps) ds vs->Q n' ds->QV vs H')->ta σ H QV
def PTc(X:Cx)(e:Expr)(t:TC):Prop:=∃tt:TT,PT X e tt/\∀B p0 H ps σT σ (T:mC)(n:Nat)(Q:Nat->Bool->Prop)(QV:Bool->Hp->Prop),nA X.K B p0 H ps σT σ T n->t (nX T) n σT Q ->
 (∀n' b H',iU T.p H H'->qH X.K H' ps T n'->Q n' b->QV b H')->tt σ H QV
def PWc(X:Cx)(e:Expr)(t:TC):Prop:=∃tt:TT,PW X e tt/\∀B p0 H ps σT σ (T:mC)(n:Nat)(Q:Nat->Bool->Prop)(QV:Bool->Hp->Prop),nA X.K B p0 H ps σT σ T n->t (nX T) n σT Q ->
 (∀n' b H',iU T.p H H'->qH X.K H' ps T n'->Q n' b->QV b H')->tt σ H QV
section
variable{X:Cx}{a b e:Expr}{es:List Expr}{ta tb te:EC}{pos:Pos}
def cE(t:ET):EC:=λ_ n σ Q=>t σ (Q n)
def dF{t}(h:hW X e t):qZ X e (cE t):=by
 obtain⟨v,p,r⟩:=h;exact⟨v,p,λB p0 H ps σT σ T n Q QV o h k=>r B p0 H ps σT σ (Q n) QV o.ok h λd v H' s rr q=>k n d v H' (.of s) (o.tp.grow s) rr q⟩
def cT(t:yZ):TC:=λ_ n σ Q=>t σ (Q n)
def HL{t}(h:J2 X e t):PTc X e (cT t):=by
 obtain⟨v,p,r⟩:=h;exact⟨v,p,λB p0 H ps σT σ T n Q QV o h k=>r B p0 H ps σT σ (Q n) QV o.ok h λb H' s q=>k n b H' (.of s) (o.tp.grow s) q⟩
def cOp(f:D->D->(D->Prop)->Prop)(ta tb:EC):EC:=λτ n σ Q=>ta τ n σ λn1 x=>tb τ n1 σ λn2 y=>f x y (Q n2)
def BV{r}{f:D->D->(D->Prop)->Prop}(h2:zD X r f){va vb:TE}
  (ha:∀B p0 H ps σT σ (T:mC)(n:Nat)(Q:Nat->D->Prop)(QV:VK),nA X.K B p0 H ps σT σ T n->ta (nX T) n σT Q->(∀n' d v H',iU T.p H H'->qH X.K H' ps T n'->gG X.K (mask H' ps) d v->Q n' d->QV v H')->va σ H QV)
  (hb:∀B p0 H ps σT σ (T:mC)(n:Nat)(Q:Nat->D->Prop)(QV:VK),nA X.K B p0 H ps σT σ T n->tb (nX T) n σT Q->(∀n' d v H',iU T.p H H'->qH X.K H' ps T n'->gG X.K (mask H' ps) d v->Q n' d->QV v H')->vb σ H QV)
  (B:Hp) (p0:List Addr) (H:Hp) (ps:List Addr) (σT:List Sl) (σ:L2.St) (T:mC) (n:Nat) (Q:Nat->D->Prop) (QV:VK) (o:nA X.K B p0 H ps σT σ T n) (h:cOp f ta tb (nX T) n σT Q) (k:∀n' d v H',iU T.p H H'->qH X.K H' ps T n'->gG X.K (mask H' ps) d v->Q n' d->QV v H'):tOp r va vb σ H QV:=by
 refine ha B p0 H ps σT σ T n _ _ o h λn1 d1 x H1 s1 t1 r1 q1=>?_;have o1:=o.growX s1 t1;refine hb B p0 H1 ps σT σ T n1 _ _ o1 q1 λn2 d2 y H2 s2 t2 r2 q2=>?_;have o2:=o1.growX s2 t2;exact h2 H2 ps d1 d2 x y (Q n2) QV o2.ok.live (r1.same (s2.mask o.mem')) r2 q2 λd v H' s' r' q'=>k n2 d v H' ((s1.trans s2).trans (.of s')) (t2.grow s') r' q'
def pC{op r}{f:D->D->(D->Prop)->Prop}(ho:nS X (binaryOp op) r)(h2:zD X r f)(ha:qZ X a ta)(hb:qZ X b tb):qZ X (.BinOp a op b pos) (cOp f ta tb):=by
 obtain⟨va,pa,ra⟩:=ha;obtain⟨vb,pb,rb⟩:=hb;exact⟨_,NZ ho pa pb,BV h2 ra rb⟩
def JN{r}{f:D->D->(D->Prop)->Prop}(ho:WN X r)(h2:zD X r f)(ha:qZ X a ta)(hb:qZ X b tb)(hs:A6 b:=by intro _ _;rfl):qZ X (.Subscript a b pos) (cOp f ta tb):=by
 obtain⟨va,pa,ra⟩:=ha;obtain⟨vb,pb,rb⟩:=hb;exact⟨_,TY ho pa pb hs,BV h2 ra rb⟩
def aF5(i:Nat)(tb:EC):EC:=λτ n σ Q=>∃ts,σ[i]?=some (.own ts)/\tb τ n σ λn1 y=>∃(j:Int)(d:D),y=.int j/\atI ts j=some d/\Q n1 d
def aM3:AC:=λ_ n _ Q=>Q n []
def aDf(t:EC)(r:AC):AC:=λτ n σ Q=>t τ n σ λn1 x=>r τ n1 σ λn2 xs=>Q n2 (x::xs)
def dJ:RT X [] aM3:=⟨_,jG,λ_ _ H _ _ _ _ _ _ _ o h k=>k _ _ _ H .refl o.tp .nil h⟩
def bB{tr}(ha:qZ X e te)(hr:RT X es tr)(hs:bN (e::es) X.env=(false,eval e X.env)::bN es X.env:=by rfl):RT X (e::es) (aDf te tr):=by
 obtain⟨va,pa,ra⟩:=ha;obtain⟨vr,pr,rr⟩:=hr;refine⟨_,fY pa pr hs,λB p0 H ps σT σ T n Q QV o h k=>ra B p0 H ps σT σ T n _ _ o h λn1 d x H1 s1 t1 r1 q1=>?_⟩;refine rr B p0 H1 ps σT σ T n1 _ _ (o.growX s1 t1) q1 λn2 ds xs H2 s2 t2 r2 q2=>?_;exact k _ _ _ H2 (s1.trans s2) t2 (.cons (r1.same (s2.mask o.mem')) r2) q2
def aKd(t:AC):EC:=λτ n σ Q=>t τ n σ λn1 ds=>ds.length<=1000/\Q n1 (.tuple ds)
def aM4(t:AC):EC:=λτ n σ Q=>t τ n σ λn1 ds=>ds.length<=1000/\Q n1 (.list ds)
def qF{x1 t}(h:RT X es t):qZ X (.Tuple es x1 pos) (aKd t):=by
 obtain⟨v,p,r⟩:=h;refine⟨_,TW p,λB p0 H ps σT σ T n Q QV o h k=>r B p0 H ps σT σ T n _ _ o h λn1 ds xs H1 s1 t1 r1 q1=>⟨xE (by rw[<- r1.length];exact q1.1),λq hq=>?_⟩⟩;exact k _ _ _ _ (s1.trans (.of (dN hq))) (t1.grow (dN hq)) (rS (o.growX s1 t1).ok.live hq r1) q1.2
def L8{t}(h:RT X es t):qZ X (.List es pos) (aM4 t):=by
 obtain⟨v,p,r⟩:=h;refine⟨_,LB p,λB p0 H ps σT σ T n Q QV o h k=>r B p0 H ps σT σ T n _ _ o h λn1 ds xs H1 s1 t1 r1 q1=>⟨xE (by rw[<- r1.length];exact q1.1),λq hq=>?_⟩⟩;exact k _ _ _ _ (s1.trans (.of (dN hq))) (t1.grow (dN hq)) (rT (o.growX s1 t1).ok.live hq r1) q1.2
def OX(f:List D->(D->Prop)->Prop)(t:AC):EC:=λτ n σ Q=>t τ n σ λn1 ds=>f ds (Q n1)
def aC8{r:List V->Hp->VK->Prop}{f:List D->(D->Prop)->Prop}{t g}(hf:oH X r f)(ha:RT X (e::es) t)(pc:∀{ta},PA X (e::es) ta->PE X (.Call g (e::es) [] pos) (M6 r ta)):qZ X (.Call g (e::es) [] pos) (OX f t):=by
 obtain⟨v,pa,ra⟩:=ha;refine⟨_,pc pa,λB p0 H ps σT σ T n Q QV o h k=>ra B p0 H ps σT σ T n _ _ o h λn1 ds xs H1 s1 t1 r1 q1=>?_⟩;exact hf H1 ps ds xs (Q n1) QV (o.growX s1 t1).ok.live r1 q1 λd v H' s' r' q'=>k n1 d v H' (s1.trans (.of s')) (t1.grow s') r' q'
abbrev WK:=D->Nat->List D->(Nat->D->Prop)->Prop
def fP(K:aL)(sp:WK):Sp:=λvs H Q _=>∃(ps:List Addr)(T:mC)(n:Nat)(ds:List D)(QD:Nat->D->Prop),(∀p∈ps,CQ (H p))/\T.p∈ps/\qH K H ps T n/\Reps K (mask H ps) (nX T::ds) vs/\sp (nX T) n ds QD /\
 ∀n' d v H',iU T.p H H'->qH K H' ps T n'->gG K (mask H' ps) d v->QD n' d->Q v H'
def aDe(sp:WK)(t:AC):EC:=λτ n σ Q=>t τ n σ λn1 ds=>∃es,ds=τ::es/\sp τ n1 es Q
def ZX{k:Nat}{f:Addr}{fd pn sp x p t}(F:dD X.prog X.w X.K X.mg X.base gA k f fd pn (fP X.K sp))(hm:X.mg x=some (.ref f))(hk:gU X.K (.ref f)=true)(hb:sQ X.K fd pn [])
  (hr:Room k X.A) (ha:RT X (e::es) t) (pc:∀{ta},PA X (e::es) ta->PE X (.Call (.Name x p) (e::es) [] pos) (BD (fP X.K sp) [] E0 ta)):qZ X (.Call (.Name x p) (e::es) [] pos) (aDe sp t):=by
 obtain⟨v,pa,ra⟩:=ha;refine⟨_,pc pa,λB p0 H ps σT σ T n Q QV o h k=>ra B p0 H ps σT σ T n _ _ o h λn1 ds xs H1 s1 t1 r1 q1=>?_⟩;obtain⟨es',rfl,q1⟩:=q1;show fP X.K sp (xs++[]) H1 QV E0;rw[dL];exact⟨ps,T,n1,es',Q,(o.growX s1 t1).ok.live,o.mem',t1,r1,q1,λn' d v H' s' t' r' q'=>k n' d v H' (s1.trans s') t' r' q'⟩
def aDc(f:Str->List D->(D->Prop)->Prop)(te:ET)(t:AC):EC:=λτ n σ Q=>te σ λd=>∃z,d=.str z/\t τ n σ λn1 ds=>f z ds (Q n1)
def MA{f:Str->List D->(D->Prop)->Prop}{r:V->List V->Hp->VK->Prop}{g m te t}(hn:hW X m te)(ha:RT X (e::es) t)
  (hf:∀H ps(z:Str)(ds:List D)(xs:List V)(Q:D->Prop)QV,Reps X.K (mask H ps) ds xs->f z ds Q->(∀d v H',bJ H H'->gG X.K (mask H' ps) d v->Q d->QV v H')->r (.str z) xs H QV)
  (pc:∀{v ta},PE X m v->PA X (e::es) ta->PE X (.Call g (e::es) [] pos) (XF X.K "str" r v ta)):qZ X (.Call g (e::es) [] pos) (aDc f te t):=by
 obtain⟨v,pe,re⟩:=hn;obtain⟨va,pa,ra⟩:=ha;refine⟨_,pc pe pa,λB p0 H ps σT σ T n Q QV o h k=>re B p0 H ps σT σ _ _ o.ok h λd x H1 s1 r1 q1=>?_⟩;obtain⟨z,rfl,q1⟩:=q1;cases r1;refine⟨rfl,ra B p0 H1 ps σT σ T n _ _ (o.grow s1) q1 λn1 ds xs H2 s2 t2 r2 q2=>?_⟩;exact hf H2 ps z ds xs (Q n1) QV r2 q2 λd v H' s' r' q'=>k n1 d v H' (((iU.of s1).trans s2).trans (.of s')) (t2.grow s') r' q'
def ZS{n ap te t}(hn:hW X n te)(ha:RT X (e::es) t)
  (pc:∀{v ta},PE X n v->PA X (e::es) ta->PE X (.Call (.Attribute n "join" ap) (e::es) [] pos) (XF X.K "str" (λx xs H Q=>∃z p ys,x=.str z/\xs=[.ref p]/\mZ X.K H p (ys.map V.str)/\(ys.map (·.length)).sum+ys.length*z.length<=16777216/\Q (.str (Txt.join z ys)) H) v ta)):qZ X (.Call (.Attribute n "join" ap) (e::es) [] pos) (aDc aJq te t):=
 MA hn ha (λH ps z ds xs Q QV r h k=>by
  cases r with
  |nil=>exact h.elim
  |cons r1 r2=>
   cases r2 with
   |cons _ _=>cases r1<;>exact h.elim
   |nil=>
    cases r1 with
    |list q s=>
     obtain⟨ys,rfl,hz,h⟩:=h;have e:=D2 s;subst e;exact⟨z,_,ys,rfl,rfl,L2.bJ.seq bS q,hz,k _ _ H (L2.bJ.refl H) (.str _) h⟩
    |_=>exact h.elim) pc
def aKc(t:EC):TC:=λτ n σ Q=>t τ n σ λn1 x=>match x with | .bool b=>Q n1 b | _=>False
def SC{op r}{f:D->D->(D->Prop)->Prop}(ho:nS X (compareOp op) r)(h2:zD X r f)(ha:qZ X a ta)(hb:qZ X b tb)(hm:behindInMarks op b=false:=by first | exact F5 _ | rfl):PTc X (.Compare a [op] [b] pos) (aKc (cOp f ta tb)):=by
 obtain⟨va,pa,ra⟩:=ha;obtain⟨vb,pb,rb⟩:=hb;refine⟨_,F0 ho pa pb hm,λB p0 H ps σT σ T n Q QV o h k=>?_⟩;refine BV h2 ra rb B p0 H ps σT σ T n (λn1 x=>match x with | .bool b=>Q n1 b | _=>False) _ o h λn' d v H' s' t' r' q'=>?_
 cases r' with
 |bool c=>exact⟨c,rfl,k n' c H' s' t' q'⟩
 |_=>exact q'.elim
variable{tA tB':TC}{fT:List Expr}
def aKh(t u:TC):TC:=λτ n σ Q=>t τ n σ λn1 b=>if b=true then u τ n1 σ Q else Q n1 false
def aAr(h:PWc X e tA):PTc X e tA:=by
 obtain⟨v,p,r⟩:=h;exact⟨_,p.pt,r⟩
def MZ(h:PTc X a tA):PWc X (.BoolOp .And [a] pos) tA:=by
 obtain⟨v,p,r⟩:=h;exact⟨_,NV p,r⟩
def R8(ha:PTc X a tA)(hb:PWc X (.BoolOp .And (b::fT) pos) tB'):PWc X (.BoolOp .And (a::b::fT) pos) (aKh tA tB'):=by
 obtain⟨va,pa,ra⟩:=ha;obtain⟨vb,pb,rb⟩:=hb;refine⟨_,TF pa pb,λB p0 H ps σT σ T n Q QV o h k=>ra B p0 H ps σT σ T n _ _ o h λn1 c H1 s1 t1 q1=>?_⟩
 cases c with
 |true=>exact rb B p0 H1 ps σT σ T n1 Q _ (o.growX s1 t1) q1 λn' b H' s' t' q'=>k n' b H' (s1.trans s') t' q'
 |false=>exact k _ _ H1 s1 t1 q1
end
section
variable{K:aL}{H B:Hp}{p0 ps:List Addr}{σT:List Sl}{σ:L2.St}{T:mC}{n:Nat}{p:Addr}
def nA.ne(o:nA K B p0 H ps σT σ T n)(hp:H p=none):T.p≠p:=λz=>by
 obtain⟨l,e⟩:=o.tp.obj;rw[z,hp]at e;cases e
theorem nA.adopt(o:nA K B p0 H ps σT σ T n){u}(hp:H p=none)(hu:LT u=false:=by rfl):nA K B p0 (gO H p u) (p::ps) σT σ T n:=
 ⟨o.ok.adopt hp hu,o.mem,o.nb,⟨let ⟨l,e⟩:=o.tp.obj;⟨l,by rw[dA (o.ne hp)];exact e⟩,by rw[lD hp];exact o.tp.scr,o.tp.dig⟩,o.bq⟩
theorem nA.aside(o:nA K B p0 H ps σT σ T n){q:Addr}{u}(hq:q∈ps)(hB:B q=none)(hn:mF σT)(ne:T.p≠q)(hu:LT u=false:=by rfl):nA K B p0 (gO H q u) ps σT σ T n:=
 ⟨o.ok.aside hq hB hn hu,o.mem,o.nb,⟨let ⟨l,e⟩:=o.tp.obj;⟨l,by rw[dA ne];exact e⟩,by rw[gR hq];exact o.tp.scr,o.tp.dig⟩,o.bq⟩
theorem nA.blk(o:nA K B p0 H ps σT σ T n)(fr:List (Option Nat)):nA K B p0 H ps (jR fr σT) (vC fr σ) T n:=⟨o.ok.blk fr,o.mem,o.nb,o.tp,o.bq⟩
def nA.with(o:nA K B p0 H ps σT σ T n){σT' σ'}(o':Ok K B p0 H ps σT' σ'):nA K B p0 H ps σT' σ' T n:=⟨o',o.mem,o.nb,o.tp,o.bq⟩
end
section
variable{X:Cx}{b e:Expr}{te:EC}{pos:Pos}
def cLc(fr:List (Option Nat))(ti:IT)(g:GT)(te:EC):EC:=λτ n σ Q=>ti σ λts=>ts.length<=100000/\∃P:Nat->Nat->List Sl->List D->Prop,P 0 n (jR fr σ) [] /\
 (∀(k m:Nat)(x:D)σ'(ds:List D),ts[k]?=some x->P k m σ' ds->g x σ' λσ2=>te τ m σ2 λm' y=>P (k+1) m' σ2 (ds++[y]))/\∀m σ' ds,P ts.length m σ' ds->Q m (.list ds)
def UR{fr}{ti:IT}{g:GT}{te:EC}{wi:TI}{gv:BP->TG}{vt:BP->TT}{ve:BP->TE}
  (ri:∀B p0 H ps σT σ (Q:List D->Prop)(R:It->Hp->Prop),Ok X.K B p0 H ps σT σ->ti σT Q->(∀ts J H',bJ H H'->MM X.K (mask H' ps) ts J->Q ts->R J H')->wi σ H R)
  (rg:∀(bp:BP)B p0 H ps σT σ(d:D)(v:V)(Q:List Sl->Prop)(QV:L2.St->Hp->Prop),Ok X.K B p0 H ps σT σ->gG X.K (mask H ps) d v->g d σT Q->(∀σT' σ',Ok X.K B p0 H ps σT' σ'->(mF σT->mF σT')->Q σT'->QV σ' H)->gv bp v σ H QV)
  (rt:∀(bp:BP)B p0 H ps σT σ(Q:Bool->Prop)(QV:Bool->Hp->Prop),Ok X.K B p0 H ps σT σ->tU σT Q->(∀b H',bJ H H'->Q b->QV b H')->vt bp σ H QV)
  (re:∀(bp:BP)B p0 H ps σT σ(T:mC)(n:Nat)(Q:Nat->D->Prop)QV,nA X.K B p0 H ps σT σ T n->te (nX T) n σT Q->(∀n' d v H',iU T.p H H'->qH X.K H' ps T n'->gG X.K (mask H' ps) d v->Q n' d->QV v H')->ve bp σ H QV)
  (B:Hp) (p0:List Addr) (H:Hp) (ps:List Addr) (σT:List Sl) (σ:L2.St) (T:mC) (n:Nat) (Q:Nat->D->Prop) (QV:VK) (o:nA X.K B p0 H ps σT σ T n) (h:cLc fr ti g te (nX T) n σT Q) (k:∀n' d v H',iU T.p H H'->qH X.K H' ps T n'->gG X.K (mask H' ps) d v->Q n' d->QV v H'):KS fr wi gv vt ve σ H QV:=by
 refine ri B p0 H ps σT σ _ _ o.ok h λts J H1 s1 rj q1=>?_;obtain⟨hz,P,h0,hs,hd⟩:=q1;intro bp acc hacc;have o1:=o.grow s1;have hBacc:B acc=none:=bJ.free' o1.ok.base hacc;have hnps:acc∉ps:=iO o1.ok.live hacc;have hne:=o1.ne hacc
 refine⟨λi m σ' H'=>m=ts.length-i/\i<=ts.length/\∃c σT' ds ys,nA X.K B p0 H' (acc::ps) σT' σ' T c/\mF σT'/\H' acc=some (.lst ys)/\ds.length<=i/\Reps X.K (mask H' (acc::ps)) ds ys/\bJ (mask H1 ps) (mask H' (acc::ps))/\iU T.p H1 H'/\P i c σT' ds,
  ⟨_,rfl,cL _,n,jR fr σT,[],[],(o1.blk fr).adopt hacc,oQ fr σT,dG,aO _,.nil,by rw[lD hacc];exact L2.bJ.refl _,.of (dN hacc),h0⟩,?_⟩
 rintro i m σ' H' ⟨rfl,hle,c,σT',ds,ys,o',n',ha,hl,hr,s',sF,p'⟩;have hL:bL=2^24:=rfl;by_cases hlt:i<ts.length
 ·refine .inr ⟨rj.go i H' (s'.trans bS) hlt,λy H2 hy=>?_⟩;obtain⟨s2,dx,hx,rx⟩:=rj.yld i H' (acc::ps) y H2 o'.ok.live s' hlt hy;have o2:=o'.grow s2;refine rg bp B p0 H2 (acc::ps) σT' σ' dx y _ _ o2.ok rx (hs i c dx σT' ds hx p') λσT3 σ3 o3 n3 q3=>?_;refine rt bp B p0 H2 (acc::ps) σT3 σ3 (λb=>b=true) _ o3 rfl λb H4 s4 q4=>?_;subst q4;have o4:=(o2.with o3).grow s4;have s24:=s2.trans s4;refine re bp B p0 H4 (acc::ps) σT3 σ3 T c _ _ o4 q3 λc5 d v H5 s5 t5 r5 q5=>?_;have o5:=o4.growX s5 t5;have m5:bJ (mask H' (acc::ps)) (mask H5 (acc::ps)):=(bQ s24).trans (s5.mask o4.mem');have hm:mask (gO H5 acc (.lst (ys++[v]))) (acc::ps)=mask H5 (acc::ps):=gR (aR ..);refine⟨ys,s5 _ _ (λz=>hne z.symm) (s24 _ _ ha),by rw[<- hr.length];omega,ts.length-(i+1),by omega,rfl,hlt,c5,σT3,ds++[d],ys++[v],o5.aside (aR ..) hBacc (n3 n') hne,n3 n',dG,by rw[aV,nV];omega,?_,?_,?_,q5⟩
  ·rw[hm];exact(hr.same m5).append (.cons r5 .nil)
  ·rw[hm];exact s'.trans m5
  ·intro b u nb e;have ne:b≠acc:=λz=>by rw[z,hacc]at e;cases e
   rw[dA ne];exact s5 b u nb (s24 b u (sF b u nb e))
 ·obtain rfl:i=ts.length:=by omega
  exact .inl ⟨rj.stop _ H' (s'.trans bS) (aO _),k c (.list ds) _ H' ((iU.of s1).trans sF) ⟨o'.tp.obj,L2.bJ.seq (iS λp hp=>aM _ hp) o'.tp.scr,o'.tp.dig⟩ (.list (mZ.of (pT hnps ha)) (hr.same (iS λp hp=>aM _ hp))) (hd c σT' ds p')⟩
def OA{elt iter tg scope fr N' ti g te}(hi:E8 X tg iter ti)
  (hY:∀b:BP,CY (blk X scope N' b) tg g/\zC (blk X scope N' b) [] tU/\qZ (blk X scope N' b) elt te) {M:(TE)->Prop}
  (fin:∀{wi}{gv:BP->TG}{vt:BP->TT}{ve:BP->TE},PI X tg iter wi->(∀b:BP,PG (blk X scope N' b) tg (gv b)/\KE (blk X scope N' b) [] (vt b)/\PE (blk X scope N' b) elt (ve b))->M (KS fr wi gv vt ve)) :
  ∃v:TE,M v/\∀B p0 H ps σT σ (T:mC)(n:Nat)(Q:Nat->D->Prop)(QV:VK),nA X.K B p0 H ps σT σ T n->cLc fr ti g te (nX T) n σT Q ->
   (∀n' d v H',iU T.p H H'->qH X.K H' ps T n'->gG X.K (mask H' ps) d v->Q n' d->QV v H')->v σ H QV:=by
 obtain⟨wi,pi,ri⟩:=hi;refine⟨_,fin (gv:=λb=>Classical.choose (hY b).1) (vt:=λb=>Classical.choose (hY b).2.1) (ve:=λb=>Classical.choose (hY b).2.2) pi λb=>⟨(Classical.choose_spec (hY b).1).1,(Classical.choose_spec (hY b).2.1).1,(Classical.choose_spec (hY b).2.2).1⟩,?_⟩;exact UR ri (λb=>(Classical.choose_spec (hY b).1).2) (λb=>(Classical.choose_spec (hY b).2.1).2) λb=>(Classical.choose_spec (hY b).2.2).2
def aJ2{elt iter tg scope fr N' ti g te}(hi:E8 X tg iter ti)
  (hY:∀b:BP,CY (blk X scope N' b) tg g/\zC (blk X scope N' b) [] tU/\qZ (blk X scope N' b) elt te)
  (pl:∀{wi}{gv:BP->TG}{vt:BP->TT}{ve:BP->TE},PI X tg iter wi->(∀b:BP,PG (blk X scope N' b) tg (gv b)/\KE (blk X scope N' b) [] (vt b)/\PE (blk X scope N' b) elt (ve b))->PE X (.ListComp elt [⟨tg,iter,[],0⟩] scope pos) (KS fr wi gv vt ve)) :
  qZ X (.ListComp elt [⟨tg,iter,[],0⟩] scope pos) (cLc fr ti g te):=OA hi hY pl
end
structure CV where
 nx:Nat->List Sl->Prop
 rt:Nat->D->Prop
 bk:Nat->List Sl->Prop:=λ_ _=>False
 ct:Nat->List Sl->Prop:=λ_ _=>False
abbrev zA:=D->CV->Nat->List Sl->Prop
structure zX(K:aL)(B:Hp)(p0:List Addr)(H:Hp)(ps:List Addr)(T:mC)(DC:CV)(DV:xR):Prop where
 nx:∀H' ps' σT' σ' n',nA K B p0 H' ps' σT' σ' T n'->bJ (mask H ps) (mask H' ps')->DC.nx n' σT'->DV.nx σ' H'
 bk:∀H' ps' σT' σ' n',nA K B p0 H' ps' σT' σ' T n'->bJ (mask H ps) (mask H' ps')->DC.bk n' σT'->DV.bk σ' H'
 ct:∀H' ps' σT' σ' n',nA K B p0 H' ps' σT' σ' T n'->bJ (mask H ps) (mask H' ps')->DC.ct n' σT'->DV.ct σ' H'
 rt:∀n' d v H',bJ B H'->qH K H' p0 T n'->gG K (mask H' p0) d v->DC.rt n' d->DV.rt v H'
def O1(X:Cx)(st:Stmt)(t:zA):Prop:=∃ts:TS,PS X st ts/\∀B p0 H ps σT σ (T:mC)(n:Nat)(DC:CV)(DV:xR),nA X.K B p0 H ps σT σ T n->t (nX T) DC n σT->zX X.K B p0 H ps T DC DV->ts DV σ H
def vZ(X:Cx)(st:List Stmt)(t:zA):Prop:=∃ts:TS,CW X st ts/\∀B p0 H ps σT σ (T:mC)(n:Nat)(DC:CV)(DV:xR),nA X.K B p0 H ps σT σ T n->t (nX T) DC n σT->zX X.K B p0 H ps T DC DV->ts DV σ H
section
variable{K:aL}{H H' B:Hp}{p0 ps:List Addr}{σT:List Sl}{σ:L2.St}{T:mC}{n:Nat}
def zX.later{DC DV ps'}(f:zX K B p0 H ps T DC DV)(e:bJ (mask H ps) (mask H' ps')):zX K B p0 H' ps' T DC DV:=
 ⟨λ_ _ _ _ _ o s q=>f.nx _ _ _ _ _ o (e.trans s) q,λ_ _ _ _ _ o s q=>f.bk _ _ _ _ _ o (e.trans s) q,λ_ _ _ _ _ o s q=>f.ct _ _ _ _ _ o (e.trans s) q,f.rt⟩
def nA.up(o:nA K B p0 H ps σT σ T n){l:Int}(hl:H T.p=some (HM T n l)):Ok K (gO B T.p (HM T n l)) p0 H ps σT σ where
 base:=λa u e=>by
  by_cases z:a=T.p
  ·subst z;rw[dG]at e;cases e;exact hl
  ·rw[dA z]at e;exact o.ok.base a u e
 sub:=o.ok.sub
 live:=o.ok.live
 len:=o.ok.len
 val:=o.ok.val
 own:=λi ts h=>let ⟨q,xs,h1,h2,h3,h4,h5,h6⟩:=o.ok.own i ts h;⟨q,xs,h1,h2,by rw[dA (λz:q=T.p=>h4 (z▸o.mem))];exact h3,h4,h5,h6⟩
 dis:=o.ok.dis
 dc:=o.ok.dc.to (λj hs kvs h=>⟨h,rfl⟩) (λq φ a b _=>⟨a,rfl⟩) (λq φ _ _ a b=>⟨by rw[dA (λz:q=T.p=>b (z▸o.mem))];exact a,b⟩) (L2.bJ.refl _)
def nA.down(o:nA K B p0 H ps σT σ T n){l:Int}{ps' σT' σ'}(o':Ok K (gO B T.p (HM T n l)) p0 H' ps' σT' σ')(s:bJ (mask H ps) (mask H' ps')):nA K B p0 H' ps' σT' σ' T n where
 ok:=⟨(dN o.nb).trans o'.base,o'.sub,o'.live,o'.len,o'.val,λi ts h=>let ⟨q,xs,h1,h2,h3,h4,h5,h6⟩:=o'.own i ts h;⟨q,xs,h1,h2,bJ.free' (dN o.nb) h3,h4,h5,h6⟩,o'.dis,o'.dc.to (λj hs kvs h=>⟨h,rfl⟩) (λq φ a b _=>⟨a,rfl⟩) (λq φ _ _ a b=>⟨bJ.free' (dN o.nb) a,b⟩) (L2.bJ.refl _)⟩
 mem:=o.mem
 nb:=o.nb
 tp:=⟨⟨l,o'.base _ _ dG⟩,L2.bJ.seq s o.tp.scr,o.tp.dig⟩
 bq:=o.bq
def ZG{DC:CV}{DV}(o:nA K B p0 H ps σT σ T n){l:Int}(f:zX K B p0 H ps T DC DV):J6 K (gO B T.p (HM T n l)) p0 H ps { nx:=DC.nx n,rt:=DC.rt n,bk:=DC.bk n,ct:=DC.ct n } DV:=
 ⟨λH' ps' σT' σ' o' s' q'=>f.nx H' ps' σT' σ' n (o.down o' s') s' q',λH' ps' σT' σ' o' s' q'=>f.bk H' ps' σT' σ' n (o.down o' s') s' q',λH' ps' σT' σ' o' s' q'=>f.ct H' ps' σT' σ' n (o.down o' s') s' q',
  λd v H' s' r' q'=>f.rt n d v H' ((dN o.nb).trans s') ⟨⟨l,s' _ _ dG⟩,L2.bJ.seq (bQ ((dN o.nb).trans s')) o.bq,o.tp.dig⟩ r' q',
  λ_ _ _ _ _ _ _ _ _ q'=>q'.elim,λ_ _ _ _ _ _ _ _ _ _ _ _ _ _ _ _ _ _ q'=>q'.elim,λ_ _ _ _ _ _ _ _ _ _ _ _ _ _ q'=>q'.elim,True.intro⟩
end
section
variable{X:Cx}{a b c e:Expr}{es:List Expr}{te:EC}{pos:Pos}{st:Stmt}{fT:List Stmt}{t u:zA}
def sP(t:vE):zA:=λ_ DC n σ=>t { nx:=DC.nx n,rt:=DC.rt n,bk:=DC.bk n,ct:=DC.ct n } σ
def kW{t}(h:A7 X st t):O1 X st (sP t):=by
 obtain⟨ts,p,r⟩:=h;refine⟨ts,p,λB p0 H ps σT σ T n DC DV o h f=>?_⟩;obtain⟨l,hl⟩:=o.tp.obj;exact r _ p0 H ps σT σ _ DV (o.up hl) h (ZG o f)
def E2:zA:=λ_ DC n σ=>DC.nx n σ
def mB(t u:zA):zA:=λτ DC n σ=>t τ { DC with nx:=u τ DC } n σ
def rR:vZ X [] E2:=⟨_,AU,λB p0 H ps σT σ T n DC DV o h f=>f.nx H ps σT σ n o (L2.bJ.refl _) h⟩
def cJ(h1:O1 X st t)(h2:vZ X fT u):vZ X (st::fT) (mB t u):=by
 obtain⟨v1,p1,r1⟩:=h1;obtain⟨v2,p2,r2⟩:=h2;refine⟨_,qS p1 p2,λB p0 H ps σT σ T n DC DV o h f=>r1 B p0 H ps σT σ T n { DC with nx:=u (nX T) DC } { DV with nx:=v2 DV } o h ⟨λH' ps' σT' σ' n' o' s' q'=>?_,f.bk,f.ct,f.rt⟩⟩;exact r2 B p0 H' ps' σT' σ' T n' DC DV o' q' (f.later s')
def iR(h1:O1 X st t):vZ X [st] t:=by
 obtain⟨v1,p1,r1⟩:=h1;exact⟨_,AS p1,r1⟩
def aF3(i:Nat)(t:zA):zA:=λτ DC n σ=>∃ts,σ[i]?=some (.own ts)/\t τ DC n (σ.set i (.val (.list ts)))
def IE{sts}(i:Nat)(h:vZ X sts t):vZ X sts (aF3 i t):=by
 obtain⟨v,p,r⟩:=h;refine⟨_,p,λB p0 H ps σT σ T n DC DV o h f=>?_⟩;obtain⟨ts,e,h⟩:=h;obtain⟨ps',o',s'⟩:=o.ok.share e;exact r B p0 H ps' _ σ T n DC DV ⟨o',o.mem,o.nb,⟨o.tp.obj,L2.bJ.seq s' o.tp.scr,o.tp.dig⟩,o.bq⟩ h (f.later s')
def aKf(te:EC):zA:=λτ DC n σ=>te τ n σ DC.rt
def rQ(h:qZ X e te):O1 X (.Return (some e) pos) (aKf te):=by
 obtain⟨v,p,r⟩:=h;refine⟨_,yF p,λB p0 H ps σT σ T n DC DV o h f=>r B p0 H ps σT σ T n _ _ o h λn' d x H' s' t' r' q'=>?_⟩;have o':=o.growX s' t';exact f.rt n' d x H' o'.ok.base ⟨t'.obj,L2.bJ.seq (bQ o'.ok.base) o.bq,t'.dig⟩ (r'.same (iS o.ok.sub)) q'
def cIf(c:TC)(t u:zA):zA:=λτ DC n σ=>c τ n σ λn1 b=>if b=true then t τ DC n1 σ else u τ DC n1 σ
def wN{c a b tc}(hc:PTc X c tc)(ha:vZ X a t)(hb:vZ X b u):O1 X (.If c a b pos) (cIf tc t u):=by
 obtain⟨vc,pc,rc⟩:=hc;obtain⟨va,pa,ra⟩:=ha;obtain⟨vb,pb,rb⟩:=hb;refine⟨_,TM pc pa pb,λB p0 H ps σT σ T n DC DV o h f=>rc B p0 H ps σT σ T n _ _ o h λn1 d H1 s1 t1 q1=>?_⟩;have o1:=o.growX s1 t1;have f1:=f.later (s1.mask o.mem')
 cases d with
 |true=>exact ra B p0 H1 ps σT σ T n1 DC DV o1 q1 f1
 |false=>exact rb B p0 H1 ps σT σ T n1 DC DV o1 q1 f1
def MF(i:Nat)(te:EC):zA:=λτ DC n σ=>te τ n σ λn1 d=>DC.nx n1 (σ.set i (.val d))
def aEe{i:Nat}{x pos'}(h:qZ X e te)(ps':∀{v},PE X e v->PS X (.Assign [.Name x pos'] e pos) (vN v (jS i))):O1 X (.Assign [.Name x pos'] e pos) (MF i te):=by
 obtain⟨v,p,r⟩:=h;refine⟨_,ps' p,λB p0 H ps σT σ T n DC DV o h f=>r B p0 H ps σT σ T n _ _ o h λn' d x H' s' t' r' q'=>?_⟩;exact f.nx H' ps _ _ n' ((o.growX s' t').set r') (s'.mask o.mem') q'
def SU{i:Nat}{x px spos elt iter tg scope fr N' ti g te}(hi:E8 X tg iter ti)
  (hY:∀b:BP,CY (blk X scope N' b) tg g/\zC (blk X scope N' b) [] tU/\qZ (blk X scope N' b) elt te)
  (pl:∀{wi}{gv:BP->TG}{vt:BP->TT}{ve:BP->TE},PI X tg iter wi->(∀b:BP,PG (blk X scope N' b) tg (gv b)/\KE (blk X scope N' b) [] (vt b)/\PE (blk X scope N' b) elt (ve b)) ->
   PS X (.Assign [.Name x px] (.ListComp elt [⟨tg,iter,[],0⟩] scope pos) spos) (vN (KS fr wi gv vt ve) (jS i))) :
  O1 X (.Assign [.Name x px] (.ListComp elt [⟨tg,iter,[],0⟩] scope pos) spos) (MF i (cLc fr ti g te)):=by
 obtain⟨v,p,r⟩:=OA (M:=λv=>PS X (.Assign [.Name x px] (.ListComp elt [⟨tg,iter,[],0⟩] scope pos) spos) (vN v (jS i))) (fr:=fr) hi hY pl;refine⟨_,p,λB p0 H ps σT σ T n DC DV o h f=>r B p0 H ps σT σ T n _ _ o h λn' d x H' s' t' r' q'=>?_⟩;exact f.nx H' ps _ _ n' ((o.growX s' t').set r') (s'.mask o.mem') q'
theorem nA.write{K B p0 H ps}{σT:List Sl}{σ T}{n:Nat}(o:nA K B p0 H ps σT σ T n){i:Nat}{ts us ys}{p:Addr}(hi:σT[i]?=some (.own ts))(hσ:σ[i]?=some (some (.ref p)))(r:Reps K (mask H ps) us ys) :
  nA K B p0 (gO H p (.lst ys)) ps (σT.set i (.own us)) σ T n:=by
 obtain⟨q,xs,h1,h2,h3,h4,h5,h6⟩:=o.ok.own i ts hi;rw[hσ]at h1;cases h1;have ne:T.p≠p:=λz=>h4 (z▸o.mem);exact⟨o.ok.write hi hσ r,o.mem,o.nb,⟨let ⟨l,e⟩:=o.tp.obj;⟨l,by rw[dA ne];exact e⟩,by rw[gR h2];exact o.tp.scr,o.tp.dig⟩,o.bq⟩
def aAc(ti:IT)(g:GT)(tb:zA):zA:=λτ DC n σ=>ti σ λts=>∃P:Nat->Nat->List Sl->Prop,P 0 n σ /\
 (∀(k m:Nat)(x:D)σ',ts[k]?=some x->P k m σ'->g x σ' λσ2=>tb τ { DC with nx:=P (k+1),ct:=P (k+1),bk:=DC.nx } m σ2)/\∀m σ',P ts.length m σ'->DC.nx m σ'
def aEf{tg iter body g tb ti}(he:E8 X tg iter ti)(hg:CY X tg g)(hb:vZ X body tb)
  (pf:∀{wi gv bv},PI X tg iter wi->PG X tg gv->CW X body bv->PS X (.For tg iter body [] pos) (SF wi gv bv)):O1 X (.For tg iter body [] pos) (aAc ti g tb):=by
 obtain⟨ve,pe,re⟩:=he;obtain⟨gv,pg,rg⟩:=hg;obtain⟨vb,pb,rb⟩:=hb;refine⟨_,pf pe pg pb,λB p0 H ps σT σ T n DC DV o h f=>re B p0 H ps σT σ _ _ o.ok h λts J H1 s1 rj q1=>?_⟩;obtain⟨P,h0,hs,hd⟩:=q1;refine⟨λi m σ' H'=>m=ts.length-i/\i<=ts.length/\∃c ps' σT',nA X.K B p0 H' ps' σT' σ' T c/\bJ (mask H1 ps) (mask H' ps')/\P i c σT',⟨_,rfl,cL _,n,ps,σT,o.grow s1,L2.bJ.refl _,h0⟩,?_⟩;rintro i m σ' H' ⟨rfl,hle,c,ps',σT',o',s',p'⟩;have sH:bJ (mask H1 ps) H':=s'.trans bS;have f':zX X.K B p0 H' ps' T DC DV:=f.later ((bQ s1).trans s');by_cases hlt:i<ts.length
 ·refine .inr ⟨rj.go i H' sH hlt,λσ2 H2=>∃c2 ps2 σT2,nA X.K B p0 H2 ps2 σT2 σ2 T c2/\bJ (mask H1 ps) (mask H2 ps2)/\P (i+1) c2 σT2,λσ2 H2 z=>⟨ts.length-(i+1),by omega,rfl,hlt,z⟩,λy H2 hy'=>?_⟩;obtain⟨s2,dx,hx,rx⟩:=rj.yld i H' ps' y H2 o'.ok.live s' hlt hy';have f2:=f'.later (bQ (ps:=ps') s2);have s'':bJ (mask H1 ps) (mask H2 ps'):=s'.trans (bQ s2);have o2:=o'.grow s2;refine rg B p0 H2 ps' σT' σ' dx y _ _ o2.ok rx (hs i c dx σT' hx p') λσT3 σ3 o3 _ q3=>?_;exact rb B p0 H2 ps' σT3 σ3 T c _ _ (o2.with o3) q3 ⟨λH4 ps4 σT4 σ4 c4 o4 s4 q4=>⟨c4,ps4,σT4,o4,s''.trans s4,q4⟩,λH4 ps4 σT4 σ4 c4 o4 s4 q4=>f2.nx H4 ps4 σT4 σ4 c4 o4 s4 q4,λH4 ps4 σT4 σ4 c4 o4 s4 q4=>⟨c4,ps4,σT4,o4,s''.trans s4,q4⟩,f2.rt⟩
 ·obtain rfl:i=ts.length:=by omega
  exact .inl ⟨rj.stop _ H' sH (aO _),f'.nx H' ps' σT' σ' c o' (L2.bJ.refl _) (hd c σT' p')⟩
def VU{i:Nat}{m b tb}(hn:PE X m (pL i))(hb:qZ X b tb)(hs:A6 b:=by intro _ _;rfl):qZ X (.Subscript m b pos) (aF5 i tb):=by
 obtain⟨vb,pb,rb⟩:=hb;refine⟨_,TY bW hn pb hs,λB p0 H ps σT σ T n Q QV o h k=>?_⟩;obtain⟨ts,e,h⟩:=h;obtain⟨q,xs,h1,h2,h3,h4,h5,h6⟩:=o.ok.own i ts e;refine⟨.ref q,h1,rb B p0 H ps σT σ T n _ _ o h λn1 d y H1 s1 t1 r1 q1=>?_⟩;obtain⟨j,d',rfl,hj,q1⟩:=q1;have ne:q≠T.p:=λz=>h4 (z▸o.mem);cases r1;obtain⟨v,hv,rv⟩:=h6.atI hj;exact .inl ⟨q,xs,j,v,rfl,rfl,mZ.of (s1 _ _ ne h5),hv,k n1 d' v H1 s1 t1 (rv.same (s1.mask o.mem')) q1⟩
def fnC{P w}{mg:Str->Option Value}{base K x qual st}{f:Addr}{fd}{N pn:List Str}{k:Nat}{sp:WK}(F:RV K x qual st f fd)(S:dC N pn (bP st))(len:∀τ n ds Q,sp τ n ds Q->ds.length+1=pn.length)
  (hbody:∀(cdv:Value)(A:Around)outer(s:Shared)H E,Room k (A.deeper (envOfC qual (bP st) s.heap.objs.size f cdv))->∀(Tp:mC)(n:Nat)(ds:List D)(Q:Nat->D->Prop),(Tp.b=true->0<Tp.ns.length)->sp (nX Tp) n ds Q ->
   ∃t,vZ (yV gA P w K mg base N qual (bP st) f cdv A outer s H E).nox (lQ st) t/\t (nX Tp) { nx:=λn _=>Q n .none,rt:=Q } n (jQ N (nX Tp::ds))):dD P w K mg base gA (k+1) f fd pn (fP K sp):=by
 refine F.ok S (λvs H Q E h=>?_) λcdv A outer s H vs Q E hr h=>?_
 ·obtain⟨ps,T,n,ds,QD,_,_,_,r,q,_⟩:=h;rw[<- r.length];exact len _ _ ds QD q
 ·obtain⟨ps,T,n,ds,QD,live,hp,tp,r,q,k⟩:=h;obtain⟨t,⟨ts,p,rd⟩,h⟩:=hbody cdv A outer s H E hr T n ds QD tp.dig q;have o:=qU (N:=N) live r
  have hno:∀(i:Nat)(us:List D),(jQ N (nX T::ds))[i]?≠some (.own us):=λi us e=>by
   obtain⟨q,_,_,_,hB,_,hH,_⟩:=o.own i us e;rw[hB]at hH;cases hH
  have sW:bJ (without H T.p) H:=λa u e=>by
   unfold without at e;split at e
   ·cases e
   ·exact e
  have hx:∀{H':Hp},bJ (without H T.p) H'->iU T.p H H':=λs a u ne e=>s a u (by unfold without;rw[if_neg ne];exact e)
  have o2:Ok K (without H T.p) ps H ps (jQ N (nX T::ds)) (L2.oF N vs):=⟨sW,o.sub,o.live,o.len,o.val,λi us e=>absurd e (hno i us),o.dis,λi hs kvs e=>by
   obtain⟨⟨q,es,_,_,hB,_,hH,_⟩,_⟩:=o.dc i hs kvs e;rw[hB]at hH;cases hH⟩
  have hm:mask (without H T.p) ps=mask H ps:=by
   funext a;unfold mask without;by_cases z:a∈ps
   ·rw[if_pos z,if_pos z]
   ·rw[if_neg z,if_neg z,if_neg (λe:a=T.p=>z (e▸hp))]
  have o3:nA K (without H T.p) ps H ps (jQ N (nX T::ds)) (L2.oF N vs) T n:=⟨o2,hp,by unfold without;rw[if_pos rfl],tp,by rw[hm];exact tp.scr⟩;refine⟨ts,p,rd _ ps H ps _ _ T n _ _ o3 h ⟨λH' ps' σT' σ' n' o' s' q'=>?_,λ_ _ _ _ _ _ _ q'=>q'.elim,λ_ _ _ _ _ _ _ q'=>q'.elim,λn' d v H' s' t' r' q'=>k n' d v H' (hx s') t' r' q'⟩⟩;exact k n' _ _ H' (hx o'.ok.base) ⟨o'.tp.obj,L2.bJ.seq (iS o'.ok.sub) o'.tp.scr,o'.tp.dig⟩ .none q'
end
noncomputable def kS:pK:=.inr "script"
noncomputable def kA:pK:=.inr "at"
noncomputable def kL:pK:=.inr "left"
noncomputable def kD:pK:=.inr "digits"
def kSA:¬kS=kA:=by decide +kernel
def kSL:¬kS=kL:=by decide +kernel
def kSD:¬kS=kD:=by decide +kernel
def kAL:¬kA=kL:=by decide +kernel
def kAD:¬kA=kD:=by decide +kernel
def kLD:¬kL=kD:=by decide +kernel
noncomputable def rO(T:mC)(n:Nat)(l:Int):List (pK×V):=[(kS,.ref T.q),(kA,.int n),(kL,.int l),(kD,.bl T.b)]
section
variable{T:mC}{n:Nat}{l:Int}
def aJk:vL (rO T n l) kS=some (.ref T.q):=oU rfl
def aJn:vL (rO T n l) kA=some (.int n):=by
 unfold rO;rw[mO kSA];exact oU rfl
def aJl:vL (rO T n l) kL=some (.int l):=by
 unfold rO;rw[mO kSL,mO kAL];exact oU rfl
def aJm:vL (rO T n l) kD=some (.bl T.b):=by
 unfold rO;rw[mO kSD,mO kAD,mO kLD];exact oU rfl
def aIa(m:Nat):pM (rO T n l) kA (.int m)=rO T m l:=by
 unfold pM rO;have h1:=kSA;have h2:¬kL=kA:=λz=>kAL z.symm;have h3:¬kD=kA:=λz=>kAD z.symm;simp[h1,h2,h3]
def aH9(m:Int):pM (rO T n l) kL (.int m)=rO T n m:=by
 unfold pM rO;have h1:=kSL;have h2:=kAL;have h3:¬kD=kL:=λz=>kLD z.symm;simp[h1,h2,h3]
end
theorem wO{K H}:∀ns:List Int,Reps K H (ns.map aH) (ns.map V.int)
|[]=>.nil
|i::ns=>.cons (.int i) (wO ns)
noncomputable def aLu(τ:D):D:=match τ with | .dict [(_,.list [_,_,_,l])]=>l | _=>.none
noncomputable def aM2(τ:D):D:=match τ with | .dict [(_,.list [_,_,b,_])]=>b | _=>.none
section
variable{X:Cx}{pos:Pos}{m:Expr}{i:Nat}{kj:Nat}
def wY{z}{j:Nat}{p}:MO (.Constant (.str z) j p):=λ_ _=>rfl
def aAb(i:Nat)(Q':D->Nat->(Nat->D->Prop)->Prop):EC:=λτ n σ Q=>σ[i]?=some (.val τ)/\Q' τ n Q
def uA{K B p0 H ps σT σ}{T:mC}{n:Nat}(o:nA K B p0 H ps σT σ T n)(h:σT[i]?=some (.val (nX T))):σ[i]?=some (some (.ref T.p)):=by
 obtain⟨v,h1,h2⟩:=o.ok.val i _ h;rw[h1,K1 h2]
def ZT{k:Nat}{p2}(hr:Room k X.A)(hn:PE X m (pL i)):qZ X (.Subscript m (.Constant (.str "script") kj p2) pos) (aAb i λτ n Q=>Q n (aLu τ)):=by
 refine⟨_,AV (by have:=hr.un;omega) hn oX wY,λB p0 H ps σT σ T n Q QV o h k=>?_⟩;obtain⟨l,hl⟩:=o.tp.obj;exact⟨_,uA o h.1,T.p,_,rfl,by rw[<- aJk];exact G2.k (k:=kS) hl,k n _ _ H .refl o.tp (.list o.tp.scr (wO _)) h.2⟩
def ZW{k:Nat}{p2}(hr:Room k X.A)(hn:PE X m (pL i)):qZ X (.Subscript m (.Constant (.str "at") kj p2) pos) (aAb i λτ n Q=>Q n (.int n)):=by
 refine⟨_,AV (by have:=hr.un;omega) hn oX wY,λB p0 H ps σT σ T n Q QV o h k=>?_⟩;obtain⟨l,hl⟩:=o.tp.obj;exact⟨_,uA o h.1,T.p,_,rfl,by rw[<- aJn];exact G2.k (k:=kA) hl,k n _ _ H .refl o.tp (.int _) h.2⟩
def ZU{k:Nat}{p2}(hr:Room k X.A)(hn:PE X m (pL i)):qZ X (.Subscript m (.Constant (.str "left") kj p2) pos) (aAb i λτ n Q=>∀l:Int,Q n (.int l)):=by
 refine⟨_,AV (by have:=hr.un;omega) hn oX wY,λB p0 H ps σT σ T n Q QV o h k=>?_⟩;obtain⟨l,hl⟩:=o.tp.obj;exact⟨_,uA o h.1,T.p,_,rfl,by rw[<- aJl];exact G2.k (k:=kL) hl,k n _ _ H .refl o.tp (.int _) (h.2 l)⟩
def ZV{k:Nat}{p2}(hr:Room k X.A)(hn:PE X m (pL i)):qZ X (.Subscript m (.Constant (.str "digits") kj p2) pos) (aAb i λτ n Q=>Q n (aM2 τ)):=by
 refine⟨_,AV (by have:=hr.un;omega) hn oX wY,λB p0 H ps σT σ T n Q QV o h k=>?_⟩;obtain⟨l,hl⟩:=o.tp.obj;exact⟨_,uA o h.1,T.p,_,rfl,by rw[<- aJm];exact G2.k (k:=kD) hl,k n _ _ H .refl o.tp (.bool _) h.2⟩
def aD2{e te}(h:qZ X e te)(pt:∀{t},PE X e t->PT X e (tB t)):PTc X e (aKc te):=by
 obtain⟨v,p,r⟩:=h;refine⟨_,pt p,λB p0 H ps σT σ T n Q QV o h k=>r B p0 H ps σT σ T n _ _ o h λn1 d x H1 s1 t1 r1 q1=>?_⟩
 cases r1 with
 |bool c=>exact⟨c,rfl,k n1 c H1 s1 t1 q1⟩
 |_=>exact q1.elim
def iU.put{H}{p:Addr}{u}:iU p H (gO H p u):=λa o ne e=>by rw[dA ne];exact e
def aDb(i:Nat)(te:EC):zA:=λτ DC n σ=>te τ n σ λn1 d=>d=.int ((n1:Int)+1)/\σ[i]?=some (.val τ)/\DC.nx (n1+1) σ
def XV{k:Nat}{p2 p3 value te}(hr:Room k X.A)(hn:PE X m (pL i))(hv:qZ X value te)(hs:iM value (some (.Subscript m (.Constant (.str "at") kj p2) p3)) pos.line X.env=pure false:=by rfl) :
  O1 X (.Assign [.Subscript m (.Constant (.str "at") kj p2) p3] value pos) (aDb i te):=by
 obtain⟨v,p,r⟩:=hv;refine⟨_,NW (by have:=hr.un;omega) hn oX p hs,λB p0 H ps σT σ T n DC DV o h f=>r B p0 H ps σT σ T n _ _ o h λn1 d x H1 s1 t1 r1 q1=>?_⟩;obtain⟨rfl,hi,q1⟩:=q1;cases r1;have o1:=o.growX s1 t1;obtain⟨l,hl⟩:=t1.obj;refine⟨_,uA o1 hi,T.p,_,rfl,RJ.k (k:=kA) (v:=.int (n1+1:Nat)) hl (by show 4<bL;decide),?_⟩;show DV.nx σ (gO H1 T.p (.dK (pM (rO T n1 l) kA (.int (n1+1:Nat)))));rw[aIa];have t2:qH X.K (gO H1 T.p (HM T (n1+1) l)) ps T (n1+1):=⟨⟨l,dG⟩,by rw[gR o.mem'];exact t1.scr,t1.dig⟩;exact f.nx _ ps σT σ (n1+1) (o1.growX .put t2) ((s1.trans .put).mask o.mem') q1
def WB(i:Nat)(te:EC):zA:=λτ DC n σ=>te τ n σ λn1 d=>(∃l:Int,d=.int l)/\σ[i]?=some (.val τ)/\DC.nx n1 σ
def NJ{k:Nat}{p2 p3 value te}(hr:Room k X.A)(hn:PE X m (pL i))(hv:qZ X value te)(hs:iM value (some (.Subscript m (.Constant (.str "left") kj p2) p3)) pos.line X.env=pure false:=by rfl) :
  O1 X (.Assign [.Subscript m (.Constant (.str "left") kj p2) p3] value pos) (WB i te):=by
 obtain⟨v,p,r⟩:=hv;refine⟨_,NW (by have:=hr.un;omega) hn oX p hs,λB p0 H ps σT σ T n DC DV o h f=>r B p0 H ps σT σ T n _ _ o h λn1 d x H1 s1 t1 r1 q1=>?_⟩;obtain⟨⟨l',rfl⟩,hi,q1⟩:=q1;cases r1;have o1:=o.growX s1 t1;obtain⟨l,hl⟩:=t1.obj;refine⟨_,uA o1 hi,T.p,_,rfl,RJ.k (k:=kL) (v:=.int l') hl (by show 4<bL;decide),?_⟩;show DV.nx σ (gO H1 T.p (.dK (pM (rO T n1 l) kL (.int l'))));rw[aH9];have t2:qH X.K (gO H1 T.p (HM T n1 l')) ps T n1:=⟨⟨l',dG⟩,by rw[gR o.mem'];exact t1.scr,t1.dig⟩;exact f.nx _ ps σT σ n1 (o1.growX .put t2) ((s1.trans .put).mask o.mem') q1
end
def NH(K:aL):Sp:=λvs H Q _=>∃(ps:List Addr)(ns:List Int)(v:V),(∀p∈ps,CQ (H p))/\vs=[v]/\gG K (mask H ps) (.list (ns.map aH)) v /\
 ∀(T:mC) H',T.ns=ns->bJ H H'->H T.p=none->H' T.p=some (HM T 0 0)->mZ K (mask H' ps) T.q (T.ns.map V.int)->(T.b=true->0<T.ns.length)->Q (.ref T.p) H'
abbrev N9(K:aL)(_:uM):Sp:=NH K
def aCi(i:Nat)(te:ET)(u:zA):vE:=λDT σ=>te σ λd=>∃ns:List Int,d=.list (ns.map aH)/\∀T:mC,T.ns=ns->(T.b=true->0<T.ns.length)->u (nX T) { nx:=λ_ _=>False,rt:=λ_ d=>DT.rt d } 0 (σ.set i (.val (nX T)))
def SN{K H ps}{q:Addr}{xs}(h:mZ K (mask H ps) q xs):(q∉ps/\Rd H q (.lst xs))\/∀H',mZ K H' q xs:=by
 rcases h with h | h
 ·refine .inl ⟨λz=>?_,?_⟩
  ·rcases h with h | ⟨u,h⟩
   ·unfold mask at h;rw[if_pos z]at h;cases h
   ·unfold mask at h;rw[if_pos z]at h;cases h
  ·rcases h with h | ⟨u,h⟩
   ·exact .inl (bS _ _ h)
   ·exact .inr ⟨u,bS _ _ h⟩
 ·exact .inr λ_=>.inr h
def XL{X:Cx}{i k:Nat}{f:Addr}{fd pn x y p px pos cp e te fT u}(F:dD X.prog X.w X.K X.mg X.base gA k f fd pn (NH X.K))
  (he:hW X e te) (hs:bN [e] X.env=(false,eval e X.env)::bN [] X.env) (pc:∀{ta},PA X [e] ta->PS X (.Assign [.Name y px] (.Call (.Name x p) [e] [] cp) pos) (vN (BD (NH X.K) [] E0 ta) (jS i))) (hu:vZ X fT u) :
  vY X (.Assign [.Name y px] (.Call (.Name x p) [e] [] cp) pos::fT) (aCi i te u):=by
 obtain⟨ve,pe,re⟩:=he;obtain⟨vu,pu,ru⟩:=hu;refine⟨_,qS (pc (fY pe jG hs)) pu,λB p0 H ps σT σ DT DV o h f=>?_⟩;refine re B p0 H ps σT σ _ _ o h λd v H1 s1 r1 q1=>?_;obtain⟨ns,rfl,q1⟩:=q1;have o1:=o.grow s1;refine⟨ps,ns,v,o1.live,rfl,r1,λT H2 hns s2 hp hH hq hd=>?_⟩;subst hns;have o2:=o1.grow s2;have hB:B T.p=none:=bJ.free' (o.base.trans s1) hp;have hnp:T.p∉ps:=iO o1.live hp
 have hm:bJ (mask H1 ps) (mask H2 (T.p::ps)):=λa u e=>by
  unfold mask at e |-
  by_cases ha:a∈ps
  ·rw[if_pos ha]at e;cases e
  ·rw[if_neg ha]at e;have ne:a≠T.p:=λz=>by rw[z,hp]at e;cases e
   rw[if_neg λz=>(bH.mp z).elim ne ha];exact s2 a u e
 have hqn:(T.q∉T.p::ps/\Rd H2 T.q (.lst (T.ns.map V.int)))\/∀H',mZ X.K H' T.q (T.ns.map V.int):=by
  rcases SN hq with⟨n1,h⟩ | h
  ·refine .inl ⟨λz=>?_,h⟩;rcases bH.mp z with z | z
   ·rw[z]at h;rcases h with h | ⟨u,h⟩
    ·rw[hH]at h;cases h
    ·rw[hH]at h;cases h
   ·exact n1 z
  ·exact .inr h
 have sB:bJ B (λa=>if a∈T.p::ps then B a else H2 a):=λa u e=>by
  by_cases ha:a∈T.p::ps
  ·show(if a∈T.p::ps then B a else H2 a)=_;rw[if_pos ha];exact e
  ·show(if a∈T.p::ps then B a else H2 a)=_;rw[if_neg ha];exact o2.base a u e
 have sB1:bJ (λa=>if a∈T.p::ps then B a else H2 a) H2:=λa u e=>by
  have e':(if a∈T.p::ps then B a else H2 a)=some u:=e;by_cases ha:a∈T.p::ps
  ·rw[if_pos ha]at e';exact o2.base a u e'
  ·rw[if_neg ha]at e';exact e'
 generalize hBg:(λa=>if a∈T.p::ps then B a else H2 a:Hp)=B' at sB sB1
 have hBn:∀a,a∈T.p::ps->B' a=B a:=λa ha=>by rw[<- hBg];exact if_pos ha
 have hBo:∀a,a∉T.p::ps->B' a=H2 a:=λa ha=>by rw[<- hBg];exact if_neg ha
 have oB:Ok X.K B' (T.p::p0) H2 (T.p::ps) σT σ:=by
  refine⟨sB1,λq hq=>?_,λq hq=>?_,o.len,λj d h=>?_,λj ts h=>?_,o.dis,o1.dc.to (λj hs kvs h=>⟨h,rfl⟩) (λq φ a b _=>⟨aM _ a,(s2 _ _ b).trans b.symm⟩) (λq φ a b c d=>⟨(hBn q (aM _ a)).trans c,λz=>by
   rcases bH.mp z with z | z
   ·rw[z,hp]at b;cases b
   ·exact d z⟩) hm⟩
  ·rcases bH.mp hq with z | z
   ·exact z▸aR ..
   ·exact aM _ (o.sub q z)
  ·rcases bH.mp hq with z | z
   ·rw[z,hH];exact⟨_,rfl,rfl⟩
   ·exact o2.live q z
  ·obtain⟨v,h1,h2⟩:=o1.val j d h;exact⟨v,h1,h2.same hm⟩
  ·obtain⟨q,xs,h1,h2,h3,h4,h5,h6⟩:=o1.own j ts h;refine⟨q,xs,h1,aM _ h2,(hBn q (aM _ h2)).trans h3,λz=>?_,s2 _ _ h5,h6.same hm⟩;rcases bH.mp z with z | z
   ·rw[z,hp]at h5;cases h5
   ·exact h4 z
 have sq:∀{H':Hp}{ps':List Addr},(∀a,a∈ps'->a∈T.p::ps)->(∀a,a∉T.p::ps->H' a=H2 a)->mZ X.K (mask H' ps') T.q (T.ns.map V.int):=λ{H' ps'} h1 h2=>by
  rcases hqn with⟨n1,h⟩ | h
  ·have e:mask H' ps' T.q=H2 T.q:=by
    unfold mask;rw[if_neg λz=>n1 (h1 _ z),h2 _ n1]
   rcases h with h | ⟨u,h⟩
   ·exact .inl (.inl (e.trans h))
   ·exact .inl (.inr ⟨u,e.trans h⟩)
  ·exact h _
 have hbq:mZ X.K (mask B' (T.p::p0)) T.q (T.ns.map V.int):=sq (λa ha=>by
  rcases bH.mp ha with z | z
  ·exact z▸aR ..
  ·exact aM _ (o.sub a z)) hBo
 have hsc:mZ X.K (mask H2 (T.p::ps)) T.q (T.ns.map V.int):=sq (λ_ z=>z) λ_ _=>rfl;refine ru B' (T.p::p0) H2 (T.p::ps) _ _ T 0 _ DV ⟨oB.set (aEn T),aR ..,(hBn _ (aR ..)).trans hB,⟨⟨0,hH⟩,hsc,hd⟩,hbq⟩ (q1 T rfl hd) ⟨λ_ _ _ _ _ _ _ q'=>q'.elim,λ_ _ _ _ _ _ _ q'=>q'.elim,λ_ _ _ _ _ _ _ q'=>q'.elim,λn' d v H' s' t' r' q'=>?_⟩;exact f.rt d v H' (sB.trans s') (r'.same (iS λq hq=>aM _ hq)) q'
def QF(T:mC):vT [] (rO T 0 0)=rO T 0 0:=by
 have h1:=kSA;have h2:=kSL;have h3:=kSD;have h4:=kAL;have h5:=kAD;have h6:=kLD;unfold vT rO;simp[pM,h1,h2,h3,h4,h5,h6]
def aJt{P w}{mg:Str->Option Value}{base K}{x qual:Str}{st}{f:Addr}{fd}{n1 n2:Str}{k:Nat}(F:RV K x qual st f fd)(S:dC [n1,n2] [n1] (bP st))
  (hbody:∀(cdv:Value)(A:Around)outer(s:Shared)H E,Room k (A.deeper (envOfC qual (bP st) s.heap.objs.size f cdv)) ->
   ∃(st1:Stmt)(e2:Expr)(pos:Pos)(te:ET),lQ st=[st1,.Return (some e2) pos]/\A7 (yV gA P w K mg base [n1,n2] qual (bP st) f cdv A outer s H E).nox st1 (BJ 1 te) /\
    PE (yV gA P w K mg base [n1,n2] qual (bP st) f cdv A outer s H E).nox e2 (aAu [(tC (.str "script"),pL 0),(tC (.str "at"),tC (.int 0)),(tC (.str "left"),tC (.int 0)),(tC (.str "digits"),pL 1)]) /\
    ∀(ns:List Int)(Q:D->Prop),(∀b:Bool,(b=true->0<ns.length)->Q (.bool b))->te [.val (.list (ns.map aH)),.un] Q):dD P w K mg base gA (k+1) f fd [n1] (NH K):=by
 refine F.ok S (λvs H Q E h=>?_) λcdv A outer s H vs Q E hr h=>?_
 ·obtain⟨ps,ns,v,_,rfl,_⟩:=h
  rfl
 ·obtain⟨ps,ns,v,live,rfl,r,k⟩:=h;obtain⟨st1,e2,pos,te,hb,⟨t1,p1,r1⟩,p2,ht⟩:=hbody cdv A outer s H E hr;rw[hb];refine⟨_,qS p1 (AS (yF p2)),?_⟩;have o:=qU (N:=[n1,n2]) (ds:=[.list (ns.map aH)]) live (.cons r .nil);refine r1 H ps H ps _ _ { nx:=λσT'=>∃b:Bool,(b=true->0<ns.length)/\σT'=[.val (.list (ns.map aH)),.val (.bool b)],rt:=λ_=>False } _ o (ht ns _ λb hb=>⟨b,hb,rfl⟩) ⟨λH' ps' σT' σ' o' s' q'=>?_,λ_ _ _ _ _ _ q'=>q'.elim,λ_ _ _ _ _ _ q'=>q'.elim,λ_ _ _ _ _ q'=>q'.elim,λ_ _ _ _ _ _ _ _ _ q'=>q'.elim,λ_ _ _ _ _ _ _ _ _ _ _ _ _ _ _ _ _ _ q'=>q'.elim,λ_ _ _ _ _ _ _ _ _ _ _ _ _ _ q'=>q'.elim,True.intro⟩;obtain⟨b,hb,rfl⟩:=q';obtain⟨v0,e0,r0⟩:=o'.val 0 _ rfl;obtain⟨v1,e1,r1⟩:=o'.val 1 _ rfl;cases r1;intro p hp;refine⟨v0,e0,.bl b,e1,dG,?_⟩
  cases r0 with
  |@list q xs _ hq rs=>
   have e:=qR rs;subst e;refine⟨rO ⟨p,q,ns,b⟩ 0 0,rfl,(by show 4<=15;decide),?_⟩;rw[QF];have hpH:H p=none:=bJ.free' o'.base hp;refine k ⟨p,q,ns,b⟩ _ rfl (λa u e=>?_) hpH dG ?_ hb
   ·have ne:a≠p:=λz=>by rw[z,hpH]at e;cases e
    rw[dA ne,dA ne];exact o'.base a u e
   ·refine L2.bJ.seq (λa u e=>?_) hq;unfold mask at e |-
    by_cases ha:a∈ps'
    ·rw[if_pos ha]at e;cases e
    ·rw[if_neg ha]at e;have ne:a≠p:=λz=>by rw[z,hp]at e;cases e
     rw[if_neg λz=>ha (o'.sub a z),dA ne,dA ne];exact e
section
variable{t:vE}{u:zA}{τ:D}{DC:CV}{n:Nat}{σ:List Sl}{i:Nat}{te:EC}
def gJ(h:kI t (λ_=>u τ DC n) { nx:=λ_=>True,rt:=DC.rt n,bk:=DC.bk n,ct:=DC.ct n } σ):mB (sP t) u τ DC n σ:=h
def OU(v:D)(h:∀q:Nat->D->Prop,q n v->te τ n σ q)(k:u τ DC n (σ.set i (.val v))):mB (MF i te) u τ DC n σ:=h (λn1 d=>u τ DC n1 (σ.set i (.val d))) k
def iD(R:Nat->D->Prop)(h:∀q:Nat->D->Prop,(∀m v,R m v->q m v)->te τ n σ q)(k:∀m v,R m v->u τ DC m (σ.set i (.val v))):mB (MF i te) u τ DC n σ:=h _ k
def yX{c:TC}{t e:zA}(b:Bool)(h:∀q:Nat->Bool->Prop,q n b->c τ n σ q)(k1:b=true->t τ { DC with nx:=u τ DC } n σ)(k0:b=false->e τ { DC with nx:=u τ DC } n σ):mB (cIf c t e) u τ DC n σ:=by
 refine h _ ?_
 cases b with
 |true=>rw[if_pos rfl];exact k1 rfl
 |false=>rw[if_neg (by decide)];exact k0 rfl
def aF1{c:TC}{t e:zA}(R:Nat->Bool->Prop)(h:∀q:Nat->Bool->Prop,(∀m b,R m b->q m b)->c τ n σ q)(k1:∀m,R m true->t τ { DC with nx:=u τ DC } m σ)(k0:∀m,R m false->e τ { DC with nx:=u τ DC } m σ):mB (cIf c t e) u τ DC n σ:=by
 refine h _ λm b hb=>?_
 cases b with
 |true=>rw[if_pos rfl];exact k1 m hb
 |false=>rw[if_neg (by decide)];exact k0 m hb
def V4{c:TC}(hσ:σ[i]?=some (.val τ))(b:Bool)(h:∀q:Nat->Bool->Prop,q n b->c τ n σ q)(hp:∀q:Nat->D->Prop,(∀l:Int,q n (.int l))->te τ n σ q)(k:u τ DC n σ):mB (cIf c (WB i te) E2) u τ DC n σ:=by
 refine yX b h (λ_=>?_) λ_=>k;exact hp _ λl=>⟨⟨l,rfl⟩,hσ,k⟩
def V3{c:TC}(C:Prop)(R:Nat->Prop)(Rv:D->Prop)(h:∀q:Nat->Bool->Prop,(∀m b,R m->(b=true->C)->q m b)->c τ n σ q)(d0:D)(h0:σ[i]?=some (.val d0))(r0:Rv d0)(S:Nat->Prop)(hS:∀m,R m->S m)(hp:∀m,R m->C->∀q:Nat->D->Prop,(∀m' d,S m'->Rv d->q m' d)->te τ m σ q)(k:∀m d,S m->Rv d->u τ DC m (σ.set i (.val d))):mB (cIf c (MF i te) E2) u τ DC n σ:=by
 refine h _ λm b hb hC=>?_
 cases b with
 |true=>rw[if_pos rfl];exact hp m hb (hC rfl) _ λm' d hm hd=>k m' d hm hd
 |false=>
  rw[if_neg (by decide)]
  have e:σ.set i (.val d0)=σ:=by
   apply gC;intro j;by_cases hj:i=j
   ·subst hj;rw[bD (aG.mp h0).1,h0]
   ·rw[bA hj]
  have:=k m d0 (hS m hb) r0;rw[e]at this;exact this
def Q5{c:TC}{tp:ET}(C:Prop)(S:Nat->Prop)(Rv:D->Prop)(h:∀q:Nat->Bool->Prop,(∀m b,S m->(b=true->C)->q m b)->c τ n σ q)(d0:D)(h0:σ[i]?=some (.val d0))(r0:Rv d0)(hp:C->∀q:D->Prop,(∀d,Rv d->q d)->tp σ q)(k:∀m d,S m->Rv d->u τ DC m (σ.set i (.val d))):mB (cIf c (sP (BJ i tp)) E2) u τ DC n σ:=by
 refine h _ λm b hm hb=>?_
 cases b with
 |true=>rw[if_pos rfl];exact hp (hb rfl) _ λd hd=>k m d hm hd
 |false=>
  rw[if_neg (by decide)]
  have e:σ.set i (.val d0)=σ:=by
   apply gC;intro j;by_cases hj:i=j
   ·subst hj;rw[bD (aG.mp h0).1,h0]
   ·rw[bA hj]
  have:=k m d0 hm r0;rw[e]at this;exact this
def aKa{ti}{ts:List D}{g:GT}{tb}(hti:qI ti σ ts)(P:Nat->Nat->List Sl->Prop)(h0:P 0 n σ)
  (hs:∀(k m:Nat)(x:D)σ',ts[k]?=some x->P k m σ'->g x σ' λσ2=>tb τ { DC with nx:=P (k+1),ct:=P (k+1),bk:=DC.nx } m σ2) (hd:∀m σ',P ts.length m σ'->DC.nx m σ'):aAc ti g tb τ DC n σ:=hti _ ⟨P,h0,hs,hd⟩
def GM{ti}{ts:List D}{g:GT}{tb}(hti:qI ti σ ts)(P:Nat->Nat->List Sl->Prop)(h0:P 0 n σ)
  (hs:∀(k m:Nat)(x:D)σ',ts[k]?=some x->P k m σ'->g x σ' λσ2=>tb τ { DC with nx:=P (k+1),ct:=P (k+1),bk:=u τ DC } m σ2) (hd:∀m σ',P ts.length m σ'->u τ DC m σ'):mB (aAc ti g tb) u τ DC n σ:=
 aKa (DC:={ DC with nx:=u τ DC }) hti P h0 hs hd
def MB{fr ti}{ts:List D}{Q:Nat->D->Prop}(hti:qI ti σ ts)(R:Nat->D->D->Prop)(C:Nat)(hz:ts.length<=100000)
  (ht:∀(k m:Nat)(x:D)(q:Nat->D->Prop),ts[k]?=some x->m<=n+C*k->(∀m' y,m'<=m+C->R k x y->q m' y)->te τ m ((jR fr σ).set 0 (.val x)) q)
  (hq:∀(m:Nat)(ys:List D),m<=n+C*ts.length->ys.length=ts.length->(∀(k:Nat)(x y:D),ts[k]?=some x->ys[k]?=some y->R k x y)->Q m (.list ys)):cLc fr ti (gN 0) te τ n σ Q:=by
 refine hti _ ⟨hz,λk m σ' ds=>(∀x,σ'.set 0 (.val x)=(jR fr σ).set 0 (.val x))/\m<=n+C*k/\ds.length=k/\∀(j:Nat)(x y:D),ts[j]?=some x->ds[j]?=some y->R j x y,⟨λ_=>rfl,by omega,rfl,λj x y _ h=>by simp at h⟩,λk m x σ' ds hx h=>?_,λm σ' ds h=>hq m ds h.2.1 h.2.2.1 h.2.2.2⟩;obtain⟨h1,h2,h3,h4⟩:=h;show te τ m (σ'.set 0 (.val x)) _;rw[h1 x];refine ht k m x _ hx h2 λm' y hm hy=>⟨λz=>set_set _ _ _ _,?_,by simp[h3],λj x' y' e1 e2=>?_⟩
 ·rw[Nat.mul_succ];omega
 ·by_cases hj:j<k
  ·rw[dU (by omega)]at e2;exact h4 j x' y' e1 e2
  ·rw[dE (by omega)]at e2
   have:j=k:=by
    by_cases e:j=k
    ·exact e
    ·have:j-ds.length≠0:=by omega
     cases q:j-ds.length with
     |zero=>exact absurd q this
     |succ n=>rw[q]at e2;simp at e2
   subst this;rw[hx]at e1;cases e1;simp[h3]at e2;subst e2;exact hy
end
section
variable{X:Cx}
noncomputable def lE(i:Int)(n:Nat):List D:=(cQ n).map λk:Nat=>aH (i+(k:Int))
def Y9(t:AT):IT:=λσ Q=>t σ λds=>∃i j:Int,ds=[.int i,.int j]/\(-(2^62)<=i/\i<2^62/\-(2^62)<=j/\j<2^62)/\Q (lE i (j-i).toNat)
def QO{tg a b t p p'}(ha:CP X [a,b] t)(pr:∀{ta},PA X [a,b] ta->PI X tg (.Call (.Name "range" p) [a,b] [] p') (aCy ta)):E8 X tg (.Call (.Name "range" p) [a,b] [] p') (Y9 t):=by
 obtain⟨va,pa,ra⟩:=ha;refine⟨_,pr pa,λB p0 H ps σT σ Q R o h k=>ra B p0 H ps σT σ _ _ o h λds xs H1 s1 r1 q1=>?_⟩;obtain⟨i,j,rfl,hb,q⟩:=q1
 cases r1 with
 |cons r1 r2=>
  cases r2 with
  |cons r2 r3=>
   cases r3;cases r1;cases r2;refine⟨i,j,rfl,hb,k (lE i (j-i).toNat) _ H1 s1 ?_ q⟩;have hl:(lE i (j-i).toNat).length=(j-i).toNat:=by unfold lE;simp
   refine⟨λi H _ e=>by rw[hl]at e;exact e,λi H _ e=>by rw[hl]at e;exact e,λm H ps y H' _ _ e hy=>?_⟩;obtain⟨rfl,rfl⟩:=hy;rw[hl]at e;refine⟨L2.bJ.refl _,.int (i+m),?_,.int _⟩;unfold lE;rw[aI,gZ e];rfl
end
end TL
namespace L2
open AutoSeq1 (wpAny_loadPart')
section
variable{prog:bX}{w:World}{A:Around}{E:Value->Shared->Prop}{s:Shared}
def JQ{Q:List Value->Shared->Prop}{r:Addr}{a b c:Int}{t u v}{n:Nat}(hh:A.handled=none)(hr:IsRange s.heap r a b c t u v)(hsmall:Builtin.Range.small a b c=true)(hn:Builtin.Range.rangeSize a b c=n)(hlen:n<=2^24)
  (hQ:∀h' tk acc,(∀b o,s.heap.get? b=some o->h'.get? b=some o)->ItemsOf (λi v=>∃t,v=.int (a+i*c) t) acc n->Q acc.toList { s with heap:=h',toks:=tk }):wpAny (model prog w) A (collect (.ref r)) Q E s:=by
 unfold collect;refine aA (wpAny_runValue (codeAny_builtin oO ?_));rw[Around.under_plainId oN _];show wpAny _ A.in1 (newList [] >>= λl=>again (.builtin "list.__iadd__" ⟨[l,.ref r],[]⟩)) _ _ s;refine aA (cR ?_);refine aE ⟨plainId_quiet iK _,codeAny_builtin rC ?_⟩;rw[Around.under_plainId iK _];have hS:(s.heap.push { cls:=.type "list",data:=.seq ([]:List Value).toArray }).get? s.heap.objs.size=some { cls:=.type "list",data:=.seq #[] }:=aS _ rfl;show wpAny _ A.in1 (Builtin.List.listExtendWith (.ref s.heap.objs.size) (.ref r) (.ref s.heap.objs.size)) _ _ _
 refine gT (wpAny_extend_range (A:=A) (R:=λr s'=>r=.ok (.ret (.ref s.heap.objs.size))/\∃h' tk acc c',s'={ s with heap:=h',toks:=tk }/\(∀b o,b≠s.heap.objs.size->(s.heap.push { cls:=.type "list",data:=.seq ([]:List Value).toArray }).get? b=some o->h'.get? b=some o)/\h'.get? s.heap.objs.size=some { cls:=.type "list",dict:=none,data:=.seq acc c',slots:=#[] }/\ItemsOf (λi v=>∃t,v=.int (a+i*c) t) acc n)
  (s:={ s with heap:=s.heap.push { cls:=.type "list",data:=.seq ([]:List Value).toArray } }) hh (aJ _ hr) hsmall hn hlen s.heap.objs.size (.ref s.heap.objs.size) 0 hS λh' tk acc c' hk hS' hacc=>⟨rfl,h',tk,acc,c',rfl,hk,hS',hacc⟩) (λfin s' h=>?_) (λe s' h=>absurd h.1 (by simp))
 cases fin with
 |done f=>
  obtain⟨e,h',tk,acc,c',rfl,hk,hS',hacc⟩:=h;cases e
  (show wpAny _ A (load s.heap.objs.size >>= _) _ _ _;exact aA (wpAny_load hS' (aE (hQ h' tk acc (λb o e=>hk b o (bO (bI e)) (aJ _ e)) hacc))))
 |again c'=>
  exact⟨h.1,codeAny_mono h.2 λr s'' hr=>by
   obtain⟨rfl,h',tk,acc,c'',rfl,hk,hS',hacc⟩:=hr
   (show wpAny _ A (load s.heap.objs.size >>= _) _ _ _;exact aA (wpAny_load hS' (aE (hQ h' tk acc (λb o e=>hk b o (bO (bI e)) (aJ _ e)) hacc))))⟩
def AE(r:Addr)(a b c:Int)(t u v:Tok)(n:Nat)(hsmall:Builtin.Range.small a b c=true)(hn:Builtin.Range.rangeSize a b c=n)(hlen:n<=2^24) :
  Meets (Builtin.«tuple.__new__» ⟨[.type "tuple",.ref r],[]⟩)
   (λA R s=>A.handled=none/\IsRange s.heap r a b c t u v/\∀(h':Heap)(tk:Nat)(acc:Array Value),(∀b o,s.heap.get? b=some o->h'.get? b=some o)->ItemsOf (λi v=>∃t,v=.int (a+i*c) t) acc n ->
    R (.ok (.ret (.ref h'.objs.size))) { s with heap:=h'.push { cls:=.type "tuple",data:=.seq acc },toks:=tk }):=
 .of_wp λprog w A R s h=>by
  obtain⟨hh,hr,h⟩:=h;have hsub:=sub_tuple_self;have hinit:=init_tuple_lookup;have hmh:=madeHere_tuple;have hT:s.TypeIs (.ref r) "range":=⟨_,hr,rfl⟩;have hh1:A.in1.handled=none:=hh
  wp_walk using wpAny_loadPart' hr,wpAny_typeOf hT,JQ (A:=A.in1) hh1 hr hsmall hn hlen
  intro h' tk acc hk hacc;show wpAny _ _ (Builtin.Tuple.tupleExact acc.toList.toArray >>= λv=>ret v) _ _ _;unfold Builtin.Tuple.tupleExact;refine aA (cR ?_ (show acc.toList.toArray.size<=bL by simp only[Array.toArray_toList];rw[hacc.1,sizeLine_eq];omega));refine aE ⟨_,rfl,?_⟩;have e:acc.toList.toArray=acc:=by simp
  rw[e];exact h h' tk acc hk hacc
end
section
variable{X:Cx}
def CK(hc:X.calm=true):jE X (.type "tuple") (λxs H Q=>∃(r:Addr)(j:Int),xs=[.ref r]/\H r=some (.ext (BL r j))/\0<=j/\j<=100000/\∀p,H p=none->Q (.ref p) (gO H p (.tup ((cQ j.toNat).map λ(k:Nat)=>V.int (k:Int))))):=by
 intro pins s σ H xs us Q I r h;obtain⟨r',j,rfl,hr,h0,h1,q⟩:=h;obtain⟨u,rfl,ru⟩:=nM r;cases ru;obtain⟨⟨t,u,v,hR⟩,_,_⟩:iN X.prog X.w H s.heap r' (.ext (BL r' j)):=I.hok r' _ hr;have hL:bL=2^24:=rfl;have hn:Builtin.Range.rangeSize 0 j 1=((j.toNat:Nat):Int):=by rw[rangeSize_one];split<;>omega
 refine callType_new J8 (by decide) (DM _) (FF _) (λobj=>pH obj _) FH
  (AE r' 0 j 1 t u v j.toNat (small_one (by decide) (by decide) (by omega) (by omega)) hn (by omega)) ⟨I.ok.hd hc,hR,λh' tk acc hk hit=>⟨⟨_,aS _ rfl,rfl⟩,?_⟩⟩
 have I1:eL X pins σ H { s with heap:=h',toks:=tk }:=I.kept (t':=tk) hk;refine⟨.ref h'.objs.size,_,I1.laid (t':=tk) (o:=.tup ((cQ j.toNat).map λ(k:Nat)=>V.int (k:Int))) (λb o e=>aJ _ e) (aO _) ?_,rfl,q _ (I1.hok.fresh (aO _))⟩;refine⟨by rw[aB,cH];omega,acc.toList,?_,by simpa using AJ.new h' acc⟩;rw[List.range_eq_range'];refine HH j.toNat 0 acc.toList (by rw[aP];exact hit.1) λi v hv=>?_;obtain⟨t,ht⟩:=hit.2 i v (by simpa using hv);exact⟨t,by rw[ht];congr 1;omega⟩
end
end L2
namespace TL
open L2
section
variable{X:Cx}{e:Expr}{te:ET}{x:Str}{pos pos':Pos}
def ss(i:Nat)(hN:X.N.Nodup)(h:hW X e te)(hi:X.N[i]?=some x:=by rfl)(hx:RH X.env.scope x:=by first | exact Or.inl rfl | exact Or.inr rfl)(hs:iM e (some (.Name x pos')) pos.line X.env=pure false:=by rfl)
  (hf:X.fn x=true\/X.env.scope.names.lookup x=some .local:=by first | exact .inl rfl | exact .inr rfl):A7 X (.Assign [.Name x pos'] e pos) (BJ i te):=SK (i:=i) h λh=>tE hN hi hx h hs hf
def pn(i:Nat)(hN:X.N.Nodup)(hi:X.N[i]?=some x:=by rfl)(hx:RH X.env.scope x:=by first | exact Or.inl rfl | exact Or.inr rfl)(hf:X.fn x=true\/X.env.scope.names.lookup x=some .local:=by first | exact .inl rfl | exact .inr rfl):PG X (.Name x pos) (jS i):=NY hN hi hx hf
def qE{N P:List Str}{sc:Scope}(h1:sc.kind=.function:=by rfl)(h2:sc.isCoroutine=false:=by rfl)(h3:sc.isGenerator=false:=by rfl)(h4:N.Nodup:=by decide +kernel)(h5:N.take P.length=P:=by rfl)(h6:∀x∈P,sc.names.lookup x=some .local\/sc.names.lookup x=some .cell:=by decide +kernel)(h7:∀y∈sc.names,y.2≠.free:=by decide +kernel):dC N P sc:=⟨h1,h2,h3,h4,h5,h6,h7⟩
end
end TL
namespace L2
inductive sK:List (Int×Value)->List Int->Prop where
|nil:sK [] []
|cons (k:Int) (t:Tok) {es:List (Int×Value)} {l:List Int}:sK es l->sK ((hashInt k,.int k t)::es) (k::l)
def sK.len{es:List (Int×Value)}{l:List Int}(h:sK es l):es.length=l.length:=by
 induction h with
 |nil=>rfl
 |cons k t _ ih=>simp[ih]
def sK.app{es fs l m}(h:sK es l)(g:sK fs m):sK (es++fs) (l++m):=by
 induction h with
 |nil=>exact g
 |cons k t _ ih=>exact .cons k t ih
section
variable{prog:bX}{w:World}
def sK.find{es:List (Int×Value)}{l:List Int}(h:sK es l)(k:Int):(es.findIdx? λe=>(intKind prog w).is (k:Int) e.2)=l.findIdx? (·==k):=by
 induction h with
 |nil=>rfl
 |cons m t h ih=>
  rw[R1,R1,ih]
  have e:(intKind prog w).is (k:Int) (.int m t)=(m==k):=by
   show Value.isInt (k:Int) (.int m t)=_;by_cases q:m=k
   ·subst q;rw[show(m==m)=true by simp];exact intKind_is prog w (m:Int) t
   ·rw[show(m==k)=false by simpa using q,AD];intro z;obtain⟨u,z⟩:=Value.isInt_shape z;injection z with z _
    exact q (by omega)
  rw[e]
end
section
def stored{h:Heap}{a:Addr}{o:Obj}{es es'}{ep:Nat}{t t'}(ho:h.get? a=some o)(hd:o.data=.set es ep t) :
  (h.update a (Obj.putSet es' t')).get? a=some { o with data:=.set es' (ep+1) t' }:=by
 have:=dM (Obj.putSet es' t') ho (by rw[putSet_of es' t' hd];rfl);rw[putSet_of es' t' hd]at this;exact this
end
noncomputable def eE(w:World):Bool:=w.params.followText "set-order"
section
variable{prog:bX}{w:World}{A:Around}{E:Value->Shared->Prop}{s:Shared}
def IC(a:Value){Q₁:Value->Shared->Prop}(h:Q₁ (.ref s.heap.objs.size) { s with heap:=s.heap.push { cls:=.type "set",dict:=none,data:=.set #[] 0 (.fresh 0 0 (!eE w)) } }) :
  codeAny (model prog w) A (.call (.builtin "set.__new__") ⟨[.type "set",a],[]⟩) (wants Q₁ E) s:=by
 refine codeAny_of_tree ?_;show wpAny _ A.in1 (do checkBuiltinCall "set.__new__" ⟨[.type "set",a],[]⟩;again (.builtin "set.__new__" ⟨[.type "set",a],[]⟩)) _ _ s;refine aA (wpAny_of_eq (PySem.F.newCall_set_1 a) (aE ⟨plainId_quiet HC _,codeAny_builtin PySem.F.entry_set_new ?_⟩));rw[Around.under_plainId HC _];unfold Builtin.«set.__new__» Builtin.Frozenset.newClass;have z:=PySem.sub_set_self;obtain⟨hp,g,d,tk,os⟩:=s;dsimp only
 wp_walk
 refine wpAny_askSetting (aE ?_);dsimp only;simp only[newObj];exact aA (wpAny_alloc (aE (aE h)))
end
def eX:Slot "set_iterator" "__next__" "set_iterator.__next__":=
 Slot.of (owner:="set_iterator") (n:="__next__") (by rw[typeLookup_type,builtinLookup_eq_fast];kernel_rfl) (by decide +kernel) (by decide +kernel) (by decide +kernel) (.inl (by decide +kernel)) (by rw[isSubtype_type];kernel_rfl)
def lL:Slot "set_iterator" "__iter__" "set_iterator.__iter__":=
 Slot.of (owner:="set_iterator") (n:="__iter__") (by rw[typeLookup_type,builtinLookup_eq_fast];kernel_rfl) (by decide +kernel) (by decide +kernel) (by decide +kernel) (.inl (by decide +kernel)) (by rw[isSubtype_type];kernel_rfl)
def lA:entryFor table "set_iterator.__next__"=some Builtin.«set_iterator.__next__»:=entryFor_of_tree (by kernel_rfl)
def qX:entryFor table "set_iterator.__iter__"=some Builtin.«dict_keyiterator.__iter__»:=entryFor_alias (id':="dict_keyiterator.__iter__") (by kernel_rfl) (by first | rfl | decide +kernel) (by decide +kernel) (by kernel_rfl)
def tQ:entryFor table "set.__iter__"=some Builtin.«frozenset.__iter__»:=entryFor_alias (id':="frozenset.__iter__") (by kernel_rfl) rfl (by decide +kernel) (by kernel_rfl)
def lT(a:Value):argsOk "set_iterator.__next__" ⟨[a],[]⟩:=by unfold argsOk;kernel_rfl
def sO(a:Value):argsOk "set_iterator.__iter__" ⟨[a],[]⟩:=by unfold argsOk;kernel_rfl
noncomputable def uU(w:World)(a:Addr)(ep:Nat)(es:Array (Int×Value)):Array (Int×Value):=if eE w=true then pickOrder (w.params.setOrder a ep) es else es
def B9{α:Type}{l:List α}{i:Nat}(h:i<l.length):gD (l[i]::l.eraseIdx i) l:=by
 have e:l=l.take i++l[i]::l.drop (i+1):=by rw[<- List.drop_eq_getElem_cons h,nU]
 rw[List.eraseIdx_eq_take_drop_succ]
 conv=>rhs;rw[e]
 exact A8.symm
theorem NX{α:Type}(next:Nat->Nat):∀(n k:Nat)(left:List α)(out:Array α),left.length=n->gD (pickOrder.go next n k left out).toList (out.toList++left)
|0,k,left,out,h=>by
 have:left=[]:=mW.mp h;subst this;unfold pickOrder.go;simp
|n+1,k,left,out,h=>by
 have hlt:next k%left.length<left.length:=iY _ (by omega);unfold pickOrder.go;rw[aF hlt];dsimp only;refine(NX next n (k+1) _ _ (by rw[FL hlt];omega)).trans ?_;rw[qN,nE];exact gD.append_left _ (B9 hlt)
def wU(w:World)(a:Addr)(ep:Nat)(es:Array (Int×Value)):gD (uU w a ep es).toList es.toList:=by
 unfold uU;split
 ·have:=NX (w.params.setOrder a ep) es.size 0 es.toList #[] (by simp);exact this
 ·exact .rfl
theorem EV:∀{es:List (Int×Value)}{l},sK es l->IntsAre (es.map (·.2)) l
|_,_,.nil=>.nil
|_,_,.cons k t r=>.cons (k:Int) t (EV r)
def EU{l es}(h:sK es l){fs}(p:gD fs es):∃m:List Int,sK fs m/\gD m l:=by
 induction p generalizing l with
 |nil=>cases h;exact⟨[],.nil,.rfl⟩
 |cons x p ih=>cases h with
  |cons k t r=>
   obtain⟨m,hm,hp⟩:=ih r;exact⟨k::m,.cons k t hm,hp.cons k⟩
 |swap x y p=>cases h with
  |cons k t r=>cases r with
   |cons j u r=>exact⟨_,.cons j u (.cons k t r),gD.swap ..⟩
 |trans p q ih1 ih2=>
  obtain⟨m,hm,hp⟩:=ih2 h;obtain⟨n,hn,hq⟩:=ih1 hm;exact⟨n,hn,hq.trans hp⟩
section
variable{prog:bX}{w:World}{A:Around}{E:Value->Shared->Prop}{s:Shared}
def C6{src}{n:Nat}{Q:Nat->Shared->Prop}(hn:n≠0)(h:∀i d,i<n->Q i { s with drawn:=d }):wpAny (model prog w) A (choose src n) Q E s:=by
 intro Γ p hΓ;unfold choose;rw[Sem.wp_choose];exact⟨hn,aE (A:=A) (M:=model prog w) (E:=E) (h _ _ (iY _ (Nat.pos_of_ne_zero hn))) Γ p hΓ⟩
theorem CB{α:Type}:∀(n:Nat)(xs:List α)(s:Shared)(Q:List α->Shared->Prop),xs.length=n->(∀ys d,gD ys xs->Q ys { s with drawn:=d })->wpAny (model prog w) A (drawOrder n xs) Q E s
|0,xs,s,Q,hx,h=>by
 have:xs=[]:=mW.mp hx;subst this;exact aE (h [] s.drawn .rfl)
|n+1,[],s,Q,hx,h=>by cases hx
|n+1,x::xs,s,Q,hx,h=>by
 unfold drawOrder;refine aA (C6 (by simp) λi d hi=>?_);rw[aF hi];dsimp only;refine aA (CB n ((x::xs).eraseIdx i) _ _ (by rw[FL hi];omega) λys d' hp=>aE (h _ d' ?_));exact(hp.cons _).trans (B9 hi)
end
theorem eL.drawn{X pins σ H s}(I:eL X pins σ H s)(d:Drawn):eL X pins σ H { s with drawn:=d }:=⟨I.ok,I.os,I.bare,I.base,I.loc,I.cell,I.free,I.freeC,I.pin,I.hok,I.len⟩
abbrev pE(l:List Nat):Prop:=l.Pairwise (·<·)
def Cut(xs:Array Nat)(j r:Nat):Prop:=r<=xs.size/\(∀i v,i<r->xs[i]?=some v->v<j)/\∀i v,r<=i->xs[i]?=some v->j<=v
def uD{xs:Array Nat}(h:pE xs.toList){i k a b:Nat}(hik:i<k)(ha:xs[i]?=some a)(hb:xs[k]?=some b):a<b:=by
 rw[<- cD]at ha hb;obtain⟨h1,rfl⟩:=aG.mp ha;obtain⟨h2,rfl⟩:=aG.mp hb;exact List.pairwise_iff_getElem.mp h i k h1 h2 hik
theorem CM{xs:Array Nat}(h:pE xs.toList)(j:Nat):∀(fuel lo hi:Nat),hi-lo<=fuel->lo<=hi->hi<=xs.size->(∀i v,i<lo->xs[i]?=some v->v<j)->(∀i v,hi<=i->xs[i]?=some v->j<=v)->Cut xs j (SetTable.below.go xs j fuel lo hi)
|0,lo,hi,h1,h2,h3,h4,h5=>by
 obtain rfl:lo=hi:=by omega
 exact⟨h3,h4,h5⟩
|fuel+1,lo,hi,h1,h2,h3,h4,h5=>by
 unfold SetTable.below.go;by_cases hlt:lo<hi
 ·rw[if_pos hlt];dsimp only;have hm:(lo+hi) / 2<hi:=by omega
  have hm2:lo<=(lo+hi) / 2:=by omega
  generalize (lo+hi) / 2=mid at hm hm2
  have hme:xs[mid]?=some xs[mid]:=bK (by omega);rw[fM,hme,rG];by_cases hv:xs[mid]<j
  ·rw[if_pos hv];refine CM h j fuel (mid+1) hi (by omega) (by omega) h3 (λi v hi' e=>?_) h5;rcases MW i mid with q | q
   ·have:=uD h q e hme;omega
   ·obtain rfl:i=mid:=by omega
    rw[hme]at e;cases e;exact hv
  ·rw[if_neg hv];refine CM h j fuel lo mid (by omega) hm2 (by omega) h4 λi v hi' e=>?_;rcases MW mid i with q | q
   ·have:=uD h q hme e;omega
   ·obtain rfl:i=mid:=by omega
    rw[hme]at e;cases e;omega
 ·rw[if_neg hlt];obtain rfl:lo=hi:=by omega
  exact⟨h3,h4,h5⟩
def uK{xs:Array Nat}(h:pE xs.toList)(j:Nat):Cut xs j (SetTable.below xs j):=
 CM h j xs.size 0 xs.size (by omega) (cL _) (aO _) (λi v z=>absurd z (mL _)) λi v z e=>by
  have:=(fU.mp e).1;omega
noncomputable def qP(t:SetTable)(i:Nat):Nat:=if i=0 then 0 else t.place.getD (i-1) 0+1
def MI{t:SetTable}(h:pE t.place.toList){i:Nat}(hi:i<=t.place.size):SetTable.below t.place (qP t i)=i:=by
 obtain⟨h1,h2,h3⟩:=uK h (qP t i)
 generalize SetTable.below t.place (qP t i)=r at h1 h2 h3
 rcases nJ r i with q | q | q
 ·have e1:t.place[r]?=some t.place[r]:=bK (by omega);have e2:t.place[i-1]?=some t.place[i-1]:=bK (by omega);have:=h3 r _ (aO _) e1;unfold qP at this;rw[if_neg (by omega),fM,e2,rG]at this;rcases MW r (i-1)with z | z
  ·have:=uD h z e1 e2;omega
  ·have:r=i-1:=by omega
   subst this;omega
 ·exact q
 ·have e1:t.place[i]?=some t.place[i]:=bK (by omega);have:=h2 i _ q e1;unfold qP at this;by_cases h0:i=0
  ·rw[if_pos h0]at this;omega
  ·have e2:t.place[i-1]?=some t.place[i-1]:=bK (by omega);rw[if_neg h0,fM,e2,rG]at this;have:=uD h (show i-1<i by omega) e2 e1;omega
structure mU(led:Bool)(t:SetTable)(n:Nat):Prop where
 fits:t.fits n=true
 rise:pE t.place.toList
 dum:t.dummies=#[]
 led:t.led=led
theorem mU.size{led:Bool}{t:SetTable}{n:Nat}(g:mU led t n):t.place.size=n:=by
 have:=g.fits;unfold SetTable.fits at this;rw[bY]at this;simpa using this.1
def JG(j:Nat):SetTable.has #[] j=false:=rfl
theorem zK{t:SetTable}(hd:t.dummies=#[]){hA:Nat->Int}{h:Int}(hne:∀i,hA i≠h):∀(fuel:Nat)(p:SetTable.Probe){m},p.dummy=none->SetTable.probe.go t hA h fuel p=some m->∃j,m=.empty j none/\t.slot j=.empty
|0,p,m,_,e=>by cases e
|fuel+1,p,m,hp,e=>by
 unfold SetTable.probe.go at e
 cases hs:t.slot p.j with
 |empty=>
  rw[hs]at e;dsimp only at e;cases e;exact⟨_,by rw[hp],hs⟩
 |dummy=>
  unfold SetTable.slot at hs;rw[hd]at hs;dsimp only at hs;rw[JG]at hs;split at hs
  ·cases hs
  ·rw[if_neg (by decide)]at hs;cases hs
 |live i=>
  rw[hs]at e;dsimp only at e;rw[if_neg (by simpa using hne i)]at e;refine zK hd hne fuel _ ?_ e;unfold SetTable.advance;split
  ·exact hp
  ·exact hp
def LZ{t:SetTable}(hd:t.dummies=#[]){h:Int}{j:Nat}{b:Bool}(e:t.freeSlot h=some (j,b)):t.slot j=.empty/\b=false:=by
 unfold SetTable.freeSlot at e
 cases hp:t.probe (λ_=>h+1) h (t.probeStart h)with
 |none=>rw[hp]at e;cases e
 |some m=>
  obtain⟨k,rfl,hk⟩:=zK hd (λ_=>by omega) _ _ rfl hp;rw[hp]at e;cases e;exact⟨hk,rfl⟩
def BQ{t:SetTable}(h:pE t.place.toList)(hd:t.dummies=#[]){j:Nat}(hs:t.slot j=.empty):pE (t.put j).1.place.toList/\(t.put j).1.dummies=#[]/\(t.put j).1.led=t.led:=by
 unfold SetTable.put;dsimp only;refine⟨?_,by rw[hd];rfl,rfl⟩
 have hn:t.place[SetTable.below t.place j]?≠some j:=λz=>by
  unfold SetTable.slot at hs;dsimp only at hs;rw[z,if_pos (by simp)]at hs;cases hs
 obtain⟨h1,h2,h3⟩:=uK h j
 generalize SetTable.below t.place j=p at hn h1 h2 h3
 rw[SetTable.toList_insertAt];have get:∀i v,t.place.toList[i]?=some v->t.place[i]?=some v:=λi v e=>by rw[<- cD];exact e
 refine List.pairwise_append.mpr ⟨h.sublist (rD ..),yA.mpr ⟨λv hv=>?_,h.sublist (List.drop_sublist ..)⟩,λa ha b hb=>?_⟩
 ·obtain⟨i,hi⟩:=bV hv;rw[iV]at hi;have g:=get _ _ hi;have:=h3 _ _ (by omega) g;by_cases hi0:i=0
  ·subst hi0;have:v≠j:=λz=>hn (by rw[<- z];exact g);omega
  ·have hpl:p<t.place.size:=by have:=(fU.mp g).1;omega
   have e0:t.place[p]?=some t.place[p]:=bK hpl;have:=uD h (show p<p+i by omega) e0 g;have:=h3 _ _ (aO _) e0;omega
 ·obtain⟨i,hi⟩:=bV ha
  have hip:i<p:=by
   have:=(aG.mp hi).1;rw[bC]at this;omega
  rw[rK hip]at hi;have l1:=h2 _ _ hip (get _ _ hi);rcases bH.mp hb with rfl | hb
  ·exact l1
  ·obtain⟨k,hk⟩:=bV hb;rw[iV]at hk;have:=h3 _ _ (by omega) (get _ _ hk);omega
def rP(t:SetTable)(n:Nat):mU t.led (t.standIn n) n:=⟨SetTable.standIn_fits t n,by show pE (Array.range n).toList;rw[Array.toList_range];exact gX,rfl,rfl⟩
def JA{led:Bool}{t}{es:Array (Int×Value)}(g:mU led t es.size)(h:Int)(x:Value):mU led (layNew t es h x).2.1 (layNew t es h x).1.size:=by
 unfold layNew
 cases e:t.freeSlot h with
 |none=>
  dsimp only;have:=rP t (es.size+1);rw[g.led]at this;simpa using this
 |some q=>
  obtain⟨j,b⟩:=q;obtain⟨h1,rfl⟩:=LZ g.dum e;obtain⟨r1,r2,r3⟩:=BQ g.rise g.dum h1;dsimp only
  generalize SetTable.insertAt es (t.put j).2 (h,x)=es1
  unfold SetTable.orStandIn;by_cases hf:(t.put j).1.fits es1.size=true
  ·rw[if_pos hf];exact⟨hf,r1,r2,r3.trans g.led⟩
  ·rw[if_neg hf];have:=rP (t.put j).1 es1.size;rw[r3,g.led]at this;exact this
def K2{led:Bool}{t:SetTable}{es}(hl:t.led=led)(wanted:Nat):mU led (relayAll t es wanted).2.1 (relayAll t es wanted).1.size:=by
 unfold relayAll
 cases e:t.relaid (es.map (·.1)) wanted with
 |none=>dsimp only;rw[<- hl];exact rP t es.size
 |some q=>
  obtain⟨t',order⟩:=q;dsimp only
  have hq:pE t'.place.toList/\t'.dummies=#[]/\t'.led=t.led:=by
   unfold SetTable.relaid SetTable.laid at e
   cases e2:SetTable.layClean (SetTable.sizeAbove wanted-1) (es.map (·.1))with
   |none=>rw[e2]at e;cases e
   |some ow=>
    rw[e2]at e;cases e;refine⟨?_,rfl,rfl⟩;show pE (vJ _ (List.filterMap _ (cQ _)))
    have:∀(f:Nat->Option Nat)(l:List Nat),((l.filterMap λj=>(f j).map (j,·)).map (·.1)).Sublist l:=λf l=>by
     induction l with
     |nil=>exact .slnil
     |cons a l ih=>
      rw[eQ]
      cases hf:f a with
      |none=>exact ih.cons a
      |some b=>exact ih.cons₂ a
    exact gX.sublist (this (λj=>ow.getD j none) _)
  by_cases hc:(coversAll order es.size&&t'.fits (order.filterMap (es[·]?)).size)=true
  ·rw[if_pos hc];rw[bY]at hc;exact⟨hc.2,hq.1,hq.2.1,hq.2.2.trans hl⟩
  ·rw[if_neg hc];rw[<- hl];exact rP t es.size
section
variable{prog:bX}{w:World}
def sK.elemsG{es l}(h:sK es l):ElemsOf (intKind prog w) es:=by
 induction h with
 |nil=>intro e he;cases he
 |cons k t h ih=>
  intro e he;rcases bH.mp he with rfl | he
  ·exact⟨⟨k,intKind_is _ _ _ _,rfl⟩,rfl⟩
  ·exact ih e he
end
def wA(h:Heap)(a:Addr)(l:List Int)(led:Bool):Prop:=∃o es ep t,h.get? a=some o/\o.ExactSet/\o.data=.set es ep t/\sK es.toList l/\mU led t es.size
def wA.at{h h':Heap}{a:Addr}{l}{led:Bool}(x:wA h a l led)(k:∀o,h.get? a=some o->h'.get? a=some o):wA h' a l led:=by
 obtain⟨o,es,ep,t,ho,r⟩:=x;exact⟨o,es,ep,t,k o ho,r⟩
section
variable{prog:bX}{w:World}{A:Around}{E:Value->Shared->Prop}{s:Shared}
def EL{g:Bool->Sem Unit}(way:∀(b:Bool)s1(q:Unit->Shared->Prop),q () s1->wpAny (model prog w) A (g b) q E s1){a:Addr}{o:Obj}{es es1:Array (Int×Value)}{ep:Nat}{t t2:SetTable}{m1}{led wd:Bool}{R:Option Bool->Shared->Prop}
  (ho:s.heap.get? a=some o) (hex:o.ExactSet) (hd:o.data=.set es ep t) (hE:sK es1.toList m1) (G:mU led t2 es1.size) (hz:es1.size<=bL)
  (h:∀h' m,cV a s.heap h'->wA h' a m led->m.Perm m1->R (some true) { s with heap:=h' }) :
  wpAny (model prog w) A (do
   storeSet a es1 t2
   if(!wd&&t2.tooFull)=true then do
     g (relayAll t2 es1 (SetTable.grown es1.size)).2.2
     storeSet a (relayAll t2 es1 (SetTable.grown es1.size)).1 (relayAll t2 es1 (SetTable.grown es1.size)).2.1
     pure (some true)
    else pure (some true)) R E s:=by
 refine aA (wpAny_storeSet_of ho hd ?_ hz);have g1:=stored (es':=es1) (t':=t2) ho hd;have b1:=cV.update s.heap a (Obj.putSet es1 t2)
 cases hf:(!wd&&t2.tooFull)with
 |true=>
  rw[if_pos rfl];have pm:=relayAll_perm t2 es1 (SetTable.grown es1.size);have gd:=K2 (es:=es1) G.led (SetTable.grown es1.size)
  generalize relayAll t2 es1 (SetTable.grown es1.size)=L at pm gd |-
  obtain⟨es2,t3,gv⟩:=L;dsimp only at pm gd |-
  obtain⟨m2,hE2,p2⟩:=EU hE pm
  have hz2:es2.size<=bL:=by
   have:=pm.length_eq;rw[aP,aP]at this;omega
  refine aA (way _ _ _ (aA (wpAny_storeSet_of g1 rfl ?_ hz2)));have g2:=stored (es':=es2) (t':=t3) g1 rfl;exact aE (h _ m2 (b1.trans (cV.update _ a _)) ⟨_,es2,_,t3,g2,hex,rfl,hE2,gd⟩ p2)
 |false=>
  rw[if_neg (by decide)];exact aE (h _ m1 b1 ⟨_,es1,_,t2,g1,hex,rfl,hE,G⟩ (.refl _))
def VE{a:Addr}{l:List Int}{led:Bool}{k:Int}{u}{Q:Bool->Shared->Prop}(hS:wA s.heap a l led)(hz:l.length<1000)
  (h:∀h' b m,cV a s.heap h'->wA h' a m led->(k∈l->m=l)->(k∉l->m.Perm (l++[k]))->Q b { s with heap:=h' }) :
  wpAny (model prog w) A (setAddHashed a (.int k u) (hashInt k)) Q E s:=by
 obtain⟨o,es,ep,t,ho,hex,hd,hE,g⟩:=id hS;have hsz:es.size=l.length:=by rw[<- aP];exact hE.len
 have hel:=hE.elemsG (prog:=prog) (w:=w);have hb:es.size<scanBound:=by rw[hsz];unfold scanBound;omega
 unfold setAddHashed setAddHashedIn;refine wpAny_holding (aA (wpAny_setState_of ho hd g.fits ?_));dsimp only;rw[byScan_of (x:=.int k u) rfl hb hel,if_pos rfl];unfold setAddByScan;refine aA (aA (wpAny_rule ?_));have sc:=wpAny_setScan_of (A:=A) (E:=E) (s:=s) (adding:=true) (x:=.int k u) (intKind_is prog w (k:Int) u) ho hd g.fits hel (Q:=λm s'=>m=(match l.findIdx? (·==k)with | some j=>.found (0+j) | none=>.absent)/\s'=s) (by rw[hE.find];exact⟨rfl,rfl⟩);refine aA (gT sc ?_ λ_ _ z=>z);rintro m s' ⟨rfl,rfl⟩
 cases hr:l.findIdx? (·==k)with
 |some j=>
  obtain⟨hj,hp,_⟩:=List.findIdx?_eq_some_iff_getElem.mp hr
  have hm:k∈l:=by
   have:l[j]=k:=by simpa using hp
   rw[<- this];exact fA hj
  have:=h s'.heap false l (cV.refl a s'.heap) hS (λ_=>rfl) λz=>absurd hm z;exact aE (aE this)
 |none=>
  have hm:k∉l:=λz=>by
   have:=List.findIdx?_eq_none_iff.mp hr k z;simp at this
  dsimp only;have p1:=layNew_perm t es (hashInt k) (.int k u);have g1:=JA g (hashInt k) (.int k u)
  generalize layNew t es (hashInt k) (.int k u)=L at p1 g1
  obtain⟨es1,t1,wd,gv⟩:=L;dsimp only at p1 g1 |-
  have hE0:sK (es.push (hashInt k,.int k u)).toList (l++[k]):=by
   rw[qN];exact hE.app (.cons k u .nil)
  obtain⟨m1,hE1,pm1⟩:=EU hE0 p1
  have hsz1:es1.size=l.length+1:=by
   rw[<- aP,hE1.len,pm1.length_eq,aV];rfl
  have hbig:es1.size<=bL:=by rw[hsz1,sizeLine_eq];omega
  have way:∀(b:Bool)s1(q:Unit->Shared->Prop),q () s1->wpAny (model prog w) A (match b with | true=>rule "set.scan.the-table-gave-way" | false=>pure ()) q E s1:=λb s1 q hq=>by
   cases b with
   |true=>exact wpAny_rule hq
   |false=>exact aE hq
  have done:∀h' m,cV a s'.heap h'->wA h' a m led->m.Perm m1->Q true { s' with heap:=h' }:=λh' m hb hG hp=>h h' true m hb hG (λz=>absurd z hm) λ_=>hp.trans pm1;refine aA (way gv s' _ ?_)
  cases hpl:t1.plain with
  |true=>
   rw[if_pos rfl];refine aA ?_;rw[hashByValue_scannable 8 (x:=.int k u) rfl];refine aE ?_;rw[show plainKind (.int k u)=true from rfl];exact EL way ho hex hd hE1 g1 hbig λh' m hb hG hp=>aE (done h' m hb hG hp)
  |false=>
   rw[if_neg (by decide)];refine aA (aE ?_);exact EL way ho hex hd hE1 g1 hbig λh' m hb hG hp=>aE (done h' m hb hG hp)
end
def Dd(m l:List Int):Prop:=m.Nodup/\m.length<=l.length/\∀z,z∈m↔z∈l
def Dd.add{m l m1:List Int}{k:Int}(h:Dd m l)(hin:k∈m->m1=m)(hout:k∉m->m1.Perm (m++[k])):Dd m1 (l++[k]):=by
 obtain⟨h1,h2,h3⟩:=h;by_cases hk:k∈m
 ·rw[hin hk];refine⟨h1,by rw[aV];omega,λz=>?_⟩;rw[h3 z,cK,aZ];exact⟨.inl,λq=>q.elim id λe=>e▸(h3 k).mp hk⟩
 ·have p:=hout hk;refine⟨p.nodup_iff.mpr (jN.mpr ⟨h1,by simp,λa ha b hb=>?_⟩),by rw[p.length_eq,aV,aV];show _+1<=_+1;omega,λz=>?_⟩
  ·rw[aZ]at hb
   exactλe=>hk (by rw[<- hb,<- e];exact ha)
  ·rw[p.mem_iff,cK,cK,h3 z]
section
variable{prog:bX}{w:World}{A:Around}
def QX{R:Result->Shared->Prop}{I ax:Addr}(S:Addr)(hS1:S≠I)(hS2:S≠ax)(hax:ax≠I)(hh:A.handled=none){its:List Value}{ns:List Int}{led:Bool}(hys:IntsAre its ns)(hz:ns.length<1000) :
  ∀(k i:Nat)(s:Shared),its.length-i=k->i<=its.length->s.heap.IsTupleIter I ax i->s.heap.IsTuple ax its.toArray->(∃m,wA s.heap S m led/\Dd m (ns.take i)) ->
   (∀h' tk,(∀b o,b≠S->b≠I->s.heap.get? b=some o->h'.get? b=some o)->(∃m,wA h' S m led/\Dd m ns)->R (.ok (.ret .none)) { s with heap:=h',toks:=tk }) ->
   codeAny (model prog w) A (.builtin "set.update.loop" ⟨[.ref S,.ref I],[]⟩) R s:=by
 have hlen:its.length=ns.length:=hys.length;intro k
 induction k with
 |zero=>
  intro i s hk hi h1 h2 h3 hR;obtain rfl:i=its.length:=by omega
  refine codeAny_builtin PyProof.Rows.F.entry_set_update_loop ?_;rw[Around.under_plainId PyProof.Rows.F.plain_set_update_loop _];show wpAny _ A.in1 (pyNext (.ref I) >>= _) _ _ s;refine aA ((Walks.tuple (prog:=prog) (w:=w) (A:=A.in1) hh I ax hax its.toArray).done s _ _ (by rw[bF];exact⟨h1,h2⟩) λh' tk kk=>?_);show wpAny _ A.in1 (ret Value.none) _ _ _;refine aE (hR h' tk (λb o _ hb e=>kk b o (by simpa using hb) e) ?_);rw[fW (by omega)]at h3;obtain⟨m,hm,hdd⟩:=h3;exact⟨m,hm.at λo e=>kk S o (by simpa using hS1) e,hdd⟩
 |succ k ih=>
  intro i s hk hi h1 h2 h3 hR;have hlt:i<its.length:=by omega
  refine codeAny_builtin PyProof.Rows.F.entry_set_update_loop ?_;rw[Around.under_plainId PyProof.Rows.F.plain_set_update_loop _];show wpAny _ A.in1 (pyNext (.ref I) >>= _) _ _ s;refine aA ((Walks.tuple (prog:=prog) (w:=w) (A:=A.in1) hh I ax hax its.toArray).item i s _ _ (by rw[bF];exact hlt) ⟨h1,h2⟩ λv h' tk hP st' kk=>?_);have hv:its[i]?=some v:=by simpa using hP
  have hil:i<ns.length:=by omega
  have hn:ns[i]?=some ns[i]:=aF hil;obtain⟨t,ht⟩:=hys.int_at i v hv;rw[pY,hn]at ht
  generalize ns[i]=m at hn ht
  replace ht:v=.int m t:=ht
  subst ht;obtain⟨m0,h3,hdd⟩:=h3;have h3':wA h' S m0 led:=h3.at λo e=>kk S o (by simpa using hS1) e;show wpAny _ A.in1 (holding [Value.int m t] (setAdd S (.int m t)) >>= _) _ _ _;refine aA (wpAny_holding ?_);unfold setAdd;refine wpAny_holding (aA ((intKind prog w).pyHash (k:=m) (intKind_is _ _ _ _) ?_));refine VE (s:={ s with heap:=h',toks:=tk+1 }) h3' (by have:=hdd.2.1;rw[bC]at this;omega) λh2' _ m1 hsb hS2' hin hout=>?_;have h3n:∃m,wA h2' S m led/\Dd m (ns.take (i+1)):=⟨m1,hS2',by rw[cP,hn];exact hdd.add hin hout⟩;refine aE ⟨plainId_quiet PyProof.Rows.F.plain_set_update_loop _,ih (i+1) _ (by omega) hlt (st'.1.at λo e=>(hsb.2 I (Ne.symm hS1)).trans e) (st'.2.at λo e=>(hsb.2 ax (Ne.symm hS2)).trans e) h3n λh4 tk4 kk4 h5=>?_⟩;exact hR h4 tk4 (λb o hb1 hb2 e=>kk4 b o hb1 hb2 ((hsb.2 b hb1).trans (kk b o (by simpa using hb2) e))) h5
end
set_option maxHeartbeats 3200000 in
def GQ{prog w}{A:Around}{E:Value->Shared->Prop}{s:Shared}{l:Addr}{its:List Value}{ns:List Int}{Q:Value->Shared->Prop}
  (hh:A.handled=none) (hl:s.heap.IsTuple l its.toArray) (hys:IntsAre its ns) (hz:ns.length<1000)
  (h:∀(h':Heap)(tk:Nat),(∃m,wA h' s.heap.objs.size m (!eE w)/\Dd m ns)->(∀b o,s.heap.get? b=some o->h'.get? b=some o)->Q (.ref s.heap.objs.size) { s with heap:=h',toks:=tk }) :
  wpAny (model prog w) A (call (.type "set") [.ref l]) Q E s:=by
 obtain⟨c0,tl0,hm0⟩:=dO.mro;have hmk:=dO.made;have hsb0:=dO.sub;refine wpAny_call (codeAny_of_tree ?_);show wpAny _ _ (callAny (.type "set") _) _ _ _;refine aE ⟨Code.quiet_builtin _ (by decide +kernel),codeAny_builtin FG ?_⟩;rw[Around.under_plain (weight_type_call_type "set" [.ref l] []) rfl];have k1:=dO.notType;have k2:=dO.canCreate;have k3:=G5 (.ref l)
 repeat (any_goals (first | assumption | wp_step))
 refine codeAny_mono (IC (.ref l) (E:=E) (Q₁:=λobj s1=>∃led:Bool,led=!eE w/\obj=.ref s.heap.objs.size/\s1={ s with heap:=s.heap.push { cls:=.type "set",dict:=none,data:=.set #[] 0 (.fresh 0 0 led) } }) ⟨_,rfl,rfl,rfl⟩) λr s1 hr=>?_
 cases r with
 |error e=>exact hr
 |ok fl=>
  cases fl with
  |ret obj=>
   obtain⟨led,hled,rfl,rfl⟩:=hr;have gS:(s.heap.push { cls:=.type "set",dict:=none,data:=.set #[] 0 (.fresh 0 0 led) }).get? s.heap.objs.size=some { cls:=.type "set",dict:=none,data:=.set #[] 0 (.fresh 0 0 led) }:=aS _ rfl;have tS:Shared.TypeIs { s with heap:=s.heap.push { cls:=.type "set",dict:=none,data:=.set #[] 0 (.fresh 0 0 led) } } (.ref s.heap.objs.size) "set":=⟨_,gS,rfl⟩;have k4:=dO.init.lookup;have k5:=dO.init.bind (.ref s.heap.objs.size)
   repeat (any_goals (first | assumption | wp_step))
   refine codeAny_mono (codeAny_call_builtin (R:=wants (λr s2=>r=.none/\∃h' tk,s2={ s with heap:=h',toks:=tk }/\(∃m,wA h' s.heap.objs.size m (!eE w)/\Dd m ns)/\(∀b o,s.heap.get? b=some o->h'.get? b=some o)) E) dO.init.plain G7 (check_set_init_1 tS ?_)) λr2 s2 hr2=>?_
   ·obtain⟨⟨ocls,odict,odata,oslots⟩,hol,hcl,nl,hdl⟩:=hl;simp only at hcl hdl;subst hcl;subst hdl;have gl:(s.heap.push { cls:=.type "set",dict:=none,data:=.set #[] 0 (.fresh 0 0 led) }).get? l=some { cls:=.type "tuple",dict:=odict,data:=.seq its.toArray nl,slots:=oslots }:=aJ _ hol;have k6:=PySem.F.sub_tuple_set;have k7:=PySem.F.sub_tuple_frozenset;have k8:(Value.type "tuple"==Value.type "dict")=false:=by decide
    have tl1:(s.heap.push { cls:=.type "set",dict:=none,data:=.set #[] 0 (.fresh 0 0 led) }).IsTuple l its.toArray:=⟨_,gl,rfl,nl,rfl⟩;unfold Builtin.«set.__init__» noKeywords Builtin.Frozenset.updateFrom
    generalize hPI:pyIter=PI
    wp_walk
    subst hPI;refine wpAny_pyIter_tuple tl1 (aA (wpAny_runValue ?_));have lS:l<s.heap.objs.size:=bI hol;have h3:A.in1.in1.handled=none:=by simp[hh]
    refine QX (led:=led) s.heap.objs.size ?_ (gY lS) ?_ h3 hys hz its.length 0 _ (by omega) (cL _) ?_ ?_ ?_ λh' tk kk hD=>?_
    ·show s.heap.objs.size≠(s.heap.push _).objs.size;rw[eO];exact bO (eI _)
    ·show l≠(s.heap.push _).objs.size;rw[eO];exact bO (eJ lS)
    ·exact⟨_,aS _ rfl,rfl,rfl⟩
    ·exact tl1.at λo e=>aJ _ e
    ·exact⟨[],⟨_,#[],0,_,aJ _ gS,⟨rfl,rfl,rfl⟩,rfl,.nil,⟨rfl,.nil,rfl,rfl⟩⟩,⟨.nil,cL _,λz=>Iff.rfl⟩⟩
    ·show wpAny _ _ _ _ _ _;refine aE ?_;show wpAny _ _ (ret Value.none) _ _ _;refine aE ⟨rfl,h',tk,rfl,hled▸hD,λb o e=>kk b o (bO (bI e)) ?_ (aJ _ (aJ _ e))⟩;show b≠(s.heap.push _).objs.size;rw[eO];exact bO (eJ (bI e))
   ·cases r2 with
    |error e=>exact hr2
    |ok fl2=>
     cases fl2 with
     |ret r=>
      obtain⟨rfl,h',tk,rfl,hD,kk⟩:=hr2
      repeat (any_goals (first | assumption | wp_step))
      exact h _ _ hD kk
     |_=>exact hr2.elim
  |_=>exact hr.elim
section
variable{prog:bX}{w:World}{A:Around}{E:Value->Shared->Prop}{s:Shared}
def ID{a:Addr}{o:Obj}{es:Array (Int×Value)}{ep:Nat}{t:SetTable}{Q:Array (Int×Value)->Shared->Prop}(hdr:eE w=false->(!t.plain&&decide (es.size>1))=false)(G:mU (!eE w) t es.size)(ho:s.heap.get? a=some o)(hd:o.data=.set es ep t)
  (h:Q (uU w a ep es) s):wpAny (model prog w) A (setWalk a) Q E s:=by
 unfold setWalk;refine aA (wpAny_setState_of ho hd G.fits ?_);dsimp only;unfold setsByText;refine aA (aA (wpAny_askSetting (aE ?_)));unfold uU at h;show wpAny _ _ (if eE w=true then _ else _) _ _ _;by_cases hb:eE w=true
 ·rw[if_pos hb]at h |-
  exact aA (wpAny_askSetting (aE h))
 ·have hb':eE w=false:=by simpa using hb
  rw[if_neg hb]at h |-
  show wpAny _ _ (if(!t.plain&&decide (es.size>1))=true then _ else _) _ _ _;rw[if_neg (by rw[hdr hb'];decide)];refine aA ?_;show wpAny _ _ (if(!t.led&&decide (es.size>1))=true then _ else _) _ _ _;rw[G.led,hb',if_neg (show¬((!(!false)&&decide (es.size>1))=true)from bE)];exact aE (aE h)
noncomputable def nO(w:World)(t:SetTable)(i:Nat):Nat:=if eE w=true then 0 else qP t i
def zH{a:Addr}{o:Obj}{es:Array (Int×Value)}{ep i:Nat}{t:SetTable}{Q:Option (Value×Nat)->Shared->Prop}(hdr:eE w=false->(!t.plain&&decide (es.size>1))=false)(G:mU (!eE w) t es.size)(ho:s.heap.get? a=some o)(hd:o.data=.set es ep t)(hi:i<=es.size)
  (h:Q (((uU w a ep es)[i]?).map λe=>(e.2,nO w t (i+1))) s):wpAny (model prog w) A (setNext a (nO w t i) i ep) Q E s:=by
 unfold setNext;refine aA (wpAny_setState_of ho hd G.fits ?_);dsimp only;unfold setsByText;refine aA (aA (wpAny_askSetting (aE ?_)));show wpAny _ _ (if eE w=true then _ else _) _ _ _;by_cases hb:eE w=true
 ·rw[if_pos hb];rw[if_neg (by simp)];refine aA (ID hdr G ho hd (aE ?_));have e1:nO w t i=0:=by unfold nO;rw[if_pos hb]
  have e2:nO w t (i+1)=0:=by unfold nO;rw[if_pos hb]
  rw[e1];rw[e2]at h;exact h
 ·have hb':eE w=false:=by simpa using hb
  rw[if_neg hb];show wpAny _ _ (if(!t.plain&&decide (es.size>1))=true then _ else _) _ _ _;rw[if_neg (by rw[hdr hb'];decide)];refine aA ?_;show wpAny _ _ (if(!t.led&&!es.isEmpty)=true then _ else _) _ _ _;rw[G.led,hb',if_neg (show¬((!(!false)&&!es.isEmpty)=true)from bE)];refine aE (aE ?_);have e1:nO w t i=qP t i:=by unfold nO;rw[if_neg hb]
  have e2:nO w t (i+1)=qP t (i+1):=by unfold nO;rw[if_neg hb]
  have e3:SetTable.below t.place (qP t i)=i:=MI G.rise (by rw[G.size];exact hi);have e4:uU w a ep es=es:=by unfold uU;rw[if_neg hb]
  rw[e2,e4]at h;rw[e1];show Q (match es[SetTable.below t.place (qP t i)]?,t.place[SetTable.below t.place (qP t i)]? with | some (_,x),some j=>some (x,j+1) | _,_=>none) s;rw[e3];by_cases hlt:i<es.size
  ·have g1:es[i]?=some (es[i]'(by omega)):=bK (by omega);have hlp:i<t.place.size:=by rw[G.size];exact hlt
   have g2:t.place[i]?=some t.place[i]:=bK hlp;rw[g1]at h |-
   rw[g2]
   have g3:qP t (i+1)=t.place[i]+1:=by
    unfold qP;rw[if_neg (Nat.succ_ne_zero _),WR,fM,g2];rfl
   rw[g3]at h;exact h
  ·have g1:es[i]?=none:=iP (by omega);rw[g1]at h |-
   exact h
end
noncomputable def QZ(w:World)(S:Addr)(t:SetTable)(n:Nat)(ep i:Nat):Array Value:=#[.int (nO w t i) 0,.int i 0,.ref S,.int n 0,.int ep 0]
def CO(w:World)(h:Heap)(I S:Addr)(t:SetTable)(n:Nat)(ep i:Nat):Prop:=∃o,h.get? I=some o/\o.cls=.type "set_iterator"/\o.data=.fields (QZ w S t n ep i)
def sJ(h:Heap)(S:Addr)(es:Array (Int×Value))(ep:Nat)(t:SetTable):Prop:=∃o,h.get? S=some o/\o.ExactSet/\o.data=.set es ep t
section
variable{prog:bX}{w:World}{A:Around}{E:Value->Shared->Prop}{s:Shared}{I S:Addr}{t:SetTable}{ep:Nat}{es:Array (Int×Value)}
def IB{i:Nat}{x:Int×Value}{Q:Option Value->Shared->Prop}(hdr:eE w=false->(!t.plain&&decide (es.size>1))=false)(G:mU (!eE w) t es.size)(hit:CO w s.heap I S t es.size ep i)(hS:sJ s.heap S es ep t)(hi:i<es.size)(hx:(uU w S ep es)[i]?=some x)
  (hQ:∀h',CO w h' I S t es.size ep (i+1)->cV I s.heap h'->Q (some x.2) { s with heap:=h' }):wpAny (model prog w) A (pyNext (.ref I)) Q E s:=by
 obtain⟨o,ho,hc,hd⟩:=id hit;obtain⟨oS,hoS,hex,hdS⟩:=id hS;have hT:s.TypeIs (.ref I) "set_iterator":=⟨o,ho,hc⟩;have hf:=G.fits;unfold pyNext;refine aA (wpAny_attempt (wpAny_callSpecial?_slot (name:=Str.ofString "__next__") hT eX (dB eX hT lA ?_ (lT _))));show wpAny _ _ (fieldsOf (.ref I) >>= _) _ _ s;refine aA (wpAny_fieldsOf ho hd ?_);show wpAny _ _ (setEntries S >>= _) _ _ s;refine aA (wpAny_setEntries_of hoS hdS hf ?_);rw[if_neg (by simp)];show wpAny _ _ (setNext S (nO w t i) i ep >>= _) _ _ s;refine aA (zH hdr G hoS hdS (lK hi) ?_);rw[hx];show wpAny _ _ (setField (.ref I) 0 (rawInt (nO w t (i+1))) >>= _) _ _ s;refine aA (wpAny_setField ho hd (by simp[QZ]) ?_);have g1:=dM (Obj.mapFields (·.setIfInBounds 0 (rawInt (nO w t (i+1))))) ho (Obj.isFreed_of_fields (Obj.data_mapFields hd _));refine aA (wpAny_setField g1 (Obj.data_mapFields hd _) (by simp[QZ]) ?_);have g2:=dM (Obj.mapFields (·.setIfInBounds 1 (rawInt ((i:Int)+1)))) g1 (Obj.isFreed_of_fields (Obj.data_mapFields (Obj.data_mapFields hd _) _));refine aE ⟨x.2,rfl,aE (hQ _ ?_ ((cV.update ..).trans (cV.update ..)))⟩
 exact⟨_,g2,(Obj.cls_mapFields ..).trans ((Obj.cls_mapFields ..).trans hc),by
  rw[Obj.data_mapFields (Obj.data_mapFields hd _)];rfl⟩
def KW{Q:Option Value->Shared->Prop}(hh:A.handled=none)(hdr:eE w=false->(!t.plain&&decide (es.size>1))=false)(G:mU (!eE w) t es.size)(hit:CO w s.heap I S t es.size ep es.size)(hS:sJ s.heap S es ep t)(hx:(uU w S ep es)[es.size]?=none)
  (hQ:∀h',vK I s.heap h'->Q none { s with heap:=h' }):wpAny (model prog w) A (pyNext (.ref I)) Q E s:=by
 obtain⟨o,ho,hc,hd⟩:=id hit;obtain⟨oS,hoS,hex,hdS⟩:=id hS;have hT:s.TypeIs (.ref I) "set_iterator":=⟨o,ho,hc⟩;have hf:=G.fits;unfold pyNext;refine aA (wpAny_attempt (wpAny_callSpecial?_slot (name:=Str.ofString "__next__") hT eX (dB eX hT lA ?_ (lT _))));show wpAny _ _ (fieldsOf (.ref I) >>= _) _ _ s;refine aA (wpAny_fieldsOf ho hd ?_);show wpAny _ _ (setEntries S >>= _) _ _ s;refine aA (wpAny_setEntries_of hoS hdS hf ?_);rw[if_neg (by simp)];show wpAny _ _ (setNext S (nO w t es.size) es.size ep >>= _) _ _ s;refine aA (zH hdr G hoS hdS (aO _) ?_);rw[hx];show wpAny _ _ (setField (.ref I) 2 .none >>= _) _ _ s;refine aA (wpAny_setField ho hd (by simp[QZ]) ?_);show wpAny _ _ (newExc (.type "StopIteration") [] >>= _) _ _ _;refine aA ?_;simp only[newExc,newTuple];refine aA (cR ?_ (by size_fits));refine aA (m:=firstArgMember _ _) (wpAny_of_eq (a:=Value.none) (by first | rfl | (simp only[firstArgMember];rfl)) ?_);refine cR ?_ (by size_fits);simp only[raiseNew];refine aA (wpAny_handled ?_)
 first | rw[show A.in1.handled=none from hh] | rw[hh]
 refine aA (aE (wpAny_throw ?_));refine aA (wpAny_isInstance (T:="StopIteration") (b:=true) ⟨_,aS _ rfl,rfl⟩ isSubtype_stop ?_);exact aE (hQ _ (((cV.update ..).extBut.push _).push _))
def IA{i:Nat}{Q:Value->Shared->Prop}(hit:CO w s.heap I S t es.size ep i)(h:Q (.ref I) s):wpAny (model prog w) A (pyIter (.ref I)) Q E s:=by
 obtain⟨o,ho,hc,hd⟩:=hit;have hT:s.TypeIs (.ref I) "set_iterator":=⟨o,ho,hc⟩;refine wpAny_pyIter_slot hT lL (dB lL hT qX ?_ (sO _));show wpAny _ _ (ret (.ref I)) _ _ s;exact aE ⟨_,rfl,"set_iterator",_,hT,eX.lookup,h⟩
def PP{Q:Value->Shared->Prop}(hdr:eE w=false->(!t.plain&&decide (es.size>1))=false)(G:mU (!eE w) t es.size)(hS:sJ s.heap S es ep t)
  (h:Q (.ref s.heap.objs.size) { s with heap:=s.heap.push { cls:=.type "set_iterator",data:=.fields (QZ w S t es.size ep 0) } }):wpAny (model prog w) A (pyIter (.ref S)) Q E s:=by
 obtain⟨oS,hoS,hex,hdS⟩:=id hS;have hT:s.TypeIs (.ref S) "set":=⟨oS,hoS,hex.1⟩;have hf:=G.fits;refine wpAny_pyIter_slot hT nD (dB nD hT tQ ?_ (FI _));show wpAny _ _ (Builtin.Frozenset.sizeOf S >>= _) _ _ s;unfold Builtin.Frozenset.sizeOf;refine aA (aA (wpAny_setEntries_of hoS hdS hf (aE ?_)));unfold setDrawn setsByText;refine aA (aA (wpAny_setState_of hoS hdS hf ?_));refine aA (aA (wpAny_askSetting (aE (aE ?_))))
 have e:(!eE w&&(!t.plain&&decide (es.size>1)))=false:=by
  cases hb:eE w with
  |true=>rfl
  |false=>rw[hdr hb];rfl
 show wpAny _ _ (if(!eE w&&(!t.plain&&decide (es.size>1)))=true then _ else _) _ _ _;rw[if_neg (by rw[e];decide)];refine aA (aE ?_);unfold setEpoch;refine aA (aA (wpAny_setState_of hoS hdS hf (aE ?_)));have e0:nO w t 0=0:=by unfold nO;split<;>rfl
 have h2:Q (.ref s.heap.objs.size) { s with heap:=s.heap.push { cls:=.type "set_iterator",data:=.fields #[rawInt 0,rawInt 0,.ref S,rawInt es.size,rawInt ep] } }:=by
  unfold QZ at h;rw[e0]at h;exact h
 exact aA (cR (aE ⟨_,rfl,"set_iterator",_,⟨_,aS _ rfl,rfl⟩,eX.lookup,h2⟩))
end
section
variable{prog:bX}{w:World}{A:Around}{E:Value->Shared->Prop}{s:Shared}{S:Addr}{t:SetTable}{ep:Nat}{es:Array (Int×Value)}
def PD(hh:A.handled=none)(I:Addr)(hne:S≠I)(hdr:eE w=false->(!t.plain&&decide (es.size>1))=false)(G:mU (!eE w) t es.size) :
  Walks prog w A I [I,S] [I] es.size (λi v=>∃x,(uU w S ep es)[i]?=some x/\v=x.2) (λi h=>CO w h I S t es.size ep i/\sJ h S es ep t) where
 sub:=λb hb=>by simp at hb;simp[hb]
 frame:=λ_ _ _ st hk=>by
  obtain⟨⟨o,ho,r⟩,⟨p,hp,q⟩⟩:=st;exact⟨⟨o,hk I (by simp) o ho,r⟩,⟨p,hk S (by simp) p hp,q⟩⟩
 item:=λi s Q E hi st hQ=>by
  have hsz:(uU w S ep es).size=es.size:=by rw[<- aP,(wU w S ep es).length_eq,aP]
  have hx:(uU w S ep es)[i]?=some ((uU w S ep es)[i]'(by omega)):=bK (by omega);refine IB hdr G st.1 st.2 hi hx λh' hit' hs'=>?_;obtain⟨p,hp,q⟩:=st.2;exact hQ _ h' s.toks ⟨_,hx,rfl⟩ ⟨hit',⟨p,hs'.extBut S p hne hp,q⟩⟩ λb o hb e=>hs'.extBut b o (λh=>hb (by simp[h])) e
 done:=λs Q E st hQ=>by
  have hsz:(uU w S ep es).size=es.size:=by rw[<- aP,(wU w S ep es).length_eq,aP]
  exact KW hh hdr G st.1 st.2 (iP (by omega)) λh' he'=>hQ h' s.toks λb o hb e=>he' b o (λh=>hb (by simp[h])) e
 self:=λ_ _ _ _ st hQ=>IA st.1 hQ
end
section
variable{prog:bX}{w:World}{A:Around}{E:Value->Shared->Prop}{s:Shared}
noncomputable def kZ(S T:Addr)(n ep i:Nat):Array Value:=#[.ref T,.int i 0,.ref S,.int n 0,.int ep 0]
def WO(h:Heap)(I S T:Addr)(ps:List Nat)(n ep i:Nat):Prop:=(∃o,h.get? I=some o/\o.cls=.type "set_iterator"/\o.data=.fields (kZ S T n ep i))/\∃o c,h.get? T=some o/\o.data=.seq (ps.map λ(p:Nat)=>Value.int p 0).toArray c
variable{I S T:Addr}{t:SetTable}{ep:Nat}{es:Array (Int×Value)}{ps:List Nat}
def Q2{i p:Nat}{x:Int×Value}{Q:Option Value->Shared->Prop}(hTI:T≠I)(G:mU (!eE w) t es.size)(hit:WO s.heap I S T ps es.size ep i)(hS:sJ s.heap S es ep t)(hp:ps[i]?=some p)(hx:es[p]?=some x)
  (hQ:∀h',WO h' I S T ps es.size ep (i+1)->cV I s.heap h'->Q (some x.2) { s with heap:=h' }):wpAny (model prog w) A (pyNext (.ref I)) Q E s:=by
 obtain⟨⟨o,ho,hc,hd⟩,oT,cT,hoT,hdT⟩:=id hit;obtain⟨oS,hoS,hex,hdS⟩:=id hS;have hT:s.TypeIs (.ref I) "set_iterator":=⟨o,ho,hc⟩;have hf:=G.fits;unfold pyNext;refine aA (wpAny_attempt (wpAny_callSpecial?_slot (name:=Str.ofString "__next__") hT eX (dB eX hT lA ?_ (lT _))));show wpAny _ _ (fieldsOf (.ref I) >>= _) _ _ s;refine aA (wpAny_fieldsOf ho hd ?_);show wpAny _ _ (setEntries S >>= _) _ _ s;refine aA (wpAny_setEntries_of hoS hdS hf ?_);rw[if_neg (by simp)];show wpAny _ _ (seqItems? (.ref T) >>= _) _ _ s;refine aA (wpAny_seqItems hoT hdT ?_);dsimp only
 have hg:(ps.map λ(p:Nat)=>Value.int p 0).toArray[((i:Int)).toNat]?=some (.int (p:Int) 0):=by
  rw[dZ,uQ,aI,hp];rfl
 rw[hg];dsimp only;unfold setNextDrawn;refine aA (aA (wpAny_setState_of hoS hdS hf ?_));dsimp only;rw[if_neg (by simp)];have hg2:es[((p:Int)).toNat]?=some x:=by rw[dZ];exact hx
 rw[hg2];refine aE ?_;refine aA (wpAny_setField ho hd (by simp[kZ]) ?_);have g1:=dM (Obj.mapFields (·.setIfInBounds 1 (rawInt ((i:Int)+1)))) ho (Obj.isFreed_of_fields (Obj.data_mapFields hd _));refine aE ⟨x.2,rfl,aE (hQ _ ⟨⟨_,g1,(Obj.cls_mapFields ..).trans hc,by rw[Obj.data_mapFields hd];rfl⟩,oT,cT,?_,hdT⟩ (cV.update ..))⟩;exact(fD _ _ (Ne.symm hTI)).trans hoT
def VY{Q:Option Value->Shared->Prop}(hh:A.handled=none)(G:mU (!eE w) t es.size)(hit:WO s.heap I S T ps es.size ep es.size)(hS:sJ s.heap S es ep t)(hp:ps.length=es.size)
  (hQ:∀h',vK I s.heap h'->Q none { s with heap:=h' }):wpAny (model prog w) A (pyNext (.ref I)) Q E s:=by
 obtain⟨⟨o,ho,hc,hd⟩,oT,cT,hoT,hdT⟩:=id hit;obtain⟨oS,hoS,hex,hdS⟩:=id hS;have hT:s.TypeIs (.ref I) "set_iterator":=⟨o,ho,hc⟩;have hf:=G.fits;unfold pyNext;refine aA (wpAny_attempt (wpAny_callSpecial?_slot (name:=Str.ofString "__next__") hT eX (dB eX hT lA ?_ (lT _))));show wpAny _ _ (fieldsOf (.ref I) >>= _) _ _ s;refine aA (wpAny_fieldsOf ho hd ?_);show wpAny _ _ (setEntries S >>= _) _ _ s;refine aA (wpAny_setEntries_of hoS hdS hf ?_);rw[if_neg (by simp)];show wpAny _ _ (seqItems? (.ref T) >>= _) _ _ s;refine aA (wpAny_seqItems hoT hdT ?_);dsimp only
 have hg:(ps.map λ(p:Nat)=>Value.int p 0).toArray[((es.size:Int)).toNat]?=none:=by
  rw[dZ,uQ,eZ (by rw[aB,hp];exact aO _)]
 rw[hg];dsimp only;show wpAny _ _ (setField (.ref I) 0 (rawInt 0) >>= _) _ _ s;refine aA (wpAny_setField ho hd (by simp[kZ]) ?_);have g1:=dM (Obj.mapFields (·.setIfInBounds 0 (rawInt 0))) ho (Obj.isFreed_of_fields (Obj.data_mapFields hd _));refine aA (wpAny_setField g1 (Obj.data_mapFields hd _) (by simp[kZ]) ?_);show wpAny _ _ (newExc (.type "StopIteration") [] >>= _) _ _ _;refine aA ?_;simp only[newExc,newTuple];refine aA (cR ?_ (by size_fits));refine aA (m:=firstArgMember _ _) (wpAny_of_eq (a:=Value.none) (by first | rfl | (simp only[firstArgMember];rfl)) ?_);refine cR ?_ (by size_fits);simp only[raiseNew];refine aA (wpAny_handled ?_)
 first | rw[show A.in1.handled=none from hh] | rw[hh]
 refine aA (aE (wpAny_throw ?_));refine aA (wpAny_isInstance (T:="StopIteration") (b:=true) ⟨_,aS _ rfl,rfl⟩ isSubtype_stop ?_);exact aE (hQ _ ((((cV.update ..).trans (cV.update ..)).extBut.push _).push _))
def Q1{i n:Nat}{Q:Value->Shared->Prop}(hit:WO s.heap I S T ps n ep i)(h:Q (.ref I) s):wpAny (model prog w) A (pyIter (.ref I)) Q E s:=by
 obtain⟨⟨o,ho,hc,hd⟩,_⟩:=hit;have hT:s.TypeIs (.ref I) "set_iterator":=⟨o,ho,hc⟩;refine wpAny_pyIter_slot hT lL (dB lL hT qX ?_ (sO _));show wpAny _ _ (ret (.ref I)) _ _ s;exact aE ⟨_,rfl,"set_iterator",_,hT,eX.lookup,h⟩
def W8(hh:A.handled=none)(hne:S≠I)(hTI:T≠I)(G:mU (!eE w) t es.size)(hps:gD ps (cQ es.size)) :
  Walks prog w A I [I,S,T] [I] es.size (λi v=>∃p x,ps[i]?=some p/\es[p]?=some x/\v=x.2) (λi h=>WO h I S T ps es.size ep i/\sJ h S es ep t) where
 sub:=λb hb=>by simp at hb;simp[hb]
 frame:=λ_ _ _ st hk=>by
  obtain⟨⟨⟨o,ho,r⟩,oT,cT,hoT,hdT⟩,⟨p,hp,q⟩⟩:=st;exact⟨⟨⟨o,hk I (by simp) o ho,r⟩,oT,cT,hk T (by simp) oT hoT,hdT⟩,⟨p,hk S (by simp) p hp,q⟩⟩
 item:=λi s Q E hi st hQ=>by
  have hpl:ps.length=es.size:=by rw[hps.length_eq,cH]
  have hp:ps[i]?=some ps[i]:=aF (by omega);have hlt:ps[i]<es.size:=dI.mp (hps.mem_iff.mp (fA (by omega)));have hx:es[ps[i]]?=some (es[ps[i]]'(by omega)):=bK (by omega);refine Q2 hTI G st.1 st.2 hp hx λh' hit' hs'=>?_;obtain⟨p,hp',q⟩:=st.2;exact hQ _ h' s.toks ⟨_,_,hp,hx,rfl⟩ ⟨hit',⟨p,hs'.extBut S p hne hp',q⟩⟩ λb o hb e=>hs'.extBut b o (λh=>hb (by simp[h])) e
 done:=λs Q E st hQ=>by
  have hpl:ps.length=es.size:=by rw[hps.length_eq,cH]
  exact VY hh G st.1 st.2 hpl λh' he'=>hQ h' s.toks λb o hb e=>he' b o (λh=>hb (by simp[h])) e
 self:=λ_ _ _ _ st hQ=>Q1 st.1 hQ
def PQ{Q:Value->Shared->Prop}(G:mU (!eE w) t es.size)(hS:sJ s.heap S es ep t)(hb:eE w=false)(hpn:t.plain=false)(hz:es.size<=1000)(h1:1<es.size)
  (h:∀ps d,gD ps (cQ es.size)->Q (.ref (s.heap.objs.size+1)) { s with heap:=(s.heap.push { cls:=.type "tuple",data:=.seq (ps.map λ(p:Nat)=>Value.int p 0).toArray }).push { cls:=.type "set_iterator",data:=.fields (kZ S s.heap.objs.size es.size ep 0) },drawn:=d }):wpAny (model prog w) A (pyIter (.ref S)) Q E s:=by
 obtain⟨oS,hoS,hex,hdS⟩:=id hS;have hT:s.TypeIs (.ref S) "set":=⟨oS,hoS,hex.1⟩;have hf:=G.fits;refine wpAny_pyIter_slot hT nD (dB nD hT tQ ?_ (FI _));show wpAny _ _ (Builtin.Frozenset.sizeOf S >>= _) _ _ s;unfold Builtin.Frozenset.sizeOf;refine aA (aA (wpAny_setEntries_of hoS hdS hf (aE ?_)));unfold setDrawn setsByText;refine aA (aA (wpAny_setState_of hoS hdS hf ?_));refine aA (aA (wpAny_askSetting (aE (aE ?_))));have e:(!eE w&&(!t.plain&&decide (es.size>1)))=true:=by rw[hb,hpn,decide_eq_true h1];rfl
 show wpAny _ _ (if(!eE w&&(!t.plain&&decide (es.size>1)))=true then _ else _) _ _ _;rw[if_pos e];refine aA (CB es.size (cQ es.size) _ _ (cH ..) λps d hp=>?_);have hpl:ps.length=es.size:=by rw[hp.length_eq,cH]
 refine aA (wpAny_newTuple ?_ (by rw[aB,hpl,sizeLine_eq];omega));unfold setEpoch;refine aA (aA (wpAny_setState_of (aJ _ hoS) hdS hf (aE ?_)));have h2:=h ps d hp;unfold kZ at h2;have z:(s.heap.push { cls:=.type "tuple",data:=.seq (ps.map λ(p:Nat)=>Value.int p 0).toArray }).objs.size=s.heap.objs.size+1:=eO ..;refine aA (cR ?_);refine aE ⟨_,rfl,"set_iterator",_,⟨_,aS _ rfl,rfl⟩,eX.lookup,?_⟩;show Q (.ref (s.heap.push { cls:=.type "tuple",data:=.seq (ps.map λ(p:Nat)=>Value.int p 0).toArray }).objs.size) _;rw[z];exact h2
end
section
variable{prog:bX}{w:World}{A:Around}{E:Value->Shared->Prop}{s:Shared}{S:Addr}{t:SetTable}{ep:Nat}{es:Array (Int×Value)}
def P2{α:Type}{xs:List α}:∀{ps ns:List Nat},gD ps ns->gD (ps.filterMap λp=>xs[p]?) (ns.filterMap λp=>xs[p]?):=λh=>h.filterMap _
def GN{Q:List Value->Shared->Prop}(hh:A.handled=none)(G:mU (!eE w) t es.size)(hz:es.size<=1000)(hS:sJ s.heap S es ep t)
  (hQ:∀h' tk d vs,s.heap.objs.size<=h'.objs.size->(∀b o,s.heap.get? b=some o->h'.get? b=some o)->gD vs (es.toList.map (·.2))->Q vs { s with heap:=h',toks:=tk,drawn:=d }):wpAny (model prog w) A (collect (.ref S)) Q E s:=by
 obtain⟨oS,hoS,hex,hdS⟩:=id hS;have lS:S<s.heap.objs.size:=bI hoS;unfold collect;refine aA (wpAny_runValue (codeAny_builtin oO ?_));rw[Around.under_plainId oN _];show wpAny _ A.in1 (newList [] >>= λr=>again (.builtin "list.__iadd__" ⟨[r,.ref S],[]⟩)) _ _ s;refine aA (cR ?_);refine aE ⟨plainId_quiet iK _,codeAny_builtin rC ?_⟩;rw[Around.under_plainId iK _]
 generalize hH:s.heap.push { cls:=.type "list",data:=.seq ([]:List Value).toArray }=H1
 have gL:H1.get? s.heap.objs.size=some { cls:=.type "list",data:=.seq ([]:List Value).toArray }:=by rw[<- hH];exact aS _ rfl
 have z1:H1.objs.size=s.heap.objs.size+1:=by rw[<- hH,eO]
 have k1:∀b o,s.heap.get? b=some o->H1.get? b=some o:=λb o e=>by rw[<- hH];exact aJ _ e
 have gS:=k1 S oS hoS;have tS:Shared.TypeIs { s with heap:=H1 } (.ref S) "set":=⟨oS,gS,hex.1⟩;show wpAny _ A.in1 (Builtin.List.listExtendWith (.ref s.heap.objs.size) (.ref S) (.ref s.heap.objs.size)) _ _ _;unfold Builtin.List.listExtendWith;refine aA (wpAny_typeOf tS ?_)
 have b1:Builtin.List.listSameRef (.ref s.heap.objs.size) (.ref S)=false:=by
  show(s.heap.objs.size==S)=false;exact beq_eq_false_iff_ne.mpr (gY lS)
 have b2:(Value.type "set"==Value.type "list")=false:=by decide
 have b3:(Value.type "set"==Value.type "tuple")=false:=by decide
 simp only[b1,b2,b3,xZ,iF,if_false]
 have hiter:∀Q' E',(∀(H2:Heap)(d:Drawn)(I:Addr)fp(P:Nat->Value->Prop)(St:Nat->Heap->Prop),(∀b o,H1.get? b=some o->H2.get? b=some o)->H1.objs.size<=I->(∀b∈fp,b≠s.heap.objs.size)->Walks prog w A.in1 I fp [I] es.size P St->(∀H4:Heap,(∀b o,b≠s.heap.objs.size->H2.get? b=some o->H4.get? b=some o)->St 0 H4)->(∀acc:Array Value,ItemsOf P acc es.size->gD acc.toList (es.toList.map (·.2)))->Q' (.ref I) { s with heap:=H2,drawn:=d })->wpAny (model prog w) A.in1 (pyIter (.ref S)) Q' E' { s with heap:=H1 }:=λQ' E' hq=>by
  have hh3:A.in1.handled=none:=by simp[hh]
  by_cases hdr0:eE w=true\/t.plain=true\/es.size<=1
  ·have hdr:eE w=false->(!t.plain&&decide (es.size>1))=false:=λhb=>by
    rcases hdr0 with z | z
    ·rw[hb]at z;cases z
    ·rcases z with z | z
     ·rw[z];rfl
     ·rw[decide_eq_false (by omega)];simp
   refine PP hdr G (s:={ s with heap:=H1 }) ⟨oS,gS,hex,hdS⟩ ?_;have hSI:S≠H1.objs.size:=by rw[z1];exact bO (eJ lS)
   refine hq _ s.drawn _ _ _ _ (λb o e=>aJ _ e) (aO _) (λb hb=>?_) (PD (prog:=prog) (w:=w) (A:=A.in1) (ep:=ep) hh3 H1.objs.size hSI hdr G) (λH4 k4=>?_) λacc hit=>?_
   ·simp only[bH,gM,or_false]at hb;rcases hb with rfl | rfl
    ·rw[z1];exact gY (eI _)
    ·exact bO lS
   ·exact⟨⟨_,k4 _ _ (by rw[z1];exact gY (eI _)) (aS _ rfl),rfl,rfl⟩,⟨oS,k4 _ _ (bO lS) (aJ _ gS),hex,hdS⟩⟩
   ·have hsz:(uU w S ep es).size=es.size:=by rw[<- aP,(wU w S ep es).length_eq,aP]
    have ea:acc.toList=(uU w S ep es).toList.map (·.2):=by
     apply gC;intro i;rw[aI,cD,cD];by_cases hi:i<es.size
     ·have hia:i<acc.size:=by have:=hit.1;omega
      obtain⟨x,hx,hv⟩:=hit.2 i acc[i] (bK hia);rw[bK hia,hx,hv];rfl
     ·rw[iP (by have:=hit.1;omega),iP (by omega)];rfl
    rw[ea];exact(wU w S ep es).map _
  ·have hb:eE w=false:=by
    cases hb:eE w with
    |true=>exact absurd (.inl hb) hdr0
    |false=>rfl
   have h1:1<es.size:=by
    by_cases z:es.size<=1
    ·exact absurd (.inr (.inr z)) hdr0
    ·omega
   have hpn:t.plain=false:=by
    cases z:t.plain with
    |true=>exact absurd (.inr (.inl z)) hdr0
    |false=>rfl
   refine PQ G (s:={ s with heap:=H1 }) ⟨oS,gS,hex,hdS⟩ hb hpn hz h1 λps d hps=>?_;have z2:H1.objs.size≠H1.objs.size+1:=bO (eI _);have hSI:S≠H1.objs.size+1:=by rw[z1];exact bO (eJ (eJ lS))
   have z3:(H1.push { cls:=.type "tuple",data:=.seq (ps.map λ(p:Nat)=>Value.int p 0).toArray }).objs.size=H1.objs.size+1:=eO ..;refine hq _ d _ [H1.objs.size+1,S,H1.objs.size] _ _ (λb o e=>aJ _ (aJ _ e)) (RM _) (λb hb=>?_) (W8 (prog:=prog) (w:=w) (A:=A.in1) (ep:=ep) (T:=H1.objs.size) hh3 hSI z2 G hps) (λH4 k4=>?_) λacc hit=>?_
   ·simp only[bH,gM,or_false]at hb;rcases hb with rfl | rfl | rfl
    ·rw[z1];exact gY (eJ (eI _))
    ·exact bO lS
    ·rw[z1];exact gY (eI _)
   ·have g1:((H1.push { cls:=.type "tuple",data:=.seq (ps.map λ(p:Nat)=>Value.int p 0).toArray }).push { cls:=.type "set_iterator",data:=.fields (kZ S H1.objs.size es.size ep 0) }).get? (H1.objs.size+1)=some { cls:=.type "set_iterator",data:=.fields (kZ S H1.objs.size es.size ep 0) }:=by rw[<- z3];exact aS _ rfl
    have g2:((H1.push { cls:=.type "tuple",data:=.seq (ps.map λ(p:Nat)=>Value.int p 0).toArray }).push { cls:=.type "set_iterator",data:=.fields (kZ S H1.objs.size es.size ep 0) }).get? H1.objs.size=some { cls:=.type "tuple",data:=.seq (ps.map λ(p:Nat)=>Value.int p 0).toArray }:=aJ _ (aS _ rfl);exact⟨⟨⟨_,k4 _ _ (by show H1.objs.size+1≠_;rw[z1];exact gY (eJ (eI _))) g1,rfl,rfl⟩,_,_,k4 _ _ (by rw[z1];exact gY (eI _)) g2,rfl⟩,⟨oS,k4 _ _ (bO lS) (aJ _ (aJ _ gS)),hex,hdS⟩⟩
   ·have hpl:ps.length=es.size:=by rw[hps.length_eq,cH]
    have ea:acc.toList=(ps.filterMap λp=>es.toList[p]?).map (·.2):=by
     have e0:∀p∈ps,p<es.size:=λp hp=>by exact dI.mp (hps.mem_iff.mp hp)
     have e1:(ps.filterMap λp=>es.toList[p]?)=ps.attach.map λp=>es[p.1]'(e0 p.1 p.2):=by
      clear hit hpl hps z3
      induction ps with
      |nil=>rfl
      |cons p ps ih=>
       have hp:=e0 p (aR ..);rw[eQ,cD,bK hp];dsimp only;rw[ih λq hq=>e0 q (aM _ hq),List.attach_cons,aX,bM]
       rfl
     rw[e1,bM];apply gC;intro i;rw[cD,aI];by_cases hi:i<es.size
     ·have hia:i<acc.size:=by have:=hit.1;omega
      obtain⟨p,x,hp,hx,hv⟩:=hit.2 i acc[i] (bK hia);have hpi:i<ps.length:=by omega
      have hpe:ps[i]=p:=by rw[aF hpi]at hp;exact Option.some.inj hp
      rw[bK hia,aF (by rw[R0];exact hpi),hv];simp only[Option.map_some,List.getElem_attach,Function.comp];subst hpe;rw[bK (e0 _ (fA hpi))]at hx;rw[Option.some.inj hx]
     ·rw[iP (by have:=hit.1;omega),eZ (by rw[R0];omega)];rfl
    rw[ea];have hr:(cQ es.size).filterMap (λp=>es.toList[p]?)=es.toList:=by rw[<- aP];exact List.filterMap_getElem?_range_length _
    have:=(P2 (xs:=es.toList) hps);rw[hr]at this;exact this.map _
 refine aA (hiter _ _ λH2 d I fp P St k2 hI hfp W0 st0 hper=>?_);refine aA (wpAny_holding ?_);have tS2:Shared.TypeIs { s with heap:=H2,drawn:=d } (.ref S) "set":=⟨oS,k2 _ _ gS,hex.1⟩;unfold Builtin.List.listLengthHint;refine aA (wpAny_specialOf tS2 PySem.F.slot_set_len.lookup ?_);have hsp:splitId "set.__len__"=some ("set","__len__"):=by decide +kernel
 dsimp only;rw[hsp];dsimp only;refine aA (wpAny_isInstance (T:="set") (b:=true) tS2 PySem.sub_set_self ?_);rw[if_neg (by decide)];rw[if_pos (by decide +kernel)];refine aA (wpAny_typeOf tS2 ?_);refine aE ?_;rw[if_pos (by decide +kernel)];refine aA (wpAny_rule (aA ?_));have gL2:=k2 _ _ gL;show wpAny _ A.in1 (updateSeq s.heap.objs.size (·.push .none) >>= λ_=>updateSeq s.heap.objs.size (·.pop)) _ _ _;refine aA (wpAny_updateSeq gL2 rfl ?_);have gL3:=dM (Obj.mapSeq (·.push Value.none)) gL2 rfl;refine wpAny_updateSeq gL3 rfl ?_;have gL4:=dM (Obj.mapSeq (·.pop)) gL3 rfl
 generalize hH4:(H2.update s.heap.objs.size (Obj.mapSeq (·.push Value.none))).update s.heap.objs.size (Obj.mapSeq (·.pop))=H4
 rw[hH4]at gL4
 have k4:∀b o,b≠s.heap.objs.size->H2.get? b=some o->H4.get? b=some o:=λb o hb e=>by
  rw[<- hH4];exact(fD _ _ (Ne.symm hb)).trans ((fD _ _ (Ne.symm hb)).trans e)
 obtain⟨c0,gL5⟩:∃c,H4.get? s.heap.objs.size=some { cls:=.type "list",dict:=none,data:=.seq #[] c,slots:=#[] }:=⟨_,gL4⟩;have hh3:A.in1.handled=none:=by simp[hh]
 have hLf:s.heap.objs.size∉fp:=λz=>hfp _ z rfl;have st:=st0 H4 k4;have W:=W0.toS;refine aE ⟨plainId_quiet iX _,codeAny_extend_loopS W (by rw[sizeLine_eq];omega) _ hLf _ es.size 0 _ _ _ rfl (cL _) st gL5 (ItemsOf.nil _) λs' acc c hm hL' hit=>?_⟩;obtain⟨h',g',d',tk',os'⟩:=s';have eg:g'=s.gens:=hm.gens;have ed:d'=d:=hm.drawn;have eo:os'=s.os:=hm.os;subst eg;subst ed;subst eo;show wpAny _ A (load s.heap.objs.size >>= _) _ _ _;refine aA (wpAny_load hL' (aE ?_));refine hQ h' tk' d' _ (lK (bI hL')) (λb o e=>hm.heap b o ?_ (k4 b o (bO (bI e)) (k2 b o (k1 b o e)))) (hper acc hit);have lb:=bI e;simp only[bH,gM,or_false,not_or];exact⟨bO lb,bO (cW (eJ lb) (by rw[z1]at hI;exact hI))⟩
end
def QQ{vs us xs}(h:IntsAre us xs)(p:gD vs us):∃ms,IntsAre vs ms/\gD ms xs:=by
 induction p generalizing xs with
 |nil=>exact⟨xs,h,.refl _⟩
 |cons a p ih=>
  cases h with
  |cons k t h=>obtain⟨ms,h1,h2⟩:=ih h;exact⟨_,.cons k t h1,h2.cons _⟩
 |swap a b l=>
  cases h with
  |cons k t h=>cases h with
   |cons k2 t2 h=>exact⟨_,.cons k2 t2 (.cons k t h),.swap ..⟩
 |trans p q i1 i2=>
  obtain⟨ms,h1,h2⟩:=i2 h;obtain⟨ns,h3,h4⟩:=i1 h1;exact⟨ns,h3,h4.trans h2⟩
section
variable{prog:bX}{w:World}{A:Around}{E:Value->Shared->Prop}{s:Shared}{S:Addr}{m:List Int}
def HV{Q:Value->Shared->Prop}(hh:A.handled=none)(hS:wA s.heap S m (!eE w))(hpm:m.Nodup)(hl6:m.length<=60)
  (h:∀h' tk d (r:Addr) (out:Array Value) e,s.heap.objs.size<=r->(∀b o,s.heap.get? b=some o->h'.get? b=some o)->h'.get? r=some (seqObj "list" out e)->(∃us,IntsAre out.toList us/\us.Pairwise (·<·)/\us.Perm m)->Q (.ref r) { s with heap:=h',toks:=tk,drawn:=d }) :
  wpAny (model prog w) A (call (.builtin "sorted") [.ref S]) Q E s:=by
 obtain⟨o,es,ep,t,ho,hex,hd,hE,g⟩:=hS;have hz:es.size<=60:=by rw[<- aP,hE.len];exact hl6
 refine Calls.call_function_entry kind_sorted plain_sorted entry_sorted (args_sorted1 _) ?_;unfold Builtin.«sorted»;refine aA (m:=checkCount "sorted" 1 1 _) (aE ?_);refine aA (GN (by simp[hh]) g (by omega) ⟨o,ho,hex,hd⟩ λh' tk d vs hz' kk hp=>?_);have hvl:vs.length<=60:=by rw[hp.length_eq,aB,aP];exact hz
 obtain⟨ns,hI,hpn⟩:=QQ (EV hE) hp;refine aA (wpAny_newList ?_ (by rw[sizeLine_eq];omega));have gL:(h'.push (seqObj "list" vs.toArray 0)).get? h'.objs.size=some (seqObj "list" vs.toArray 0):=aS _ rfl;refine aA (wpAny_holding (dB slot_list_sort ⟨_,gL,rfl⟩ entry_list_sort (list_sort_tree gL hI (by omega) λout ms a1 a2 a3=>⟨_,rfl,?_⟩) (args_list_sort _)));have pm:=a2.trans hpn;have hlt:ms.Pairwise (·<·):=(List.pairwise_and_iff.mpr ⟨a3,pm.nodup_iff.mpr hpm⟩).imp λh=>by have:=h.1;have:=h.2;omega
 obtain⟨e,he⟩:=sortedHeap_at (out:=out) gL;refine aE ⟨_,rfl,h _ tk d h'.objs.size out e hz' (λb u x=>?_) he ⟨ms,a1,hlt,pm⟩⟩;have lb:=bI (kk b u x);rw[sortedHeap_old (bO lb) (cW lb (by rw[eO];exact RM _))];exact aJ _ (kk b u x)
end
noncomputable def aGf(w:World)(q:Addr)(l:List Int):HO:=.ext λh=>∃m,wA h q m (!eE w)/\m.Nodup/\m.length<=60/\∀z,z∈m↔z∈l
noncomputable def YO(l:List Int):List V:=l.map V.int
section
variable{X:Cx}
def aCo(X:Cx):List V->Hp->VK->Prop:=λxs H Q=>∃(p:Addr)(ns:List Int),xs=[.ref p]/\tV X.K H p (YO ns)/\ns.length<=60/\∀q,H q=none->Q (.ref q) (gO H q (aGf X.w q ns))
def S8(X:Cx):List V->Hp->VK->Prop:=λxs H Q=>∃(q:Addr)(l:List Int),xs=[.ref q]/\H q=some (aGf X.w q l)/\∀(r:Addr)(us:List Int),H r=none->us.Pairwise (·<·)->(∀z,z∈us↔z∈l)->us.length<=60->Q (.ref r) (gO H r (.lst (YO us)))
def Q9(hc:X.calm=true):jE X (.type "set") (aCo X):=by
 intro pins s σ H xs us Q I r h;obtain⟨p,ns,rfl,hq,hz,q⟩:=h;obtain⟨u,rfl,rx⟩:=nM r;cases rx;obtain⟨its,rv,pl,_⟩:=I.tuple hq;refine GQ (I.ok.hd hc) pl (OH rv) (by omega) λh' tk hD kk=>?_;obtain⟨m,hG,hd⟩:=hD;obtain⟨o,es,ep,t,ho,fT⟩:=id hG;refine⟨.ref _,_,I.laid kk (aO _) (show iN X.prog X.w _ h' _ (aGf X.w s.heap.objs.size ns)from⟨⟨m,hG,hd.1,cI hd.2.1 hz,hd.2.2⟩,⟨o,ho⟩,?_⟩),rfl,q _ (I.hok.fresh (aO _))⟩;rintro h1 h2 ⟨m,a,b⟩ k;exact⟨m,a.at k,b⟩
def ME(hc:X.calm=true):jE X (.builtin "sorted") (S8 X):=by
 intro pins s σ H xs us Q I r h;obtain⟨p,l,rfl,hq,q⟩:=h;obtain⟨u,rfl,rx⟩:=nM r;cases rx;obtain⟨⟨m,hS,hn,hz,hm⟩,_⟩:=I.hok p _ hq;refine HV (I.ok.hd hc) hS hn hz λh' tk d r out e hr kk he zq=>?_;obtain⟨us,hi,hlt,hpm⟩:=zq;have hul:us.length<=60:=by rw[hpm.length_eq];exact hz
 refine⟨.ref r,_,eL.drawn (I.laid (t':=tk) (o:=.lst (YO us)) kk hr ?_) d,rfl,q _ us (I.hok.fresh hr) hlt (λz=>by rw[hpm.mem_iff];exact hm z) hul⟩;have hL:bL=2^24:=rfl;exact⟨by unfold YO;rw[aB];omega,out.toList,e,N5 hi,by simpa[seqObj]using he⟩
end
end L2
namespace TL
open L2
section
variable{X:Cx}{e:Expr}{te:ET}{pos:Pos}
def aFt(te:ET):ET:=λσ Q=>te σ λd=>∃ns:List Int,d=.tuple (ns.map aH)/\ns.length<=60/\∀us:List Int,us.Pairwise (·<·)->(∀z,z∈us↔z∈ns)->us.length<=60->Q (.list (us.map aH))
def VN{g1 g2 p2}(he:hW X e te)(hs:bN [e] X.env=(false,eval e X.env)::bN [] X.env:=by rfl)
  (pc:∀{v},PA X [e] (pR v yB)->PE X (.Call g1 [.Call g2 [e] [] p2] [] pos) (M6 (S8 X) (pR (M6 (aCo X) (pR v yB)) yB))) :
  hW X (.Call g1 [.Call g2 [e] [] p2] [] pos) (aFt te):=by
 obtain⟨v,pe,re⟩:=he;refine⟨_,pc (fY pe jG hs),λB p0 H ps σT σ Q QV o h k=>re B p0 H ps σT σ _ _ o h λd x H1 s1 r1 q1=>?_⟩;obtain⟨ns,rfl,hz,q⟩:=q1
 cases r1 with
 |tuple hq s=>
  have e:=qR s;subst e;refine⟨_,ns,rfl,bJ.seqT bS hq,hz,λw hw=>⟨w,_,rfl,dG,λr us hr h1 h2 h3=>k _ _ _ ((s1.trans (dN hw)).trans (dN hr)) ?_ (q us h1 h2 h3)⟩⟩;exact rT ((o.grow (s1.trans (dN hw)))).live hr (NM _)
end
end TL
namespace L2
open TL
def L5{es ks xs}(ex:EX es ks xs)(k:D):(atKey xs k).isSome=decide (k∈ks):=by
 have h1:=ex.1;by_cases hk:k∈ks
 ·rw[decide_eq_true hk];rw[<- h1]at hk;obtain⟨x,hx,e⟩:=aQ.mp hk;unfold atKey;rw[qL];exact AB.mpr ⟨x,hx,by simpa using e⟩
 ·rw[decide_eq_false hk];unfold atKey;rw[qL,AD];intro z;obtain⟨x,hx,e⟩:=AB.mp z;exact hk (by rw[<- h1];exact aQ.mpr ⟨x,hx,by simpa using e⟩)
def X6(neg:Bool)(K:aL)(w:World):R2:=λx y H Q=>∃(p a:Addr)(es:List (Int×Addr×V))(ks:List D)(k:D),x=.ref a/\y=.ref p/\RU H p es/\DK K w H es ks/\gG K H k x/\mT k/\Q (.bl (if neg=true then !decide (k∈ks)else decide (k∈ks))) H
section
variable{X:Cx}
def aE4(hu:X.A.units+9<cLine):nS X (compareOp .In) (X6 false X.K X.w):=by
 intro pins s σ H x y v u Q I rx ry h;obtain⟨p,a,es,ks,k,rfl,rfl,hp,dk,rk,ok,q⟩:=h;cases rx;cases ry;obtain⟨h1,h2,xs,x1,x2⟩:=CD I hp dk;refine wpAny_in_heap (show X.A.units+1+8<cLine by omega) (yK I rk ok) h1 x2 ?_;rw[L5 x1];exact⟨_,H,I.tok _,(show gB (.bl _) (Value.bool _)from rfl),q⟩
def D8(hu:X.A.units+9<cLine):nS X (compareOp .NotIn) (X6 true X.K X.w):=by
 intro pins s σ H x y v u Q I rx ry h;obtain⟨p,a,es,ks,k,rfl,rfl,hp,dk,rk,ok,q⟩:=h;cases rx;cases ry;obtain⟨h1,h2,xs,x1,x2⟩:=CD I hp dk;refine wpAny_notIn_heap (show X.A.units+1+8<cLine by omega) (yK I rk ok) h1 x2 ?_;rw[L5 x1];exact⟨_,H,I.tok _,(show gB (.bl _) (Value.bool _)from rfl),q⟩
end
end L2
namespace TL
open L2
section
variable{X:Cx}{tk:ET}
def aMt(neg:Bool)(w:World)(k d:D)(Q:D->Prop):Prop:=∃kvs,d=nH w kvs/\DH k/\(∀kv∈kvs,mT kv.1)/\∀z:Bool,(z=true↔k∈kvs.map (·.1))->Q (.bool (if neg=true then !z else z))
def aJe(neg:Bool):zD X (X6 neg X.K X.w) (aMt neg X.w):=by
 intro H ps d1 d2 x y Q QV _ r1 r2 h k;obtain⟨kvs,rfl,⟨kok,ys,rfl⟩,hok,q⟩:=h;obtain⟨c,rfl⟩:=kN r1;obtain⟨p,es,ep,rfl,h1,h2,h3,h4,h5⟩:=wP r2;exact⟨p,c,es,kvs.map (·.1),_,rfl,rfl,.inr ⟨ep,bS _ _ h1⟩,(nG (w:=X.w) h2 h3 hok h4).same bS,r1.same bS,kok,k _ _ H (L2.bJ.refl _) (.bool _) (q _ (by rw[decide_eq_true_iff]))⟩
def aJ6(neg:Bool)(w:World)(i:Nat)(tk:ET):ET:=λσ Q=>tk σ λk=>∃kvs,σ[i]?=some (tR w kvs)/\DH k/\(∀kv∈kvs,mT kv.1)/\∀z:Bool,(z=true↔k∈kvs.map (·.1))->Q (.bool (if neg=true then !z else z))
end
def M2{X:Cx}{e n tk pos}{i:Nat}{op}{neg:Bool}(ho:nS X (compareOp op) (X6 neg X.K X.w))(hn:PE X n (pL i))(hk':hW X e tk)(hm:behindInMarks op n=false:=by first | exact F5 _ | rfl):J2 X (.Compare e [op] [n] pos) (E1 (aJ6 neg X.w i tk)):=by
 obtain⟨vk,pk,rk⟩:=hk';refine⟨_,F0 ho pk hn hm,λB p0 H ps σT σ Q QV o h k=>rk B p0 H ps σT σ _ _ o h λkd z H1 s1 r1 q1=>?_⟩;obtain⟨kvs,hi,⟨kok,ys,rfl⟩,hok,q⟩:=q1;obtain⟨⟨p,es,hσ,x⟩,u⟩:=(o.grow s1).isDic hi;obtain⟨a,rfl⟩:=kN r1;exact⟨.ref p,hσ,p,a,es,kvs.map (·.1),_,rfl,rfl,.inl x.obj,(nG (w:=X.w) x.hsh x.nd hok x.ks).same bS,r1.same bS,kok,_,rfl,k _ H1 s1 (q _ (by rw[decide_eq_true_iff]))⟩
section
structure Gh(K:aL)(B:Hp)(p0:List Addr)(H0:Hp)(ps:List Addr)(H:Hp)(σT:List Sl)(σ:L2.St)(T:mC)(n i:Nat)(z:Addr):Prop where
 o:nA K B p0 H ps σT σ T n
 r:∀l,nA K B p0 (gO H z (.lst l)) ps (σT.set i .un) σ T n
 s:∀l,bJ (mask H0 ps) (mask (gO H z (.lst l)) ps)
 nt:z≠T.p
 h:∃t x y zs,σ[i]?=some (some (.ref t))/\H t=some (.tup [x,y,.ref z])/\H z=some (.lst zs)/\zs.length<=100000
end
structure KG where
 I:Type
 S:Type
 ad:I->List Addr
 tau:I->D
 At:I->aL->Hp->List Addr->S->Prop
 to:∀{T:I}{K:aL}{H H':Hp}{ps ps':List Addr}{n:S},At T K H ps n->(∀a∈ad T,H' a=H a)->bJ (mask H ps) (mask H' ps')->At T K H' ps' n
 liv:∀{T:I}{K:aL}{H:Hp}{ps:List Addr}{n:S},At T K H ps n->∀a∈ad T,CQ (H a)
 inj:∀{T T':I},tau T=tau T'->T=T'
def mH(as:List Addr)(H H':Hp):Prop:=∀a o,a∉as->H a=some o->H' a=some o
section
variable{K:aL}{H H' H1 H2 B:Hp}{p0 ps as:List Addr}{σT:List Sl}{σ:L2.St}
def mH.of(s:bJ H H'):mH as H H':=λa o _ e=>s a o e
def mH.refl:mH as H H:=λ_ _ _ e=>e
def mH.trans(s:mH as H H1)(t:mH as H1 H2):mH as H H2:=λa o n e=>t a o n (s a o n e)
theorem mH.mask(hp:∀a∈as,a∈ps)(s:mH as H H'):bJ (mask H ps) (mask H' ps):=λa o e=>by
 unfold TL.mask at e |-
 by_cases ha:a∈ps
 ·rw[if_pos ha]at e;cases e
 ·rw[if_neg ha]at e |-
  exact s a o (λz=>ha (hp a z)) e
def Ok.growZ(o:Ok K B p0 H ps σT σ)(hp:∀a∈as,a∈p0)(hB:∀a∈as,B a=none)(s:mH as H H')(hl:∀a∈as,CQ (H' a)):Ok K B p0 H' ps σT σ where
 base:=λa u e=>s a u (λz=>by rw[hB a z]at e;cases e) (o.base a u e)
 sub:=o.sub
 live:=λq hq=>by
  by_cases e:q∈as
  ·exact hl q e
  ·obtain⟨u,h1,h2⟩:=o.live q hq;exact⟨u,s q u e h1,h2⟩
 len:=o.len
 val:=λi d h=>let ⟨v,h1,h2⟩:=o.val i d h;⟨v,h1,h2.same (s.mask λa z=>o.sub a (hp a z))⟩
 own:=λi ts h=>let ⟨q,xs,h1,h2,h3,h4,h5,h6⟩:=o.own i ts h;⟨q,xs,h1,h2,h3,h4,s q _ (λz=>h4 (hp q z)) h5,h6.same (s.mask λa z=>o.sub a (hp a z))⟩
 dis:=o.dis
 dc:=o.dc.to (λj hs kvs h=>⟨h,rfl⟩) (λq φ a b c=>⟨a,(s q _ (λz=>c (hp q z)) b).trans b.symm⟩) (λq φ _ _ a b=>⟨a,b⟩) (s.mask λa z=>o.sub a (hp a z))
variable{F:KG}{T:F.I}{n n':F.S}
def KG.At.grow(t:F.At T K H ps n)(s:bJ H H'):F.At T K H' ps n:=F.to t (λa ha=>by
 obtain⟨u,h1,_⟩:=F.liv t a ha;rw[h1];exact s a u h1) (bQ s)
structure sS(F:KG)(K:aL)(B:Hp)(p0:List Addr)(H:Hp)(ps:List Addr)(σT:List Sl)(σ:L2.St)(T:F.I)(n:F.S):Prop where
 ok:Ok K B p0 H ps σT σ
 mem:∀a∈F.ad T,a∈p0
 nb:∀a∈F.ad T,B a=none
 tp:F.At T K H ps n
def sS.mem'(o:sS F K B p0 H ps σT σ T n):∀a∈F.ad T,a∈ps:=λa h=>o.ok.sub a (o.mem a h)
theorem sS.grow(o:sS F K B p0 H ps σT σ T n)(s:bJ H H'):sS F K B p0 H' ps σT σ T n:=⟨o.ok.grow s,o.mem,o.nb,o.tp.grow s⟩
def sS.growX(o:sS F K B p0 H ps σT σ T n)(s:mH (F.ad T) H H')(t:F.At T K H' ps n'):sS F K B p0 H' ps σT σ T n':=⟨o.ok.growZ o.mem o.nb s (F.liv t),o.mem,o.nb,t⟩
theorem sS.set(o:sS F K B p0 H ps σT σ T n){i:Nat}{d v}(r:gG K (mask H ps) d v):sS F K B p0 H ps (σT.set i (.val d)) (σ.set i (some v)) T n:=⟨o.ok.set r,o.mem,o.nb,o.tp⟩
end
section
variable{F:KG}
abbrev EZ(F:KG):=D->F.S->List Sl->(F.S->D->Prop)->Prop
abbrev AZ(F:KG):=D->F.S->List Sl->(F.S->List D->Prop)->Prop
abbrev TZ(F:KG):=D->F.S->List Sl->(F.S->Bool->Prop)->Prop
def WX(X:Cx)(e:Expr)(t:EZ F):Prop:=∃te:TE,PE X e te/\∀B p0 H ps σT σ T n (Q:F.S->D->Prop)(QV:VK),sS F X.K B p0 H ps σT σ T n->t (F.tau T) n σT Q ->
 (∀n' d v H',mH (F.ad T) H H'->F.At T X.K H' ps n'->gG X.K (mask H' ps) d v->Q n' d->QV v H')->te σ H QV
def PAz(X:Cx)(es:List Expr)(t:AZ F):Prop:=∃ta:TA,PA X es ta/\∀B p0 H ps σT σ T n (Q:F.S->List D->Prop)(QV:List V->Hp->Prop),sS F X.K B p0 H ps σT σ T n->t (F.tau T) n σT Q ->
 (∀n' ds vs H',mH (F.ad T) H H'->F.At T X.K H' ps n'->Reps X.K (mask H' ps) ds vs->Q n' ds->QV vs H')->ta σ H QV
def PTz(X:Cx)(e:Expr)(t:TZ F):Prop:=∃tt:TT,PT X e tt/\∀B p0 H ps σT σ T n (Q:F.S->Bool->Prop)(QV:Bool->Hp->Prop),sS F X.K B p0 H ps σT σ T n->t (F.tau T) n σT Q ->
 (∀n' b H',mH (F.ad T) H H'->F.At T X.K H' ps n'->Q n' b->QV b H')->tt σ H QV
section
variable{X:Cx}{a b e:Expr}{es:List Expr}{ta tb te:EZ F}{pos:Pos}
def zE(t:ET):EZ F:=λ_ n σ Q=>t σ (Q n)
def yQ{t}(h:hW X e t):WX (F:=F) X e (zE t):=by
 obtain⟨v,p,r⟩:=h;exact⟨v,p,λB p0 H ps σT σ T n Q QV o h k=>r B p0 H ps σT σ (Q n) QV o.ok h λd v H' s rr q=>k n d v H' (.of s) (o.tp.grow s) rr q⟩
def zT(t:yZ):TZ F:=λ_ n σ Q=>t σ (Q n)
def aLg{t}(h:J2 X e t):PTz (F:=F) X e (zT t):=by
 obtain⟨v,p,r⟩:=h;exact⟨v,p,λB p0 H ps σT σ T n Q QV o h k=>r B p0 H ps σT σ (Q n) QV o.ok h λb H' s q=>k n b H' (.of s) (o.tp.grow s) q⟩
def zOp(f:D->D->(D->Prop)->Prop)(ta tb:EZ F):EZ F:=λτ n σ Q=>ta τ n σ λn1 x=>tb τ n1 σ λn2 y=>f x y (Q n2)
def T5{r}{f:D->D->(D->Prop)->Prop}(h2:zD X r f){va vb:TE}
  (ha:∀B p0 H ps σT σ T n (Q:F.S->D->Prop)(QV:VK),sS F X.K B p0 H ps σT σ T n->ta (F.tau T) n σT Q->(∀n' d v H',mH (F.ad T) H H'->F.At T X.K H' ps n'->gG X.K (mask H' ps) d v->Q n' d->QV v H')->va σ H QV)
  (hb:∀B p0 H ps σT σ T n (Q:F.S->D->Prop)(QV:VK),sS F X.K B p0 H ps σT σ T n->tb (F.tau T) n σT Q->(∀n' d v H',mH (F.ad T) H H'->F.At T X.K H' ps n'->gG X.K (mask H' ps) d v->Q n' d->QV v H')->vb σ H QV)
  (B:Hp) (p0:List Addr) (H:Hp) (ps:List Addr) (σT:List Sl) (σ:L2.St) (T:F.I) (n:F.S) (Q:F.S->D->Prop) (QV:VK) (o:sS F X.K B p0 H ps σT σ T n) (h:zOp f ta tb (F.tau T) n σT Q) (k:∀n' d v H',mH (F.ad T) H H'->F.At T X.K H' ps n'->gG X.K (mask H' ps) d v->Q n' d->QV v H'):tOp r va vb σ H QV:=by
 refine ha B p0 H ps σT σ T n _ _ o h λn1 d1 x H1 s1 t1 r1 q1=>?_;have o1:=o.growX s1 t1;refine hb B p0 H1 ps σT σ T n1 _ _ o1 q1 λn2 d2 y H2 s2 t2 r2 q2=>?_;have o2:=o1.growX s2 t2;exact h2 H2 ps d1 d2 x y (Q n2) QV o2.ok.live (r1.same (s2.mask o.mem')) r2 q2 λd v H' s' r' q'=>k n2 d v H' ((s1.trans s2).trans (.of s')) (t2.grow s') r' q'
def aJy{op r}{f:D->D->(D->Prop)->Prop}(ho:nS X (binaryOp op) r)(h2:zD X r f)(ha:WX X a ta)(hb:WX X b tb):WX X (.BinOp a op b pos) (zOp f ta tb):=by
 obtain⟨va,pa,ra⟩:=ha;obtain⟨vb,pb,rb⟩:=hb;exact⟨_,NZ ho pa pb,T5 h2 ra rb⟩
def aLb:AZ F:=λ_ n _ Q=>Q n []
def aG0(t:EZ F)(r:AZ F):AZ F:=λτ n σ Q=>t τ n σ λn1 x=>r τ n1 σ λn2 xs=>Q n2 (x::xs)
def MJ:PAz (F:=F) X [] aLb:=⟨_,jG,λ_ _ H _ _ _ _ _ _ _ o h k=>k _ _ _ H .refl o.tp .nil h⟩
def lR{tr}(ha:WX X e te)(hr:PAz X es tr)(hs:bN (e::es) X.env=(false,eval e X.env)::bN es X.env:=by rfl):PAz X (e::es) (aG0 te tr):=by
 obtain⟨va,pa,ra⟩:=ha;obtain⟨vr,pr,rr⟩:=hr;refine⟨_,fY pa pr hs,λB p0 H ps σT σ T n Q QV o h k=>ra B p0 H ps σT σ T n _ _ o h λn1 d x H1 s1 t1 r1 q1=>?_⟩;refine rr B p0 H1 ps σT σ T n1 _ _ (o.growX s1 t1) q1 λn2 ds xs H2 s2 t2 r2 q2=>?_;exact k _ _ _ H2 (s1.trans s2) t2 (.cons (r1.same (s2.mask o.mem')) r2) q2
def aG1(f:List D->(D->Prop)->Prop)(t:AZ F):EZ F:=λτ n σ Q=>t τ n σ λn1 ds=>f ds (Q n1)
def aJ0{r:List V->Hp->VK->Prop}{f:List D->(D->Prop)->Prop}{t:AZ F}{g}(hf:oH X r f)(ha:PAz X (e::es) t)(pc:∀{ta:TA},PA X (e::es) ta->PE X (.Call g (e::es) [] pos) (M6 r ta)):WX X (.Call g (e::es) [] pos) (aG1 f t):=by
 obtain⟨v,pa,ra⟩:=ha;refine⟨_,pc pa,λB p0 H ps σT σ T n Q QV o h k=>ra B p0 H ps σT σ T n _ _ o h λn1 ds xs H1 s1 t1 r1 q1=>?_⟩;exact hf H1 ps ds xs (Q n1) QV (o.growX s1 t1).ok.live r1 q1 λd v H' s' r' q'=>k n1 d v H' (s1.trans (.of s')) (t1.grow s') r' q'
abbrev SpZ(F:KG):=D->F.S->List D->(F.S->D->Prop)->Prop
def nK(K:aL)(sp:SpZ F):Sp:=λvs H Q _=>∃(ps:List Addr)(T:F.I)(n:F.S)(ds:List D)(QD:F.S->D->Prop),(∀p∈ps,CQ (H p))/\(∀a∈F.ad T,a∈ps)/\F.At T K H ps n/\Reps K (mask H ps) ds vs/\sp (F.tau T) n ds QD /\
 ∀n' d v H',mH (F.ad T) H H'->F.At T K H' ps n'->gG K (mask H' ps) d v->QD n' d->Q v H'
def aGz(sp:SpZ F)(t:AZ F):EZ F:=λτ n σ Q=>t τ n σ λn1 ds=>sp τ n1 ds Q
def OP{k:Nat}{f:Addr}{fd:jL}{pn:List Str}{sp:SpZ F}{x:Str}{p}{t:AZ F}(ha:PAz X (e::es) t)(pc:∀{ta:TA},PA X (e::es) ta->PE X (.Call (.Name x p) (e::es) [] pos) (BD (nK X.K sp) [] E0 ta)):WX X (.Call (.Name x p) (e::es) [] pos) (aGz sp t):=by
 obtain⟨v,pa,ra⟩:=ha;refine⟨_,pc pa,λB p0 H ps σT σ T n Q QV o h k=>ra B p0 H ps σT σ T n _ _ o h λn1 ds xs H1 s1 t1 r1 q1=>?_⟩;show nK X.K sp (xs++[]) H1 QV E0;rw[dL];exact⟨ps,T,n1,ds,Q,(o.growX s1 t1).ok.live,o.mem',t1,r1,q1,λn' d v H' s' t' r' q'=>k n' d v H' (s1.trans s') t' r' q'⟩
end
end
section
variable{F:KG}
section
variable{K:aL}{H B:Hp}{p0 ps:List Addr}{σT:List Sl}{σ:L2.St}{T:F.I}{n:F.S}
def sS.with(o:sS F K B p0 H ps σT σ T n){σT' σ'}(o':Ok K B p0 H ps σT' σ'):sS F K B p0 H ps σT' σ' T n:=⟨o',o.mem,o.nb,o.tp⟩
end
structure zY(F:KG) where
 nx:F.S->List Sl->Prop
 rt:F.S->D->Prop
 bk:F.S->List Sl->Prop:=λ_ _=>False
 ct:F.S->List Sl->Prop:=λ_ _=>False
 xB:Hp->List Addr->Prop:=λ_ _=>True
abbrev SZ(F:KG):=D->zY F->F.S->List Sl->Prop
structure CT(F:KG)(K:aL)(B:Hp)(p0:List Addr)(H:Hp)(ps:List Addr)(T:F.I)(DC:zY F)(DV:xR):Prop where
 nx:∀H' ps' σT' σ' n',sS F K B p0 H' ps' σT' σ' T n'->bJ (mask H ps) (mask H' ps')->DC.nx n' σT'->DV.nx σ' H'
 bk:∀H' ps' σT' σ' n',sS F K B p0 H' ps' σT' σ' T n'->bJ (mask H ps) (mask H' ps')->DC.bk n' σT'->DV.bk σ' H'
 ct:∀H' ps' σT' σ' n',sS F K B p0 H' ps' σT' σ' T n'->bJ (mask H ps) (mask H' ps')->DC.ct n' σT'->DV.ct σ' H'
 rt:∀n' d v H',bJ B H'->F.At T K H' p0 n'->gG K (mask H' p0) d v->DC.rt n' d->DV.rt v H'
 xb:DC.xB B p0
def PSz(X:Cx)(st:Stmt)(t:SZ F):Prop:=∃ts:TS,PS X st ts/\∀B p0 H ps σT σ T n (DC:zY F)(DV:xR),sS F X.K B p0 H ps σT σ T n->t (F.tau T) DC n σT->CT F X.K B p0 H ps T DC DV->ts DV σ H
def J3(X:Cx)(st:List Stmt)(t:SZ F):Prop:=∃ts:TS,CW X st ts/\∀B p0 H ps σT σ T n (DC:zY F)(DV:xR),sS F X.K B p0 H ps σT σ T n->t (F.tau T) DC n σT->CT F X.K B p0 H ps T DC DV->ts DV σ H
section
variable{K:aL}{H H' B:Hp}{p0 ps:List Addr}{σT:List Sl}{σ:L2.St}{T:F.I}{n:F.S}
def CT.later{DC DV ps'}(f:CT F K B p0 H ps T DC DV)(e:bJ (mask H ps) (mask H' ps')):CT F K B p0 H' ps' T DC DV:=
 ⟨λ_ _ _ _ _ o s q=>f.nx _ _ _ _ _ o (e.trans s) q,λ_ _ _ _ _ o s q=>f.bk _ _ _ _ _ o (e.trans s) q,λ_ _ _ _ _ o s q=>f.ct _ _ _ _ _ o (e.trans s) q,f.rt,f.xb⟩
noncomputable def EH(B:Hp)(as:List Addr)(H:Hp):Hp:=λa=>if a∈as then H a else B a
def OE{as}{a:Addr}(h:a∈as):EH B as H a=H a:=if_pos h
def xH{as}{a:Addr}(h:a∉as):EH B as H a=B a:=if_neg h
def yL{as}(h:∀a∈as,B a=none):bJ B (EH B as H):=λa u e=>by
 rw[xH λz=>by rw[h a z]at e;cases e];exact e
def sS.up(o:sS F K B p0 H ps σT σ T n):Ok K (EH B (F.ad T) H) p0 H ps σT σ where
 base:=λa u e=>by
  by_cases z:a∈F.ad T
  ·rw[OE z]at e;exact e
  ·rw[xH z]at e;exact o.ok.base a u e
 sub:=o.ok.sub
 live:=o.ok.live
 len:=o.ok.len
 val:=o.ok.val
 own:=λi ts h=>let ⟨q,xs,h1,h2,h3,h4,h5,h6⟩:=o.ok.own i ts h;⟨q,xs,h1,h2,by rw[xH λz=>h4 (o.mem q z)];exact h3,h4,h5,h6⟩
 dis:=o.ok.dis
 dc:=o.ok.dc.to (λj hs kvs h=>⟨h,rfl⟩) (λq φ a b _=>⟨a,rfl⟩) (λq φ _ _ a b=>⟨by rw[xH λz=>b (o.mem q z)];exact a,b⟩) (L2.bJ.refl _)
def sS.down(o:sS F K B p0 H ps σT σ T n){ps' σT' σ'}(o':Ok K (EH B (F.ad T) H) p0 H' ps' σT' σ')(s:bJ (mask H ps) (mask H' ps')):sS F K B p0 H' ps' σT' σ' T n where
 ok:=⟨(yL o.nb).trans o'.base,o'.sub,o'.live,o'.len,o'.val,λi ts h=>let ⟨q,xs,h1,h2,h3,h4,h5,h6⟩:=o'.own i ts h;⟨q,xs,h1,h2,bJ.free' (yL o.nb) h3,h4,h5,h6⟩,o'.dis,o'.dc.to (λj hs kvs h=>⟨h,rfl⟩) (λq φ a b _=>⟨a,rfl⟩) (λq φ _ _ a b=>⟨bJ.free' (yL o.nb) a,b⟩) (L2.bJ.refl _)⟩
 mem:=o.mem
 nb:=o.nb
 tp:=F.to o.tp (λa ha=>by
  obtain⟨u,e,_⟩:=F.liv o.tp a ha;rw[e];exact o'.base a u (by rw[OE ha];exact e)) s
def VJ{DC:zY F}{DV}(o:sS F K B p0 H ps σT σ T n)(f:CT F K B p0 H ps T DC DV):J6 K (EH B (F.ad T) H) p0 H ps { nx:=DC.nx n,rt:=λ_=>False,bk:=DC.bk n,ct:=DC.ct n } DV:=
 ⟨λH' ps' σT' σ' o' s' q'=>f.nx H' ps' σT' σ' n (o.down o' s') s' q',λH' ps' σT' σ' o' s' q'=>f.bk H' ps' σT' σ' n (o.down o' s') s' q',λH' ps' σT' σ' o' s' q'=>f.ct H' ps' σT' σ' n (o.down o' s') s' q',
  λd v H' s' r' q'=>q'.elim,
  λ_ _ _ _ _ _ _ _ _ q'=>q'.elim,λ_ _ _ _ _ _ _ _ _ _ _ _ _ _ _ _ _ _ q'=>q'.elim,λ_ _ _ _ _ _ _ _ _ _ _ _ _ _ q'=>q'.elim,True.intro⟩
end
section
variable{X:Cx}{a b c e:Expr}{es:List Expr}{te:EZ F}{pos:Pos}{st:Stmt}{fT:List Stmt}{t u:SZ F}
def zP(t:vE):SZ F:=λ_ DC n σ=>t { nx:=DC.nx n,rt:=λ_=>False,bk:=DC.bk n,ct:=DC.ct n } σ
def aHa{t}(h:A7 X st t):PSz (F:=F) X st (zP t):=by
 obtain⟨ts,p,r⟩:=h;refine⟨ts,p,λB p0 H ps σT σ T n DC DV o h f=>?_⟩;exact r _ p0 H ps σT σ _ DV o.up h (VJ o f)
def R7:SZ F:=λ_ DC n σ=>DC.nx n σ
def C5(t u:SZ F):SZ F:=λτ DC n σ=>t τ { DC with nx:=u τ DC } n σ
def SJ:J3 (F:=F) X [] R7:=⟨_,AU,λB p0 H ps σT σ T n DC DV o h f=>f.nx H ps σT σ n o (L2.bJ.refl _) h⟩
def uB(h1:PSz X st t)(h2:J3 X fT u):J3 X (st::fT) (C5 t u):=by
 obtain⟨v1,p1,r1⟩:=h1;obtain⟨v2,p2,r2⟩:=h2;refine⟨_,qS p1 p2,λB p0 H ps σT σ T n DC DV o h f=>r1 B p0 H ps σT σ T n { DC with nx:=u (F.tau T) DC } { DV with nx:=v2 DV } o h ⟨λH' ps' σT' σ' n' o' s' q'=>?_,f.bk,f.ct,f.rt,f.xb⟩⟩;exact r2 B p0 H' ps' σT' σ' T n' DC DV o' q' (f.later s')
def FP(h1:PSz X st t):J3 X [st] t:=by
 obtain⟨v1,p1,r1⟩:=h1;exact⟨_,AS p1,r1⟩
def aLa(te:EZ F):SZ F:=λτ DC n σ=>te τ n σ DC.rt
def SI(h:WX X e te):PSz X (.Return (some e) pos) (aLa te):=by
 obtain⟨v,p,r⟩:=h;refine⟨_,yF p,λB p0 H ps σT σ T n DC DV o h f=>r B p0 H ps σT σ T n _ _ o h λn' d x H' s' t' r' q'=>?_⟩;have o':=o.growX s' t';exact f.rt n' d x H' o'.ok.base (F.to t' (λ_ _=>rfl) (iS o.ok.sub)) (r'.same (iS o.ok.sub)) q'
def zIf(c:TZ F)(t u:SZ F):SZ F:=λτ DC n σ=>c τ n σ λn1 b=>if b=true then t τ DC n1 σ else u τ DC n1 σ
def aAv{c a b tc}(hc:PTz X c tc)(ha:J3 X a t)(hb:J3 X b u):PSz X (.If c a b pos) (zIf tc t u):=by
 obtain⟨vc,pc,rc⟩:=hc;obtain⟨va,pa,ra⟩:=ha;obtain⟨vb,pb,rb⟩:=hb;refine⟨_,TM pc pa pb,λB p0 H ps σT σ T n DC DV o h f=>rc B p0 H ps σT σ T n _ _ o h λn1 d H1 s1 t1 q1=>?_⟩;have o1:=o.growX s1 t1;have f1:=f.later (s1.mask o.mem')
 cases d with
 |true=>exact ra B p0 H1 ps σT σ T n1 DC DV o1 q1 f1
 |false=>exact rb B p0 H1 ps σT σ T n1 DC DV o1 q1 f1
def aDs(i:Nat)(te:EZ F):SZ F:=λτ DC n σ=>te τ n σ λn1 d=>DC.nx n1 (σ.set i (.val d))
def SH{i:Nat}{x pos'}(h:WX X e te)(ps':∀{v},PE X e v->PS X (.Assign [.Name x pos'] e pos) (vN v (jS i))):PSz X (.Assign [.Name x pos'] e pos) (aDs i te):=by
 obtain⟨v,p,r⟩:=h;refine⟨_,ps' p,λB p0 H ps σT σ T n DC DV o h f=>r B p0 H ps σT σ T n _ _ o h λn' d x H' s' t' r' q'=>?_⟩;exact f.nx H' ps _ _ n' ((o.growX s' t').set r') (s'.mask o.mem') q'
def aGy(ti:IT)(g:GT)(tb:SZ F):SZ F:=λτ DC n σ=>ti σ λts=>∃P:Nat->F.S->List Sl->Prop,P 0 n σ /\
 (∀(k:Nat)(m:F.S)(x:D)σ',ts[k]?=some x->P k m σ'->g x σ' λσ2=>tb τ { DC with nx:=P (k+1),ct:=P (k+1),bk:=DC.nx } m σ2)/\∀m σ',P ts.length m σ'->DC.nx m σ'
def aD7{tg iter body g}{tb:SZ F}{ti}(he:E8 X tg iter ti)(hg:CY X tg g)(hb:J3 X body tb)
  (pf:∀{wi:TI}{gv:TG}{bv:TS},PI X tg iter wi->PG X tg gv->CW X body bv->PS X (.For tg iter body [] pos) (SF wi gv bv)):PSz X (.For tg iter body [] pos) (aGy ti g tb):=by
 obtain⟨ve,pe,re⟩:=he;obtain⟨gv,pg,rg⟩:=hg;obtain⟨vb,pb,rb⟩:=hb;refine⟨_,pf pe pg pb,λB p0 H ps σT σ T n DC DV o h f=>re B p0 H ps σT σ _ _ o.ok h λts J H1 s1 rj q1=>?_⟩;obtain⟨P,h0,hs,hd⟩:=q1;refine⟨λi m σ' H'=>m=ts.length-i/\i<=ts.length/\∃c ps' σT',sS F X.K B p0 H' ps' σT' σ' T c/\bJ (mask H1 ps) (mask H' ps')/\P i c σT',⟨_,rfl,cL _,n,ps,σT,o.grow s1,L2.bJ.refl _,h0⟩,?_⟩;rintro i m σ' H' ⟨rfl,hle,c,ps',σT',o',s',p'⟩;have sH:bJ (mask H1 ps) H':=s'.trans bS;have f':CT F X.K B p0 H' ps' T DC DV:=f.later ((bQ s1).trans s');by_cases hlt:i<ts.length
 ·refine .inr ⟨rj.go i H' sH hlt,λσ2 H2=>∃c2 ps2 σT2,sS F X.K B p0 H2 ps2 σT2 σ2 T c2/\bJ (mask H1 ps) (mask H2 ps2)/\P (i+1) c2 σT2,λσ2 H2 z=>⟨ts.length-(i+1),by omega,rfl,hlt,z⟩,λy H2 hy'=>?_⟩;obtain⟨s2,dx,hx,rx⟩:=rj.yld i H' ps' y H2 o'.ok.live s' hlt hy';have f2:=f'.later (bQ (ps:=ps') s2);have s'':bJ (mask H1 ps) (mask H2 ps'):=s'.trans (bQ s2);have o2:=o'.grow s2;refine rg B p0 H2 ps' σT' σ' dx y _ _ o2.ok rx (hs i c dx σT' hx p') λσT3 σ3 o3 _ q3=>?_;exact rb B p0 H2 ps' σT3 σ3 T c _ _ (o2.with o3) q3 ⟨λH4 ps4 σT4 σ4 c4 o4 s4 q4=>⟨c4,ps4,σT4,o4,s''.trans s4,q4⟩,λH4 ps4 σT4 σ4 c4 o4 s4 q4=>f2.nx H4 ps4 σT4 σ4 c4 o4 s4 q4,λH4 ps4 σT4 σ4 c4 o4 s4 q4=>⟨c4,ps4,σT4,o4,s''.trans s4,q4⟩,f2.rt,f2.xb⟩
 ·obtain rfl:i=ts.length:=by omega
  exact .inl ⟨rj.stop _ H' sH (aO _),f'.nx H' ps' σT' σ' c o' (L2.bJ.refl _) (hd c σT' p')⟩
noncomputable def qO(H:Hp)(as:List Addr):Hp:=λa=>if a∈as then none else H a
def fnZ{P w}{mg:Str->Option Value}{base K x qual st}{f:Addr}{fd}{N pn:List Str}{k:Nat}{sp:SpZ F}(Fn:RV K x qual st f fd)(S:dC N pn (bP st))(len:∀τ n ds Q,sp τ n ds Q->ds.length=pn.length)
  (hbody:∀(cdv:Value)(A:Around)outer(s:Shared)H E,Room k (A.deeper (envOfC qual (bP st) s.heap.objs.size f cdv))->∀(Tp:F.I)(n:F.S)(ds:List D)(Q:F.S->D->Prop),sp (F.tau Tp) n ds Q ->
   ∃t,J3 (yV gA P w K mg base N qual (bP st) f cdv A outer s H E).nox (lQ st) t/\t (F.tau Tp) { nx:=λn _=>Q n .none,rt:=Q } n (jQ N ds)):dD P w K mg base gA (k+1) f fd pn (nK K sp):=by
 refine Fn.ok S (λvs H Q E h=>?_) λcdv A outer s H vs Q E hr h=>?_
 ·obtain⟨ps,T,n,ds,QD,_,_,_,r,q,_⟩:=h;rw[<- r.length];exact len _ _ ds QD q
 ·obtain⟨ps,T,n,ds,QD,live,hp,tp,r,q,k⟩:=h;obtain⟨t,⟨ts,p,rd⟩,h⟩:=hbody cdv A outer s H E hr T n ds QD q;have o:=qU (N:=N) live r
  have hno:∀(i:Nat)(us:List D),(jQ N ds)[i]?≠some (.own us):=λi us e=>by
   obtain⟨q,_,_,_,hB,_,hH,_⟩:=o.own i us e;rw[hB]at hH;cases hH
  have sW:bJ (qO H (F.ad T)) H:=λa u e=>by
   unfold qO at e;split at e
   ·cases e
   ·exact e
  have hx:∀{H':Hp},bJ (qO H (F.ad T)) H'->mH (F.ad T) H H':=λs a u ne e=>s a u (by unfold qO;rw[if_neg ne];exact e)
  have o2:Ok K (qO H (F.ad T)) ps H ps (jQ N ds) (L2.oF N vs):=⟨sW,o.sub,o.live,o.len,o.val,λi us e=>absurd e (hno i us),o.dis,λi hs kvs e=>by
   obtain⟨⟨q,es,_,_,hB,_,hH,_⟩,_⟩:=o.dc i hs kvs e;rw[hB]at hH;cases hH⟩
  have o3:sS F K (qO H (F.ad T)) ps H ps (jQ N ds) (L2.oF N vs) T n:=⟨o2,hp,λa ha=>if_pos ha,tp⟩;refine⟨ts,p,rd _ ps H ps _ _ T n _ _ o3 h ⟨λH' ps' σT' σ' n' o' s' q'=>?_,λ_ _ _ _ _ _ _ q'=>q'.elim,λ_ _ _ _ _ _ _ q'=>q'.elim,λn' d v H' s' t' r' q'=>k n' d v H' (hx s') t' r' q',True.intro⟩⟩;exact k n' _ _ H' (hx o'.ok.base) (F.to o'.tp (λ_ _=>rfl) (iS o'.ok.sub)) .none q'
end
end
section
variable{F:KG}{t:vE}{u:SZ F}{τ:D}{DC:zY F}{n:F.S}{σ:List Sl}{i:Nat}{te:EZ F}
def MY(h:kI t (λ_=>u τ DC n) { nx:=λ_=>True,rt:=λ_=>False,bk:=DC.bk n,ct:=DC.ct n } σ):C5 (zP t) u τ DC n σ:=h
def W6(R:F.S->D->Prop)(h:∀q:F.S->D->Prop,(∀m v,R m v->q m v)->te τ n σ q)(k:∀m v,R m v->u τ DC m (σ.set i (.val v))):C5 (aDs i te) u τ DC n σ:=h _ k
def R6{c:TZ F}{t e:SZ F}(b:Bool)(h:∀q:F.S->Bool->Prop,q n b->c τ n σ q)(k1:b=true->t τ { DC with nx:=u τ DC } n σ)(k0:b=false->e τ { DC with nx:=u τ DC } n σ):C5 (zIf c t e) u τ DC n σ:=by
 refine h _ ?_
 cases b with
 |true=>rw[if_pos rfl];exact k1 rfl
 |false=>rw[if_neg (by decide)];exact k0 rfl
def aDr{ti}{ts:List D}{g:GT}{tb}(hti:qI ti σ ts)(P:Nat->F.S->List Sl->Prop)(h0:P 0 n σ)
  (hs:∀(k:Nat)(m:F.S)(x:D)σ',ts[k]?=some x->P k m σ'->g x σ' λσ2=>tb τ { DC with nx:=P (k+1),ct:=P (k+1),bk:=u τ DC } m σ2) (hd:∀m σ',P ts.length m σ'->u τ DC m σ'):C5 (aGy ti g tb) u τ DC n σ:=
 hti _ ⟨P,h0,hs,hd⟩
end
noncomputable def KD(p:Addr):D:=.dict [(.str "@",.list [.int (p:Nat)])]
def YU{x y:Addr}(h:KD x=KD y):x=y:=by
 unfold KD at h;injection h with h
 injection h with h _
 injection h with _ h
 injection h with h
 injection h with h _
 injection h with h
 exact wE.inj h
def BN{K H}{x:Addr}{v}(r:gG K H (KD x) v):v=.ref x:=by
 unfold KD at r
 generalize hg:(AL [(.str "@",.list [.int (x:Nat)])])=d at r
 cases r with
 |@addr p z=>
  injection hg with hg
  injection hg with hg _
  injection hg with _ hg
  injection hg with hg
  injection hg with hg _
  injection hg with hg
  rw[wE.inj hg]
 |dct=>
  injection hg with hg
  injection hg with hg _
  injection hg with hg _
  injection hg with hg
  exact absurd hg (by decide +kernel)
 |_=>cases hg
def aL8(w:World)(p:Addr)(K:aL)(H:Hp)(ps:List Addr)(kvs:List (D×D)):Prop:=∃es:List (Int×Addr×V),H p=some (vV p es)/\(kvs.map λkv=>eF w kv.1)=es.map (·.1)/\(kvs.map (·.1)).Nodup/\Reps K (mask H ps) (kvs.map (·.1)) (es.map λe=>.ref e.2.1)/\Reps K (mask H ps) (kvs.map (·.2)) (es.map λe=>e.2.2)
noncomputable def KC(w:World):KG where
 I:=Addr
 S:=List (D×D)
 ad:=λp=>[p]
 tau:=KD
 At:=aL8 w
 to:=λ{T K H H' ps ps' n} h e s=>by
  obtain⟨es,h1,h2,h3,h4,h5⟩:=h;exact⟨es,by rw[e T (aZ.mpr rfl)];exact h1,h2,h3,h4.same s,h5.same s⟩
 liv:=λ{T K H ps n} h a ha=>by
  obtain⟨es,h1,_⟩:=h;rw[aZ.mp ha];exact⟨_,h1,rfl⟩
 inj:=YU
noncomputable def wZ(σ:List Sl):Bool:=σ.all λs=>match s with | .dic _ _=>false | _=>true
def LJ{σ}(h:wZ σ=true)(j:Nat)(hs:List Int)(kvs:List (D×D)):σ[j]?≠some (.dic hs kvs):=λe=>by
 have:=fX.mp h _ (aW e);cases this
section
variable{K:aL}{B H:Hp}{p0 ps:List Addr}{σT:List Sl}{σ:L2.St}{w:World}
def Ok.fewer(o:Ok K B p0 H ps σT σ){q0}(h:∀a∈q0,a∈p0)(hn:wZ σT=true):Ok K B q0 H ps σT σ:=
 ⟨o.base,λa ha=>o.sub a (h a ha),o.live,o.len,o.val,λi ts e=>let ⟨q,xs,h1,h2,h3,h4,h5,h6⟩:=o.own i ts e;⟨q,xs,h1,h2,h3,λz=>h4 (h q z),h5,h6⟩,o.dis,λi hs kvs e=>absurd e (LJ hn i hs kvs)⟩
def sS.md{p:Addr}{kvs}{j:Nat}(o:sS (KC w) K B p0 H ps σT σ p kvs)(hj:σT[j]?=some (.val (KD p)))(hn:wZ σT=true):Ok K B (p0.filter λa=>decide (a≠p)) H ps (σT.set j (tR w kvs)) σ:=by
 obtain⟨ok,mem,nb,es,h1,h2,h3,h4,h5⟩:=o;have hp:=mem p (aZ.mpr rfl)
 have hσ:σ[j]?=some (some (.ref p)):=by
  obtain⟨v,a,b⟩:=ok.val j _ hj;rw[BN b]at a;exact a
 exact(ok.fewer (λa ha=>(bZ.mp ha).1) hn).toDic hσ (λj hs kvs _=>LJ hn j hs kvs) ⟨ok.sub p hp,nb p (aZ.mpr rfl),λz=>of_decide_eq_true (bZ.mp z).2 rfl,h1,h2,h3,h4,h5⟩
end
section
variable{X:Cx}{e n:Expr}{es:List Expr}{pos:Pos}{j i:Nat}
def zMd(w:World)(j:Nat)(t:ET):EZ (KC w):=λτ n σ Q=>σ[j]?=some (.val τ)/\wZ σ=true/\t (σ.set j (tR w n)) (Q n)
def aJz{t}(h:hW X e t):WX (F:=KC X.w) X e (zMd X.w j t):=by
 obtain⟨v,p,r⟩:=h;refine⟨v,p,λB p0 H ps σT σ T n Q QV o h k=>?_⟩;obtain⟨hj,hn,h⟩:=h;exact r _ _ H ps _ σ (Q n) QV (o.md hj hn) h λd x H1 s1 r1 q1=>k n d x H1 (.of s1) (o.tp.grow s1) r1 q1
def aLc(w:World)(j:Nat)(t:yZ):TZ (KC w):=λτ n σ Q=>σ[j]?=some (.val τ)/\wZ σ=true/\t (σ.set j (tR w n)) (Q n)
def aG2{t}(h:J2 X e t):PTz (F:=KC X.w) X e (aLc X.w j t):=by
 obtain⟨v,p,r⟩:=h;refine⟨v,p,λB p0 H ps σT σ T n Q QV o h k=>?_⟩;obtain⟨hj,hn,h⟩:=h;exact r _ _ H ps _ σ (Q n) QV (o.md hj hn) h λd H1 s1 q1=>k n d H1 (.of s1) (o.tp.grow s1) q1
def aGx(w:World)(i:Nat)(tk tv:ET):SZ (KC w):=λτ DC (kvs:List (D×D)) σ=>σ[i]?=some (.val τ)/\wZ σ=true/\tv σ λv=>tk σ λk=>DH k/\(∀kv∈kvs,mT kv.1)/\kvs.length<=100000/\DC.nx (BT kvs k v) σ
def XH{p2 value tk tv}(hu:X.A.units+9<cLine)(hn:PE X n (pL i))(hk':hW X e tk)(hv:hW X value tv)(hs:iM value (some (.Subscript n e p2)) pos.line X.env=pure false:=by rfl) :
  PSz (F:=KC X.w) X (.Assign [.Subscript n e p2] value pos) (aGx X.w i tk tv):=by
 obtain⟨vv,pv',rv⟩:=hv;obtain⟨vk,pk,rk⟩:=hk';refine⟨_,IJ hu hn pk pv' hs,λB p0 H ps σT σ p (kvs:List (D×D)) DC DV o h f=>?_⟩;obtain⟨hj,hnd,h⟩:=h;obtain⟨es,x1,x2,x3,x4,x5⟩:=o.tp;have hps:=o.mem' p (aZ.mpr rfl)
 have hσ:σ[i]?=some (some (.ref p)):=by
  obtain⟨v,a,b⟩:=o.ok.val i _ hj;rw[BN b]at a;exact a
 refine rv B p0 H ps σT σ _ _ o.ok h λv y H1 s1 r1 q1=>⟨.ref p,hσ,rk B p0 H1 ps σT σ _ _ (o.ok.grow s1) q1 λk z H2 s2 r2 q2=>?_⟩;obtain⟨⟨kok,ys,rfl⟩,hok,hlen,q⟩:=q2;obtain⟨a,rfl⟩:=kN r2;have s12:=s1.trans s2;have hm:=bQ (ps:=ps) s12;have ob2:=s12 _ _ x1;have dk2:=nG (w:=X.w) x2 x3 hok (x4.same hm)
 have hl:es.length=kvs.length:=by
  have:=congrArg iL x2;simpa using this.symm
 have hL:bL=2^24:=rfl;have dk3:=dk2.put (v:=y) r2 kok;refine⟨p,a,es,kvs.map (·.1),_,rfl,rfl,ob2,dk2.same bS,r2.same bS,kok,by omega,?_⟩;have hm4:mask (gO H2 p (vV p (wS X.w es (kvs.map (·.1)) (.tuple ys) a y))) ps=mask H2 ps:=gR hps;refine f.nx _ ps σT σ (BT kvs (.tuple ys) v) ⟨(o.ok.grow s12).poke hps (o.nb p (aZ.mpr rfl)) ob2 (LJ hnd),o.mem,o.nb,wS X.w es (kvs.map (·.1)) (.tuple ys) a y,dG,?_,?_,?_,?_⟩ (by rw[hm4];exact hm) q
 ·rw[dk3.hs,<- oP kvs _ v,bM];rfl
 ·rw[oP];exact dk3.nd
 ·rw[hm4,oP];exact dk3.rep
 ·rw[hm4];exact HI _ (x5.same hm) (r1.same (bQ s2))
def aEk(w:World)(sp:SpZ (KC w))(i:Nat)(t:AT):vE:=λDT σ=>∃kvs:List (D×D),σ[i]?=some (tR w kvs)/\∀τ,t (σ.set i (.val τ)) λds=>sp τ kvs ds λkvs' _=>DT.nx (σ.set i (tR w kvs'))
def SL{k:Nat}{f:Addr}{fd:jL}{pn:List Str}{sp x p1 p2 t}(ha:CP X (e::es) t)(pc:∀{ta},PA X (e::es) ta->PE X (.Call (.Name x p1) (e::es) [] p2) (BD (nK X.K sp) [] E0 ta))(ps':∀{v},PE X (.Call (.Name x p1) (e::es) [] p2) v->PS X (.Expr (.Call (.Name x p1) (e::es) [] p2) pos) (HN v)) :
  A7 X (.Expr (.Call (.Name x p1) (e::es) [] p2) pos) (aEk X.w sp i t):=by
 obtain⟨v,pa,ra⟩:=ha;refine⟨_,ps' (pc pa),λB p0 H ps σT σ DT DV o h fi=>?_⟩;obtain⟨kvs,hi,h⟩:=h;obtain⟨⟨p,es',hσ,y⟩,u⟩:=o.isDic hi;obtain⟨o1,no1⟩:=o.forget hi
 have hσs:σ.set i (some (.ref p))=σ:=by
  refine gC λl=>?_;by_cases z:i=l
  ·subst z;rw[bD (aG.mp hσ).1,hσ]
  ·rw[bA z]
 have nod:wZ (σT.set i .un)=true:=fX.mpr λs hs=>by
  obtain⟨l,hl⟩:=bV hs
  cases s with
  |dic a b=>exact absurd hl (no1 l a b)
  |_=>rfl
 have o2:=o1.set (i:=i) (d:=KD p) (v:=.ref p) (.addr _);rw[AA,hσs]at o2;refine ra B p0 H ps _ σ _ _ o2 (h (KD p)) λds xs H1 s1 r1 q1=>?_;show nK X.K sp (xs++[]) H1 _ E0;rw[dL];have hm:=bQ (ps:=ps) s1;refine⟨ps,p,kvs,ds,_,(o1.grow s1).live,λa ha=>by rw[aZ.mp ha];exact y.mem,⟨es',s1 _ _ y.obj,y.hsh,y.nd,y.ks.same hm,y.vs.same hm⟩,r1,q1,λkvs' d v H2 s2 t2 r2 q2=>?_⟩
 have o3:Ok X.K B (p::p0) H1 ps (σT.set i .un) σ:=by
  have g:=o1.grow s1;refine⟨g.base,λa ha=>(bH.mp ha).elim (λz=>z▸y.mem) (g.sub a),g.live,g.len,g.val,λl ts e=>?_,g.dis,λl hs kw e=>absurd e (no1 l hs kw)⟩;obtain⟨q,ys,h1,h2,h3,h4,h5,h6⟩:=g.own l ts e;refine⟨q,ys,h1,h2,h3,λz=>(bH.mp z).elim (λz=>?_) h4,h5,h6⟩;rw[z,s1 _ _ y.obj]at h5;cases h5
 obtain⟨es2,z1,z2,z3,z4,z5⟩:=id t2;have o4:=(o3.growZ (as:=[p]) (λa ha=>by rw[aZ.mp ha];exact aR ..) (λa ha=>by rw[aZ.mp ha];exact y.new) s2 λa ha=>by rw[aZ.mp ha];exact⟨_,z1,rfl⟩).fewer (q0:=p0) (λa ha=>aM _ ha) nod;have o5:=o4.toDic (i:=i) hσ (λj hs kw _=>no1 j hs kw) ⟨y.mem,y.new,y.out,z1,z2,z3,z4,z5⟩;rw[AA]at o5;exact fi.nx H2 ps _ σ o5 (hm.trans (s2.mask λa ha=>by rw[aZ.mp ha];exact y.mem)) q2
end
end TL
namespace L2
noncomputable def GX(mask:Nat)(p:SetTable.Probe):SetTable.Probe:=if p.more>0 then{ p with j:=p.j+1,more:=p.more-1 }else
 { p with j:=(SetTable.leap mask p.i p.perturb).1,more:=SetTable.runEnd mask (SetTable.leap mask p.i p.perturb).1-(SetTable.leap mask p.i p.perturb).1,i:=(SetTable.leap mask p.i p.perturb).1,perturb:=(SetTable.leap mask p.i p.perturb).2 }
def WI(t:SetTable)(p:SetTable.Probe):t.advance p=GX t.mask p:=by
 unfold SetTable.advance GX;split<;>rfl
noncomputable def rd(mask:Nat)(h:Int):Nat->SetTable.Probe
|0=>{ j:=SetTable.bits h%(mask+1),more:=SetTable.runEnd mask (SetTable.bits h%(mask+1))-SetTable.bits h%(mask+1),i:=SetTable.bits h%(mask+1),perturb:=SetTable.bits h,dummy:=none }
|n+1=>GX mask (rd mask h n)
noncomputable def lp(mask:Nat)(h:Int):Nat->Nat×Nat
|0=>(SetTable.bits h%(mask+1),SetTable.bits h)
|n+1=>SetTable.leap mask (lp mask h n).1 (lp mask h n).2
noncomputable def rl(mask i:Nat):Nat:=SetTable.runEnd mask i-i
noncomputable def ix(mask:Nat)(h:Int):Nat->Nat
|0=>0
|n+1=>ix mask h n+rl mask (lp mask h n).1+1
def aHy(mask i:Nat):rl mask i<=9:=by
 unfold rl SetTable.runEnd;split<;>omega
theorem K3(mask:Nat)(h:Int)(n:Nat):∀r,r<=(rd mask h n).more->rd mask h (n+r)={ rd mask h n with j:=(rd mask h n).j+r,more:=(rd mask h n).more-r }
|0,_=>rfl
|r+1,hr=>by
 show GX mask (rd mask h (n+r))=_;rw[K3 mask h n r (by omega)];unfold GX;rw[if_pos (show(rd mask h n).more-r>0 by omega)]
 rfl
theorem NO(mask:Nat)(h:Int):∀k,rd mask h (ix mask h k)={ j:=(lp mask h k).1,more:=rl mask (lp mask h k).1,i:=(lp mask h k).1,perturb:=(lp mask h k).2,dummy:=none }
|0=>rfl
|k+1=>by
 have ih:=NO mask h k;have e:=K3 mask h (ix mask h k) (rl mask (lp mask h k).1) (by rw[ih];exact aO _);show GX mask (rd mask h (ix mask h k+rl mask (lp mask h k).1))=_;rw[e,ih];unfold GX;rw[if_neg (show¬(rl mask (lp mask h k).1-rl mask (lp mask h k).1>0) by omega)]
 rfl
def X5(mask:Nat)(h:Int)(k r:Nat)(hr:r<=rl mask (lp mask h k).1):(rd mask h (ix mask h k+r)).j=(lp mask h k).1+r:=by
 rw[K3 mask h _ r (by rw[NO];exact hr),NO]
theorem S7(mask:Nat)(h:Int):∀n,(rd mask h n).dummy=none
|0=>rfl
|n+1=>by
 show(GX mask _).dummy=none;unfold GX;split<;>exact S7 mask h n
theorem aCw(mask:Nat)(h:Int):∀k,ix mask h k<=10*k
|0=>aO _
|k+1=>by
 have:=aCw mask h k;have:=aHy mask (lp mask h k).1;show ix mask h k+rl mask (lp mask h k).1+1<=_;omega
noncomputable def C9(mask:Nat):Nat->Nat->Nat
|0,i=>i
|n+1,i=>C9 mask n ((i*5+1)%(mask+1))
theorem tO(mask:Nat):∀a b i,C9 mask (a+b) i=C9 mask b (C9 mask a i)
|0,b,i=>by rw[Nat.zero_add];rfl
|a+1,b,i=>by
 rw[show a+1+b=a+b+1 by omega];exact tO mask a b _
noncomputable def aEz(mask:Nat):Nat->Nat->List Nat
|0,_=>[]
|n+1,i=>i::aEz mask n ((i*5+1)%(mask+1))
theorem N2(mask:Nat):∀n i j,j∈aEz mask n i->∃m,m<n/\C9 mask m i=j
|0,i,j,h=>by cases h
|n+1,i,j,h=>by
 rcases bH.mp h with rfl | h
 ·exact⟨0,by omega,rfl⟩
 ·obtain⟨m,hm,e⟩:=N2 mask n _ j h;exact⟨m+1,by omega,e⟩
noncomputable def tH:List Nat:=[7,31,127,511]
def YH:∀m∈tH,(∀j∈cQ (m+1),(aEz m (m+1) 0).contains j=true)/\C9 m (m+1) 0=0:=by decide +kernel
def VI{mask:Nat}(hm:mask∈tH){s j:Nat}(hs:s<=mask)(hj:j<=mask):∃m,m<=mask/\C9 mask m s=j:=by
 obtain⟨h1,h2⟩:=YH mask hm;have get:∀x,x<=mask->∃b,b<mask+1/\C9 mask b 0=x:=λx hx=>N2 mask _ _ _ (by simpa using h1 x (dI.mpr (by omega)));obtain⟨a,ha,rfl⟩:=get s hs;obtain⟨b,hb,rfl⟩:=get j hj;by_cases hab:a<=b
 ·exact⟨b-a,by omega,by rw[<- tO,show a+(b-a)=b by omega]⟩
 ·refine⟨mask+1-a+b,by omega,?_⟩;rw[<- tO,show a+(mask+1-a+b)=mask+1+b by omega,tO,h2]
theorem UO(mask:Nat)(h:Int):∀k,(lp mask h k).2=SetTable.bits h / 32^k
|0=>by rw[Nat.pow_zero,Nat.div_one];rfl
|k+1=>by
 show(lp mask h k).2 / 32=_;rw[UO mask h k,Nat.div_div_eq_div_mul,AN]
def aAf(h:Int):SetTable.bits h<2^64:=by
 unfold SetTable.bits;have:=mY h (show(0:Int)<2^64 by decide);have:=pJ h (show(2^64:Int)≠0 by decide);omega
def YV(mask:Nat)(h:Int):∀m,(lp mask h (13+m)).1=C9 mask m (lp mask h 13).1:=by
 have z:∀k,13<=k->(lp mask h k).2=0:=λk hk=>by
  rw[UO];refine Nat.div_eq_of_lt (cW (aAf h) ?_);exact cI (show 2^64<=32^13 by decide) (lC (by decide) hk)
 have st:∀k,13<=k->(lp mask h (k+1)).1=((lp mask h k).1*5+1)%(mask+1):=λk hk=>by
  show((lp mask h k).1*5+1+(lp mask h k).2 / 32)%(mask+1)=_;rw[z k hk]
 intro m
 induction m with
 |zero=>rfl
 |succ m ih=>
  rw[tO mask m 1];show(lp mask h (13+m+1)).1=(C9 mask m _*5+1)%(mask+1);rw[st _ (by omega),ih]
def aCt(mask:Nat)(h:Int):∀k,(lp mask h k).1<=mask
|0=>W2 (iY _ (aKp _))
|k+1=>W2 (iY _ (aKp _))
def IF{mask:Nat}(hm:mask∈tH)(h:Int){j:Nat}(hj:j<=mask):∃k,k<mask+15/\(lp mask h k).1=j:=by
 obtain⟨m,h1,h2⟩:=VI hm (aCt mask h 13) hj;exact⟨13+m,by omega,(YV mask h m).trans h2⟩
def PY{mask:Nat}(hm:mask∈tH)(h:Int){j:Nat}(hj:j<=mask):∃n,n<10*(mask+15)/\(rd mask h n).j=j:=by
 obtain⟨k,h1,h2⟩:=IF hm h hj;refine⟨ix mask h k,zG (aCw mask h k) (by omega),?_⟩;rw[NO];exact h2
def uC{t:SetTable}(h:pE t.place.toList){i j:Nat}(e:t.place[i]?=some j):t.slot j=.live i:=by
 obtain⟨h1,h2,h3⟩:=uK h j
 have:SetTable.below t.place j=i:=by
  generalize SetTable.below t.place j=r at h1 h2 h3
  rcases nJ r i with q | q | q
  ·have hr:r<t.place.size:=by have:=(fU.mp e).1;omega
   have e1:t.place[r]?=some t.place[r]:=bK hr;have:=h3 r _ (aO _) e1;have:=uD h q e1 e;omega
  ·exact q
  ·have:=h2 i _ q e;omega
 unfold SetTable.slot;dsimp only;rw[this,e,if_pos (by simp)]
def wI{t:SetTable}(h:pE t.place.toList)(hd:t.dummies=#[])(j:Nat):(∃i,t.slot j=.live i/\t.place[i]?=some j)\/(t.slot j=.empty/\j∉t.place.toList):=by
 by_cases hj:j∈t.place.toList
 ·obtain⟨i,hi⟩:=bV hj;rw[cD]at hi;exact .inl ⟨i,uC h hi,hi⟩
 ·refine .inr ⟨?_,hj⟩;unfold SetTable.slot;dsimp only;rw[hd,JG,if_neg,if_neg (by decide)];intro z;refine hj ?_;have z':t.place[SetTable.below t.place j]?=some j:=by simpa using z
  rw[<- cD]at z';exact aW z'
theorem uE{α:Type}[DecidableEq α]:∀{ls ms:List α},ls.Nodup->(∀x∈ls,x∈ms)->ls.length<=ms.length
|[],ms,_,_=>cL _
|a::l,ms,hn,h=>by
 have ha:=h a (aR ..);have:=uE (ls:=l) (ms:=ms.erase a) (jK.mp hn).2 λx hx=>(PB (λe:x=a=>(jK.mp hn).1 (e▸hx))).mpr (h x (aM _ hx));rw[HE ha]at this;have hp:=KI ha;rw[cU];omega
def LY{ps:List Nat}{mask:Nat}(h:ps.length<=mask):∃j,j<=mask/\j∉ps:=by
 refine Classical.byContradiction λhn=>?_;have:=uE (ls:=cQ (mask+1)) (ms:=ps) A9 λx hx=>Classical.byContradiction λz=>hn ⟨x,by have:=dI.mp hx;omega,z⟩;rw[cH]at this;omega
theorem OL{t:SetTable}(hr:pE t.place.toList)(hd:t.dummies=#[])(hA:Nat->Int)(h:Int):∀(fuel n e:Nat),n<=e->e<n+fuel->t.slot (rd t.mask h e).j=.empty ->
 ∃m,n<=m/\m<=e/\(∀k,n<=k->k<m->∃i,t.slot (rd t.mask h k).j=.live i/\hA i≠h) /\
  ((SetTable.probe.go t hA h fuel (rd t.mask h n)=some (.empty (rd t.mask h m).j none)/\t.slot (rd t.mask h m).j=.empty) \/
   ∃i,SetTable.probe.go t hA h fuel (rd t.mask h n)=some (.candidate (rd t.mask h m).j i (rd t.mask h (m+1)))/\t.slot (rd t.mask h m).j=.live i/\hA i=h/\m+1<=e)
|0,n,e,h1,h2,_=>by omega
|fuel+1,n,e,h1,h2,he=>by
 unfold SetTable.probe.go;rcases wI hr hd (rd t.mask h n).j with⟨i,hi,_⟩ | ⟨hi,_⟩
 ·have ne:n≠e:=λz=>by rw[z,he]at hi;cases hi
  rw[hi];dsimp only;by_cases hh:hA i=h
  ·rw[if_pos (by simpa using hh),WI];exact⟨n,aO _,h1,λk a b=>by omega,.inr ⟨i,rfl,hi,hh,by omega⟩⟩
  ·rw[if_neg (by simpa using hh),WI];obtain⟨m,g1,g2,g3,g4⟩:=OL hr hd hA h fuel (n+1) e (by omega) (by omega) he;refine⟨m,by omega,g2,λk a b=>?_,g4⟩;by_cases hk:k=n
   ·rw[hk];exact⟨i,hi,hh⟩
   ·exact g3 k (by omega) b
 ·rw[hi];dsimp only;rw[S7];exact⟨n,aO _,h1,λk a b=>by omega,.inl ⟨rfl,hi⟩⟩
def Pth(mask:Nat)(occ:Nat->Prop)(h:Int)(p:Nat):Prop:=∃n,(rd mask h n).j=p/\∀m,m<n->occ (rd mask h m).j
def Pth.more{mask:Nat}{o o':Nat->Prop}{h:Int}{p:Nat}(x:Pth mask o h p)(k:∀j,o j->o' j):Pth mask o' h p:=
 let ⟨n,a,b⟩:=x;⟨n,a,λm hm=>k _ (b m hm)⟩
structure RS(led:Bool)(t:SetTable)(es:List (Int×Value)):Prop where
 msk:t.mask∈tH
 dum:t.dummies=#[]
 rise:pE t.place.toList
 size:t.place.size=es.length
 room:es.length*5<t.mask*3
 led:t.led=led
 path:∀(i:Nat)(e:Int×Value)(p:Nat),es[i]?=some e->t.place[i]?=some p->Pth t.mask (·∈t.place.toList) e.1 p
def RS.new(led:Bool):RS led (.fresh 0 0 led) []:=⟨(by decide:(7:Nat)∈tH),rfl,.nil,rfl,(by decide:0*5<7*3),rfl,λi e p h=>by simp at h⟩
theorem RS.fill{led:Bool}{t:SetTable}{es:List (Int×Value)}(b:RS led t es):t.fill=es.length:=by
 unfold SetTable.fill;rw[b.dum,b.size];rfl
def uF:∀m∈tH,m%2=1/\7<=m/\m<=511:=by decide
theorem RS.fits{led:Bool}{t:SetTable}{es:Array (Int×Value)}(b:RS led t es.toList):t.fits es.size=true:=by
 unfold SetTable.fits;have:=b.size;have hr:=b.room;have:=uF _ b.msk;rw[aP]at *;rw[b.fill,bY];refine⟨by simpa using b.size.trans (aP ..),?_⟩;rw[decide_eq_true_eq,aP];omega
def Occ(ow:Array (Option Nat))(j:Nat):Prop:=∃q,ow[j]?=some (some q)
def aEl{mask i:Nat}(h:i<=mask):SetTable.runEnd mask i+1-i=rl mask i+1/\i+rl mask i<=mask:=by
 unfold rl SetTable.runEnd;split<;>omega
theorem EQ{mask:Nat}{ow:Array (Option Nat)}(hz:ow.size=mask+1)(h:Int):∀(fuel k e:Nat),k<=e->e<k+fuel->ow[(lp mask h e).1]?=some none->(∀m,m<ix mask h k->Occ ow (rd mask h m).j) ->
 ∃n,SetTable.layClean.free mask ow fuel (lp mask h k).1 (lp mask h k).2=some (rd mask h n).j/\ow[(rd mask h n).j]?=some none/\∀m,m<n->Occ ow (rd mask h m).j
|0,k,e,h1,h2,_,_=>by omega
|fuel+1,k,e,h1,h2,he,hm=>by
 obtain⟨e1,e2⟩:=aEl (aCt mask h k)
 have val:∀r,r<=rl mask (lp mask h k).1->(ow[(lp mask h k).1+r]?=some none/\(ow.getD ((lp mask h k).1+r) (some 0)).isNone=true)\/(Occ ow ((lp mask h k).1+r)/\(ow.getD ((lp mask h k).1+r) (some 0)).isNone=false):=λr hr=>by
  have hb:(lp mask h k).1+r<ow.size:=by omega
  have hg:ow[(lp mask h k).1+r]?=some ow[(lp mask h k).1+r]:=bK hb;rw[fM,hg,rG]
  cases hv:ow[(lp mask h k).1+r]with
  |none=>exact .inl ⟨rfl,rfl⟩
  |some q=>exact .inr ⟨⟨q,by rw[hg,hv]⟩,rfl⟩
 unfold SetTable.layClean.free
 cases hf:(cQ (SetTable.runEnd mask (lp mask h k).1+1-(lp mask h k).1)).find? λr=>(ow.getD ((lp mask h k).1+r) (some 0)).isNone with
 |some r=>
  obtain⟨g1,g2,g3⟩:=List.find?_range_eq_some.mp hf;have hr:r<=rl mask (lp mask h k).1:=by have:=dI.mp g2;omega
  refine⟨ix mask h k+r,by rw[X5 mask h k r hr],?_,λm hmn=>?_⟩
  ·rw[X5 mask h k r hr];rcases val r hr with⟨v,_⟩ | ⟨_,v⟩
   ·exact v
   ·rw[v]at g1;cases g1
  ·by_cases hk:m<ix mask h k
   ·exact hm m hk
   ·have em:m=ix mask h k+(m-ix mask h k):=by omega
    rw[em,X5 mask h k _ (by omega)];rcases val (m-ix mask h k) (by omega)with⟨_,v⟩ | ⟨v,_⟩
    ·have:=g3 (m-ix mask h k) (by omega);rw[v]at this;cases this
    ·exact v
 |none=>
  have g:=List.find?_range_eq_none.mp hf
  have occ:∀r,r<=rl mask (lp mask h k).1->Occ ow ((lp mask h k).1+r):=λr hr=>by
   rcases val r hr with⟨_,v⟩ | ⟨v,_⟩
   ·have:=g r (by omega);rw[v]at this;cases this
   ·exact v
  have ne:k≠e:=λz=>by
   subst z;obtain⟨q,hq⟩:=occ 0 (cL _);rw[Nat.add_zero,he]at hq;cases hq
  dsimp only;refine EQ hz h fuel (k+1) e (by omega) (by omega) he λm hmn=>?_;have hmn':m<ix mask h k+rl mask (lp mask h k).1+1:=hmn;by_cases hk:m<ix mask h k
  ·exact hm m hk
  ·have em:m=ix mask h k+(m-ix mask h k):=by omega
   rw[em,X5 mask h k _ (by omega)];exact occ _ (by omega)
structure OwI(mask:Nat)(hs:List Int)(ow:Array (Option Nat))(k:Nat):Prop where
 size:ow.size=mask+1
 at_:∀j q:Nat,ow[j]?=some (some q)->q<k/\∃h,hs[q]?=some h/\Pth mask (Occ ow) h j
 all:∀q:Nat,q<k->∃j:Nat,ow[j]?=some (some q)
 inj:∀j j' q:Nat,ow[j]?=some (some q)->ow[j']?=some (some q)->j=j'
def OwI.free{mask k:Nat}{hs ow}(o:OwI mask hs ow k)(hk:k<=mask):∃j,j<=mask/\ow[j]?=some none:=by
 refine Classical.byContradiction λhn=>?_
 have ex:∀j,j<=mask->ow[j]?=some (some ((ow[j]?.getD none).getD 0)):=λj hj=>by
  have hjb:j<ow.size:=by have:=o.size;omega
  have hg:ow[j]?=some ow[j]:=bK hjb
  cases hv:ow[j]with
  |none=>exact absurd ⟨j,hj,by rw[hg,hv]⟩ hn
  |some q=>rw[hg,hv];rfl
 have:=uE (ls:=(cQ (mask+1)).map λj=>(ow[j]?.getD none).getD 0) (ms:=cQ k) (fB.mpr (kK.imp_of_mem (λ{a b} ha hb hab=>λz=>?_) gX)) λx hx=>?_
 ·rw[aB,cH,cH]at this;omega
 ·have h1:=ex a (by have:=dI.mp ha;omega);have h2:=ex b (by have:=dI.mp hb;omega);rw[z]at h1;have:=o.inj a b _ h1 h2;omega
 ·obtain⟨j,hj,rfl⟩:=aQ.mp hx;exact dI.mpr (o.at_ j _ (ex j (by have:=dI.mp hj;omega))).1
def OwI.put{mask k:Nat}{hs}{ow:Array (Option Nat)}(o:OwI mask hs ow k){h:Int}{n:Nat}(hh:hs[k]?=some h)(hf:ow[(rd mask h n).j]?=some none)(hp:∀m,m<n->Occ ow (rd mask h m).j):OwI mask hs (ow.setIfInBounds (rd mask h n).j (some k)) (k+1):=by
 generalize hJ:(rd mask h n).j=J at hf
 have hb:J<ow.size:=(fU.mp hf).1;have g1:(ow.setIfInBounds J (some k))[J]?=some (some k):=by rw[Array.getElem?_setIfInBounds_self_of_lt hb]
 have g2:∀j,j≠J->(ow.setIfInBounds J (some k))[j]?=ow[j]?:=λj hj=>Array.getElem?_setIfInBounds_ne (Ne.symm hj);have up:∀j,Occ ow j->Occ (ow.setIfInBounds J (some k)) j:=λj ⟨q,hq⟩=>⟨q,by rw[g2 j λz=>by rw[z,hf]at hq;cases hq];exact hq⟩;refine⟨by rw[Array.size_setIfInBounds];exact o.size,λj q hq=>?_,λq hq=>?_,λj j' q h1 h2=>?_⟩
 ·by_cases z:j=J
  ·subst z;rw[g1]at hq;cases hq;exact⟨by omega,h,hh,n,hJ,λm hm=>up _ (hp m hm)⟩
  ·rw[g2 j z]at hq;obtain⟨a,h',b,c⟩:=o.at_ j q hq;exact⟨by omega,h',b,c.more up⟩
 ·by_cases z:q=k
  ·exact⟨J,by rw[z];exact g1⟩
  ·obtain⟨j,hj⟩:=o.all q (by omega);exact⟨j,by rw[g2 j λz=>by rw[z,hf]at hj;cases hj];exact hj⟩
 ·have low:∀i,i≠J->(ow.setIfInBounds J (some k))[i]?=some (some q)->q<k:=λi hi e=>by rw[g2 i hi]at e;exact(o.at_ i q e).1
  by_cases z:j=J
  ·by_cases z':j'=J
   ·rw[z,z']
   ·have:=low j' z' h2;rw[z,g1]at h1;cases h1;omega
  ·by_cases z':j'=J
   ·have:=low j z h1;rw[z',g1]at h2;cases h2;omega
   ·rw[g2 j z]at h1;rw[g2 j' z']at h2;exact o.inj j j' q h1 h2
theorem CG{mask:Nat}(hm:mask∈tH){hs:List Int}(hn:hs.length<=mask):∀(l pre:List Int)(ow:Array (Option Nat)),hs=pre++l->OwI mask hs ow pre.length ->
 ∃ow',l.foldl (λacc h=>do
  let (owner,k) <- acc
  let j <- SetTable.layClean.free mask owner (SetTable.turns mask) (SetTable.bits h%(mask+1)) (SetTable.bits h)
  pure (owner.setIfInBounds j (some k),k+1)) (some (ow,pre.length))=some (ow',hs.length)/\OwI mask hs ow' hs.length
|[],pre,ow,e,o=>⟨ow,by rw[e,dL];rfl,by rw[show hs.length=pre.length by rw[e,dL]];exact o⟩
|h::l,pre,ow,e,o=>by
 have hl:pre.length<hs.length:=by rw[e,aV,cU];omega
 obtain⟨j,hj,hf⟩:=o.free (by omega);obtain⟨k,hk,rfl⟩:=IF hm h hj;obtain⟨n,g1,g2,g3⟩:=EQ o.size h (SetTable.turns mask) 0 k (cL _) (by unfold SetTable.turns;omega) hf λm z=>absurd z (mL _);have hh:hs[pre.length]?=some h:=by rw[e,dE (aO _),AM];rfl
 obtain⟨ow',a,b⟩:=CG hm hn l (pre++[h]) _ (by rw[e];simp) (by rw[aV];exact o.put hh g2 g3);refine⟨ow',?_,b⟩;rw[aAp];rw[aV]at a
 have:(do
  let (owner,k) <- some (ow,pre.length)
  let j <- SetTable.layClean.free mask owner (SetTable.turns mask) (SetTable.bits h%(mask+1)) (SetTable.bits h)
  pure (owner.setIfInBounds j (some k),k+1))=some (ow.setIfInBounds (rd mask h n).j (some pre.length),pre.length+1):=by
  show(SetTable.layClean.free mask ow (SetTable.turns mask) (lp mask h 0).1 (lp mask h 0).2 >>= _)=_;rw[g1];rfl
 rw[this];exact a
theorem L3{α β:Type}(f:α->Option β):∀(l:List α),(∀q∈l,(f q).isSome=true)->∀r:Nat,(l.filterMap f)[r]?=l[r]?.bind f
|[],_,r=>by simp
|a::l,h,r=>by
 obtain⟨b,hb⟩:=FJ.mp (h a (aR ..));rw[rL hb]
 cases r with
 |zero=>exact hb.symm
 |succ r=>exact L3 f l (λq hq=>h q (aM _ hq)) r
def PZ{led:Bool}{t:SetTable}{es:Array (Int×Value)}{wanted mask:Nat}(hw:SetTable.sizeAbove wanted-1=mask)(hm:mask∈tH)(hn:es.size*5<mask*3)(hl:t.led=led) :
  ∃t' order,t.relaid (es.map (·.1)) wanted=some (t',order)/\(order.filterMap (es[·]?)).size=es.size/\RS led t' (order.filterMap (es[·]?)).toList/\(order.filterMap (es[·]?)).toList.Perm es.toList:=by
 have hlen:(es.map (·.1)).toList.length=es.size:=by simp
 have h7:=uF _ hm
 obtain⟨ow,h1,o⟩:=CG hm (hs:=(es.map (·.1)).toList) (by omega) (es.map (·.1)).toList [] (Array.replicate (mask+1) none) rfl ⟨by simp,λj q e=>by
  rw[HA]at e;split at e<;>simp at e,λq hq=>absurd hq (mL _),λj j' q e=>by
  rw[HA]at e;split at e<;>simp at e⟩
 rw[hlen]at h1 o
 have hc:SetTable.layClean mask (es.map (·.1))=some ow:=by
  unfold SetTable.layClean;rw[<- Array.foldl_toList];exact congrArg (Option.map (·.1)) h1
 let live:=(cQ (mask+1)).filterMap λj=>(ow.getD j none).map (j,·)
 have hlive:∀j q,(j,q)∈live↔ow[j]?=some (some q):=λj q=>by
  constructor
  ·intro hx;obtain⟨i,hi,e⟩:=kF.mp hx;rw[fM]at e
   cases hv:ow[i]? with
   |none=>rw[hv]at e;cases e
   |some v=>
    rw[hv]at e
    cases v with
    |none=>cases e
    |some v=>cases e;exact hv
  ·intro hx;refine kF.mpr ⟨j,dI.mpr ?_,?_⟩
   ·have:=(fU.mp hx).1;have:=o.size;omega
   ·rw[fM,hx];rfl
 have lpw:live.Pairwise λa b=>a.1<b.1:=List.pairwise_filterMap.mpr (kK.imp (λ{a b} hab x hx y hy=>by
  obtain⟨_,_,rfl⟩:=bT.mp hx;obtain⟨_,_,rfl⟩:=bT.mp hy;exact hab) gX)
 have ond:(live.map (·.2)).Nodup:=fB.mpr (kK.imp_of_mem (λ{a b} ha hb hab z=>by
  have e1:=(hlive a.1 a.2).mp ha;have e2:=(hlive b.1 b.2).mp hb;rw[z]at e1;have:=o.inj _ _ _ e1 e2;omega) lpw)
 have omem:∀q,q∈live.map (·.2)↔q<es.size:=λq=>by
  constructor
  ·intro hq;obtain⟨x,hx,rfl⟩:=aQ.mp hq;exact(o.at_ x.1 x.2 ((hlive x.1 x.2).mp hx)).1
  ·intro hq;obtain⟨j,hj⟩:=o.all q hq;exact aQ.mpr ⟨(j,q),(hlive j q).mpr hj,rfl⟩
 have operm:(live.map (·.2)).Perm (cQ es.size):=(pX ond A9).mpr λq=>by rw[omem,dI]
 have some_:∀q∈live.map (·.2),((λi=>es[i]?) q).isSome=true:=λq hq=>by
  have hq':=(omem q).mp hq;rw[show(λi=>es[i]?) q=some es[q]from bK hq'];rfl
 have e2:((live.map (·.2)).toArray.filterMap (es[·]?)).toList=(live.map (·.2)).filterMap (es[·]?):=by simp
 have hperm:((live.map (·.2)).filterMap (es[·]?)).Perm es.toList:=by
  refine(operm.filterMap _).trans (gD.of_eq ?_);refine gC λi=>?_;rw[L3 _ _ λq hq=>by have hq':=dI.mp hq;rw[show es[q]?=some es[q]from bK hq'];rfl];by_cases hi:i<es.size
  ·rw[gZ hi,cD];rfl
  ·rw[eZ (by rw[cH];omega),eZ (by rw[aP];omega)];rfl
 have hsz:((live.map (·.2)).toArray.filterMap (es[·]?)).size=es.size:=by
  rw[<- aP,e2,hperm.length_eq,aP]
 have hll:live.length=es.size:=by
  have:=operm.length_eq;rw[aB,cH]at this;exact this
 refine⟨_,(live.map (·.2)).toArray,by unfold SetTable.relaid SetTable.laid;rw[hw,hc];rfl,hsz,?_,by rw[e2];exact hperm⟩;rw[e2];refine⟨hm,rfl,?_,?_,?_,hl,λi e p he hp=>?_⟩
 ·show pE (live.map (·.1));exact fB.mpr lpw
 ·show(live.map (·.1)).toArray.size=_;rw[bF,aB,hll,hperm.length_eq,aP]
 ·rw[hperm.length_eq,aP];exact hn
 ·rw[L3 _ _ some_,aI]at he
  replace hp:(live.map (·.1)).toArray[i]?=some p:=hp
  rw[uQ]at hp;rw[aI]at hp;obtain⟨x,hx,rfl⟩:=bT.mp hp;rw[hx]at he
  replace he:es[x.2]?=some e:=he
  obtain⟨_,h',a,b⟩:=o.at_ x.1 x.2 ((hlive x.1 x.2).mp (aW hx))
  have:h'=e.1:=by
   rw[cD,Array.getElem?_map,he]at a;exact(Option.some.inj a).symm
  subst this;refine b.more λj zq=>?_;obtain⟨q,hq⟩:=zq;show j∈(live.map (·.1)).toArray.toList;rw[List.toList_toArray];exact aQ.mpr ⟨(j,q),(hlive j q).mpr hq,rfl⟩
mutual
theorem tT(prog:bX)(w:World)(s:Shared):∀(d:PyData)A E(v:Value)as(n:Nat)(Q:Bool->Shared->Prop),Reads s.heap v d as->hk d=true->d.depth<=n->Q false s->wpAny (model prog w) A (ofAClassStatement n v) Q E s
|.none,A,E,_,_,n,Q,r,_,_,q=>by cases r;unfold ofAClassStatement;exact aE q
|.int i,A,E,_,_,n,Q,r,_,_,q=>by cases r;unfold ofAClassStatement;exact aE q
|.str x,A,E,_,_,n,Q,r,_,_,q=>by cases r;unfold ofAClassStatement;exact aE q
|.tuple xs,A,E,_,_,0,Q,r,_,hn,q=>by
 have:bU xs+1<=0:=hn;omega
|.tuple xs,A,E,_,_,n+1,Q,r,h,hn,q=>by
 cases r with
 |@tuple a o vs m _ _ h1 h2 h3 h4=>
  have hT:s.TypeIs (.ref a) "tuple":=⟨o,h1,h2⟩;have hn':bU xs+1<=n+1:=hn;unfold ofAClassStatement;refine aA (wpAny_typeOf hT ?_);dsimp only;rw[if_pos (show("tuple"=="tuple")=true from rfl)];refine aA (aE ?_);rw[if_neg (show¬((!true)=true) by decide)];refine aA (wpAny_seqItems h1 h3 ?_);dsimp only;refine aA ?_;rw[<- pP];refine wpAny_forIn_list _ (λfT r s'=>r.1=none/\s'=s/\∀v∈fT,∀(Q:Bool->Shared->Prop),Q false s->wpAny (model prog w) A (ofAClassStatement n v) Q E s) _ ?_ ?_ _ _ ⟨rfl,rfl,λv hv Q hQ=>class_readsAll prog w s xs A E _ _ n Q h4 h (by omega) v hv hQ⟩
  ·rintro v fT r s' ⟨hr,rfl,hall⟩;refine aA (hall v aR _ ?_);simp only[iF,if_false];exact aE ⟨rfl,rfl,λu hu'=>hall u (aM _ hu')⟩
  ·rintro⟨r1,r2⟩ s' ⟨hr,rfl,_⟩;simp only at hr;subst hr;exact aE q
|.bool _,_,_,_,_,_,_,_,h,_,_=>by cases h
|.list _,_,_,_,_,_,_,_,h,_,_=>by cases h
|.dict _,_,_,_,_,_,_,_,h,_,_=>by cases h
theorem class_readsAll(prog:bX)(w:World)(s:Shared):∀(xs:List PyData)A E(vs:List Value)as(n:Nat)(Q:Bool->Shared->Prop),ReadsAll s.heap vs xs as->hkAll xs=true->bU xs<=n->∀v∈vs,Q false s->wpAny (model prog w) A (ofAClassStatement n v) Q E s
|[],A,E,_,_,n,Q,r,_,_,v,hv,_=>by cases r;cases hv
|x::xs,A,E,_,_,n,Q,r,h,hn,v,hv,q=>by
 cases r with
 |cons r1 r2=>
  have h':(hk x&&hkAll xs)=true:=h;rw[bY]at h';have hn':max x.depth (bU xs)<=n:=hn;rcases bH.mp hv with rfl | hv
  ·exact tT prog w s x A E _ _ n Q r1 h'.1 (by omega) q
  ·exact class_readsAll prog w s xs A E _ _ n Q r2 h'.2 (by omega) v hv q
end
mutual
theorem zV(prog:bX)(w:World)(s:Shared):∀(d:PyData)A E(v:Value)as(n:Nat)(Q:Bool->Shared->Prop),Reads s.heap v d as->hk d=true->(∀b,Q b s)->wpAny (model prog w) A (hashByValue n v) Q E s
|.none,A,E,_,_,n,Q,r,_,q=>by cases r;unfold hashByValue;exact aE (q _)
|.int i,A,E,_,_,n,Q,r,_,q=>by cases r;unfold hashByValue;exact aE (q _)
|.str x,A,E,_,_,n,Q,r,_,q=>by cases r;unfold hashByValue;exact aE (q _)
|.tuple xs,A,E,_,_,0,Q,r,_,q=>by
 cases r with
 |@tuple a o vs m _ _ h1 h2 h3 h4=>unfold hashByValue;exact aE (q _)
|.tuple xs,A,E,_,_,n+1,Q,r,h,q=>by
 cases r with
 |@tuple a o vs m _ _ h1 h2 h3 h4=>
  have hT:s.TypeIs (.ref a) "tuple":=⟨o,h1,h2⟩;unfold hashByValue;refine aA (wpAny_specialOf hT jV.lookup ?_);dsimp only;refine aA (wpAny_seqItems h1 h3 ?_);show wpAny _ _ (forIn vs _ _ >>= _) _ _ s;refine aA ?_;rw[<- pP];refine wpAny_forIn_list _ (λfT r s'=>s'=s/\∀v∈fT,∀(Q:Bool->Shared->Prop),(∀b,Q b s)->wpAny (model prog w) A (hashByValue n v) Q E s) _ ?_ ?_ _ _ ⟨rfl,λv hv Q hQ=>byval_readsAll prog w s xs A E _ _ n Q h4 h v hv hQ⟩
  ·rintro v fT r s' ⟨rfl,hall⟩;refine aA (hall v aR _ λb=>?_)
   cases b with
   |true=>exact aE ⟨rfl,λu hu'=>hall u (aM _ hu')⟩
   |false=>exact aE (aE (q _))
  ·rintro⟨r1,r2⟩ s' ⟨rfl,_⟩
   cases r1 with
   |none=>exact aE (q _)
   |some b=>exact aE (q _)
|.bool _,_,_,_,_,_,_,_,h,_=>by cases h
|.list _,_,_,_,_,_,_,_,h,_=>by cases h
|.dict _,_,_,_,_,_,_,_,h,_=>by cases h
theorem byval_readsAll(prog:bX)(w:World)(s:Shared):∀(xs:List PyData)A E(vs:List Value)as(n:Nat)(Q:Bool->Shared->Prop),ReadsAll s.heap vs xs as->hkAll xs=true->∀v∈vs,(∀b,Q b s)->wpAny (model prog w) A (hashByValue n v) Q E s
|[],A,E,_,_,n,Q,r,_,v,hv,_=>by cases r;cases hv
|x::xs,A,E,_,_,n,Q,r,h,v,hv,q=>by
 cases r with
 |cons r1 r2=>
  have h':(hk x&&hkAll xs)=true:=h;rw[bY]at h';rcases bH.mp hv with rfl | hv
  ·exact zV prog w s x A E _ _ n Q r1 h'.1 q
  ·exact byval_readsAll prog w s xs A E _ _ n Q r2 h'.2 v hv q
end
def O3(prog:bX)(w:World)(h:Heap)(es:List (Int×Value))(ks:List PyData):Prop:=es.length=ks.length/\∀(i:Nat)(e:Int×Value),es[i]?=some e->∃k b,ks[i]?=some k/\e=(eF w k,.ref b)/\(eV prog w).is h k b
section
variable{prog:bX}{w:World}{A:Around}{E:Value->Shared->Prop}{s:Shared}
def HK{b:Addr}{k}(hx:(eV prog w).is s.heap k b):∀(ys:List Value)(Q:Bool->Shared->Prop),(∀y∈ys,∃c b',y=.ref b'/\(eV prog w).is s.heap c b')->Q false s->wpAny (model prog w) A (searchCouldBeSeen (.ref b) ys) Q E s:=by
 intro ys Q hy q;unfold searchCouldBeSeen;refine aA ?_;refine wpAny_forIn_list _ (λfT r s'=>r.1=none/\s'=s/\∀y∈fT,∃c b',y=.ref b'/\(eV prog w).is s.heap c b') _ ?_ ?_ _ _ ⟨rfl,rfl,hy⟩
 ·rintro v fT r s' ⟨hr,rfl,hall⟩;obtain⟨c,b',rfl,hc⟩:=hall v aR;have fin:∀u∈fT,∃c b',u=.ref b'/\(eV prog w).is s'.heap c b':=λu hu'=>hall u (aM _ hu');dsimp only;by_cases hb:(b==b')=true
  ·rw[hb];exact aE ⟨rfl,rfl,fin⟩
  ·have hb':(b==b')=false:=by simpa using hb
   rw[hb',if_neg (show¬((false||(carriedByValue (Value.ref b)&&carriedByValue (Value.ref b')))=true)from bE)];refine aA ((eV prog w).quiet hx ?_);rw[if_neg (show¬((!true)=true) by decide)];refine aA ((eV prog w).quiet hc ?_);rw[if_neg (show¬((!true)=true) by decide)];obtain⟨x1,x2,as,x3⟩:=hx;obtain⟨c1,c2,cs,c3⟩:=hc;refine aA (tT prog w s' k A E _ _ 8 _ x3 x1 x2 ?_);rw[if_neg bE];refine aA (tT prog w s' c A E _ _ 8 _ c3 c1 c2 ?_);rw[if_neg bE];exact aE ⟨rfl,rfl,fin⟩
 ·rintro⟨r1,r2⟩ s' ⟨hr,rfl,_⟩;simp only at hr;subst hr;exact aE q
end
section
variable{prog:bX}{w:World}{A:Around}{E:Value->Shared->Prop}{s:Shared}
def O3.mem{h es ks}(x:O3 prog w h es ks){i:Nat}{k}(hi:ks[i]?=some k):∃b,es[i]?=some (eF w k,.ref b)/\(eV prog w).is h k b:=by
 have hl:i<es.length:=by rw[x.1];exact(aG.mp hi).1
 have he:es[i]?=some es[i]:=aF hl;obtain⟨k',b,g1,g2,g3⟩:=x.2 i _ he;rw[hi]at g1;cases g1;exact⟨b,by rw[he,g2],g3⟩
def K0{a:Addr}{o:Obj}{es:Array (Int×Value)}{ep:Nat}{t:SetTable}{led:Bool}{ks kx}{bx:Addr}{Q:SetFound->Shared->Prop}(hu:A.units+8<cLine)(ho:s.heap.get? a=some o)(hd:o.data=.set es ep t)(hT:RS led t es.toList)(hE:O3 prog w s.heap es.toList ks)(hx:(eV prog w).is s.heap kx bx)
  (h1:kx∈ks->Q (.there none) s) (h2:kx∉ks->∀m,t.slot (rd t.mask (eF w kx) m).j=.empty->(∀k,k<m->(rd t.mask (eF w kx) k).j∈t.place.toList)->Q (.free (rd t.mask (eF w kx) m).j false) s) :
  ∀(fuel n e:Nat)(st:Option SetTable.Probe),st.getD (t.probeStart (eF w kx))=rd t.mask (eF w kx) n->n<=e->e<10*(t.mask+15)->e<n+fuel->t.slot (rd t.mask (eF w kx) e).j=.empty->(∀k,k<n->∃i:Nat,t.place[i]?=some (rd t.mask (eF w kx) k).j/\ks[i]?≠some kx) ->
   wpAny (model prog w) A (setSearchFrom a (.ref bx) (eF w kx) true fuel st) Q E s:=by
 have hodd:=uF _ hT.msk;intro fuel
 induction fuel with
 |zero=>intro n e st _ _ _ _ _ _;omega
 |succ fuel ih=>
  intro n e st hst hne he10 hef hemp hpre;unfold setSearchFrom;refine aA (wpAny_setState_of ho hd hT.fits ?_);dsimp only;rw[show t.gaveWay=false by unfold SetTable.gaveWay;simp;omega,if_neg bE];obtain⟨m,g1,g2,g3,g4⟩:=OL hT.rise hT.dum (λi=>(es[i]?.map (·.1)).getD 0) (eF w kx) (10*SetTable.turns t.mask) n e hne (by unfold SetTable.turns;omega) hemp
  have ext:∀(M:SetTable.Met),SetTable.probe.go t (λi=>(es[i]?.map (·.1)).getD 0) (eF w kx) (10*SetTable.turns t.mask) (rd t.mask (eF w kx) n)=some M->∀hA:Nat->Int,(∀i:Nat,hA i=(es[i]?.map (·.1)).getD 0)->t.probe hA (eF w kx) (st.getD (t.probeStart (eF w kx)))=some M:=λM hM hA hh=>by
   rw[hst,show hA=λi=>(es[i]?.map (·.1)).getD 0 from funext hh];exact hM
  have pre':∀k,k<m->∃i:Nat,t.place[i]?=some (rd t.mask (eF w kx) k).j/\ks[i]?≠some kx:=λk hk=>by
   by_cases hkn:k<n
   ·exact hpre k hkn
   ·obtain⟨i,a1,a2⟩:=g3 k (by omega) hk;rcases wI hT.rise hT.dum (rd t.mask (eF w kx) k).j with⟨i',b1,b2⟩ | ⟨b1,_⟩
    ·rw[a1]at b1;cases b1;refine⟨i,b2,λz=>?_⟩;obtain⟨b,c1,_⟩:=hE.mem z;rw[cD]at c1;apply a2;show(es[i]?.map (·.1)).getD 0=_;rw[c1];rfl
    ·rw[a1]at b1;cases b1
  rcases g4 with⟨c1,c2⟩ | ⟨i,c1,c2,c3,c4⟩
  ·rw[ext _ c1]
   ·dsimp only;refine aE (h2 (λhin=>?_) m c2 λk hk=>?_)
    ·obtain⟨i,hi⟩:=bV hin;obtain⟨b,q1,_⟩:=hE.mem hi;have hl:i<t.place.size:=by rw[hT.size];exact(aG.mp q1).1
     have hp:t.place[i]?=some t.place[i]:=bK hl;obtain⟨n',r1,r2⟩:=hT.path i _ _ q1 hp;dsimp only at r1 r2
     have inn:(rd t.mask (eF w kx) n').j∈t.place.toList:=by
      rw[r1];exact Array.getElem_mem_toList ..
     have not_in:(rd t.mask (eF w kx) m).j∉t.place.toList:=λz=>by
      obtain⟨q,hq⟩:=bV z;rw[cD]at hq;rw[uC hT.rise hq]at c2;cases c2
     rcases nJ n' m with z | z | z
     ·obtain⟨i',p1,p2⟩:=pre' n' z;rw[r1]at p1
      have:i'=i:=by
       have u1:=uC hT.rise p1;rw[uC hT.rise hp]at u1;cases u1;rfl
      rw[this]at p2;exact p2 hi
     ·rw[z]at inn;exact not_in inn
     ·exact not_in (r2 m z)
    ·obtain⟨i,p1,_⟩:=pre' k hk;rw[<- cD]at p1;exact aW p1
   ·exactλi=>rfl
  ·rw[ext _ c1]
   ·dsimp only
    have hpi:t.place[i]?=some (rd t.mask (eF w kx) m).j:=by
     rcases wI hT.rise hT.dum (rd t.mask (eF w kx) m).j with⟨i',b1,b2⟩ | ⟨b1,_⟩
     ·rw[c2]at b1;cases b1;exact b2
     ·rw[c2]at b1;cases b1
    have hil:i<es.toList.length:=by rw[<- hT.size];exact(fU.mp hpi).1
    obtain⟨k,b,q1,q2,q3⟩:=hE.2 i _ (aF hil);have hei:es[i]?=some (eF w k,.ref b):=by rw[<- cD,aF hil,q2]
    have fT:wpAny (model prog w) A (do
      let some (_,y):=es[i]? | unsupported "internal:set-entry"
      let equal <- holding [y] (eqBool y (.ref bx))
      let (es',_,t') <- setState a
      if true&&equal then return .there none
      let some same:=t'.sameMemory t.moves t.mask | unsupported "set.changed-during-lookup:is-the-new-block-at-the-old-address"
      let still <- match(if same then t'.slot (rd t.mask (eF w kx) m).j else .empty)with
       |.live i'=>match es'[i']? with
        |some (_,y')=>do pure (if <- isSame y' y then some i' else none)
        |none=>pure none
       |_=>pure none
      match still with
      |none=>rule "set.search.anew";setSearchFrom a (.ref bx) (eF w kx) true fuel none
      |some i'=>if equal then return .there (some i')else setSearchFrom a (.ref bx) (eF w kx) true fuel (some (rd t.mask (eF w kx) (m+1)))) Q E s:=by
     rw[hei];dsimp only;refine aA (wpAny_holding ((eV prog w).eqBool hu q3 hx ?_));refine aA (wpAny_setState_of ho hd hT.fits ?_);dsimp only;by_cases hk:k=kx
     ·rw[decide_eq_true hk];subst hk;exact aE (h1 (aW q1))
     ·rw[decide_eq_false hk,if_neg (by decide)];rw[show t.sameMemory t.moves t.mask=some true by unfold SetTable.sameMemory;simp];dsimp only;rw[if_pos rfl,c2];dsimp only;rw[hei];dsimp only;refine aA (wpAny_isSame_ref_self (aA (aE ?_)));rw[if_pos rfl];dsimp only;rw[if_neg bE];refine ih (m+1) e (some _) rfl c4 he10 (by omega) hemp λk' hk'=>?_;by_cases z:k'=m
      ·rw[z];exact⟨i,hpi,λy=>hk (by rw[q1]at y;exact Option.some.inj y)⟩
      ·exact pre' k' (by omega)
    cases hl:t.led with
    |true=>rw[if_neg (show¬((!true)=true) by decide)];exact fT
    |false=>
     rw[if_pos (show(!false)=true from rfl)];refine aA (HK hx _ _ (λy hy=>?_) ?_)
     ·obtain⟨e',he',rfl⟩:=aQ.mp hy
      have he2:e'∈es.toList:=by
       have:=uY.mp he';exact uY.mpr (Array.mem_of_mem_filter this)
      obtain⟨r,hr⟩:=bV he2;obtain⟨k',b',_,u2,u3⟩:=hE.2 r _ hr;exact⟨k',b',by rw[u2],u3⟩
     ·rw[if_neg bE];exact fT
   ·exactλi=>rfl
end
section
variable{prog:bX}{w:World}{A:Around}{E:Value->Shared->Prop}{s:Shared}
inductive J4(prog:bX)(w:World)(h:Heap):List (Int×Value)->List PyData->Prop
|nil:J4 prog w h [] []
|cons {k:PyData} {b:Addr} {es:List (Int×Value)} {ks:List PyData} (r:(eV prog w).is h k b) (t:J4 prog w h es ks):J4 prog w h ((eF w k,.ref b)::es) (k::ks)
def J4.len{h}{es:List (Int×Value)}{ks:List PyData}(x:J4 prog w h es ks):es.length=ks.length:=by
 induction x with
 |nil=>rfl
 |cons _ _ ih=>exact congrArg (·+1) ih
def J4.ents{h es ks}(x:J4 prog w h es ks):O3 prog w h es ks:=by
 refine⟨x.len,?_⟩
 induction x with
 |nil=>intro i e he;simp at he
 |@cons k b es ks r t ih=>
  intro i e he
  cases i with
  |zero=>cases he;exact⟨k,b,rfl,rfl,r⟩
  |succ i=>exact ih i e he
def J4.snoc{h es ks k}{b:Addr}(x:J4 prog w h es ks)(r:(eV prog w).is h k b):J4 prog w h (es++[(eF w k,.ref b)]) (ks++[k]):=by
 induction x with
 |nil=>exact .cons r .nil
 |cons r' _ ih=>exact .cons r' ih
def J4.perm{h}{es es':List (Int×Value)}(p:es.Perm es'):∀{ks},J4 prog w h es ks->∃ks',J4 prog w h es' ks'/\ks'.Perm ks:=by
 induction p with
 |nil=>intro ks x;exact⟨ks,x,.refl _⟩
 |cons a _ ih=>
  intro ks x
  cases x with
  |cons r t=>
   obtain⟨ks',a1,a2⟩:=ih t;exact⟨_,.cons r a1,a2.cons _⟩
 |swap a b l=>
  intro ks x
  cases x with
  |cons r t=>
   cases t with
   |cons r' t'=>exact⟨_,.cons r' (.cons r t'),.swap ..⟩
 |trans _ _ ih1 ih2=>
  intro ks x;obtain⟨k1,a1,a2⟩:=ih1 x;obtain⟨k2,b1,b2⟩:=ih2 a1;exact⟨k2,b1,b2.trans a2⟩
def EF{h h':Heap}{a b:Addr}{o:Obj}{es}{ep:Nat}{t k}(ho:h.get? a=some o)(hd:o.data=.set es ep t)(hs:cV a h h')(x:(eV prog w).is h k b):(eV prog w).is h' k b:=by
 obtain⟨h1,h2,as,r⟩:=x
 exact⟨h1,h2,as,oW (λb o' vs n e ed=>(hs.2 b (λz=>by
  subst z;rw[ho]at e;cases e;rw[hd]at ed;cases ed)).trans e) r h1⟩
def J4.stays{h h' es ks}(x:J4 prog w h es ks)(k:∀c b,(eV prog w).is h c b->(eV prog w).is h' c b):J4 prog w h' es ks:=by
 induction x with
 |nil=>exact .nil
 |cons r _ ih=>exact .cons (k _ _ r) ih
def CS(prog:bX)(w:World)(h:Heap)(a:Addr)(ks:List PyData)(led:Bool):Prop:=∃o es ep t,h.get? a=some o/\o.ExactSet/\o.data=.set es ep t/\RS led t es.toList/\J4 prog w h es.toList ks
def Y7{α β:Type}{l:List α}{m:List β}{x a y b}{p i:Nat}(h1:p<=l.length)(h2:l.length=m.length)(ha:(l.take p++x::l.drop p)[i]?=some a)(hb:(m.take p++y::m.drop p)[i]?=some b):(a=x/\b=y)\/∃r:Nat,l[r]?=some a/\m[r]?=some b:=by
 have e1:(l.take p).length=p:=by rw[bC];omega
 have e2:(m.take p).length=p:=by rw[bC];omega
 rcases nJ i p with z | z | z
 ·rw[dU (by omega),rK z]at ha hb;exact .inr ⟨i,ha,hb⟩
 ·rw[dE (by omega)]at ha hb;rw[e1,z,AM]at ha;rw[e2,z,AM]at hb;cases ha;cases hb;exact .inl ⟨rfl,rfl⟩
 ·rw[dE (by omega)]at ha hb;obtain⟨q,hq⟩:∃q,i-p=q+1:=⟨i-p-1,by omega⟩;rw[e1,hq,sR,iV]at ha;rw[e2,hq,sR,iV]at hb;exact .inr ⟨_,ha,hb⟩
def tL{α:Type}(l:List α)(p:Nat)(x:α):(l.take p++x::l.drop p).Perm (l++[x]):=by
 refine A8.trans ?_;rw[nU];exact FK x l |>.symm
def X7{led:Bool}{t:SetTable}{es:Array (Int×Value)}{h:Int}{x}{m:Nat}{pl:Bool}(T:RS led t es.toList)(hs:t.slot (rd t.mask h m).j=.empty)(hp:∀k,k<m->(rd t.mask h k).j∈t.place.toList)(hr:(es.size+1)*5<t.mask*3) :
  RS led { (t.put (rd t.mask h m).j).1 with plain:=pl } (SetTable.insertAt es (t.put (rd t.mask h m).j).2 (h,x)).toList:=by
 obtain⟨r1,r2,r3⟩:=BQ T.rise T.dum hs;have hb:=(uK T.rise (rd t.mask h m).j).1;have e1:(SetTable.insertAt es (t.put (rd t.mask h m).j).2 (h,x)).toList=es.toList.take (SetTable.below t.place (rd t.mask h m).j)++(h,x)::es.toList.drop (SetTable.below t.place (rd t.mask h m).j):=SetTable.toList_insertAt ..;have e2:(t.put (rd t.mask h m).j).1.place.toList=t.place.toList.take (SetTable.below t.place (rd t.mask h m).j)++(rd t.mask h m).j::t.place.toList.drop (SetTable.below t.place (rd t.mask h m).j):=SetTable.toList_insertAt ..;have hz:t.place.size=es.size:=T.size.trans (aP ..);have sn:∀{α:Type}(xs:Array α)(y:α),(xs.toList++[y]).length=xs.size+1:=λxs y=>by rw[aV,aP];rfl
 have l1:=(tL es.toList (SetTable.below t.place (rd t.mask h m).j) (h,x)).length_eq.trans (sn _ _);have l2:=(tL t.place.toList (SetTable.below t.place (rd t.mask h m).j) (rd t.mask h m).j).length_eq.trans (sn _ _);refine⟨T.msk,r2,r1,?_,?_,r3.trans T.led,λi e p he hpp=>?_⟩
 ·rw[e1,l1];show(t.put _).1.place.size=_;rw[<- aP,e2,l2,hz]
 ·rw[e1,l1];exact hr
 ·rw[e1]at he
  replace hpp:(t.put (rd t.mask h m).j).1.place[i]?=some p:=hpp
  rw[<- cD,e2]at hpp
  have up:∀j,j∈t.place.toList->j∈(t.put (rd t.mask h m).j).1.place.toList:=λj hj=>by
   rw[e2,(tL _ _ _).mem_iff];exact fV _ hj
  rcases Y7 (by rw[aP];omega) (by rw[aP,aP];exact hz.symm) he hpp with⟨rfl,rfl⟩ | ⟨r,q1,q2⟩
  ·exact⟨m,rfl,λk hk=>up _ (hp k hk)⟩
  ·rw[cD]at q2;exact(T.path r _ _ q1 q2).more up
def QY:∀m∈tH,∀n∈cQ 305,n*5<m*3->m*3<=(n+1)*5->SetTable.sizeAbove (SetTable.grown (n+1))-1∈tH/\(n+1)*5<(SetTable.sizeAbove (SetTable.grown (n+1))-1)*3/\SetTable.sizeAbove (SetTable.grown (n+1))<=512:=by decide +kernel
def D6{t:SetTable}{b:Bool}(h:t.plain=b):t={ t with plain:=b }:=by subst h;rfl
def UY{a bx:Addr}{ks:List PyData}{kx}{led:Bool}{Q:Bool->Shared->Prop}(hu:A.units+8<cLine)(hS:CS prog w s.heap a ks led)(hx:(eV prog w).is s.heap kx bx)(hz:ks.length<300)
  (h:∀h' b ks',cV a s.heap h'->CS prog w h' a ks' led->(kx∈ks->ks'=ks)->(kx∉ks->ks'.Perm (ks++[kx]))->Q b { s with heap:=h' }) :
  wpAny (model prog w) A (setAddHashed a (.ref bx) (eF w kx)) Q E s:=by
 obtain⟨o,es,ep,t,ho,hex,hd,hT,hE⟩:=id hS;have hsz:es.size=ks.length:=by rw[<- aP];exact hE.len
 have hodd:=uF _ hT.msk;have hroom:=hT.room;rw[aP]at hroom;unfold setAddHashed setAddHashedIn;refine wpAny_holding (aA (wpAny_setState_of ho hd hT.fits ?_));dsimp only;rw[show byScan (.ref bx) es=false from rfl,if_neg bE];obtain⟨j,hj,hjn⟩:=LY (ps:=t.place.toList) (mask:=t.mask) (by rw[aP,hT.size,aP];omega);obtain⟨e,he,rfl⟩:=PY hT.msk (eF w kx) hj
 have hemp:t.slot (rd t.mask (eF w kx) e).j=.empty:=by
  rcases wI hT.rise hT.dum (rd t.mask (eF w kx) e).j with⟨i,_,q⟩ | ⟨q,_⟩
  ·rw[<- cD]at q;exact absurd (aW q) hjn
  ·exact q
 refine aA ?_;unfold setSearch;refine K0 hu ho hd hT hE.ents hx (λhin=>?_) (λhnin m hm hpre=>?_) 100000 0 e none rfl (cL _) he (by omega) hemp λk hk=>absurd hk (mL _)
 ·exact aE (h s.heap false ks (cV.refl a s.heap) hS (λ_=>rfl) λz=>absurd hin z)
 ·dsimp only;refine aA (wpAny_setState_of ho hd hT.fits ?_);dsimp only
  have fin:∀(t1:SetTable)(pl:Bool),t1={ (t.put (rd t.mask (eF w kx) m).j).1 with plain:=pl }->wpAny (model prog w) A (do
    storeSet a (SetTable.insertAt es (t.put (rd t.mask (eF w kx) m).j).2 (eF w kx,.ref bx)) t1
    if(!false&&t1.tooFull)=true then do
     setRelay a (SetTable.grown (es.size+1))
     pure true
    else pure true) Q E s:=λt1 pl ht1=>by
   obtain⟨r1,r2,r3⟩:=BQ hT.rise hT.dum hm
   have e1:(SetTable.insertAt es (t.put (rd t.mask (eF w kx) m).j).2 (eF w kx,.ref bx)).toList.Perm (es.toList++[(eF w kx,.ref bx)]):=by
    rw[show(SetTable.insertAt es (t.put (rd t.mask (eF w kx) m).j).2 (eF w kx,.ref bx)).toList=_ from SetTable.toList_insertAt ..];exact tL ..
   have e2:(t.put (rd t.mask (eF w kx) m).j).1.place.toList.Perm (t.place.toList++[(rd t.mask (eF w kx) m).j]):=by
    rw[show(t.put (rd t.mask (eF w kx) m).j).1.place.toList=_ from SetTable.toList_insertAt ..];exact tL ..
   have put:=λhr=>X7 (x:=.ref bx) (pl:=pl) hT hm hpre hr;rw[<- ht1]at put
   have hsz1:(SetTable.insertAt es (t.put (rd t.mask (eF w kx) m).j).2 (eF w kx,.ref bx)).size=es.size+1:=by
    rw[<- aP,e1.length_eq,aV,aP];rfl
   have hpz:(t.put (rd t.mask (eF w kx) m).j).1.place.size=es.size+1:=by
    rw[<- aP,e2.length_eq,aV,aP,hT.size,aP];rfl
   have hfill:t1.fill=es.size+1:=by
    rw[ht1];show(t.put _).1.place.size+(t.put _).1.dummies.size=_;rw[hpz,r2];rfl
   have hmk:t1.mask=t.mask:=by rw[ht1];rfl
   have hled:t1.led=led:=by rw[ht1];exact r3.trans hT.led
   have hfits:t1.fits (es.size+1)=true:=by
    unfold SetTable.fits;rw[hfill,hmk,bY];exact⟨by rw[ht1];simpa using hpz,by rw[decide_eq_true_eq];omega⟩
   generalize SetTable.insertAt es (t.put (rd t.mask (eF w kx) m).j).2 (eF w kx,.ref bx)=es1 at e1 put hsz1 |-
   have hbig:es1.size<=bL:=by rw[hsz1,sizeLine_eq];omega
   refine aA (wpAny_storeSet_of ho hd ?_ hbig);have g1:=stored (es':=es1) (t':=t1) ho hd;have b1:=cV.update s.heap a (Obj.putSet es1 t1);have st1:=λc b=>EF (prog:=prog) (w:=w) (k:=c) (b:=b) ho hd b1;obtain⟨k1,hE1,p1⟩:=((hE.stays st1).snoc (st1 _ _ hx)).perm e1.symm;by_cases hf:(!false&&t1.tooFull)=true
   ·rw[if_pos hf]
    have hft:t.mask*3<=(es.size+1)*5:=by
     have:t1.tooFull=true:=hf;unfold SetTable.tooFull at this;rw[hfill,hmk]at this;exact of_decide_eq_true this
    obtain⟨w1,w2,w3⟩:=QY _ hT.msk es.size (dI.mpr (by omega)) hroom hft;obtain⟨t2,order,q1,q2,q3,q4⟩:=PZ (t:=t1) (es:=es1) (wanted:=SetTable.grown (es.size+1)) rfl w1 (by rw[hsz1];exact w2) hled;unfold setRelay;refine aA (aA (wpAny_setState_of g1 rfl (by rw[hsz1];exact hfits) ?_));dsimp only;rw[if_neg (by rw[sizeLine_eq];omega),q1];refine aA ?_;show wpAny _ _ (if((order.filterMap (es1[·]?)).size != es1.size)=true then _ else _) _ _ _;rw[if_neg (by simp[q2])];refine aE ?_;dsimp only
    generalize hg2:order.filterMap (es1[·]?)=es2 at q2 q3 q4
    refine wpAny_storeSet_of g1 rfl ?_ (by rw[q2];exact hbig);have g2:=stored (es':=es2) (t':=t2) g1 rfl;have b2:=cV.update (s.heap.update a (Obj.putSet es1 t1)) a (Obj.putSet es2 t2);have st2:=λc b=>EF (prog:=prog) (w:=w) (k:=c) (b:=b) g1 rfl b2;obtain⟨k2,hE2,p2⟩:=(hE1.stays st2).perm q4.symm;exact aE (h _ true k2 (b1.trans b2) ⟨_,es2,_,t2,g2,hex,rfl,q3,hE2⟩ (λz=>absurd z hnin) λ_=>p2.trans p1)
   ·rw[if_neg hf]
    have hnf:(es.size+1)*5<t.mask*3:=by
     have:¬t1.tooFull=true:=hf;unfold SetTable.tooFull at this;rw[hfill,hmk,decide_eq_true_eq]at this;omega
    exact aE (h _ true k1 b1 ⟨_,es1,_,t1,g1,hex,rfl,put hnf,hE1⟩ (λz=>absurd z hnin) λ_=>p1)
  obtain⟨x1,x2,as,x3⟩:=id hx
  cases hpl:(t.put (rd t.mask (eF w kx) m).j).1.plain with
  |true=>
   rw[if_pos rfl];refine aA (zV prog w s kx A E _ _ 8 _ x3 x1 λb=>?_)
   cases b with
   |true=>exact fin _ true ((if_pos rfl).trans (D6 hpl))
   |false=>exact fin _ false rfl
  |false=>
   rw[if_neg bE];refine aA (aE ?_);exact fin _ false ((if_pos rfl).trans (D6 hpl))
end
open TL
def DdK(m l:List PyData):Prop:=m.Nodup/\m.length<=l.length/\(∀z,z∈m↔z∈l)/\(m.length=l.length↔l.Nodup)
def DdK.add{m l m1:List PyData}{k}(h:DdK m l)(hin:k∈m->m1=m)(hout:k∉m->m1.Perm (m++[k])):DdK m1 (l++[k]):=by
 obtain⟨h1,h2,h3,h4⟩:=h;have hl:(l++[k]).length=l.length+1:=by rw[aV];rfl
 by_cases hk:k∈m
 ·rw[hin hk];refine⟨h1,by omega,λz=>?_,⟨λe=>by omega,λnd=>?_⟩⟩
  ·rw[h3 z,cK,aZ];exact⟨.inl,λq=>q.elim id λe=>e▸(h3 k).mp hk⟩
  ·exact absurd rfl ((jN.mp nd).2.2 k ((h3 k).mp hk) k (aZ.mpr rfl))
 ·have p:=hout hk;have hk':k∉l:=λz=>hk ((h3 k).mpr z)
  have sn:∀{x:List PyData},k∉x->(x.Nodup↔(x++[k]).Nodup):=λ{x} hx=>by
   rw[jN];refine⟨λq=>⟨q,by simp,λa ha b hb e=>?_⟩,λq=>q.1⟩;rw[aZ]at hb;exact hx (by rw[<- hb,<- e];exact ha)
  have hm:m1.length=m.length+1:=by rw[p.length_eq,aV];rfl
  refine⟨p.nodup_iff.mpr ((sn hk).mp h1),by omega,λz=>?_,?_⟩
  ·rw[p.mem_iff,cK,cK,h3 z]
  ·rw[<- sn hk',<- h4];omega
def MP(prog:bX)(w:World)(h:Heap)(its:List Value)(ks:List PyData):Prop:=Paired (λ(v:Value) (k:PyData)=>∃b,v=.ref b/\(eV prog w).is h k b) its ks
theorem N1{α β:Type}{R:α->β->Prop}:∀{l m},Paired R l m->∀{i:Nat}{a},l[i]?=some a->∃b,m[i]?=some b/\R a b
|_,_,.nil,i,a,h=>by simp at h
|_,_,.cons r t,0,a,h=>by cases h;exact⟨_,rfl,r⟩
|_,_,.cons r t,i+1,a,h=>N1 t (i:=i) h
section
variable{prog:bX}{w:World}{A:Around}
def aFh{h h':Heap}{k}{b:Addr}(kk:∀c o,h.get? c=some o->h'.get? c=some o)(x:(eV prog w).is h k b):(eV prog w).is h' k b:=
 let ⟨h1,h2,as,r⟩:=x;⟨h1,h2,as,oW (λc o _ _ e _=>kk c o e) r h1⟩
def CS.at{h h':Heap}{a:Addr}{ks}{led:Bool}(x:CS prog w h a ks led)(k:∀o,h.get? a=some o->h'.get? a=some o)(kk:∀c b,(eV prog w).is h c b->(eV prog w).is h' c b):CS prog w h' a ks led:=by
 obtain⟨o,es,ep,t,ho,h1,h2,h3,h4⟩:=x;exact⟨o,es,ep,t,k o ho,h1,h2,h3,h4.stays kk⟩
def OG{h h':Heap}{I S ax b:Addr}{n:Nat}{k}(hi:h.IsListIter I ax n)(kk:∀c o,¬c∈[I]->h.get? c=some o->h'.get? c=some o)(x:(eV prog w).is h k b):(eV prog w).is h' k b:=by
 obtain⟨h1,h2,as,r⟩:=x;refine⟨h1,h2,as,oW (λc o vs m e ed=>kk c o (λz=>?_) e) r h1⟩;rw[aZ]at z;subst z;obtain⟨o',a1,a2,a3⟩:=hi;rw[a1]at e;cases e;rw[a3]at ed;cases ed
def QK{R:Result->Shared->Prop}{I ax:Addr}(S:Addr)(hS1:S≠I)(hS2:S≠ax)(hax:ax≠I)(hh:A.handled=none)(hu:A.units+9<cLine){its:List Value}{ks:List PyData}{led:Bool}{h0:Heap}(hys:MP prog w h0 its ks)(hb:ks.length<300) :
  ∀(k i:Nat)(s:Shared),its.length-i=k->i<=its.length->s.heap.IsListIter I ax i->s.heap.IsList ax its.toArray->(∀b o,h0.get? b=some o->s.heap.get? b=some o)->(∀b o,h0.get? b=some o->b≠S/\b≠I)->(∃m,CS prog w s.heap S m led/\DdK m (ks.take i)) ->
   (∀h' tk,(∀b o,b≠S->b≠I->s.heap.get? b=some o->h'.get? b=some o)->(∃m,CS prog w h' S m led/\DdK m ks)->R (.ok (.ret .none)) { s with heap:=h',toks:=tk }) ->
   codeAny (model prog w) A (.builtin "set.update.loop" ⟨[.ref S,.ref I],[]⟩) R s:=by
 have hlen:its.length=ks.length:=Paired.length hys;intro k
 induction k with
 |zero=>
  intro i s hk hi h1 h2 hon hne h3 hR;obtain rfl:i=its.length:=by omega
  refine codeAny_builtin PyProof.Rows.F.entry_set_update_loop ?_;rw[Around.under_plainId PyProof.Rows.F.plain_set_update_loop _];show wpAny _ A.in1 (pyNext (.ref I) >>= _) _ _ s;refine aA ((Walks.list (prog:=prog) (w:=w) (A:=A.in1) hh I ax hax its.toArray).done s _ _ (by rw[bF];exact⟨h1,h2⟩) λh' tk kk=>?_);show wpAny _ A.in1 (ret Value.none) _ _ _;refine aE (hR h' tk (λb o _ hb e=>kk b o (by simpa using hb) e) ?_);rw[fW (by omega)]at h3;obtain⟨m,hm,hdd⟩:=h3;exact⟨m,hm.at (λo e=>kk S o (by simpa using hS1) e) λc b=>OG (S:=S) h1 λc o hc e=>kk c o (by simpa using hc) e,hdd⟩
 |succ k ih=>
  intro i s hk hi h1 h2 hon hne h3 hR;have hlt:i<its.length:=by omega
  refine codeAny_builtin PyProof.Rows.F.entry_set_update_loop ?_;rw[Around.under_plainId PyProof.Rows.F.plain_set_update_loop _];show wpAny _ A.in1 (pyNext (.ref I) >>= _) _ _ s;refine aA ((Walks.list (prog:=prog) (w:=w) (A:=A.in1) hh I ax hax its.toArray).item i s _ _ (by rw[bF];exact hlt) ⟨h1,h2⟩ λv h' tk hP st' kk=>?_);have hv:its[i]?=some v:=by simpa using hP
  obtain⟨kx,hkx,bx,rfl,hx0⟩:=N1 hys hv;have on':∀b o,h0.get? b=some o->h'.get? b=some o:=λb o e=>kk b o (by simpa using(hne b o e).2) (hon b o e);have hx:=aFh on' hx0;obtain⟨m0,h3,hdd⟩:=h3;have h3':CS prog w h' S m0 led:=h3.at (λo e=>kk S o (by simpa using hS1) e) λc b=>OG (S:=S) h1 λc o hc e=>kk c o (by simpa using hc) e;show wpAny _ A.in1 (holding [Value.ref bx] (setAdd S (.ref bx)) >>= _) _ _ _;refine aA (wpAny_holding ?_);unfold setAdd;have hu1:A.in1.units+8<cLine:=by show A.units+1+8<_;omega
  refine wpAny_holding (aA ((eV prog w).pyHash hu1 hx ?_));refine UY (s:={ s with heap:=h',toks:=tk+oC kx }) hu1 h3' hx (by have:=hdd.2.1;rw[bC]at this;omega) λh2' _ m1 hsb hS2' hin hout=>?_;have h3n:∃m,CS prog w h2' S m led/\DdK m (ks.take (i+1)):=⟨m1,hS2',by rw[cP,hkx];exact hdd.add hin hout⟩;refine aE ⟨plainId_quiet PyProof.Rows.F.plain_set_update_loop _,ih (i+1) _ (by omega) hlt (st'.1.at λo e=>(hsb.2 I (Ne.symm hS1)).trans e) (st'.2.at λo e=>(hsb.2 ax (Ne.symm hS2)).trans e) (λb o e=>(hsb.2 b (hne b o e).1).trans (on' b o e)) hne h3n λh4 tk4 kk4 h5=>?_⟩;exact hR h4 tk4 (λb o hb1 hb2 e=>kk4 b o hb1 hb2 ((hsb.2 b hb1).trans (kk b o (by simpa using hb2) e))) h5
end
section
variable{X:Cx}
set_option maxHeartbeats 3200000 in
def DB{prog w}{A:Around}{E:Value->Shared->Prop}{s:Shared}{l:Addr}{its:List Value}{ks:List PyData}{Q:Value->Shared->Prop}
  (hh:A.handled=none) (hl:s.heap.IsList l its.toArray) (hu:A.units+20<cLine) (hys:MP prog w s.heap its ks) (hb:ks.length<300)
  (h:∀(h':Heap)(tk:Nat),(∃m led,CS prog w h' s.heap.objs.size m led/\DdK m ks)->(∀b o,s.heap.get? b=some o->h'.get? b=some o)->Q (.ref s.heap.objs.size) { s with heap:=h',toks:=tk }) :
  wpAny (model prog w) A (call (.type "set") [.ref l]) Q E s:=by
 obtain⟨c0,tl0,hm0⟩:=dO.mro;have hmk:=dO.made;have hsb0:=dO.sub;refine wpAny_call (codeAny_of_tree ?_);show wpAny _ _ (callAny (.type "set") _) _ _ _;refine aE ⟨Code.quiet_builtin _ (by decide +kernel),codeAny_builtin FG ?_⟩;rw[Around.under_plain (weight_type_call_type "set" [.ref l] []) rfl];have k1:=dO.notType;have k2:=dO.canCreate;have k3:=G5 (.ref l)
 repeat (any_goals (first | assumption | wp_step))
 refine codeAny_mono (code_set_new_1 (.ref l) (E:=E) (Q₁:=λobj s1=>∃led:Bool,obj=.ref s.heap.objs.size/\s1={ s with heap:=s.heap.push { cls:=.type "set",dict:=none,data:=.set #[] 0 (.fresh 0 0 led) } }) λled=>⟨led,rfl,rfl⟩) λr s1 hr=>?_
 cases r with
 |error e=>exact hr
 |ok fl=>
  cases fl with
  |ret obj=>
   obtain⟨led,rfl,rfl⟩:=hr;have gS:(s.heap.push { cls:=.type "set",dict:=none,data:=.set #[] 0 (.fresh 0 0 led) }).get? s.heap.objs.size=some { cls:=.type "set",dict:=none,data:=.set #[] 0 (.fresh 0 0 led) }:=aS _ rfl;have tS:Shared.TypeIs { s with heap:=s.heap.push { cls:=.type "set",dict:=none,data:=.set #[] 0 (.fresh 0 0 led) } } (.ref s.heap.objs.size) "set":=⟨_,gS,rfl⟩;have k4:=dO.init.lookup;have k5:=dO.init.bind (.ref s.heap.objs.size)
   repeat (any_goals (first | assumption | wp_step))
   refine codeAny_mono (codeAny_call_builtin (R:=wants (λr s2=>r=.none/\∃h' tk,s2={ s with heap:=h',toks:=tk }/\(∃m led,CS prog w h' s.heap.objs.size m led/\DdK m ks)/\(∀b o,s.heap.get? b=some o->h'.get? b=some o)) E) dO.init.plain G7 (check_set_init_1 tS ?_)) λr2 s2 hr2=>?_
   ·obtain⟨⟨ocls,odict,odata,oslots⟩,hol,hcl,nl,hdl⟩:=hl;simp only at hcl hdl;subst hcl;subst hdl;have gl:(s.heap.push { cls:=.type "set",dict:=none,data:=.set #[] 0 (.fresh 0 0 led) }).get? l=some { cls:=.type "list",dict:=odict,data:=.seq its.toArray nl,slots:=oslots }:=aJ _ hol;have k6:=PySem.F.sub_list_set;have k7:=PySem.F.sub_list_frozenset;have k8:(Value.type "list"==Value.type "dict")=false:=by decide
    have tl1:(s.heap.push { cls:=.type "set",dict:=none,data:=.set #[] 0 (.fresh 0 0 led) }).IsList l its.toArray:=⟨_,gl,rfl,nl,rfl⟩;unfold Builtin.«set.__init__» noKeywords Builtin.Frozenset.updateFrom
    generalize hPI:pyIter=PI
    wp_walk
    subst hPI;refine wpAny_pyIter_list tl1 (aA (wpAny_runValue ?_));have lS:l<s.heap.objs.size:=bI hol;have h3:A.in1.in1.handled=none:=by simp[hh]
    refine QK (led:=led) s.heap.objs.size ?_ (gY lS) ?_ h3 (by show A.units+1+1+9<_;omega) hys hb its.length 0 _ (by omega) (cL _) ?_ ?_ ?_ ?_ ?_ λh' tk kk hD=>?_
    ·show s.heap.objs.size≠(s.heap.push _).objs.size;rw[eO];exact bO (eI _)
    ·show l≠(s.heap.push _).objs.size;rw[eO];exact bO (eJ lS)
    ·exact⟨_,aS _ rfl,rfl,rfl⟩
    ·exact tl1.at λo e=>aJ _ e
    ·exactλb o e=>aJ _ (aJ _ e)
    ·refineλb o e=>⟨bO (bI e),?_⟩
     show b≠(s.heap.push _).objs.size;rw[eO];exact bO (eJ (bI e))
    ·exact⟨[],⟨_,#[],0,_,aJ _ gS,⟨rfl,rfl,rfl⟩,rfl,RS.new led,.nil⟩,.nil,cL _,(λz=>Iff.rfl),⟨λ_=>.nil,λ_=>rfl⟩⟩
    ·show wpAny _ _ _ _ _ _;refine aE ?_;show wpAny _ _ (ret Value.none) _ _ _;refine aE ⟨rfl,h',tk,rfl,(let ⟨m,h1,h2⟩:=hD;⟨m,led,h1,h2⟩),λb o e=>kk b o (bO (bI e)) ?_ (aJ _ (aJ _ e))⟩;show b≠(s.heap.push _).objs.size;rw[eO];exact bO (eJ (bI e))
   ·cases r2 with
    |error e=>exact hr2
    |ok fl2=>
     cases fl2 with
     |ret r=>
      obtain⟨rfl,h',tk,rfl,hD,kk⟩:=hr2
      repeat (any_goals (first | assumption | wp_step))
      exact h _ _ hD kk
     |_=>exact hr2.elim
  |_=>exact hr.elim
noncomputable def aAk(q:Addr)(n:Nat):HO:=.ext λh=>∃o es ep t,h.get? q=some o/\o.ExactSet/\o.data=.set es ep t/\t.fits es.size=true/\es.size=n/\n<300
def aCn(X:Cx)(xs:List V)(H:Hp)(Q:VK):Prop:=∃(p:Addr)(ks:List D)(as:List Addr),xs=[.ref p]/\mZ X.K H p (as.map V.ref)/\Reps X.K H ks (as.map V.ref)/\(∀k∈ks,mT k)/\ks.length<300/\∀(q:Addr)(n:Nat),H q=none->(n=ks.length↔ks.Nodup)->n<=ks.length->Q (.ref q) (gO H q (aAk q n))
def X4{as:List Addr}:∀{its},fS (as.map V.ref) its->its=as.map Value.ref:=by
 induction as with
 |nil=>intro its h;cases h;rfl
 |cons a as ih=>
  intro its h
  cases h with
  |cons r t=>
   cases r;rw[ih t];rfl
theorem OB{prog w h}:∀{ks}{as:List Addr},Paired (λk a=>(eV prog w).is h k a) ks as->MP prog w h (as.map Value.ref) ks
|_,_,.nil=>.nil
|_,_,.cons r t=>.cons ⟨_,rfl,r⟩ (OB t)
def GP(hc:X.calm=true)(hu:X.A.units+20<cLine):jE X (.type "set") (aCn X):=by
 intro pins s σ H xs us Q I r h;obtain⟨p,ks,as,rfl,hq,hr,hk,hz,q⟩:=h;obtain⟨u,rfl,rx⟩:=nM r;cases rx;obtain⟨its,rv,pl,_⟩:=I.list hq;have e:=X4 rv;subst e;refine DB (I.ok.hd hc) pl.isList hu (OB (F8 I hr hk)) hz λh' tk hD kk=>?_;obtain⟨m,led,hS,hd⟩:=hD;obtain⟨o,es,ep,t,ho,hex,hdd,hT,hE⟩:=hS;refine⟨.ref _,_,I.laid kk (aO _) (show iN X.prog X.w _ h' _ (aAk s.heap.objs.size m.length)from⟨⟨o,es,ep,t,ho,hex,hdd,hT.fits,by rw[<- aP];exact hE.len,zG hd.2.1 hz⟩,⟨o,ho⟩,?_⟩),rfl,q _ m.length (I.hok.fresh (aO _)) hd.2.2.2 hd.2.1⟩;rintro h1 h2 ⟨o,es,ep,t,ho,fT⟩ k;exact⟨o,es,ep,t,k o ho,fT⟩
def DD:jE X (.builtin "len") (λxs H Q=>∃(q:Addr)(n:Nat),xs=[.ref q]/\H q=some (aAk q n)/\Q (.int n) H):=by
 intro pins s σ H xs us Q I r h;obtain⟨q,n,rfl,hq,hQ⟩:=h;obtain⟨u,rfl,rx⟩:=nM r;cases rx;obtain⟨⟨o,es,ep,t,ho,hex,hd,hf,hn,h300⟩,_⟩:=I.hok q _ hq;subst hn;refine call_len_set ho hex hd hf ?_ ⟨.int _,H,I.tok _,⟨_,rfl⟩,hQ⟩;omega
end
end L2
namespace TL
open L2
section
variable{X:Cx}{e:Expr}{te:ET}{pos:Pos}
theorem D4{K H}:∀{ks vs},Reps K H ks vs->(∀k∈ks,∃xs,k=.tuple xs)->∃as:List Addr,vs=as.map V.ref
|_,_,.nil,_=>⟨[],rfl⟩
|_,_,.cons r t,h=>by
 obtain⟨as,rfl⟩:=D4 t λk hk=>h k (aM _ hk);obtain⟨xs,rfl⟩:=h _ (aR ..)
 cases r with
 |tuple q _=>exact⟨_::as,rfl⟩
def JO(te:ET):ET:=λσ Q=>te σ λd=>∃ks:List D,d=.list ks/\(∀k∈ks,DH k)/\ks.length<300/\∀n:Nat,(n=ks.length↔ks.Nodup)->n<=ks.length->Q (.int n)
def L7{g1 g2 p2}(he:hW X e te)(hs:bN [e] X.env=(false,eval e X.env)::bN [] X.env:=by rfl)
  (pc:∀{v},PA X [e] (pR v yB)->PE X (.Call g1 [.Call g2 [e] [] p2] [] pos) (M6 (λxs H Q=>∃(q:Addr)(n:Nat),xs=[.ref q]/\H q=some (aAk q n)/\Q (.int n) H) (pR (M6 (aCn X) (pR v yB)) yB))) :
  hW X (.Call g1 [.Call g2 [e] [] p2] [] pos) (JO te):=by
 obtain⟨v,pe,re⟩:=he;refine⟨_,pc (fY pe jG hs),λB p0 H ps σT σ Q QV o h k=>re B p0 H ps σT σ _ _ o h λd x H1 s1 r1 q1=>?_⟩;obtain⟨ks,rfl,hk,hz,q⟩:=q1
 cases r1 with
 |list hq s=>
  obtain⟨as,rfl⟩:=D4 s λk hk'=>(hk k hk').2;exact⟨_,ks,as,rfl,L2.bJ.seq bS hq,s.same bS,λk hk'=>(hk k hk').1,hz,λw n hw h1 h2=>⟨w,_,rfl,dG,k _ _ _ (s1.trans (dN hw)) (.int _) (q n h1 h2)⟩⟩
end
end TL
namespace L2
open TL
section
variable{X:Cx}{o e:Expr}{to te:TE}{apos cpos:Pos}
def DE{prog w}{A:Around}{E:Value->Shared->Prop}{s:Shared}{d a:Addr}{k xs}{Q:Value->Shared->Prop}(hu:A.units+9<cLine)(hkey:(eV prog w).is s.heap k a)(hd:(d==sysModules)=false)(hm:s.heap.DictOfH (eV prog w) d xs)
  (h:Q (((atKey xs k).map (·.2)).getD .none) { s with toks:=s.toks+oC k }):wpAny (model prog w) A (call (.builtin "dict.get") [.ref d,.ref a]) Q E s:=by
 refine dB HB hm.typeIs PySem.F.entry_dict_get ?_ (PySem.F.args_dict_get_2 _ _);show wpAny _ _ (dictGet d (.ref a) >>= _) _ _ s;refine aA (wpAny_dictGet_heap (show A.units+1+8<cLine by omega) hkey hm ?_)
 cases hf:atKey xs k with
 |some p=>
  rw[hf]at h;exact aE ⟨p.2,rfl,h⟩
 |none=>
  rw[hf]at h;show wpAny _ _ (Builtin.Dict.missed d (.ref a) >>= _) _ _ _;exact aA (wpAny_missed_other hd (aE ⟨.none,rfl,h⟩))
def K5(X:Cx)(x y:V)(H:Hp)(Q:VK):Prop:=∃(p a:Addr)(es:List (Int×Addr×V))(ks:List D)(k:D),x=.ref p/\y=.ref a/\RU H p es/\DK X.K X.w H es ks/\gG X.K H k y/\mT k/\(k∉ks->Q .non H)/\∀(i:Nat)(e:Int×Addr×V),ks[i]?=some k->es[i]?=some e->Q e.2.2 H
def T2(hu:X.A.units+9<cLine)(ho:PE X o to)(he:PE X e te)(hbase:attributeBase o "get" X.env (eval o X.env)=eval o X.env:=by rfl)
  (hfew:((backTo cpos (bN [e] X.env)).all (λx=>!x.1)&&(backToKw cpos (keywordEach [] X.env)).all (λx=>x.1.isSome)&&decide ([e].length+([]:List Keyword).length+(if([]:List Keyword).isEmpty then 0 else 1)<30))=true:=by rfl)
  (hline:(apos.endLine==cpos.line)=true:=by rfl) (hs:bN [e] X.env=(false,eval e X.env)::bN [] X.env:=by rfl) (hplain:(backTo cpos (bN [] X.env)).any (·.1)=false:=by rfl) :
  PE X (.Call (.Attribute o "get" apos) [e] [] cpos) (λσ H Q=>to σ H λx H1=>(∃p es,x=.ref p/\RU H1 p es)/\te σ H1 λy H2=>K5 X x y H2 Q):=by
 intro pins s σ H Q I h;refine wpAny_Call_method_late hbase hfew hline rfl (jO (ho pins s σ H _ I h) λv s1 zq=>?_);obtain⟨x,H1,I1,r1,⟨p,es,ex,hp⟩,q1⟩:=zq;subst ex;obtain rfl:v=Value.ref p:=r1;obtain⟨_,_,ob,ds,ep,h3,h4,_⟩:=RU.at I1 hp;refine⟨"dict","dict.get",PySem.F.plainAttrs_dict,HB,PySem.F.type_dict_get,M1 I1 hp,λa e=>by cases e;exact⟨ob,h3,h4.2.1⟩,?_⟩;have hA:=(fY he jG hs) cpos pins s1 σ H1 (λxs H2=>match xs with | [y]=>K5 X (.ref p) y H2 Q | _=>False) I1 q1;rw[hs]at hA |-
 refine Calls.callWith_builtin (by show(false||(backTo cpos (bN [] X.env)).any (·.1))=false;rw[hplain]<;>rfl) (Calls.evalArgs_plain ?_);refine jO hA λus s2 zq=>?_;obtain⟨vs,H2,I2,r2,q3⟩:=zq
 match vs,q3,r2 with
 |[y],q3,r2=>
 obtain⟨p',a,es2,ks,k,ep1,rfl,hp2,dk,rk,ok,q0,q2⟩:=q3;cases ep1;obtain⟨u,rfl,ru⟩:=nM r2;cases ru;obtain⟨h1,h2,xs,x1,x2⟩:=CD I2 hp2 dk;refine DE hu (yK I2 rk ok) h1 x2 ?_;by_cases hk':k∈ks
 ·obtain⟨i,hi⟩:=bV hk'
  have hl:i<es2.length:=by
   have:=congrArg iL dk.hs;rw[aB,aB]at this;have:=(aG.mp hi).1;omega
  have he':es2[i]?=some es2[i]:=aF hl;obtain⟨v,v1,v2⟩:=VM x1 dk.nd hi he';rw[v1];exact⟨_,H2,I2.tok _,v2,q2 i _ hi he'⟩
 ·have:=L5 x1 k;rw[decide_eq_false hk']at this;rw[show atKey xs k=none by cases h:atKey xs k with | none=>rfl | some _=>rw[h]at this;cases this];exact⟨.non,H2,I2.tok _,rfl,q0 hk'⟩
end
end L2
namespace TL
open L2
section
variable{X:Cx}{a b e:Expr}{ta tb:ET}{pos ap:Pos}
def aFr(w:World)(d k:D)(Q:D->Prop):Prop:=∃kvs,d=nH w kvs/\DH k/\(∀kv∈kvs,mT kv.1)/\(k∉kvs.map (·.1)->Q .none)/\∀v,(k,v)∈kvs->Q v
def aFx(w:World)(ta tb:ET):ET:=λσ Q=>ta σ λd=>(∃kvs,d=nH w kvs)/\tb σ λk=>aFr w d k Q
def VP(ha:hW X a ta)(hb:hW X b tb)(pc:∀{va vb:TE},PE X a va->PE X b vb->PE X (.Call (.Attribute a "get" ap) [b] [] pos) (λσ H Q=>va σ H λx H1=>(∃p es,x=.ref p/\RU H1 p es)/\vb σ H1 λy H2=>K5 X x y H2 Q)):hW X (.Call (.Attribute a "get" ap) [b] [] pos) (aFx X.w ta tb):=by
 obtain⟨va,pa,ra⟩:=ha;obtain⟨vb,pb,rb⟩:=hb;refine⟨_,pc pa pb,λB p0 H ps σT σ Q QV o h k=>ra B p0 H ps σT σ _ _ o h λd x H1 s1 r1 q1=>?_⟩;obtain⟨⟨kvs,rfl⟩,q1⟩:=q1;obtain⟨p,es,ep,rfl,h1,h2,h3,h4,h5⟩:=wP r1;refine⟨⟨p,es,rfl,.inr ⟨ep,bS _ _ h1⟩⟩,rb B p0 H1 ps σT σ _ _ (o.grow s1) q1 λkd y H2 s2 r2 q2=>?_⟩;obtain⟨kvs',e,⟨kok,ys,rfl⟩,hok,q0,q⟩:=q2;obtain⟨p',es',ep',ee,g1,g2,g3,g4,g5⟩:=wP (e▸r1);cases ee;obtain⟨c,rfl⟩:=kN r2;have hm:=bQ (ps:=ps) s2;refine⟨p,c,es',kvs'.map (·.1),_,rfl,rfl,.inr ⟨ep',bS _ _ (hm _ _ g1)⟩,((nG (w:=X.w) g2 g3 hok (g4.same hm))).same bS,r2.same bS,kok,λhn=>k _ _ H2 (s1.trans s2) .none (q0 hn),λi en hi he=>?_⟩;rw[aI]at hi;obtain⟨kv,hkv,ek⟩:=bT.mp hi;obtain⟨en',e1,e2⟩:=(g5.same hm).two hkv;rw[he]at e1;cases e1;exact k _ _ H2 (s1.trans s2) e2 (q _ (by rw[<- ek];exact aW hkv))
end
section
variable{X:Cx}{n e e1 e2:Expr}{te t1 t2:ET}{pos:Pos}
def aKg(i:Nat)(te:EC)(t2:ET):zA:=λτ DC n σ=>∃ts,σ[i]?=some (.own ts)/\te τ n σ λn1 x=>t2 σ λd=>∃k:Nat,x=.int (k:Int)/\k<=ts.length/\ts.length<100000/\DC.nx n1 (σ.set i (.own (ts.take k++d::ts.drop k)))
def XW{i:Nat}{m te t2 ap cp}(he:qZ X e1 te)(h2':hW X e2 t2)(hs:bN [e1,e2] X.env=(false,eval e1 X.env)::bN [e2] X.env:=by rfl)(hs2:bN [e2] X.env=(false,eval e2 X.env)::bN [] X.env:=by rfl)
  (pb:∀{ta},PA X [e1,e2] ta->PS X (.Expr (.Call (.Attribute m "insert" ap) [e1,e2] [] cp) pos) (HN (XF X.K "list" NR (pL i) ta))):O1 X (.Expr (.Call (.Attribute m "insert" ap) [e1,e2] [] cp) pos) (aKg i te t2):=by
 obtain⟨v,p,r⟩:=he;obtain⟨v2,p2,r2⟩:=h2';refine⟨_,pb (fY p (fY p2 jG hs2) hs),λB p0 H ps σT σ T n DC DV o h f=>?_⟩;obtain⟨ts,e,h⟩:=h;obtain⟨q,xs,h1,h2,h3,h4,h5,h6⟩:=o.ok.own i ts e;refine⟨.ref q,h1,.inl ⟨rfl,xs,mZ.of h5⟩,r B p0 H ps σT σ T n _ _ o h λn1 d x H1 s1 t1 r1 q1=>?_⟩;have ne:q≠T.p:=λz=>h4 (z▸o.mem);have o1:=o.growX s1 t1;refine r2 B p0 H1 ps σT σ _ _ o1.ok q1 λd2 x2 H2 s2 g2 q2=>?_;obtain⟨k,rfl,hk,hz,q2⟩:=q2;cases r1;have o2:=o1.grow s2;have hl:=h6.length;refine⟨q,xs,k,x2,rfl,rfl,s2 _ _ (s1 _ _ ne h5),by omega,by omega,?_⟩;have sm:=(s1.mask o.mem').trans (bQ s2);have hr:Reps X.K (mask H2 ps) (ts.take k++d2::ts.drop k) (xs.take k++x2::xs.drop k):=(D1 (h6.same sm) k).append (.cons g2 (D3 (h6.same sm) k));exact f.nx _ ps _ σ n1 (o2.write (ys:=xs.take k++x2::xs.drop k) e h1 hr) (sm.trans (by rw[gR h2];exact L2.bJ.refl _)) q2
end
end TL
namespace L2
open AutoSeq1 (wpAny_loadPart')
namespace Rv
def owner:Manifest.owners.lookup (String.ofList ['d','e','s','r','e','v','e','r'].reverse)=some Manifest.sig_reversed:=by kernel_rfl
def slot_next:Slot "reversed" "__next__" "reversed.__next__":=
 .of (owner:="reversed") (n:="__next__") (by rw[typeLookup_type,builtinLookup_eq_fast];kernel_rfl) (by decide +kernel) (by decide +kernel) (by decide +kernel)
  (by first | exact .inl (by decide +kernel) | exact .inr (by decide +kernel)) (by rw[isSubtype_type];kernel_rfl)
def entry_next:entryFor table "reversed.__next__"=some Builtin.«reversed.__next__»:=entryFor_of_tree (by kernel_rfl)
def slot_iter:Slot "reversed" "__iter__" "reversed.__iter__":=
 .of (owner:="reversed") (n:="__iter__") (by rw[typeLookup_type,builtinLookup_eq_fast];kernel_rfl) (by decide +kernel) (by decide +kernel) (by decide +kernel)
  (by first | exact .inl (by decide +kernel) | exact .inr (by decide +kernel)) (by rw[isSubtype_type];kernel_rfl)
def entry_iter:entryFor table "reversed.__iter__"=some Builtin.«dict_keyiterator.__iter__»:=
 entryFor_alias (id':="dict_keyiterator.__iter__") (by kernel_rfl) (by first | rfl | decide +kernel | (unfold String.splitOn;simp +decide [String.splitOnAux])) (by decide +kernel) (by kernel_rfl)
def slot_hint:Slot "reversed" "__length_hint__" "reversed.__length_hint__":=
 .of (owner:="reversed") (n:="__length_hint__") (by rw[typeLookup_type,builtinLookup_eq_fast];kernel_rfl) (by decide +kernel) (by decide +kernel) (by decide +kernel)
  (by first | exact .inl (by decide +kernel) | exact .inr (by decide +kernel)) (by rw[isSubtype_type];kernel_rfl)
def entry_hint:entryFor table "reversed.__length_hint__"=some Builtin.«reversed.__length_hint__»:=entryFor_of_tree (by kernel_rfl)
def args_next(a:Value):argsOk "reversed.__next__" ⟨[a],[]⟩:=by
 unfold argsOk;rw[signature?_of (id:="reversed.__next__") (n:=['_','_','t','x','e','n','_','_']) (o:=['d','e','s','r','e','v','e','r']) (by kernel_rfl) owner];kernel_rfl
def args_iter(a:Value):argsOk "reversed.__iter__" ⟨[a],[]⟩:=by
 unfold argsOk;rw[signature?_of (id:="reversed.__iter__") (n:=['_','_','r','e','t','i','_','_']) (o:=['d','e','s','r','e','v','e','r']) (by kernel_rfl) owner];kernel_rfl
def args_hint(a:Value):argsOk "reversed.__length_hint__" ⟨[a],[]⟩:=by
 unfold argsOk;rw[signature?_of (id:="reversed.__length_hint__") (n:=['_','_','t','n','i','h','_','h','t','g','n','e','l','_','_']) (o:=['d','e','s','r','e','v','e','r']) (by kernel_rfl) owner];kernel_rfl
def no_len:typeLookup (.type "reversed") "__len__"=pure none:=by rw[typeLookup_type,builtinLookup_eq_fast];kernel_rfl
def no_rev:typeLookup (.type "tuple") "__reversed__"=pure none:=by rw[typeLookup_type,builtinLookup_eq_fast];kernel_rfl
def PN:Slot "reversed" "__init__" "object.__init__":=
 .of (owner:="object") (n:="__init__") (by rw[typeLookup_type,builtinLookup_eq_fast];kernel_rfl) (by decide +kernel) (by decide +kernel) (by decide +kernel)
  (by first | exact .inl (by decide +kernel) | exact .inr (by decide +kernel)) (by rw[isSubtype_type];kernel_rfl)
def called:TypeCalled "reversed" "reversed.__new__" "object.__init__":=
 ⟨by decide +kernel,F.create_reversed,⟨_,_,F.mro_reversed⟩,F.made_reversed,by decide +kernel,F.sub_reversed_self,PN⟩
def tup_dict:isSubtype (.type "tuple") (.type "dict")=pure false:=by rw[isSubtype_type];kernel_rfl
end Rv
section
variable{prog:bX}{w:World}{A:Around}{E:Value->Shared->Prop}{s:Shared}{l I:Addr}{items:Array Value}
def xP(h:Heap)(a:Addr)(x:Value)(i:Int):Prop:=∃o,h.get? a=some o/\o.cls=.type "reversed"/\o.data=.fields #[x,rawInt i]
def xP.typeIs{a:Addr}{x}{i:Int}(r:xP s.heap a x i):s.TypeIs (.ref a) "reversed":=let ⟨o,ho,hc,_⟩:=r;⟨o,ho,hc⟩
def xP.at{h h':Heap}{a:Addr}{x}{i:Int}(r:xP h a x i)(e:∀o,h.get? a=some o->h'.get? a=some o):xP h' a x i:=let ⟨o,ho,r⟩:=r;⟨o,e _ ho,r⟩
def QH(l:Addr)(items:Array Value):Meets (Builtin.«reversed.__new__» ⟨[.type "reversed",.ref l],[]⟩)
  (λA R s=>IsTup s.heap l items/\items.size<=1000/\∀tk,R (.ok (.ret (.ref s.heap.objs.size))) { s with heap:=s.heap.push { cls:=.type "reversed",data:=.fields #[.ref l,rawInt ((items.size:Int)-1)] },toks:=tk }):=
 .of_wp λprog w A R s h=>by
 obtain⟨hl,hz,h⟩:=h;unfold Builtin.«reversed.__new__»;refine aA (wpAny_of_eq (newClass_reversed _) ?_)
 try dsimp only
 refine aA (wpAny_of_eq (a:=()) (by first | rfl | kernel_rfl) ?_);refine aA (wpAny_of_eq (a:=()) (by first | rfl | kernel_rfl) ?_)
 try dsimp only
 refine aA (wpAny_specialOf hl.typeIs Rv.no_rev ?_)
 try dsimp only
 refine aA (gT (Q:=λb s'=>b=true/\s'=s) ?_ ?_ λ_ _ z=>z)
 ·show wpAny _ _ (isInstance (.ref l) (.type "dict") >>= _) _ _ _;refine aA (wpAny_isInstance hl.typeIs Rv.tup_dict ?_);rw[if_neg bE];refine aA (wpAny_specialOf hl.typeIs slot_tuple_getitem.lookup ?_);dsimp only;rw[if_pos (by decide +kernel)];exact aE ⟨rfl,rfl⟩
 ·rintro b s' ⟨rfl,rfl⟩;rw[if_neg (by decide)];refine aA (len_tuple hl (by omega) ?_);refine aA (wpAny_of_eq (a:=some (items.size:Int)) rfl ?_);dsimp only;show wpAny _ _ (newObj (.type "reversed") (.fields #[.ref l,rawInt ((items.size:Int)-1)]) >>= λv=>ret v) _ _ _;exact aA (cR (aE ⟨_,rfl,h _⟩))
def UF{i:Nat}{x}{Q:Option Value->Shared->Prop}(hit:xP s.heap I (.ref l) (i:Int))(hl:IsTup s.heap l items)(hz:items.size<=1000)(hx:items[i]?=some x)
  (hQ:∀h' tk,xP h' I (.ref l) ((i:Int)-1)->cV I s.heap h'->Q (some x) { s with heap:=h',toks:=tk }):wpAny (model prog w) A (pyNext (.ref I)) Q E s:=by
 obtain⟨o,ho,hc,hd⟩:=id hit;have hi:i<items.size:=(fU.mp hx).1
 have hsi:seqIndex? (i:Int) items.size=some i:=by
  have hn:¬((i:Int)<0):=by omega
  unfold seqIndex?;simp[hn,hi]
 unfold pyNext;refine aA (wpAny_attempt (wpAny_callSpecial?_slot (name:=Str.ofString "__next__") hit.typeIs Rv.slot_next (dB Rv.slot_next hit.typeIs Rv.entry_next ?_ (Rv.args_next _))));unfold Builtin.«reversed.__next__»;refine aA (wpAny_of_eq (a:=(Value.ref I,[])) rfl ?_)
 try dsimp only
 refine aA (wpAny_field ho hd (x:=.ref l) rfl ?_);refine aA (wpAny_field ho hd (x:=rawInt (i:Int)) rfl ?_);show wpAny _ _ (if(i:Int)<0 then _ else _) _ _ s;rw[if_neg (by omega)];refine aA (wpAny_specialOf hl.typeIs slot_tuple_getitem.lookup ?_);rw[if_neg (by decide)];refine aA (wpAny_mkInt ?_);refine aA (wpAny_attempt (getItem_tuple (j:=i) (x:=x) hl (by omega) (by omega) hsi hx ?_));dsimp only;refine aA (wpAny_field (s:={ s with toks:=s.toks+1 }) ho hd (x:=rawInt (i:Int)) rfl ?_);show wpAny _ _ (setField (.ref I) 1 (rawInt ((i:Int)-1)) >>= λ_=>ret x) _ _ _;refine aA (wpAny_setField (s:={ s with toks:=s.toks+1 }) ho hd (by simp) (aE ⟨x,rfl,aE (hQ _ _ ?_ (cV.update ..))⟩));exact⟨_,dM _ ho (Obj.isFreed_of_fields (Obj.data_mapFields hd _)),(Obj.cls_mapFields ..).trans hc,by rw[Obj.data_mapFields hd];simp⟩
end
end L2
namespace L2
open AutoSeq1 (wpAny_loadPart')
section
variable{prog:bX}{w:World}{A:Around}{E:Value->Shared->Prop}{s:Shared}{l I:Addr}{items:Array Value}
def ZP{Q:Option Value->Shared->Prop}(hh:A.handled=none)(hit:xP s.heap I (.ref l) (-1))(hQ:∀h',vK I s.heap h'->(∃o,h'.get? I=some o)->Q none { s with heap:=h' }):wpAny (model prog w) A (pyNext (.ref I)) Q E s:=by
 obtain⟨o,ho,hc,hd⟩:=id hit;unfold pyNext;refine aA (wpAny_attempt (wpAny_callSpecial?_slot (name:=Str.ofString "__next__") hit.typeIs Rv.slot_next (dB Rv.slot_next hit.typeIs Rv.entry_next ?_ (Rv.args_next _))));unfold Builtin.«reversed.__next__»;refine aA (wpAny_of_eq (a:=(Value.ref I,[])) rfl ?_)
 try dsimp only
 refine aA (wpAny_field ho hd (x:=.ref l) rfl ?_);refine aA (wpAny_field ho hd (x:=rawInt (-1)) rfl ?_);show wpAny _ _ (if(-1:Int)<0 then _ else _) _ _ s;rw[if_pos (by decide)];refine aA (wpAny_rule ?_);refine aA ?_;show wpAny _ _ (setField (.ref I) 1 (rawInt (-1)) >>= λ_=>setField (.ref I) 0 .none) _ _ _;refine aA (wpAny_setField ho hd (by simp) ?_);have g1:=dM (Obj.mapFields (·.setIfInBounds 1 (rawInt (-1)))) ho (Obj.isFreed_of_fields (Obj.data_mapFields hd _));have d1:=Obj.data_mapFields hd (·.setIfInBounds 1 (rawInt (-1)));refine wpAny_setField g1 d1 (by simp) ?_;have g2:=dM (Obj.mapFields (·.setIfInBounds 0 .none)) g1 (Obj.isFreed_of_fields (Obj.data_mapFields d1 _));have x1:vK I s.heap ((s.heap.update I (Obj.mapFields (·.setIfInBounds 1 (rawInt (-1))))).update I (Obj.mapFields (·.setIfInBounds 0 .none))):=((cV.update ..).trans (cV.update ..)).extBut
 first
 |show wpAny _ _ (newExc (.type "StopIteration") [] >>= _) _ _ _
 | (refine aA ?_;show wpAny _ _ (newExc (.type "StopIteration") [] >>= _) _ _ _)
 refine aA ?_;simp only[newExc,newTuple];refine aA (cR ?_ (by size_fits));refine aA (m:=firstArgMember _ _) (wpAny_of_eq (a:=Value.none) (by first | rfl | (simp only[firstArgMember];rfl)) ?_);refine cR ?_ (by size_fits);simp only[raiseNew];refine aA (wpAny_handled ?_)
 first | rw[show A.in1.handled=none from hh] | rw[hh]
 refine aA (aE (wpAny_throw ?_));refine aA (wpAny_isInstance (T:="StopIteration") (b:=true) ⟨_,aS _ rfl,rfl⟩ isSubtype_stop ?_);exact aE (hQ _ ((x1.push _).push _) ⟨_,aJ _ (aJ _ g2)⟩)
def U1{x}{i:Int}{Q:Value->Shared->Prop}(hit:xP s.heap I x i)(h:Q (.ref I) s):wpAny (model prog w) A (pyIter (.ref I)) Q E s:=by
 refine wpAny_pyIter_slot hit.typeIs Rv.slot_iter (dB Rv.slot_iter hit.typeIs Rv.entry_iter ?_ (Rv.args_iter _));show wpAny _ _ (ret (.ref I)) _ _ s;exact aE ⟨_,rfl,"reversed",_,hit.typeIs,Rv.slot_next.lookup,h⟩
def S5{R:Result->Shared->Prop}(hh:A.handled=none)(S:Addr)(hSI:S≠I)(hSl:S≠l)(hlI:l≠I)(hz:items.size<=1000)(res:Value) :
  ∀(k i:Nat)(s:Shared)(acc:Array Value)(c:Nat),items.size-i=k->i<=items.size->xP s.heap I (.ref l) ((items.size:Int)-1-(i:Int))->IsTup s.heap l items->s.heap.get? S=some { cls:=.type "list",dict:=none,data:=.seq acc c,slots:=#[] }->acc.toList=items.toList.reverse.take i ->
  (∀h' tk acc' c',(∀b o,b≠S->b≠I->s.heap.get? b=some o->h'.get? b=some o)->(∃o,h'.get? I=some o)->h'.get? S=some { cls:=.type "list",dict:=none,data:=.seq acc' c',slots:=#[] }->acc'.toList=items.toList.reverse->R (.ok (.ret res)) { s with heap:=h',toks:=tk }) ->
  codeAny (model prog w) A (.builtin "list.extend.loop" ⟨[.ref S,.ref I,res],[]⟩) R s:=by
 intro k
 induction k with
 |zero=>
  intro i s acc c hk hi hit hl hS hacc hR;obtain rfl:i=items.size:=by omega
  refine codeAny_builtin C0 ?_;rw[Around.under_plainId iX _];show wpAny _ A.in1 (pyNext (.ref I) >>= _) _ _ s;rw[show(items.size:Int)-1-(items.size:Int)=-1 by omega]at hit;refine aA (ZP (A:=A.in1) hh hit λh' he ho=>?_);exact aE (hR h' s.toks acc c (λb o _ hb e=>he b o hb e) ho (he S _ hSI hS) (by rw[hacc,fW (by rw[pI,aP];exact aO _)]))
 |succ k ih=>
  intro i s acc c hk hi hit hl hS hacc hR;have hlt:i<items.size:=by omega
  refine codeAny_builtin C0 ?_;rw[Around.under_plainId iX _];show wpAny _ A.in1 (pyNext (.ref I) >>= _) _ _ s;rw[show(items.size:Int)-1-(i:Int)=((items.size-1-i:Nat):Int) by omega]at hit;have hx:items[items.size-1-i]?=some (items[items.size-1-i]'(by omega)):=bK (by omega)
  generalize items[items.size-1-i]'(by omega)=v at hx
  refine aA (UF hit hl hz hx λh' tk hit' hs'=>?_);rw[show((items.size-1-i:Nat):Int)-1=(items.size:Int)-1-((i+1:Nat):Int) by omega]at hit';have hS':=(hs'.2 S hSI).trans hS;have hal:acc.size=i:=by rw[<- aP,hacc,bC,pI,aP];omega
  show wpAny _ A.in1 (updateSeq S (·.push v) >>= _) _ _ _;refine aA (wpAny_updateSeq (s:={ s with heap:=h',toks:=tk }) hS' rfl (aE ⟨plainId_quiet iX _,ih (i+1) _ (acc.push v) _ (by omega) hlt (hit'.at λo e=>(fD _ _ hSI).trans e) (let ⟨o,a,b⟩:=hl;⟨o,(fD _ _ hSl).trans ((hs'.2 l hlI).trans a),b⟩) (dM _ hS' rfl) ?_ λh2 tk2 acc' c' k2 ho2 g2 e2=>?_⟩) (by rw[hal,sizeLine_eq];omega) (by show(acc.push v).size<=bL+1;rw[Array.size_push,hal,sizeLine_eq];omega))
  ·have e:items.toList.reverse[i]?=some v:=by rw[List.getElem?_reverse (by rw[aP];exact hlt),cD,aP];exact hx
   rw[qN,hacc,cP,e];rfl
  ·exact hR h2 tk2 acc' c' (λb o hb hb2 e=>k2 b o hb hb2 ((fD _ _ (Ne.symm hb)).trans ((hs'.2 b hb2).trans e))) ho2 g2 e2
def R9{c:Bool}{K}{L:Addr}{R:Fin->Shared->Prop}(gL:s.heap.get? L=some { cls:=.type "list",data:=.seq #[] })(h:∀(H4:Heap)(c0:Nat),(∀b o,b≠L->s.heap.get? b=some o->H4.get? b=some o)->H4.get? L=some { cls:=.type "list",dict:=none,data:=.seq #[] c0,slots:=#[] }->wpAny (model prog w) A K R E { s with heap:=H4 }) :
  wpAny (model prog w) A (if c=true then(do rule "list.extend.makes-room";Builtin.List.listTouch (.ref L);K)else K) R E s:=by
 cases c with
 |false=>
  rw[if_neg bE];exact h s.heap 0 (λ_ _ _ e=>e) gL
 |true=>
  rw[if_pos rfl];refine aA (wpAny_rule (aA ?_));show wpAny _ A (updateSeq L (·.push .none) >>= λ_=>updateSeq L (·.pop)) _ _ _;refine aA (wpAny_updateSeq gL rfl ?_);have gL3:=dM (Obj.mapSeq (·.push Value.none)) gL rfl;refine wpAny_updateSeq gL3 rfl ?_;have gL4:=dM (Obj.mapSeq (·.pop)) gL3 rfl;exact h _ _ (λb o hb e=>(fD _ _ (Ne.symm hb)).trans ((fD _ _ (Ne.symm hb)).trans e)) gL4
def JR{Q:List Value->Shared->Prop}(hh:A.handled=none)(hlI:l≠I)(hz:items.size<=1000)(hit:xP s.heap I (.ref l) ((items.size:Int)-1))(hl:IsTup s.heap l items)
  (hQ:∀h' tk,(∀b o,b≠I->s.heap.get? b=some o->h'.get? b=some o)->(∃o,h'.get? I=some o)->Q items.toList.reverse { s with heap:=h',toks:=tk }):wpAny (model prog w) A (collect (.ref I)) Q E s:=by
 obtain⟨oI,hoI,hcI,hdI⟩:=id hit;obtain⟨ol,hol,hcl,nl,hdl⟩:=id hl;have lI:I<s.heap.objs.size:=bI hoI;have ll:l<s.heap.objs.size:=bI hol;unfold collect;refine aA (wpAny_runValue (codeAny_builtin oO ?_));rw[Around.under_plainId oN _];show wpAny _ A.in1 (newList [] >>= λr=>again (.builtin "list.__iadd__" ⟨[r,.ref I],[]⟩)) _ _ s;refine aA (cR ?_);refine aE ⟨plainId_quiet iK _,codeAny_builtin rC ?_⟩;rw[Around.under_plainId iK _]
 generalize hH:s.heap.push { cls:=.type "list",data:=.seq ([]:List Value).toArray }=H1
 have gL:H1.get? s.heap.objs.size=some { cls:=.type "list",data:=.seq ([]:List Value).toArray }:=by rw[<- hH];exact aS _ rfl
 have k1:∀b o,s.heap.get? b=some o->H1.get? b=some o:=λb o e=>by rw[<- hH];exact aJ _ e
 have hit1:xP H1 I (.ref l) ((items.size:Int)-1):=hit.at λo e=>k1 I o e;have hl1:IsTup H1 l items:=⟨ol,k1 _ _ hol,hcl,nl,hdl⟩;have tI:Shared.TypeIs { s with heap:=H1 } (.ref I) "reversed":=⟨oI,k1 _ _ hoI,hcI⟩;show wpAny _ A.in1 (Builtin.List.listExtendWith (.ref s.heap.objs.size) (.ref I) (.ref s.heap.objs.size)) _ _ _;unfold Builtin.List.listExtendWith;refine aA (wpAny_typeOf tI ?_)
 have b1:Builtin.List.listSameRef (.ref s.heap.objs.size) (.ref I)=false:=by
  show(s.heap.objs.size==I)=false;exact beq_eq_false_iff_ne.mpr (gY lI)
 have b2:(Value.type "reversed"==Value.type "list")=false:=by decide
 have b3:(Value.type "reversed"==Value.type "tuple")=false:=by decide
 simp only[b1,b2,b3,xZ,iF,if_false];refine aA (U1 (s:={ s with heap:=H1 }) hit1 ?_);refine aA (wpAny_holding ?_);refine gT (Q:=λb s'=>b=decide (items.size≠0)/\∃tk,s'={ s with heap:=H1,toks:=tk }) ?_ ?_ λ_ _ z=>z
 ·unfold Builtin.List.listLengthHint;refine aA (wpAny_specialOf tI Rv.no_len ?_);dsimp only;rw[if_neg (by decide +kernel),if_neg (by decide)];refine aA (wpAny_specialOf tI Rv.slot_hint.lookup ?_);have hsp:splitId "reversed.__length_hint__"=some ("reversed","__length_hint__"):=by decide +kernel
  dsimp only;rw[hsp];dsimp only;refine aA (wpAny_isInstance (T:="reversed") (b:=true) tI F.sub_reversed_self ?_);rw[if_neg (by decide),if_neg (by decide +kernel)];refine aA (wpAny_rule ?_);refine aA (wpAny_of_eq (Rv.slot_hint.bind _) ?_);dsimp only;refine aA (wpAny_attempt (dB Rv.slot_hint tI Rv.entry_hint ?_ (Rv.args_hint _)));unfold Builtin.«reversed.__length_hint__»;refine aA (wpAny_of_eq (a:=Value.ref I) rfl ?_);refine aA (wpAny_field (s:={ s with heap:=H1 }) (k1 _ _ hoI) hdI (x:=.ref l) rfl ?_);rw[if_neg (show¬((Value.ref l==Value.none)=true)from bE)];refine aA (len_tuple (s:={ s with heap:=H1 }) hl1 (by omega) ?_);refine aA (wpAny_of_eq (a:=some (items.size:Int)) rfl ?_);dsimp only;refine aA (wpAny_field (s:={ s with heap:=H1,toks:=s.toks+1+1 }) (k1 _ _ hoI) hdI (x:=rawInt ((items.size:Int)-1)) rfl ?_);show wpAny _ _ (if(items.size:Int)<(items.size:Int)-1+1 then _ else _) _ _ _;rw[if_neg (by omega)];refine aA (wpAny_mkInt (aE ⟨_,rfl,?_⟩));dsimp only;refine aA (wpAny_of_eq (a:=some ((items.size:Int)-1+1)) rfl ?_);dsimp only;have e0:(items.size:Int)-1+1=(items.size:Int):=by omega
  rw[e0,if_neg (by unfold Builtin.List.listFitsIndex;simp;omega),if_neg (by omega),if_neg (by unfold Builtin.List.listTooLong;simp;rw[sizeLine_eq];omega)];refine aE ⟨?_,_,rfl⟩;rw[gH];simp
 ·rintro b s' ⟨hb,tk0,rfl⟩;refine R9 (s:={ s with heap:=H1,toks:=tk0 }) gL λH4 c0 k4 gL5=>?_;have hIL:=bO lI;have hlL:=bO ll;refine aE ⟨plainId_quiet iX _,S5 hh _ (Ne.symm hIL) (Ne.symm hlL) hlI hz _ items.size 0 { s with heap:=H4,toks:=tk0 } #[] c0 rfl (cL _) (by have:=hit1.at (h':=H4) λo e=>k4 I o hIL e;simpa using this) ⟨ol,k4 _ _ hlL (k1 _ _ hol),hcl,nl,hdl⟩ gL5 rfl λh' tk' acc c k5 hI' hL' ea=>?_⟩;show wpAny _ A (load s.heap.objs.size >>= _) _ _ _;refine aA (wpAny_load hL' (aE ?_));rw[ea];exact hQ h' tk' (λb o hb e=>k5 b o (bO (bI e)) hb (k4 b o (bO (bI e)) (k1 b o e))) hI'
def AF(I l:Addr)(items:Array Value):Meets (Builtin.«tuple.__new__» ⟨[.type "tuple",.ref I],[]⟩)
  (λA R s=>A.handled=none/\l≠I/\items.size<=1000/\xP s.heap I (.ref l) ((items.size:Int)-1)/\IsTup s.heap l items/\∀(h':Heap)(tk:Nat),(∀b o,b≠I->s.heap.get? b=some o->h'.get? b=some o)->(∃o,h'.get? I=some o) ->
   R (.ok (.ret (.ref h'.objs.size))) { s with heap:=h'.push { cls:=.type "tuple",data:=.seq items.toList.reverse.toArray },toks:=tk }):=
 .of_wp λprog w A R s h=>by
  obtain⟨hh,hlI,hz,hit,hl,h⟩:=h;have hsub:=sub_tuple_self;have hinit:=init_tuple_lookup;have hmh:=madeHere_tuple;obtain⟨oI,hoI,hcI,hdI⟩:=id hit;have hT:s.TypeIs (.ref I) "reversed":=⟨_,hoI,hcI⟩;have hh1:A.in1.handled=none:=hh
  wp_walk using wpAny_loadPart' hoI,wpAny_typeOf hT,JR (A:=A.in1) hh1 hlI hz hit hl
  intro h' tk hk hI';show wpAny _ _ (Builtin.Tuple.tupleExact items.toList.reverse.toArray >>= λv=>ret v) _ _ _;unfold Builtin.Tuple.tupleExact;refine aA (cR ?_ (show items.toList.reverse.toArray.size<=bL by simp;rw[sizeLine_eq];omega));exact aE ⟨_,rfl,h h' tk hk hI'⟩
end
section
variable{X:Cx}
def rvA(q l:Addr)(n:Nat):Heap->Prop:=λh=>xP h q (.ref l) ((n:Int)-1)
def RG(q:Addr):Heap->Prop:=λh=>∃o,h.get? q=some o
def aH1(X:Cx):List V->Hp->VK->Prop:=λxs H Q=>∃(p:Addr)(ys:List V),xs=[.ref p]/\tV X.K H p ys/\ys.length<=1000/\∀q,H q=none->Q (.ref q) (gO H q (.ext (rvA q p ys.length)))
def NP(X:Cx):List V->Hp->VK->Prop:=λxs H Q=>∃(q p:Addr)(ys:List V),xs=[.ref q]/\H q=some (.ext (rvA q p ys.length))/\tV X.K H p ys/\ys.length<=1000/\∀r,H r=none->Q (.ref r) (gO (gO H q (.ext (RG q))) r (.tup ys.reverse))
def RA:jE X (.type "reversed") (aH1 X):=by
 intro pins s σ H xs us Q I r h;obtain⟨p,ys,rfl,hq,hz,q⟩:=h;obtain⟨u,rfl,rx⟩:=nM r;cases rx;obtain⟨its,rv,pl,_⟩:=I.tuple hq;have hl:its.length=ys.length:=rv.length.symm;refine callType_new Rv.called (by decide) (F.typeCall_reversed_1 _) (F.newCall_reversed_1 _) (λobj=>pH obj _) F.entry_reversed_new (QH p its.toArray) ⟨pl,by rw[bF];omega,λtk=>⟨⟨_,aS _ rfl,rfl⟩,?_⟩⟩;refine⟨.ref _,_,I.laid (t':=tk) (o:=.ext (rvA s.heap.objs.size p ys.length)) (λb o e=>aJ _ e) (aO _) ⟨⟨_,aS _ rfl,rfl,?_⟩,⟨_,aS _ rfl⟩,λh1 h2 x k=>x.at k⟩,rfl,q _ (I.hok.fresh (aO _))⟩;show(_:Data)=_;rw[bF,hl]
def JV(hc:X.calm=true):jE X (.type "tuple") (NP X):=by
 intro pins s σ H xs us Q I r h;obtain⟨q0,p,ys,rfl,hr,hq,hz,q⟩:=h;obtain⟨u,rfl,rx⟩:=nM r;cases rx;obtain⟨hR,_,_⟩:iN X.prog X.w H s.heap q0 (.ext (rvA q0 p ys.length)):=I.hok q0 _ hr;obtain⟨its,rv,pl,_⟩:=I.tuple hq;have hl:its.length=ys.length:=rv.length.symm
 have hpq:p≠q0:=λz=>by
  obtain⟨o1,a1,b1,_⟩:=hR;obtain⟨o2,a2,b2,_⟩:=pl;rw[z,a1]at a2;cases a2;rw[b1]at b2;exact absurd b2 (by decide)
 refine callType_new J8 (by decide) (DM _) (FF _) (λobj=>pH obj _) FH (AF q0 p its.toArray) ⟨I.ok.hd hc,hpq,by rw[bF];omega,by rw[bF,hl];exact hR,pl,λh' tk hk hI'=>⟨⟨_,aS _ rfl,rfl⟩,?_⟩⟩;have I1:eL X pins σ (gO H q0 (.ext (RG q0))) { s with heap:=h',toks:=tk }:=I.write (x:=q0) (e:=q0) (by rw[hr];exact True.intro) (.inl rfl) (λb o hb e=>hk b o hb e) hI' ⟨hI',hI',λh1 h2 ⟨o,e⟩ k=>⟨o,k o e⟩⟩;have hf:=I1.hok.fresh (aO _);refine⟨.ref h'.objs.size,_,I1.laid (t':=tk) (o:=.tup ys.reverse) (λb o e=>aJ _ e) (aO _) ?_,rfl,q _ ?_⟩
 ·have hL:bL=2^24:=rfl;exact⟨by rw[pI];omega,its.reverse,rv.reverse,by simpa using AJ.new h' its.reverse.toArray⟩
 ·have ne:h'.objs.size≠q0:=λz=>by
   rw[z,dG]at hf;cases hf
  rw[dA ne]at hf;exact hf
end
end L2
namespace TL
open L2
section
variable{X:Cx}{e:Expr}{te:ET}
def aJ3(te:ET):ET:=λσ Q=>te σ λd=>∃ts:List D,d=.tuple ts/\ts.length<=1000/\Q (.tuple ts.reverse)
def ZI{q1 q2 q3 q4}(he:hW X e te)(hs:bN [e] X.env=(false,eval e X.env)::bN [] X.env:=by rfl)(pc:∀{v},PA X [e] (pR v yB)->PE X (.Call (.Name "tuple" q1) [.Call (.Name "reversed" q2) [e] [] q3] [] q4) (M6 (NP X) (pR (M6 (aH1 X) (pR v yB)) yB))):hW X (.Call (.Name "tuple" q1) [.Call (.Name "reversed" q2) [e] [] q3] [] q4) (aJ3 te):=by
 obtain⟨v,pe,re⟩:=he;refine⟨_,pc (fY pe jG hs),λB p0 H ps σT σ Q QV o h k=>re B p0 H ps σT σ _ _ o h λd x H1 s1 r1 q1=>?_⟩;obtain⟨ts,rfl,hz,q⟩:=q1
 cases r1 with
 |@tuple p xs ts' hq s=>
  have hl:=s.length;refine⟨p,xs,rfl,bJ.seqT bS hq,by omega,λq0 hq0=>?_⟩;refine⟨q0,p,xs,rfl,dG,bJ.seqT (dN hq0) (bJ.seqT bS hq),by omega,λr hr=>?_⟩;have e2:gO (gO H1 q0 (.ext (rvA q0 p xs.length))) q0 (.ext (RG q0))=gO H1 q0 (.ext (RG q0)):=W9;rw[e2];have s2:bJ H1 (gO H1 q0 (.ext (RG q0))):=dN hq0
  have hr2:gO H1 q0 (.ext (RG q0)) r=none:=by
   have ne:r≠q0:=λz=>by rw[z,dG]at hr;cases hr
   rw[dA ne]at hr |-;exact hr
  exact k _ _ _ ((s1.trans s2).trans (dN hr2)) (rS ((o.grow s1).grow s2).live hr2 (s.same (bQ s2)).reverse) q
end
end TL
namespace L2
noncomputable abbrev fO(x q:Str)(st:Stmt)(kV dc pm:Value)(an:Option Addr)(cd ct:Value):jL:=mV x q (xL st) (lQ st) (bP st) .none kV dc pm an cd ct
def aMd{α:Type}{P:List α->Prop}(h:∀a,P [a]):∀us:List α,us.length=1->P us
|[a],_=>h a
def aMc{α:Type}{P:List α->Prop}(h:∀a b,P [a,b]):∀us:List α,us.length=2->P us
|[a,b],_=>h a b
def aMb{α:Type}{P:List α->Prop}(h:∀a b c,P [a,b,c]):∀us:List α,us.length=3->P us
|[a,b,c],_=>h a b c
def aMa{α:Type}{P:List α->Prop}(h:∀a b c d,P [a,b,c,d]):∀us:List α,us.length=4->P us
|[a,b,c,d],_=>h a b c d
def aL9{α:Type}{P:List α->Prop}(h:∀a b c d e,P [a,b,c,d,e]):∀us:List α,us.length=5->P us
|[a,b,c,d,e],_=>h a b c d e
abbrev pF(x q:Str)(st:Stmt)(ps:List Str):Prop:=∀(kV dc pm:Value)(an:Option Addr)(cd ct:Value)(us:List Value),us.length=ps.length->bindArgs (fO x q st kV dc pm an cd ct) ⟨us,[]⟩=pure (ps.zip us)
structure Dg(K:aL)(x q:Str)(st:Stmt)(a:Addr)(f:jL)(ps:List Str):Prop where
 k:gU K (.ref a)=true
 F:RV K x q st a f
 d:sQ K f ps []
structure Df(K:aL)(mg:Str->Option Value)(x:Str)(st:Stmt)(a:Addr)(f:jL)(ps:List Str):Prop extends Dg K x x st a f ps where
 m:mg x=some (.ref a)
section
variable{K:aL}{h:Heap}{mg:Str->Option Value}{x q:Str}{st:Stmt}{ps:List Str}{f:Addr}{oc:Value}{od an:Option Addr}{sl:Array (Option Value)}{kV dc pm cd ct:Value}
def dg(b:pF x q st ps)(l:K.lookup f=some ⟨oc,od,.func (fO x q st kV dc pm an cd ct),sl⟩)(c:pG K cd q=true)(k:gU K (.ref f)=true):Dg K x q st f (fO x q st kV dc pm an cd ct) ps:=⟨k,VG l c k,(VG l c k).binds b⟩
def df(X:K.In h)(G:h.Ns jA mg)(b:pF x x st ps)(a:PySem.W.nsIn K jA x=some (some (.ref f)))(l:K.lookup f=some ⟨oc,od,.func (fO x x st kV dc pm an cd ct),sl⟩)(c:pG K cd x=true)(k:gU K (.ref f)=true):Df K mg x st f (fO x x st kV dc pm an cd ct) ps:=⟨dg b l c k,PySem.W.mg_of X G a⟩
def WW{p0}(h:∀kV dc pm an cd ct a0,bindArgs (fO x q st kV dc pm an cd ct) ⟨[a0],[]⟩=pure ([p0].zip [a0]):=by intros;rfl):pF x q st [p0]:=λa b c d e f=>aMd (h a b c d e f)
def MG{p0 p1}(h:∀kV dc pm an cd ct a0 a1,bindArgs (fO x q st kV dc pm an cd ct) ⟨[a0,a1],[]⟩=pure ([p0,p1].zip [a0,a1]):=by intros;rfl):pF x q st [p0,p1]:=λa b c d e f=>aMc (h a b c d e f)
def bn3{p0 p1 p2}(h:∀kV dc pm an cd ct a0 a1 a2,bindArgs (fO x q st kV dc pm an cd ct) ⟨[a0,a1,a2],[]⟩=pure ([p0,p1,p2].zip [a0,a1,a2]):=by intros;rfl):pF x q st [p0,p1,p2]:=λa b c d e f=>aMb (h a b c d e f)
def bn4{p0 p1 p2 p3}(h:∀kV dc pm an cd ct a0 a1 a2 a3,bindArgs (fO x q st kV dc pm an cd ct) ⟨[a0,a1,a2,a3],[]⟩=pure ([p0,p1,p2,p3].zip [a0,a1,a2,a3]):=by intros;rfl):pF x q st [p0,p1,p2,p3]:=λa b c d e f=>aMa (h a b c d e f)
def bn5{p0 p1 p2 p3 p4}(h:∀kV dc pm an cd ct a0 a1 a2 a3 a4,bindArgs (fO x q st kV dc pm an cd ct) ⟨[a0,a1,a2,a3,a4],[]⟩=pure ([p0,p1,p2,p3,p4].zip [a0,a1,a2,a3,a4]):=by intros;rfl):pF x q st [p0,p1,p2,p3,p4]:=λa b c d e f=>aL9 (h a b c d e f)
def na{C:Addr}{f}(h:fF K (.ref C) f=some none):mS K C f:=h
end
end L2
namespace TL
open L2
section
variable{X:Cx}{e:Expr}{es:List Expr}{te:ET}{x:Str}{pos pos' p:Pos}
def cd{k n:Nat}{f:Addr}{fd pn sp t st}(F:dD X.prog X.w X.K X.mg X.base gA k f fd pn (cO X.K sp))(D:Df X.K X.mg x st f fd pn)(hr:Room n X.A)(ha:CP X (e::es) t)(hk:k<=n:=by decide)
  (hg:Gl X x:=by rfl) (hdb:(x==("__debug__":Str))=false:=by decide) (he:bN (e::es) X.env=(false,eval e X.env)::bN es X.env:=by rfl) (hpl:(backTo pos (bN es X.env)).any (·.1)=false:=by rfl):hW X (.Call (.Name x p) (e::es) [] pos) (oG sp t):=ZO F D.m D.k D.d (hr.mono hk) ha λh=>rW F (hr.mono hk) hg D.m D.k D.d .nil tG h hdb he hpl
def cc{k n:Nat}{f:Addr}{fd pn sp t st}(F:dD X.prog X.w X.K X.mg X.base gA k f fd pn (fP X.K sp))(D:Df X.K X.mg x st f fd pn)(hr:Room n X.A)(ha:RT X (e::es) t)(hk:k<=n:=by decide)
  (hg:Gl X x:=by rfl) (hdb:(x==("__debug__":Str))=false:=by decide) (he:bN (e::es) X.env=(false,eval e X.env)::bN es X.env:=by rfl) (hpl:(backTo pos (bN es X.env)).any (·.1)=false:=by rfl):qZ X (.Call (.Name x p) (e::es) [] pos) (aDe sp t):=ZX F D.m D.k D.d (hr.mono hk) ha λh=>rW F (hr.mono hk) hg D.m D.k D.d .nil tG h hdb he hpl
def cF{k n:Nat}{f:Addr}{fd pn sp t st}(F:dD X.prog X.w X.K X.mg X.base gA k f fd pn (lO X.K sp))(D:Df X.K X.mg x st f fd pn)(hr:Room n X.A)(ha:CP X (e::es) t)(hk:k<=n:=by decide)
  (hg:Gl X x:=by rfl) (hdb:(x==("__debug__":Str))=false:=by decide) (he:bN (e::es) X.env=(false,eval e X.env)::bN es X.env:=by rfl) (hpl:(backTo pos (bN es X.env)).any (·.1)=false:=by rfl):PFt X (.Call (.Name x p) (e::es) [] pos) (aC3 sp t):=ZF F D.m D.k D.d (hr.mono hk) ha λh=>rW F (hr.mono hk) hg D.m D.k D.d .nil tG h hdb he hpl
def sf{tg iter body g tb ti}(he:E8 X tg iter ti)(hg:CY X tg g)(hb:vY X body tb)(hp:PassesOwn (model X.prog X.w) X.A X.env X.xe:=by exact PassesOwn.never)(hc:X.calm=true:=by rfl)(hs:∀x,foldedSetIterable iter X.env x=pure x:=by intro _;rfl):A7 X (.For tg iter body [] pos) (X0 ti g tb):=aD9 he hg hb λh1 h2 h3=>F1 hp hc h1 h2 h3 hs
def sfC{tg iter body g tb ti}(he:E8 X tg iter ti)(hg:CY X tg g)(hb:vZ X body tb)(hp:PassesOwn (model X.prog X.w) X.A X.env X.xe:=by exact PassesOwn.never)(hc:X.calm=true:=by rfl)(hs:∀x,foldedSetIterable iter X.env x=pure x:=by intro _;rfl):O1 X (.For tg iter body [] pos) (aAc ti g tb):=aEf he hg hb λh1 h2 h3=>F1 hp hc h1 h2 h3 hs
def el{elt iter tg ifs scope fr N' ti g tt te}(hi:E8 X tg iter ti)(hY:∀b:BP,CY (blk X scope N' b) tg g/\zC (blk X scope N' b) ifs tt/\hW (blk X scope N' b) elt te)(h:sN scope X.env.scope X.N N' fr=true:=by kernel_rfl)(hc:X.calm=true:=by rfl)(hs:∀x,foldedSetIterable iter X.env x=pure x:=by intro _;rfl):hW X (.ListComp elt [⟨tg,iter,ifs,0⟩] scope pos) (WV fr ti g tt te):=aJ1 hi hY λa b=>LC h hc a b hs
def fl{elt iter tg ifs scope fr N' ti g tt te}(hi:E8 X tg iter ti)(hY:∀b:BP,CY (blk X scope N' b) tg g/\zC (blk X scope N' b) ifs tt/\hW (blk X scope N' b) elt te)(h:sN scope X.env.scope X.N N' fr=true:=by kernel_rfl)(hc:X.calm=true:=by rfl)(hs:∀x,foldedSetIterable iter X.env x=pure x:=by intro _;rfl):PFt X (.ListComp elt [⟨tg,iter,ifs,0⟩] scope pos) (fLc fr ti g tt te):=aJr hi hY λa b=>LC h hc a b hs
def elC{elt iter tg scope fr N' ti g te}(hi:E8 X tg iter ti)(hY:∀b:BP,CY (blk X scope N' b) tg g/\zC (blk X scope N' b) [] tU/\qZ (blk X scope N' b) elt te)(h:sN scope X.env.scope X.N N' fr=true:=by kernel_rfl)(hc:X.calm=true:=by rfl)(hs:∀x,foldedSetIterable iter X.env x=pure x:=by intro _;rfl):qZ X (.ListComp elt [⟨tg,iter,[],0⟩] scope pos) (cLc fr ti g te):=aJ2 hi hY λa b=>LC h hc a b hs
def cY{r:List V->Hp->VK->Prop}{f:List D->(D->Prop)->Prop}{t T}(hf:oH X r f)(ha:CP X (e::es) t)(hc:jE X (.type T) r)(hm:X.mg x=none)(hv:bootBuiltins x=some (.type T))(hg:Gl X x:=by rfl)(hn:x≠"__name__":=by decide)(hdb:(x==("__debug__":Str))=false:=by decide)(he:bN (e::es) X.env=(false,eval e X.env)::bN es X.env:=by rfl)(hpl:(backTo pos (bN es X.env)).any (·.1)=false:=by rfl):hW X (.Call (.Name x p) (e::es) [] pos) (oG f t):=aC6 hf ha λh=>mE hc hg hm hv h hn hdb he hpl
def cB{r:List V->Hp->VK->Prop}{f:List D->(D->Prop)->Prop}{t T}(hf:oH X r f)(ha:CP X (e::es) t)(hc:jE X (.builtin T) r)(hm:X.mg x=none)(hv:bootBuiltins x=some (.builtin T))(hg:Gl X x:=by rfl)(hn:x≠"__name__":=by decide)(hdb:(x==("__debug__":Str))=false:=by decide)(he:bN (e::es) X.env=(false,eval e X.env)::bN es X.env:=by rfl)(hpl:(backTo pos (bN es X.env)).any (·.1)=false:=by rfl):hW X (.Call (.Name x p) (e::es) [] pos) (oG f t):=aC6 hf ha λh=>mP hc hg hm hv h hn hdb he hpl
def kT{r:List V->Hp->VK->Prop}{f:List D->(D->Prop)->Prop}{t T}(hf:oH X r f)(ha:RT X (e::es) t)(hc:jE X (.type T) r)(hm:X.mg x=none)(hv:bootBuiltins x=some (.type T))(hg:Gl X x:=by rfl)(hn:x≠"__name__":=by decide)(hdb:(x==("__debug__":Str))=false:=by decide)(he:bN (e::es) X.env=(false,eval e X.env)::bN es X.env:=by rfl)(hpl:(backTo pos (bN es X.env)).any (·.1)=false:=by rfl):qZ X (.Call (.Name x p) (e::es) [] pos) (OX f t):=aC8 hf ha λh=>mE hc hg hm hv h hn hdb he hpl
def kB{r:List V->Hp->VK->Prop}{f:List D->(D->Prop)->Prop}{t T}(hf:oH X r f)(ha:RT X (e::es) t)(hc:jE X (.builtin T) r)(hm:X.mg x=none)(hv:bootBuiltins x=some (.builtin T))(hg:Gl X x:=by rfl)(hn:x≠"__name__":=by decide)(hdb:(x==("__debug__":Str))=false:=by decide)(he:bN (e::es) X.env=(false,eval e X.env)::bN es X.env:=by rfl)(hpl:(backTo pos (bN es X.env)).any (·.1)=false:=by rfl):qZ X (.Call (.Name x p) (e::es) [] pos) (OX f t):=aC8 hf ha λh=>mP hc hg hm hv h hn hdb he hpl
def so{p2 t}(i:Nat)(hN:X.N.Nodup)(h:CP X es t)(hi:X.N[i]?=some x:=by rfl)(hx:RH X.env.scope x:=by first | exact Or.inl rfl | exact Or.inr rfl)(hs:iM (.List es p2) (some (.Name x pos')) pos.line X.env=pure false:=by rfl)(hf:X.fn x=true\/X.env.scope.names.lookup x=some .local:=by first | exact .inl rfl | exact .inr rfl):A7 X (.Assign [.Name x pos'] (.List es p2) pos) (aEh i t):=aD8 (i:=i) h λh=>tE hN hi hx h hs hf
def sn{p2}(i:Nat)(hN:X.N.Nodup)(hi:X.N[i]?=some x:=by rfl)(hx:RH X.env.scope x:=by first | exact Or.inl rfl | exact Or.inr rfl)(hs:iM (.Dict [] [] p2) (some (.Name x pos')) pos.line X.env=pure false:=by rfl)(hf:X.fn x=true\/X.env.scope.names.lookup x=some .local:=by first | exact .inl rfl | exact .inr rfl):A7 X (.Assign [.Name x pos'] (.Dict [] [] p2) pos) (SX i):=XM (i:=i) λh=>tE hN hi hx h hs hf
def sC{te}(i:Nat)(hN:X.N.Nodup)(h:qZ X e te)(hi:X.N[i]?=some x:=by rfl)(hx:RH X.env.scope x:=by first | exact Or.inl rfl | exact Or.inr rfl)(hs:iM e (some (.Name x pos')) pos.line X.env=pure false:=by rfl)(hf:X.fn x=true\/X.env.scope.names.lookup x=some .local:=by first | exact .inl rfl | exact .inr rfl):O1 X (.Assign [.Name x pos'] e pos) (MF i te):=aEe (i:=i) h λh=>tE hN hi hx h hs hf
noncomputable def ndB(l:List Str):Bool:=decide l.Nodup
def pk(i:Nat)(hN:ndB X.N=true:=by kernel_rfl)(hi:X.N[i]?=some x:=by rfl)(hx:RH X.env.scope x:=by first | exact Or.inl rfl | exact Or.inr rfl)(hf:X.fn x=true\/X.env.scope.names.lookup x=some .local:=by first | exact .inl rfl | exact .inr rfl):PG X (.Name x pos) (jS i):=NY (of_decide_eq_true hN) hi hx hf
def tv(h:hW X e te)(he:∀whole,isTrue e X.env whole=(do let v <- whole;standAt e.pos;holding [v] (truthy v)):=by intro _;rfl):J2 X e (E1 te):=aDx h λh=>TJ h he
end
section
variable{X:Cx}{a:Expr}{pos:Pos}
def SY{K H}(n:Int):MM K H (eW n.toNat) (Itr 0 n.toNat):=by
 have hl:(eW n.toNat).length=n.toNat:=by unfold eW;simp
 refine⟨λi H _ e=>by rw[hl]at e;exact e,λi H _ e=>by rw[hl]at e;exact e,λi H ps y H' _ _ e hy=>?_⟩;obtain⟨rfl,rfl⟩:=hy;have ei:(0:Int)+(i:Int)=(i:Int):=by omega
 rw[ei];rw[hl]at e;refine⟨L2.bJ.refl _,.int i,?_,.int _⟩;unfold eW;rw[aI,gZ e];rfl
def aDd(te:EC)(g:GT)(tb:zA):zA:=λτ DC n σ=>te τ n σ λn1 d=>∃N:Int,d=.int N/\-(2^62)<=N/\N<2^62/\∃ts,ts=eW N.toNat/\∃P:Nat->Nat->List Sl->Prop,P 0 n1 σ /\
 (∀(k m:Nat)(x:D)σ',ts[k]?=some x->P k m σ'->g x σ' λσ2=>tb τ { DC with nx:=P (k+1),ct:=P (k+1),bk:=DC.nx } m σ2)/\∀m σ',P ts.length m σ'->DC.nx m σ'
def XX{tg e q1 q2 body g tb te}(he:qZ X e te)(hg:CY X tg g)(hb:vZ X body tb)(pr:∀{ta},PA X [e] ta->PI X tg (.Call (.Name "range" q1) [e] [] q2) (OI ta))(hs':bN [e] X.env=(false,eval e X.env)::bN [] X.env:=by rfl)
  (pf:∀{wi gv bv},PI X tg (.Call (.Name "range" q1) [e] [] q2) wi->PG X tg gv->CW X body bv->PS X (.For tg (.Call (.Name "range" q1) [e] [] q2) body [] pos) (SF wi gv bv)):O1 X (.For tg (.Call (.Name "range" q1) [e] [] q2) body [] pos) (aDd te g tb):=by
 obtain⟨ve,pe,re⟩:=he;obtain⟨gv,pg,rg⟩:=hg;obtain⟨vb,pb,rb⟩:=hb;refine⟨_,pf (pr (fY pe jG hs')) pg pb,λB p0 H ps σT σ T n DC DV o h f=>?_⟩
 have hi2:∀R:It->Hp->Prop,(∀J H1 n1 ts,iU T.p H H1->qH X.K H1 ps T n1->MM X.K (mask H1 ps) ts J->(∃P:Nat->Nat->List Sl->Prop,P 0 n1 σT/\(∀(k m:Nat)(x:D)σ',ts[k]?=some x->P k m σ'->g x σ' λσ2=>tb (nX T) { DC with nx:=P (k+1),ct:=P (k+1),bk:=DC.nx } m σ2)/\∀m σ',P ts.length m σ'->DC.nx m σ')->R J H1)->OI (pR ve yB) σ H R:=λR k=>
  re B p0 H ps σT σ T n _ _ o h λn1 d x H1 s1 t1 r1 q1=>by
   obtain⟨N,rfl,h1,h2,ts,rfl,q⟩:=q1;cases r1;exact⟨N,rfl,h1,h2,k _ H1 n1 _ s1 t1 (SY N) q⟩
 refine hi2 _ λJ H1 n1 ts s1 t1 rj q1=>?_;obtain⟨P,h0,hs,hd⟩:=q1;have o1:=o.growX s1 t1;refine⟨λi m σ' H'=>m=ts.length-i/\i<=ts.length/\∃c ps' σT',nA X.K B p0 H' ps' σT' σ' T c/\bJ (mask H1 ps) (mask H' ps')/\P i c σT',⟨_,rfl,cL _,n1,ps,σT,o1,L2.bJ.refl _,h0⟩,?_⟩;rintro i m σ' H' ⟨rfl,hle,c,ps',σT',o',s',p'⟩;have sH:bJ (mask H1 ps) H':=s'.trans bS;have f':zX X.K B p0 H' ps' T DC DV:=f.later ((s1.mask o.mem').trans s');by_cases hlt:i<ts.length
 ·refine .inr ⟨rj.go i H' sH hlt,λσ2 H2=>∃c2 ps2 σT2,nA X.K B p0 H2 ps2 σT2 σ2 T c2/\bJ (mask H1 ps) (mask H2 ps2)/\P (i+1) c2 σT2,λσ2 H2 z=>⟨ts.length-(i+1),by omega,rfl,hlt,z⟩,λy H2 hy'=>?_⟩;obtain⟨s2,dx,hx,rx⟩:=rj.yld i H' ps' y H2 o'.ok.live s' hlt hy';have f2:=f'.later (bQ (ps:=ps') s2);have s'':bJ (mask H1 ps) (mask H2 ps'):=s'.trans (bQ s2);have o2:=o'.grow s2;refine rg B p0 H2 ps' σT' σ' dx y _ _ o2.ok rx (hs i c dx σT' hx p') λσT3 σ3 o3 _ q3=>?_;exact rb B p0 H2 ps' σT3 σ3 T c _ _ (o2.with o3) q3 ⟨λH4 ps4 σT4 σ4 c4 o4 s4 q4=>⟨c4,ps4,σT4,o4,s''.trans s4,q4⟩,λH4 ps4 σT4 σ4 c4 o4 s4 q4=>f2.nx H4 ps4 σT4 σ4 c4 o4 s4 q4,λH4 ps4 σT4 σ4 c4 o4 s4 q4=>⟨c4,ps4,σT4,o4,s''.trans s4,q4⟩,f2.rt⟩
 ·obtain rfl:i=ts.length:=by omega
  exact .inl ⟨rj.stop _ H' sH (aO _),f'.nx H' ps' σT' σ' c o' (L2.bJ.refl _) (hd c σT' p')⟩
section
variable{ta:ET}
def aJ4(ta:ET):ET:=λσ Q=>ta σ λx=>match x with | .bool b=>Q (.bool (!b)) | _=>False
def ZJ(ha:hW X a ta):hW X (.UnaryOp .Not a pos) (aJ4 ta):=by
 obtain⟨va,pa,ra⟩:=ha;refine⟨_,aEv pa,λB p0 H ps σT σ Q QV o h k=>ra B p0 H ps σT σ _ _ o h λd x H1 s1 r1 q1=>?_⟩
 cases r1 with
 |bool b=>exact⟨b,rfl,k _ _ H1 s1 (.bool _) q1⟩
 |_=>exact q1.elim
end
def aKe(te:EC):EC:=λτ n σ Q=>te τ n σ λn1 d=>∃N:Int,d=.int N/\0<=N/\N<=100000/\Q n1 (.tuple (eW N.toNat))
def ZR{te q1 q2 q3 q4}(he:qZ X a te)(pc:∀{ta},PA X [a] ta->PE X (.Call (.Name "tuple" q1) [.Call (.Name "range" q2) [a] [] q3] [] q4) (M6 (λxs H Q=>∃(r:Addr)(j:Int),xs=[.ref r]/\H r=some (.ext (BL r j))/\0<=j/\j<=100000/\∀p,H p=none->Q (.ref p) (gO H p (.tup ((cQ j.toNat).map λ(k:Nat)=>V.int (k:Int))))) (pR (M6 (λxs H Q=>∃j:Int,xs=[.int j]/\∀r,H r=none->Q (.ref r) (gO H r (.ext (BL r j)))) ta) yB)))(hs':bN [a] X.env=(false,eval a X.env)::bN [] X.env:=by rfl):qZ X (.Call (.Name "tuple" q1) [.Call (.Name "range" q2) [a] [] q3] [] q4) (aKe te):=by
 obtain⟨va,pa,ra⟩:=he;refine⟨_,pc (fY pa jG hs'),λB p0 H ps σT σ T n Q QV o h k=>ra B p0 H ps σT σ T n _ _ o h λn1 d x H1 s1 t1 r1 q1=>?_⟩;obtain⟨N,rfl,h0,h1,q⟩:=q1;cases r1;refine⟨N,rfl,λr hr=>⟨r,N,rfl,dG,h0,h1,λp hp=>?_⟩⟩;have o1:=(o.growX s1 t1).grow (dN (o:=.ext (BL r N)) hr);exact k _ _ _ _ ((s1.trans (.of (dN hr))).trans (.of (dN hp))) ((t1.grow (dN hr)).grow (dN hp)) (rS o1.ok.live hp (IG _)) q
end
def _root_.L2.Room.u20{k:Nat}{A:Around}(r:Room k A):A.units+20<cLine:=by have:=r.un;omega
end TL
namespace TL
open L2
section
variable{X:Cx}
def aAa(i:Nat)(t:zA):zA:=λτ DC n σ=>∃hs kvs,σ[i]?=some (.dic hs kvs)/\t τ DC n (σ.set i (.val (V2 hs kvs)))
def PV{sts t}(i:Nat)(h:vZ X sts t):vZ X sts (aAa i t):=by
 obtain⟨v,p,r⟩:=h;refine⟨_,D5 p,λB p0 H ps σT σ T n DC DV o h f=>?_⟩;obtain⟨hs,kvs,e,h⟩:=h;obtain⟨a,es,_,ha,hs'⟩:=o.ok.shareD e;refine⟨a,es,ha.obj,λep=>?_⟩;obtain⟨o',s'⟩:=hs' ep;have hne:T.p≠a:=λz=>ha.out (z▸o.mem);exact r B p0 _ _ _ σ T n DC DV ⟨o',o.mem,o.nb,⟨let ⟨l,e⟩:=o.tp.obj;⟨l,by rw[dA hne];exact e⟩,L2.bJ.seq s' o.tp.scr,o.tp.dig⟩,o.bq⟩ h (f.later s')
end
end TL
namespace K37
open L2 TL
noncomputable def iW(i:Nat):Stmt:=PySem.Challenge.pw_leafjudge_k37_tables_that_hold.main.body.getD i (.Pass ⟨0,0,0,0⟩)
structure Txt(K:aL)(mg:Str->Option Value)(a_0 a_1 a_2 a_3 a_4 a_5 a_6 a_7 a_8 a_9 a_10 a_11 a_12 a_13 a_14 a_15 a_16 a_17 a_18 a_19 a_20 a_21 a_22 a_23 a_24 a_25 a_26 a_27 a_28 a_29 a_30 a_31 a_32 a_33 a_34 a_35 a_36 a_37 a_38 a_39 a_40 a_41 a_law:Addr)(f_0 f_1 f_2 f_3 f_4 f_5 f_6 f_7 f_8 f_9 f_10 f_11 f_12 f_13 f_14 f_15 f_16 f_17 f_18 f_19 f_20 f_21 f_22 f_23 f_24 f_25 f_26 f_27 f_28 f_29 f_30 f_31 f_32 f_33 f_34 f_35 f_36 f_37 f_38 f_39 f_40 f_41 f_law:jL)(c_RowSets:Addr)(t_SIDES:Addr)(t_MOST_TABLE_DEEP:Tok):Prop where
 x_RowSets:mg "RowSets"=some (.ref c_RowSets)
 C_RowSets:RX K c_RowSets
 K_RowSets:Mk K c_RowSets a_0
 n_RowSets_form:mS K c_RowSets "form"
 n_RowSets_kept:mS K c_RowSets "kept"
 n_RowSets_slip:mS K c_RowSets "slip"
 n_RowSets_knot:mS K c_RowSets "knot"
 n_RowSets_choices:mS K c_RowSets "choices"
 M_1:aAl K c_RowSets "leaf_of" a_1
 M_2:aAl K c_RowSets "partings" a_2
 D_0:Dg K "__init__" "RowSets.__init__" (vS (iW 17) 0) a_0 f_0 ["self","form","rows","prices"]
 D_1:Dg K "leaf_of" "RowSets.leaf_of" (vS (iW 17) 1) a_1 f_1 ["self","numbers"]
 D_2:Dg K "partings" "RowSets.partings" (vS (iW 17) 2) a_2 f_2 ["self","numbers"]
 D_3:Df K mg "is_tuple_of" (iW 1) a_3 f_3 ["thing","fewest","most"]
 D_4:Df K mg "is_whole" (iW 2) a_4 f_4 ["thing"]
 D_5:Df K mg "counted" (iW 4) a_5 f_5 ["form","rows"]
 D_6:Df K mg "first_answer" (iW 5) a_6 f_6 ["form","rows"]
 D_7:Df K mg "questions_of" (iW 8) a_7 f_7 ["form"]
 D_8:Df K mg "questions_on" (iW 9) a_8 f_8 ["field"]
 D_9:Df K mg "choices_of" (iW 10) a_9 f_9 ["form"]
 D_10:Df K mg "side_of" (iW 11) a_10 f_10 ["form","question","stray","case"]
 D_11:Df K mg "field_asked" (iW 12) a_11 f_11 ["form","question"]
 D_12:Df K mg "entries_to_yes" (iW 13) a_12 f_12 ["question","stray","field"]
 D_13:Df K mg "values_held" (iW 14) a_13 f_13 ["question","field"]
 D_14:Df K mg "is_proper" (iW 15) a_14 f_14 ["sides","fewest"]
 D_15:Df K mg "sides_of_rows" (iW 18) a_15 f_15 ["form","choice","rows"]
 D_16:Df K mg "holds" (iW 21) a_16 f_16 ["form","rows","prices","table"]
 D_17:Df K mg "is_table" (iW 22) a_17 f_17 ["many","table"]
 D_18:Df K mg "is_entry" (iW 23) a_18 f_18 ["many","entry"]
 D_19:Df K mg "are_rising" (iW 24) a_19 f_19 ["numbers","many"]
 D_20:Df K mg "is_borne_out" (iW 25) a_20 f_20 ["sets","costs","numbers","deep"]
 D_21:Df K mg "side_cost" (iW 26) a_21 f_21 ["sets","costs","numbers","deep"]
 D_22:Df K mg "_law_tape" (iW 28) a_22 f_22 ["_law_script"]
 D_23:Df K mg "_law_draw" (iW 29) a_23 f_23 ["_law_tape_here","_law_many"]
 D_24:Df K mg "_law_names" (iW 30) a_24 f_24 ["_law_tape_here","_law_many"]
 D_25:Df K mg "_law_form" (iW 31) a_25 f_25 ["_law_tape_here","_law_fields","_law_values"]
 D_26:Df K mg "_law_case" (iW 32) a_26 f_26 ["_law_tape_here","_law_form_here"]
 D_27:Df K mg "_law_rows" (iW 33) a_27 f_27 ["_law_tape_here","_law_form_here","_law_many"]
 D_28:Df K mg "_law_questions" (iW 34) a_28 f_28 ["_law_form_here"]
 D_29:Df K mg "_law_side" (iW 35) a_29 f_29 ["_law_form_here","_law_question","_law_stray","_law_case_here"]
 D_30:Df K mg "_law_parts" (iW 36) a_30 f_30 ["_law_form_here","_law_question","_law_stray","_law_rows_here"]
 D_31:Df K mg "_law_counts" (iW 37) a_31 f_31 ["_law_form_here","_law_rows_here"]
 D_32:Df K mg "_law_prices" (iW 38) a_32 f_32 ["_law_tape_here"]
 D_33:Df K mg "_law_leaf" (iW 39) a_33 f_33 ["_law_form_here","_law_rows_here","_law_slip"]
 D_34:Df K mg "_law_proper" (iW 40) a_34 f_34 ["_law_form_here","_law_rows_here"]
 D_35:Df K mg "_law_numbered" (iW 41) a_35 f_35 ["_law_rows_here"]
 D_36:Df K mg "_law_numbers" (iW 42) a_36 f_36 ["_law_rows_here"]
 D_37:Df K mg "_law_holds" (iW 43) a_37 f_37 ["_law_form_here","_law_rows_here","_law_prices_here","_law_table"]
 D_38:Df K mg "_law_solved" (iW 44) a_38 f_38 ["_law_form_here","_law_rows_here","_law_deep","_law_prices_here","_law_met"]
 D_39:Df K mg "_law_other" (iW 45) a_39 f_39 ["_law_tape_here","_law_one","_law_many"]
 D_40:Df K mg "_law_bent" (iW 46) a_40 f_40 ["_law_tape_here","_law_table","_law_many"]
 D_41:Df K mg "_law_told" (iW 47) a_41 f_41 ["_law_form_here","_law_rows_here","_law_prices_here","_law_table"]
 D_law:Df K mg "law" (iW 48) a_law f_law ["_law_script"]
 c_SIDES:mg "SIDES"=some (.ref t_SIDES)
 t_SIDES:aGm K t_SIDES ["yes","no"]
 c_MOST_TABLE_DEEP:mg "MOST_TABLE_DEEP"=some (.int 3 t_MOST_TABLE_DEEP)
 b_all:mg "all"=none
 b_bool:mg "bool"=none
 b_int:mg "int"=none
 b_isinstance:mg "isinstance"=none
 b_len:mg "len"=none
 b_list:mg "list"=none
 b_max:mg "max"=none
 b_min:mg "min"=none
 b_range:mg "range"=none
 b_reversed:mg "reversed"=none
 b_set:mg "set"=none
 b_sorted:mg "sorted"=none
 b_sum:mg "sum"=none
 b_tuple:mg "tuple"=none
noncomputable def iJ:Str:="abcdefghijklmnopqrstuvwxyz"
noncomputable def sgn(c:Nat):Bool:=Txt.contains iJ ⟨#[c]⟩
noncomputable def F6(z:Str):Bool:=decide (1<=z.length)&&decide (z.length<=8)&&z.cps.toList.all sgn
noncomputable def nm:D->Bool
|.str z=>F6 z
|_=>false
noncomputable def txt:D->Str
|.str z=>z
|_=>""
noncomputable def nms(d:D)(lo hi:Int):Bool:=match d with | .tuple ts=>decide (lo<=ts.length)&&decide ((ts.length:Int)<=hi)&&ts.all nm&&decide ((ts.map txt).Nodup) | _=>false
noncomputable def fld:D->Bool
|.tuple [n,vs]=>nm n&&nms vs 2 5
|_=>false
noncomputable def fst:D->D
|.tuple (n::_)=>n
|_=>.none
def KF(n:Nat)(ys:List Str):Prop:=ys.length=n/\(∀y∈ys,F6 y=true)/\ys.Nodup
noncomputable def kZ(f:Str×List Str):D:=.tuple [.str f.1,.tuple (f.2.map aY)]
noncomputable def fC(fs:List (Str×List Str))(an:List Str):D:=.tuple [.tuple (fs.map kZ),.tuple (an.map aY)]
structure mJ(fs:List (Str×List Str))(an:List Str):Prop where
 n1:1<=fs.length
 n5:fs.length<=5
 nd:KF fs.length (fs.map (·.1))
 vs:∀f∈fs,2<=f.2.length/\f.2.length<=5/\KF f.2.length f.2
 a2:2<=an.length
 a4:an.length<=4
 an:KF an.length an
def aBb:uM:=λ_ _=>False
def wH:WK:=λ_ n ds Q=>∃m:Int,ds=[.int m]/\0<m/\m<=100000/\n<1099511627776/\∀r:Int,0<=r->r<m->Q (n+1) (.int r)
def aBa:WK:=λ_ n ds Q=>∃m:Nat,ds=[.int m]/\1<=m/\m<=5/\n<1000000000000/\∀n' ys,n'<=n+12->KF m ys->Q n' (.tuple (ys.map aY))
def aA9:WK:=λ_ n ds Q=>∃f v:Nat,ds=[.int f,.int v]/\1<=f/\f<=5/\2<=v/\v<=5/\n<900000000000/\∀n' fs an,n'<=n+100->mJ fs an->fs.length=f->(∀x∈fs,x.2.length<=v)->Q n' (fC fs an)
def CN{α:Type}{xs:List α}{i:Int}(h0:0<=i)(h1:i<xs.length):∃a,a∈xs/\L2.atI xs i=some a/\xs[i.toNat]?=some a:=by
 have hi:i.toNat<xs.length:=by omega
 refine⟨xs[i.toNat],fA hi,?_,aF hi⟩;have:=L2.fZ (xs:=xs) (j:=i.toNat) (v:=xs[i.toNat]) (aF hi)
 rwa [show((i.toNat:Nat):Int)=i by omega]at this
def lY(n:Nat):(eW n).length=n:=by unfold eW;simp
def vU{n k:Nat}{x}(h:(eW n)[k]?=some x):k<n/\x=.int k:=by
 unfold eW at h;rw[aI]at h;by_cases hk:k<n
 ·rw[gZ hk]at h;cases h;exact⟨hk,rfl⟩
 ·rw[eZ (by simpa using hk)]at h;cases h
def yW{α:Type}(xs:List α)(j:Nat):iB xs none (some (j:Int))=xs.take j:=by
 unfold iB;rw[HT.sIx_none,HT.sIx_nat,FM,aKq];by_cases h:j<=xs.length
 ·rw[aDo h]
 ·rw[aAn (by omega),dY,fW (by omega)]
def L9{α:Type}(xs:List α)(i:Nat):iB xs (some (i:Int)) none=xs.drop i:=by
 unfold iB;rw[HT.sIx_none,HT.sIx_nat];by_cases h:i<=xs.length
 ·rw[aDo h,fW (by rw[eG];omega)]
 ·rw[aAn (by omega),KL (aO _),KL (by omega)];simp
def rZ{α β:Type}(f:α->β)(xs:List α)(lo hi:Option Int):iB (xs.map f) lo hi=(iB xs lo hi).map f:=by
 unfold iB;rw[aB,rH,xW]
def UE{z:Str}(h1:1<=z.cps.toList.length)(h2:z.cps.toList.length<=8)(h3:∀c∈z.cps.toList,c∈iJ.cps.toList):F6 z=true:=by
 have e:z.length=z.cps.toList.length:=by simp[Str.length]
 unfold F6;rw[e,decide_eq_true h1,decide_eq_true h2];simp only[HG,fX];intro c hc;unfold sgn;rw[U8];exact decide_eq_true (h3 c hc)
def N6{z:Str}(h:F6 z=true):1<=z.length/\z.length<=8/\∀c∈z.cps.toList,c∈iJ.cps.toList:=by
 unfold F6 at h;simp only[bY,decide_eq_true_eq,fX]at h;refine⟨h.1.1,h.1.2,λc hc=>?_⟩;have:=h.2 c hc;unfold sgn at this;rw[U8]at this;exact of_decide_eq_true this
def nodup_range{α:Type}{n:Nat}(F:Nat->α)(inj:∀i j,i<n->j<n->F i=F j->i=j):((cQ n).map F).Nodup:=by
 rw[R4,fB];have:(cQ n).Nodup:=A9;refine kK.imp_of_mem (λ{a b} ha hb hab e=>?_) this;exact hab (inj a b (by simpa using ha) (by simpa using hb) e)
def LO:iJ.cps.toList.Nodup:=by decide +kernel
def zQ:iJ.cps.toList.length=26:=by decide +kernel
def YQ{xs:List Nat}(nd:xs.Nodup){i j:Nat}{c:Nat}(h1:xs[i]?=some c)(h2:xs[j]?=some c):i=j:=by
 obtain⟨a1,a2⟩:=aG.mp h1;obtain⟨b1,b2⟩:=aG.mp h2;exact(BA nd).mp (a2.trans b2.symm)
theorem HW:∀{ys},(∀y∈ys,∃c,c∈iJ.cps.toList/\y=.str ⟨#[c]⟩)->∃cs:List Nat,ys=cs.map (λc=>aY ⟨#[c]⟩)/\∀c∈cs,c∈iJ.cps.toList
|[],_=>⟨[],rfl,λc h=>by simp at h⟩
|y::ys,h=>by
 obtain⟨c,hc,rfl⟩:=h y (aR ..);obtain⟨cs,rfl,h2⟩:=HW (ys:=ys) λy hy=>h y (aM _ hy);refine⟨c::cs,rfl,λd hd=>?_⟩;rcases bH.mp hd with rfl | hd
 ·exact hc
 ·exact h2 d hd
def B3(cs:List Nat):(Txt.join ⟨#[]⟩ (cs.map λc=>⟨#[c]⟩)).cps.toList=cs:=by
 rw[LR,bM]
 induction cs with
 |nil=>rfl
 |cons c cs ih=>rw[aX,WS,ih];rfl
def xN{ys:List Str}{k:Nat}(h:k<ys.length):L2.atI (ys.map aY) (k:Int)=some (.str ys[k]):=L2.fZ (by rw[aI,aF h];rfl)
def KZ{c:yZ}{te:ET}{u:vE}{DT}{σ:List Sl}{i:Nat}(C:Prop)(R:D->Prop)(h:∀q:Bool->Prop,(∀b,(b=true->C)->q b)->c σ q)(h1:C->∀q:D->Prop,(∀d,R d->q d)->te σ q)(d0:D)(h0:σ[i]?=some (.val d0))(r0:R d0)(k:∀d,R d->u DT (σ.set i (.val d))):kI (sIf c (BJ i te) oV) u DT σ:=by
 refine h _ λb hb=>?_
 cases b with
 |true=>
  rw[if_pos rfl];exact h1 (hb rfl) _ k
 |false=>
  rw[if_neg (by decide)]
  have e:σ.set i (.val d0)=σ:=by
   apply gC;intro j;by_cases hj:i=j
   ·subst hj;rw[bD (aG.mp h0).1,h0]
   ·rw[bA hj]
  have:=k d0 r0;rw[e]at this;exact this
def vR{n:Nat}(F:Nat->Str)(h:∀i,i<n->F6 (F i)=true)(inj:∀i j,i<n->j<n->F i=F j->i=j):KF n ((cQ n).map F):=
 ⟨by simp,λy hy=>by
  obtain⟨i,hi,rfl⟩:=aQ.mp hy;exact h i (by simpa using hi),nodup_range F inj⟩
def QB{n:Nat}{ys:List Str}(h:KF n ys)(t:Nat){m:Nat}(hm:m<=n):KF m ((ys.drop t++ys.take t).take m):=by
 have hp:(ys.drop t++ys.take t).Perm ys:=by
  have:(ys.take t++ys.drop t).Perm ys:=by rw[nU]
  exact List.perm_append_comm.trans this
 refine⟨?_,λy hy=>h.2.1 y (hp.mem_iff.mp (eT hy)),(hp.nodup_iff.mpr h.2.2).sublist (rD _ _)⟩;rw[bC,hp.length_eq,h.1];omega
def QA{n:Nat}{ys:List Str}(h:KF n ys)(t:Nat):KF n (ys.drop t++ys.take t):=by
 have e:=QB h t (aO n)
 rwa [fW]at e
 rw[aV,eG,bC,h.1];omega
def J0{ns:List Int}(h:0<ns.length)(i:Int):∃x:Int,L2.atI (ns.map aH) (i%((ns.map aH).length:Nat))=some (.int x):=by
 rw[aB];obtain⟨a,hm,ha,_⟩:=CN (xs:=ns.map aH) (i:=i%(ns.length:Nat)) (pJ _ (by omega)) (by rw[aB];exact mY _ (by omega));obtain⟨b,hb,rfl⟩:=aQ.mp hm;exact⟨b,ha⟩
@[irreducible] def RB(i:Nat):Nat:=iJ.cps.toList.getD i 0
def A5{i:Nat}(h:i<26):iJ.cps.toList[i]?=some (RB i):=by
 have hl:i<iJ.cps.toList.length:=by rw[zQ];exact h
 unfold RB;rw[pY,aF hl];rfl
def aAd{i:Nat}(h:i<26):RB i∈iJ.cps.toList:=aW (A5 h)
def BX{α:Type}{xs:List α}(nd:xs.Nodup){i j:Nat}{c}(h1:xs[i]?=some c)(h2:xs[j]?=some c):i=j:=by
 obtain⟨a1,a2⟩:=aG.mp h1;obtain⟨b1,b2⟩:=aG.mp h2;exact(BA nd).mp (a2.trans b2.symm)
noncomputable def rN:List Str:=["say","ask","is","upto","yes","no","all","in","none","a"]
def KN:rN.Nodup:=by decide +kernel
def KM:∀y∈rN,F6 y=true:=by decide +kernel
@[irreducible] def wAt(i:Nat):Str:=rN.getD i ""
def AQ{i:Nat}(h:i<10):rN[i]?=some (wAt i):=by
 have hl:i<rN.length:=h;unfold wAt;rw[pY,aF hl];rfl
def IQ{s m:Nat}(hm:m<=10):KF m ((cQ m).map λj:Nat=>wAt ((s+3*j)%10)):=by
 refine vR _ (λi hi=>KM _ (aW (AQ (iY _ (by decide))))) λi j hi hj h=>?_;have l1:=AQ (i:=(s+3*i)%10) (iY _ (by decide));have l2:=AQ (i:=(s+3*j)%10) (iY _ (by decide));have h':wAt ((s+3*i)%10)=wAt ((s+3*j)%10):=h;rw[<- h']at l2;have:=BX KN l1 l2;omega
def UD{z:Str}(hz7:z.cps.toList.length=7)(hzl:∀c∈z.cps.toList,c∈iJ.cps.toList){m:Nat}(hm:m<=7):KF m ((cQ m).map λj:Nat=>Txt.slice z none (some ((j:Int)+1))):=by
 have e:∀j:Nat,(Txt.slice z none (some ((j:Int)+1))).cps.toList=z.cps.toList.take (j+1):=λj=>by
  rw[sZ];exact yW _ (j+1)
 refine vR _ (λi hi=>?_) λi j hi hj h=>?_
 ·refine UE ?_ ?_ λc hc=>?_
  ·rw[e,bC];omega
  ·rw[e,bC];omega
  ·rw[e]at hc;exact hzl c (eT hc)
 ·have e1:=e i;rw[h,e j]at e1;have:=congrArg iL e1;rw[bC,bC]at this;omega
noncomputable def EK(z:Str)(t c:Nat):Str:=Txt.slice z none (some (t:Int))++⟨#[c]⟩++Txt.slice z (some (t:Int)) none
def tM(z:Str)(t c:Nat):(EK z t c).cps.toList=z.cps.toList.take t++(c::z.cps.toList.drop t):=by
 unfold EK;rw[uL,uL,sZ,sZ,L9,yW];simp
def YR{z:Str}(hz7:z.cps.toList.length=7)(hzl:∀c∈z.cps.toList,c∈iJ.cps.toList){t s m:Nat}(hm:m<=26):KF m ((cQ m).map λj:Nat=>EK z t (RB ((s+7*j)%26))):=by
 refine vR _ (λi hi=>?_) λi j hi hj h=>?_
 ·have e:=tM z t (RB ((s+7*i)%26));refine UE ?_ ?_ λc hc=>?_
  ·rw[e,aV,cU];omega
  ·rw[e,aV,cU,bC,eG];omega
  ·rw[e]at hc;rcases cK.mp hc with hc | hc
   ·exact hzl c (eT hc)
   ·rcases bH.mp hc with rfl | hc
    ·exact aAd (iY _ (by decide))
    ·exact hzl c (vH hc)
 ·have e1:=tM z t (RB ((s+7*i)%26));have h':EK z t (RB ((s+7*i)%26))=EK z t (RB ((s+7*j)%26)):=h;rw[h',tM]at e1;have e2:=List.append_cancel_left e1;have e3:RB ((s+7*j)%26)=RB ((s+7*i)%26):=(List.cons.inj e2).1;have l1:=A5 (i:=(s+7*i)%26) (iY _ (by decide));have l2:=A5 (i:=(s+7*j)%26) (iY _ (by decide));rw[e3]at l2;have:=YQ LO l1 l2;omega
def QR(z:Str)(hz7:z.cps.toList.length=7)(t c:Nat):(Txt.slice z none (some (t:Int))).length+1<=100000/\(Txt.slice z none (some (t:Int))++(⟨#[c]⟩:Str)).length+(Txt.slice z (some (t:Int)) none).length<=100000:=by
 have a1:=Txt.slice_le z none (some (t:Int));have a2:=Txt.slice_le z (some (t:Int)) none;have a3:z.length=z.cps.toList.length:=by simp[Str.length]
 have a4:(Txt.slice z none (some (t:Int))++(⟨#[c]⟩:Str)).length=(Txt.slice z none (some (t:Int))).length+1:=by
  show((Txt.slice z none (some (t:Int))).cps++#[_]).size=_;rw[R5];rfl
 rw[a4];omega
def IS{r:Int}(h:0<=r):∃t:Nat,r=(t:Int):=⟨r.toNat,(fK h).symm⟩
theorem OO{Pv:List Str->Prop}:∀(ns:List Str)(ys:List D),ys.length=ns.length->(∀(k:Nat)(x y:D),(ns.map aY)[k]?=some x->ys[k]?=some y->∃nm vs,x=.str nm/\y=kZ (nm,vs)/\Pv vs)->∃fs:List (Str×List Str),ys=fs.map kZ/\fs.map (·.1)=ns/\∀f∈fs,Pv f.2
|[],ys,hl,_=>⟨[],mW.mp hl,rfl,λf hf=>by simp at hf⟩
|n::ns,[],hl,_=>by simp at hl
|n::ns,y::ys,hl,h=>by
 obtain⟨nm,vs,e1,e2,hp⟩:=h 0 (.str n) y rfl rfl;cases e1;obtain⟨fs,h1,h2,h3⟩:=OO ns ys (by simpa using hl) λk x y hx hy=>h (k+1) x y (by simpa using hx) (by simpa using hy);refine⟨(n,vs)::fs,by rw[e2,h1];rfl,by rw[aX,h2],λf hf=>?_⟩;rcases bH.mp hf with rfl | hf
 ·exact hp
 ·exact h3 f hf
noncomputable def okV(f:Str×List Str)(d:D):Bool:=match d with | .none=>true | .str z=>decide (z∈f.2) | _=>false
noncomputable def U6(an:List Str)(d:D):Bool:=match d with | .str z=>decide (z∈an) | _=>false
structure Cd(d:D):Prop where
 lay:d.canLay0=true
 dep:d.depth<=60
structure Th(n m:Nat)(d:D):Prop where
 bulk:d.bulk<=n
 fit:d.leavesShort 110=true
 shw:d.showable=true
 nodict:d.hasDict=false
 depth:d.depth<=m
 lay:d.canLay0=true
def Th.mono{n n' m m':Nat}{d}(h:Th n m d)(hn:n<=n')(hm:m<=m'):Th n' m' d:=⟨cI h.bulk hn,h.fit,h.shw,h.nodict,cI h.depth hm,h.lay⟩
theorem vM{n m:Nat}:∀{ts:List D},(∀t∈ts,Th n m t)->uP ts<=ts.length*(n+1)/\J9 110 ts=true/\O7 ts=true/\kJ ts=false/\bU ts<=m/\dP ts=true
|[],_=>⟨cL _,rfl,rfl,rfl,cL _,rfl⟩
|t::ts,h=>by
 have a:=h t (aR ..);obtain⟨b1,b2,b3,b4,b5,b6⟩:=vM (ts:=ts) λx hx=>h x (aM _ hx);refine⟨?_,?_,?_,?_,?_,?_⟩
 ·show t.bulk+1+uP ts<=(ts.length+1)*(n+1);have:=a.bulk;rw[Nat.add_mul,aK9];omega
 ·show(t.leavesShort 110&&J9 110 ts)=true;rw[a.fit,b2];rfl
 ·show(t.showable&&O7 ts)=true;rw[a.shw,b3];rfl
 ·show(t.hasDict||kJ ts)=false;rw[a.nodict,b4];rfl
 ·show max t.depth (bU ts)<=m;exact Nat.max_le.mpr ⟨a.depth,b5⟩
 ·show(t.canLay0&&dP ts)=true;rw[a.lay,b6];rfl
def FN(n m k:Nat){N M:Nat}{ts:List D}(h:∀t∈ts,Th n m t)(hl:ts.length<=k)(hN:k*(n+1)<=N)(hM:m+1<=M):Th N M (.tuple ts):=by
 obtain⟨b1,b2,b3,b4,b5,b6⟩:=vM h;have:ts.length*(n+1)<=k*(n+1):=RL _ hl;exact⟨by show uP ts<=N;omega,b2,b3,b4,by show bU ts+1<=M;omega,b6⟩
def SA(n m k:Nat){N M:Nat}{ts:List D}(h:∀t∈ts,Th n m t)(hl:ts.length<=k)(hN:k*(n+1)<=N)(hM:m+1<=M):Th N M (.list ts):=by
 obtain⟨b1,b2,b3,b4,b5,b6⟩:=vM h;have:ts.length*(n+1)<=k*(n+1):=RL _ hl;exact⟨by show uP ts<=N;omega,b2,b3,b4,by show bU ts+1<=M;omega,b6⟩
def FO{n m:Nat}:Th n m .none:=⟨cL _,rfl,rfl,rfl,cL _,rfl⟩
def HQ{z:Str}(hc:∀c∈z.cps.toList,c<1000):aDm z=true:=by
 unfold aDm;rw[<- Array.all_toList,fX];intro c h1;have:=hc c h1;exact decide_eq_true (by omega)
def aDy{n m:Nat}{z:Str}(h:z.length<=n)(hc:∀c∈z.cps.toList,c<1000):Th n m (.str z):=by
 refine⟨h,?_,rfl,rfl,cL _,HQ hc⟩;show(z.cps.toList.all λc=>decide (c<16^8))=true;rw[fX];intro c h1;have:=hc c h1;exact decide_eq_true (by omega)
def QJ{c:Nat}(h:c∈iJ.cps.toList):c<128:=by
 have:∀c∈iJ.cps.toList,c<128:=by decide +kernel
 exact this c h
def IR{y:Str}(h:F6 y=true):y.length<=8/\∀c∈y.cps.toList,c<128:=⟨(N6 h).2.1,λc hc=>QJ ((N6 h).2.2 c hc)⟩
def pQ{y}(h:F6 y=true){n m:Nat}(hn:8<=n):Th n m (.str y):=aDy (cI (IR h).1 hn) λc hc=>by have:=(IR h).2 c hc;omega
def AR{ys:List Str}(h:∀y∈ys,F6 y=true){n m:Nat}(hn:8<=n):∀t∈ys.map aY,Th n m t:=λt ht=>by
 obtain⟨y,hy,rfl⟩:=aQ.mp ht;exact pQ (h y hy) hn
def GW{n m:Nat}:∀t∈([]:List D),Th n m t:=λt h=>by simp at h
def all_cons{n m:Nat}{a ts}(h:Th n m a)(hs:∀t∈ts,Th n m t):∀t∈a::ts,Th n m t:=λt ht=>by
 rcases bH.mp ht with rfl | ht
 ·exact h
 ·exact hs t ht
def aAi{n m:Nat}{as bs:List D}(h:∀t∈as,Th n m t)(hs:∀t∈bs,Th n m t):∀t∈as++bs,Th n m t:=λt ht=>(cK.mp ht).elim (h t) (hs t)
def Z5{α:Type}(ts:List α)(lo hi:Option Int):(iB ts lo hi).length<=ts.length:=by
 unfold iB;rw[bC,eG];omega
def Th.cd{n m:Nat}{d}(h:Th n m d)(hm:m<=60):Cd d:=⟨h.lay,cI h.depth hm⟩
section
variable{fs:List (Str×List Str)}{an:List Str}
def mJ.vals(F:mJ fs an){f:Str×List Str}(h:f∈fs):∀y∈f.2,F6 y=true:=(F.vs f h).2.2.2.1
end
def VL{x ts}{Q:D->Prop}(h1:BW x (.tuple ts))(h2:Q (.bool (JE x (.tuple ts)))):aJw x (.tuple ts) Q:=by
 cases x<;>exact⟨h1,h2⟩
def WH(d:D)(ys:List Str):((ys.map aY).any λz=>cG z d)=U6 ys d:=by
 induction ys with
 |nil=>cases d<;>rfl
 |cons y ys ih=>
  rw[aX,xY,ih]
  cases d with
  |str z=>
   show((y==z)||decide (z∈ys))=decide (z∈y::ys);rw[gH];simp only[C4,beq_iff_eq,decide_eq_true_eq,bH];exact⟨λh=>h.imp Eq.symm id,λh=>h.imp Eq.symm id⟩
  |_=>rfl
def YM{ys:List Str}(h:∀y∈ys,F6 y=true){d}(hd:Cd d):BW d (.tuple (ys.map aY)):=by
 obtain⟨_,_,_,_,b5,b6⟩:=vM (AR h (aO 8) (m:=0));exact⟨b6,hd.lay,by have:=hd.dep;omega⟩
def LI{ys:List Str}(h:∀y∈ys,F6 y=true){d:D}(hd:Cd d):BW d (.tuple (ys.map aY++[.none])):=by
 obtain⟨_,_,_,_,b5,b6⟩:=vM (aAi (AR h (aO 8) (m:=0)) (all_cons FO GW));exact⟨b6,hd.lay,by have:=hd.dep;omega⟩
theorem GD:∀{ys:List Str}{z}{m:Nat},m<ys.idxOf z->ys[m]?≠some z
|[],z,m,h=>by simp at h
|y::ys,z,m,h=>by
 rw[List.idxOf_cons]at h;by_cases e:y=z
 ·subst e;simp at h
 ·have e':(y==z)=false:=by simpa using e
  rw[e']at h;simp only[cond_false]at h
  cases m with
  |zero=>simpa using e
  |succ m=>
   rw[sR];exact GD (by omega)
noncomputable def qC(fs:List (Str×List Str))(d:D):Bool:=match d with | .tuple ts=>decide (ts.length=fs.length)&&(fs.zip ts).all (λp=>okV p.1 p.2) | _=>false
section
variable{fs:List (Str×List Str)}{an:List Str}
def pD{cs:List D}(h:qC fs (.tuple cs)=true):cs.length=fs.length/\∀(k:Nat) f c,fs[k]?=some f->cs[k]?=some c->okV f c=true:=by
 unfold qC at h;simp only[bY,decide_eq_true_eq,fX]at h;refine⟨h.1,λk f c h1 h2=>?_⟩;exact h.2 (f,c) (aW ((G9 (z:=(f,c))).mpr ⟨h1,h2⟩))
def Z9{cs:List D}(hl:cs.length=fs.length)(h:∀(k:Nat) f c,fs[k]?=some f->cs[k]?=some c->okV f c=true):qC fs (.tuple cs)=true:=by
 unfold qC;simp only[bY,decide_eq_true_eq,fX];refine⟨hl,λp hp=>?_⟩;obtain⟨k,hk⟩:=bV hp;obtain⟨h1,h2⟩:=G9.mp hk;exact h k p.1 p.2 h1 h2
def CI(F:mJ fs an){cs}(h:qC fs (.tuple cs)=true){n m:Nat}(hn:8<=n):∀c∈cs,Th n m c:=λc hc=>by
 obtain⟨hl,hv⟩:=pD h;obtain⟨k,hk⟩:=bV hc;have hk':k<fs.length:=by rw[<- hl];exact(aG.mp hk).1
 have:=hv k fs[k] c (aF hk') hk
 cases c with
 |none=>exact FO
 |str z=>exact pQ (F.vals (fA hk') z (of_decide_eq_true this)) hn
 |_=>cases this
end
noncomputable def fE(r:List D×Str):D:=.tuple [.tuple r.1,.str r.2]
def O0(fs:List (Str×List Str))(an:List Str)(r:List D×Str):Prop:=qC fs (.tuple r.1)=true/\r.2∈an
def jU(fs:List (Str×List Str))(an:List Str)(rs:List (List D×Str)):Prop:=∀r∈rs,O0 fs an r
def aDz{fs an}(F:mJ fs an){r}(h:O0 fs an r):Th 92 2 (fE r):=by
 have n5:=F.n5;exact FN 45 1 2 (all_cons (FN 8 0 5 (CI F h.1 (aO 8)) (by rw[(pD h.1).1];exact n5) (by decide) (by decide)) (all_cons (pQ (F.an.2.1 _ h.2) (by decide)) GW)) (aC rfl) (by decide) (by decide)
def XC{fs an}(F:mJ fs an){rs:List (List D×Str)}(h:jU fs an rs)(hl:rs.length<=60):Th 6000 3 (.list (rs.map fE)):=
 SA 92 2 60 (λt ht=>by
  obtain⟨r,hr,rfl⟩:=aQ.mp ht;exact aDz F (h r hr)) (by rw[aB];exact hl) (by decide) (by decide)
noncomputable def qOk(f:Str×List Str)(k v:D):Bool:=match k,v with
|.str kk,.str z=>decide (z∈f.2)&&(decide (kk="is")||(decide (kk="upto")&&decide (f.2.idxOf z+1<f.2.length)))
|_,_=>false
noncomputable def isN(n:D)(f:Str×List Str):Bool:=match n with | .str z=>decide (f.1=z) | _=>false
noncomputable def isQ(fs:List (Str×List Str))(d:D):Bool:=match d with
|.tuple [k,n,v]=>fs.any λf=>isN n f&&qOk f k v
|_=>false
noncomputable def mkQ(k:Str)(f:Str×List Str)(z:Str):D:=.tuple [.str k,.str f.1,.str z]
noncomputable def uT(f:Str×List Str):List Str:=if f.2.length=2 then f.2.take 1 else f.2
noncomputable def yE(f:Str×List Str):List Str:=(f.2.drop 1).take (f.2.length-3)
noncomputable def K7(f:Str×List Str):List D:=(uT f).map (mkQ "is" f)++(yE f).map (mkQ "upto" f)
noncomputable def fQ(fs:List (Str×List Str)):List D:=(fs.map K7).flatten
def aHd:SpF:=λds Q=>∃(fs:List (Str×List Str))(an:List Str),ds=[fC fs an]/\mJ fs an/\Q (fQ fs)
def U9{ys:List Str}{z}{j:Nat}(h:ys[j]?=some z):ys.idxOf z<=j:=by
 by_cases q:ys.idxOf z<=j
 ·exact q
 ·exact absurd h (GD (by omega))
def UI{f:Str×List Str}{z}(h:z∈yE f):z∈f.2/\f.2.idxOf z+1<f.2.length:=by
 unfold yE at h;have h1:z∈f.2:=vH (eT h);refine⟨h1,?_⟩;obtain⟨i,hi⟩:=bV h;have hl:=(aG.mp hi).1;rw[bC,eG]at hl;rw[mN,if_pos (by omega),iV]at hi;have:=U9 hi;omega
def U5{fs f k z}(hf:f∈fs)(h:qOk f (.str k) (.str z)=true):isQ fs (mkQ k f z)=true:=by
 show(fs.any λg=>isN (.str f.1) g&&qOk g (.str k) (.str z))=true;rw[BB];refine⟨f,hf,?_⟩;show(decide (f.1=f.1)&&qOk f (.str k) (.str z))=true;rw[h,decide_eq_true rfl];rfl
def CH{fs d}(h:d∈fQ fs):∃f∈fs,(∃z∈f.2,d=mkQ "is" f z)\/(∃z,z∈f.2/\f.2.idxOf z+1<f.2.length/\d=mkQ "upto" f z):=by
 unfold fQ at h;obtain⟨l,hl,hd⟩:=List.mem_flatten.mp h;obtain⟨f,hf,rfl⟩:=aQ.mp hl;refine⟨f,hf,?_⟩;unfold K7 at hd;rcases cK.mp hd with q | q
 ·obtain⟨z,hz,rfl⟩:=aQ.mp q;refine .inl ⟨z,?_,rfl⟩;unfold uT at hz;split at hz
  ·exact eT hz
  ·exact hz
 ·obtain⟨z,hz,rfl⟩:=aQ.mp q;exact .inr ⟨z,(UI hz).1,(UI hz).2,rfl⟩
def MC{fs d}(h:d∈fQ fs):isQ fs d=true:=by
 obtain⟨f,hf,⟨z,hz,rfl⟩ | ⟨z,hz,hi,rfl⟩⟩:=CH h
 ·refine U5 hf ?_;show(decide (z∈f.2)&&(decide (("is":Str)="is")||_))=true;rw[decide_eq_true hz];rfl
 ·refine U5 hf ?_;show(decide (z∈f.2)&&(decide (("upto":Str)="is")||(decide (("upto":Str)="upto")&&decide (f.2.idxOf z+1<f.2.length))))=true;rw[decide_eq_true hz,decide_eq_true hi,decide_eq_true (rfl:("upto":Str)="upto")];simp
theorem lZ{fs an}(F:mJ fs an):∀gs:List (Str×List Str),(∀g∈gs,g∈fs)->(fQ gs).length<=10*gs.length
|[],_=>aO _
|g::gs,h=>by
 have ih:=lZ F gs λx hx=>h x (aM _ hx);obtain⟨_,v5,_⟩:=F.vs g (h g (aR ..));show((K7 g::gs.map K7).flatten).length<=_;rw[WS,aV]
 have h1:(K7 g).length<=10:=by
  unfold K7 uT yE;rw[aV,aB,aB,bC,eG];split
  ·rw[bC];omega
  ·omega
 have:(fQ gs).length=((gs.map K7).flatten).length:=rfl;rw[cU];omega
def qV{ys:List Str}(hy:∀y∈ys,F6 y=true){z}(hz:z∈ys):P8 (ys.map aY) (.str z) (ys.idxOf z):=by
 have hzi:ys.idxOf z<ys.length:=jP.mpr hz;obtain⟨_,_,_,_,d5,d6⟩:=vM (AR hy (aO 8) (m:=0));refine⟨d6,(pQ (hy z hz) (aO 8) (m:=0)).lay,by omega,⟨.str z,?_,?_⟩,λm t hm ht=>?_⟩
 ·rw[aI,aF hzi,mM hzi];rfl
 ·show(z==z)=true;simp
 ·rw[aI]at ht
  cases e2:ys[m]? with
  |none=>rw[e2]at ht;cases ht
  |some y=>
   rw[e2]at ht;cases ht;show(y==z)=false
   have:y≠z:=λq=>by
    subst q;exact GD hm e2
   simpa using this
inductive Tr | say (a:Str) | ask (k n v s:Str) (y m:Tr)
noncomputable def trD:Tr->D
|.say a=>.tuple [.str "say",.str a]
|.ask k n v s y m=>.tuple [.str "ask",.tuple [.str k,.str n,.str v],.str s,trD y,trD m]
def GB{fs}{k n v:Str}(h:isQ fs (.tuple [.str k,.str n,.str v])=true):∃f∈fs,f.1=n/\v∈f.2/\(k="is"\/(k="upto"/\f.2.idxOf v+1<f.2.length)):=by
 obtain⟨f,hf,hq⟩:=BB.mp (h:(fs.any λf=>isN (.str n) f&&qOk f (.str k) (.str v))=true);rw[bY]at hq;have h2:(decide (v∈f.2)&&(decide (k="is")||(decide (k="upto")&&decide (f.2.idxOf v+1<f.2.length))))=true:=hq.2;simp only[bY,C4,decide_eq_true_eq]at h2;exact⟨f,hf,of_decide_eq_true hq.1,h2.1,h2.2⟩
def Z4(ys:List Str)(h:2<=ys.length):iB ys (some 1) (some (-2))=(ys.drop 1).take (ys.length-3):=by
 unfold iB
 have e1:HT.sIx ys.length 0 (some 1)=1:=by
  show(if(1:Int)<0 then((1:Int)+(ys.length:Int)).toNat else min (1:Int).toNat ys.length)=_;rw[if_neg (by decide)];show min 1 ys.length=1;omega
 have e2:HT.sIx ys.length ys.length (some (-2))=ys.length-2:=by
  show(if(-2:Int)<0 then((-2:Int)+(ys.length:Int)).toNat else min (-2:Int).toNat ys.length)=_;rw[if_pos (by decide)];omega
 rw[e1,e2];congr 1
def OS(ys:List Str)(h:2<=ys.length):iB ys none (some 1)=ys.take 1:=yW ys 1
def aHc:SpF:=λds Q=>∃f:Str×List Str,ds=[kZ f]/\2<=f.2.length/\f.2.length<=5/\Q (K7 f)
abbrev Rw:=List D×Str
noncomputable def zU(rs:List Rw)(a:Str):Nat:=rs.countP λr=>decide (r.2=a)
noncomputable def oM(an:List Str)(rs:List Rw):List Int:=an.map λa=>(zU rs a:Int)
def CU(an:List Str)(rs:List Rw)(a:Str):Prop:=∃k,an[k]?=some a/\(∀(j:Nat) b,an[j]?=some b->zU rs b<=zU rs a)/\∀(j:Nat) b,j<k->an[j]?=some b->zU rs b<zU rs a
def aEa:SpF:=λds Q=>∃(fs:List (Str×List Str))(an:List Str)(rs:List Rw),ds=[fC fs an,.list (rs.map fE)]/\mJ fs an/\jU fs an rs/\rs.length<=60/\Q ((oM an rs).map aH)
def aHe:uM:=λds Q=>∃(fs:List (Str×List Str))(an:List Str)(rs:List Rw),ds=[fC fs an,.list (rs.map fE)]/\mJ fs an/\jU fs an rs/\rs.length<=60/\∀a,CU an rs a->Q (.str a)
theorem JI{α:Type}[DecidableEq α]:∀(l:List α)(x:α),x∈l->∃k:Nat,l[k]?=some x/\∀j:Nat,j<k->l[j]?≠some x
|y::l,x,h=>by
 by_cases e:y=x
 ·exact⟨0,by rw[e];rfl,λj hj=>by omega⟩
 ·obtain⟨k,h1,h2⟩:=JI l x ((bH.mp h).resolve_left λz=>e z.symm);refine⟨k+1,h1,λj hj=>?_⟩
  cases j with
  |zero=>exactλz=>e (Option.some.inj z)
  |succ j=>exact h2 j (by omega)
noncomputable def vO(f:Str×List Str)(k v st:Str)(c:D):Str:=match c with
|.none=>st
|.str z=>if k="is" then(if z=v then "yes" else "no")else if f.2.idxOf z<=f.2.idxOf v then "yes" else "no"
|_=>""
noncomputable def mD(fs:List (Str×List Str))(k n v st:Str)(cs:List D):Str:=match fs[(fs.map (·.1)).idxOf n]?,cs[(fs.map (·.1)).idxOf n]? with
|some f,some c=>vO f k v st c
|_,_=>""
def SQ:uM:=λds Q=>∃(fs:List (Str×List Str))(an:List Str)(k n v st:Str)(cs:List D),ds=[fC fs an,.tuple [.str k,.str n,.str v],.str st,.tuple cs]/\mJ fs an/\isQ fs (.tuple [.str k,.str n,.str v])=true/\(st="yes"\/st="no")/\qC fs (.tuple cs)=true/\Q (.str (mD fs k n v st cs))
def aA5:uM:=SQ
noncomputable def yG(fs:List (Str×List Str))(k n v st:Str)(rs:List (List D×Str))(w:Str)(x:D):Bool:=match x with
|.int i=>match L2.atI rs i with | some r=>decide (mD fs k n v st r.1=w) | none=>false
|_=>false
def A2{fs:List (Str×List Str)}{an}(F:mJ fs an){j:Nat}{f:Str×List Str}(h:fs[j]?=some f):(fs.map (·.1)).idxOf f.1=j:=by
 have hm:f.1∈fs.map (·.1):=aQ.mpr ⟨f,aW h,rfl⟩;have hi:(fs.map (·.1)).idxOf f.1<(fs.map (·.1)).length:=jP.mpr hm;have h1:(fs.map (·.1))[(fs.map (·.1)).idxOf f.1]?=some f.1:=by rw[aF hi,mM hi]
 have h2:(fs.map (·.1))[j]?=some f.1:=by rw[aI,h];rfl
 exact(List.getElem?_inj hi F.nd.2.2).mp (h1.trans h2.symm)
def BH{fs an}(F:mJ fs an){k n v st cs}{j:Nat}{f:Str×List Str}{c}(h1:fs[j]?=some f)(h2:cs[j]?=some c)(hn:f.1=n):mD fs k n v st cs=vO f k v st c:=by
 subst hn;unfold mD;rw[A2 F h1,h1,h2]
def IN{te:ET}{DT:zZ}{σ:List Sl}{i:Nat}{ts us:List D}(ho:σ[i]?=some (.own ts))(hz:ts.length+us.length<=100000)(h:∀q:D->Prop,q (.list us)->te σ q)(k:DT.nx (σ.set i (.own (ts++us)))):aCk i te DT σ:=⟨ts,ho,h _ ⟨us,rfl,hz,k⟩⟩
def D9{fs k n v st rs w}{j:Nat}{r:List D×Str}(h:rs[j]?=some r):yG fs k n v st rs w (.int (j:Int))=decide (mD fs k n v st r.1=w):=by
 show(match L2.atI rs (j:Int)with | some r=>decide (mD fs k n v st r.1=w) | none=>false)=_;rw[L2.fZ h]
noncomputable def B4(k v:Str)(f:Str×List Str):List Str:=if k="is" then[v]else f.2.take (f.2.idxOf v+1)
def aBj:uM:=λds Q=>∃(k n v:Str)(f:Str×List Str),ds=[.tuple [.str k,.str n,.str v],kZ f]/\(∀y∈f.2,F6 y=true)/\v∈f.2/\f.2.length<=5/\Q (.tuple ((B4 k v f).map aY))
def QU{f:Str×List Str}{k v st z:Str}(hz:z∈f.2):(if U6 (B4 k v f) (.str z)=true then("yes":Str)else "no")=vO f k v st (.str z):=by
 show(if decide (z∈B4 k v f)=true then("yes":Str)else "no")=if k="is" then(if z=v then("yes":Str)else "no")else if f.2.idxOf z<=f.2.idxOf v then("yes":Str)else "no";unfold B4;by_cases hk:k="is"
 ·rw[if_pos hk,if_pos hk];by_cases e:z=v
  ·rw[if_pos e,if_pos (decide_eq_true (aZ.mpr e))]
  ·rw[if_neg e,if_neg (λq=>e (aZ.mp (of_decide_eq_true q)))]
 ·rw[if_neg hk,if_neg hk];have hi:f.2.idxOf z<f.2.length:=jP.mpr hz;by_cases e:f.2.idxOf z<=f.2.idxOf v
  ·rw[if_pos e,if_pos];refine decide_eq_true (aW (i:=f.2.idxOf z) ?_);rw[mN,if_pos (by omega),aF hi,mM hi]
  ·rw[if_neg e,if_neg];intro q;obtain⟨i,hi'⟩:=bV (of_decide_eq_true q);have hl:=(aG.mp hi').1;rw[bC]at hl;rw[mN,if_pos (by omega)]at hi';have:=U9 hi';omega
def JF{f:Str×List Str}{k v y}(hv:v∈f.2)(h:y∈B4 k v f):y∈f.2:=by
 unfold B4 at h;split at h
 ·rw[aZ.mp h];exact hv
 ·exact eT h
noncomputable def vA(k v st:Str)(f:Str×List Str):List D:=(B4 k v f).map aY++(if st="yes" then[uO]else[])
def aBk:uM:=λds Q=>∃(k n v st:Str)(f:Str×List Str),ds=[.tuple [.str k,.str n,.str v],.str st,kZ f]/\(∀y∈f.2,F6 y=true)/\v∈f.2/\f.2.length<=5/\Q (.tuple (vA k v st f))
def aBl:uM:=λds Q=>∃(fs:List (Str×List Str))(an:List Str)(k n v:Str)(f:Str×List Str)(j:Nat),ds=[fC fs an,.tuple [.str k,.str n,.str v]]/\mJ fs an/\fs[j]?=some f/\f.1=n/\Q (.int (j:Int))
def VC{k v}{f:Str×List Str}(h:f.2.length<=5):(B4 k v f).length<=5:=by
 unfold B4;split
 ·show 1<=5;decide
 ·rw[bC];omega
def U7{k v st:Str}{f}(hst:st="yes"\/st="no"){c}(hc:okV f c=true):(if JE c (.tuple (vA k v st f))=true then("yes":Str)else "no")=vO f k v st c:=by
 have e:JE c (.tuple (vA k v st f))=(U6 (B4 k v f) c||((if st="yes" then[uO]else[]).any λz=>cG z c)):=by
  show((vA k v st f).any λz=>cG z c)=_;unfold vA;rw[List.any_append,WH]
 cases c with
 |none=>
  rw[e];rcases hst with rfl | rfl<;>rfl
 |str z=>
  have hz:z∈f.2:=of_decide_eq_true hc
  have e2:((if st="yes" then[uO]else[]).any λx=>cG x (.str z))=false:=by
   rcases hst with rfl | rfl<;>rfl
  rw[e,e2,xZ];exact QU hz
 |_=>cases hc
def T8{k v st}{f:Str×List Str}(hf:∀y∈f.2,F6 y=true)(hv:v∈f.2){d}(hd:Cd d):BW d (.tuple (vA k v st f)):=by
 unfold vA;split
 ·exact LI (λy hy=>hf y (JF hv hy)) hd
 ·rw[dL];exact YM (λy hy=>hf y (JF hv hy)) hd
noncomputable def Z7(rs:List Rw)(x:D):D:=match x with | .str a=>.int ((zU rs a:Nat):Int) | _=>.none
def BC(rs:List Rw)(a:Str):((rs.map λr=>aY r.2).countP λt=>cG t (.str a))=zU rs a:=by
 rw[aAq];unfold zU;congr 1
def I0:∀{ys:List Str},(∀y∈ys,F6 y=true)->dP (ys.map aY)=true/\bU (ys.map aY)<=0:=λh=>by
 obtain⟨_,_,_,_,b5,b6⟩:=vM (AR h (aO 8) (m:=0));exact⟨b6,b5⟩
theorem mQ:∀ns:List Int,dP (ns.map aH)=true/\bU (ns.map aH)=0
|[]=>⟨rfl,rfl⟩
|n::ns=>by
 have:=mQ ns;refine⟨?_,?_⟩
 ·show(true&&dP (ns.map aH))=true;rw[this.1];rfl
 ·show max 0 (bU (ns.map aH))=0;rw[this.2];rfl
def P7{ns:List Int}{m:Int}{j:Nat}(h:ns[j]?=some m)(hno:∀i:Nat,i<j->ns[i]?≠some m):P8 (ns.map aH) (.int m) j:=by
 obtain⟨h1,h2⟩:=mQ ns;refine⟨h1,rfl,by rw[h2];omega,⟨.int m,by rw[aI,h];rfl,?_⟩,λi t hi ht=>?_⟩
 ·show(m==m)=true;simp
 ·rw[aI]at ht
  cases e:ns[i]? with
  |none=>rw[e]at ht;cases ht
  |some n=>
   rw[e]at ht;cases ht;show(n==m)=false;have:n≠m:=λz=>hno i hi (by rw[e,z]);simpa using this
noncomputable def aLr(x:D):D:=match x with | .tuple [_,b]=>b | _=>x
noncomputable def KU(fs:List (Str×List Str)):Tr->List D->List Str
|.say _,_=>[]
|.ask k n v s y m,cs=>mD fs k n v s cs::(if mD fs k n v s cs="yes" then KU fs y cs else KU fs m cs)
noncomputable def aGa(fs:List (Str×List Str)):Tr->List D->Str
|.say a,_=>a
|.ask k n v s y m,cs=>if mD fs k n v s cs="yes" then aGa fs y cs else aGa fs m cs
section
variable{fs:List (Str×List Str)}{an:List Str}
def XS(F:mJ fs an){k n v st:Str}{cs}(hq:isQ fs (.tuple [.str k,.str n,.str v])=true)(hst:st="yes"\/st="no")(hc:qC fs (.tuple cs)=true):mD fs k n v st cs="yes"\/mD fs k n v st cs="no":=by
 obtain⟨f,hf,hfn,hv,hk⟩:=GB hq;obtain⟨j,hj⟩:=bV hf;obtain⟨hcl,hcv⟩:=pD hc;have hjl:=(aG.mp hj).1;have hcj:cs[j]?=some cs[j]:=aF (by omega)
 generalize cs[j]=c at hcj
 rw[BH F hj hcj hfn];have hok:=hcv j f c hj hcj
 cases c with
 |none=>exact hst
 |str z=>
  show(if k="is" then(if z=v then("yes":Str)else "no")else if f.2.idxOf z<=f.2.idxOf v then("yes":Str)else "no")="yes"\/_;by_cases h1:k="is"
  ·by_cases h2:z=v
   ·exact .inl (by rw[if_pos h1,if_pos h2])
   ·exact .inr (by show(if k="is" then(if z=v then("yes":Str)else "no")else if f.2.idxOf z<=f.2.idxOf v then("yes":Str)else "no")="no";rw[if_pos h1,if_neg h2])
  ·by_cases h2:f.2.idxOf z<=f.2.idxOf v
   ·exact .inl (by rw[if_neg h1,if_pos h2])
   ·exact .inr (by show(if k="is" then(if z=v then("yes":Str)else "no")else if f.2.idxOf z<=f.2.idxOf v then("yes":Str)else "no")="no";rw[if_neg h1,if_neg h2])
 |_=>cases hok
end
noncomputable def there(fs:List (Str×List Str))(t:Tr)(rs:List (List D×Str))(pl:List Str)(x:D):Bool:=match x with
|.int i=>(match L2.atI rs i with | some r=>decide ((KU fs t r.1).take pl.length=pl) | none=>false)
|_=>false
def BF:uM:=λds Q=>∃ns:List Int,ds=[.list (ns.map aH)]/\ns.length<=63/\Q (.bool true)
def aA8:WK:=λ_ n ds Q=>∃(fs:List (Str×List Str))(an:List Str),ds=[fC fs an]/\mJ fs an/\n<800000000000/\∀n' cs,n'<=n+5->qC fs (.tuple cs)=true->Q n' (.tuple cs)
def aA7:WK:=λ_ n ds Q=>∃(fs:List (Str×List Str))(an:List Str)(m:Nat),ds=[fC fs an,.int m]/\mJ fs an/\m<=60/\n<700000000000/\∀n' rs,n'<=n+10*m->jU fs an rs->rs.length=m->Q n' (.list (rs.map fE))
def aA2:WK:=λ_ n ds Q=>ds=[]/\n<900000000000/\∀n' (a b:Int),n'<=n+3->0<=a->a<=1000000->0<=b->b<=1000000->Q n' (.tuple [.int a,.int b])
noncomputable def wJ(fs:List (Str×List Str))(t:Tr)(rs:List (List D×Str)):Nat:=(rs.filter λr=>!decide (aGa fs t r.1=r.2)).length
noncomputable def onY(fs:List (Str×List Str))(k n v st:Str)(r:List D×Str):Bool:=decide (mD fs k n v st r.1="yes")
def FA(fs:List (Str×List Str))(an:List Str)(fa:List (List D×Str)->Str):Prop:=∀rs,jU fs an rs->CU an rs (fa rs)
def CU.uniq{an rs a b}(h:CU an rs a)(g:CU an rs b):a=b:=by
 obtain⟨i,h1,h2,h3⟩:=h;obtain⟨j,g1,g2,g3⟩:=g;have e1:=h2 j b g1;have e2:=g2 i a h1;rcases nJ i j with z | z | z
 ·have:=g3 i a z h1;omega
 ·subst z;rw[h1]at g1;exact Option.some.inj g1
 ·have:=h3 j b z g1;omega
noncomputable def S3(rs:List (List D×Str))(x:D):D:=match x with | .int i=>(match L2.atI rs i with | some r=>fE r | none=>.none) | _=>.none
def JJ{an:List Str}(h:0<an.length)(rs:List (List D×Str)):∃a,CU an rs a:=by
 have key:∀(l:List Str),0<l.length->∃k a,l[k]?=some a/\(∀(j:Nat) b,l[j]?=some b->zU rs b<=zU rs a)/\∀(j:Nat) b,j<k->l[j]?=some b->zU rs b<zU rs a:=λl=>by
  induction l with
  |nil=>intro h;exact absurd h (by decide)
  |cons x l ih=>
   intro _
   cases l with
   |nil=>exact⟨0,x,rfl,λj b hb=>by
     cases j with
     |zero=>cases hb;exact aO _
     |succ j=>simp at hb,λj b hj _=>absurd hj (mL _)⟩
   |cons y l=>
    obtain⟨k,a,h1,h2,h3⟩:=ih (by simp);by_cases hx:zU rs a<=zU rs x
    ·refine⟨0,x,rfl,λj b hb=>?_,λj b hj _=>absurd hj (mL _)⟩
     cases j with
     |zero=>cases hb;exact aO _
     |succ j=>exact cI (h2 j b (by simpa using hb)) hx
    ·refine⟨k+1,a,by simpa using h1,λj b hb=>?_,λj b hj hb=>?_⟩
     ·cases j with
      |zero=>cases hb;omega
      |succ j=>exact h2 j b (by simpa using hb)
     ·cases j with
      |zero=>cases hb;omega
      |succ j=>exact h3 j b (by omega) (by simpa using hb)
 obtain⟨k,a,h1,h2,h3⟩:=key an h;exact⟨a,k,h1,h2,h3⟩
def aJu{fs an}(F:mJ fs an):∃fa,FA fs an fa:=
 ⟨λrs=>(JJ (an:=an) (by have:=F.a2;omega) rs).choose,λrs _=>(JJ (an:=an) (by have:=F.a2;omega) rs).choose_spec⟩
abbrev Fs:=List (Str×List Str)
abbrev Qn:=Str×Str×Str
abbrev Ch:=Qn×Str
noncomputable def qD(q:Qn):D:=.tuple [.str q.1,.str q.2.1,.str q.2.2]
noncomputable def tq(d:D):Qn:=match d with | .tuple [.str k,.str n,.str v]=>(k,n,v) | _=>("","","")
noncomputable def qs(fs:Fs):List Qn:=(fQ fs).map tq
def wR(fs:Fs):(qs fs).map qD=fQ fs:=by
 unfold qs;rw[bM]
 have:∀d∈fQ fs,(qD∘tq) d=id d:=λd hd=>by
  obtain⟨f,hf,⟨z,hz,rfl⟩ | ⟨z,hz,hi,rfl⟩⟩:=CH hd<;>rfl
 rw[lU this,lB]
def K6{fs}{q:Qn}(h:q∈qs fs):isQ fs (.tuple [.str q.1,.str q.2.1,.str q.2.2])=true:=by
 have:qD q∈(qs fs).map qD:=aQ.mpr ⟨q,h,rfl⟩;rw[wR]at this;exact MC this
noncomputable def uS(q:Qn):List Ch:=[(q,"yes"),(q,"no")]
noncomputable def sA(fs:Fs):List Ch:=(qs fs).flatMap uS
def V6{fs}{c:Ch}(h:c∈sA fs):c.1∈qs fs/\(c.2="yes"\/c.2="no"):=by
 obtain⟨q,hq,hc⟩:=W4.mp h;simp only[uS,bH,gM,or_false]at hc;rcases hc with rfl | rfl
 ·exact⟨hq,.inl rfl⟩
 ·exact⟨hq,.inr rfl⟩
def OW(fs:Fs):(sA fs).length=2*(fQ fs).length:=by
 unfold sA qs
 generalize (fQ fs)=l
 induction l with
 |nil=>rfl
 |cons x l ih=>
  rw[aX,rF,aV,ih];show 2+_=2*(l.length+1);omega
noncomputable def yH(fs:Fs)(c:Ch)(r:Rw):Bool:=onY fs c.1.1 c.1.2.1 c.1.2.2 c.2 r
noncomputable abbrev yR(fs:Fs)(c:Ch)(R:List Rw):List Rw:=R.filter (yH fs c)
noncomputable abbrev nR(fs:Fs)(c:Ch)(R:List Rw):List Rw:=R.filter λr=>!yH fs c r
noncomputable def fG(fs:Fs)(R:List Rw)(c:Ch):Bool:=!(yR fs c R).isEmpty&&!(nR fs c R).isEmpty
noncomputable def kP(fs:Fs)(fa:List Rw->Str)(a:Int)(R:List Rw):Int×Tr:=(a*(wJ fs (.say (fa R)) R:Nat),.say (fa R))
noncomputable def sU(b:Int)(c:Ch)(x y told:Int×Tr):Int×Tr:=if b+x.1+y.1<told.1 then(b+x.1+y.1,.ask c.1.1 c.1.2.1 c.1.2.2 c.2 x.2 y.2)else told
noncomputable def mI(fs:Fs)(fa:List Rw->Str)(a b:Int):Nat->List Rw->Int×Tr
|0,R=>kP fs fa a R
|d+1,R=>((sA fs).filter (fG fs R)).foldl (λtold c=>sU b c (mI fs fa a b d (yR fs c R)) (mI fs fa a b d (nR fs c R)) told) (kP fs fa a R)
theorem JH{α β:Type}{P:β->Prop}{f:β->α->β}:∀{cs:List α}{x},P x->(∀c∈cs,∀y,P y->P (f y c))->P (cs.foldl f x)
|[],_,h,_=>h
|c::cs,x,h,k=>JH (cs:=cs) (k c (aR ..) x h) λd hd=>k d (aM _ hd)
theorem GH{α:Type}{g:α->Int×Tr->Int×Tr}(dn:∀c y,(g c y).1<=y.1):∀(cs:List α)(x:Int×Tr),(cs.foldl (λt c=>g c t) x).1<=x.1
|[],_=>rM _
|c::cs,x=>aKs (GH dn cs (g c x)) (dn c x)
theorem ON{α:Type}{g:α->Int×Tr->Int×Tr}(dn:∀c y,(g c y).1<=y.1){m:α->Int}(hm:∀c y,(g c y).1<=m c):∀(cs:List α)(x:Int×Tr)(c:α),c∈cs->(cs.foldl (λt c=>g c t) x).1<=m c
|c'::cs,x,c,h=>by
 rcases bH.mp h with rfl | h
 ·exact aKs (GH dn cs (g c x)) (hm c x)
 ·exact ON dn hm cs (g c' x) c h
section
variable{fs:Fs}{fa:List Rw->Str}{a b:Int}
def M9(c:Ch)(x y t:Int×Tr):(sU b c x y t).1<=t.1:=by
 unfold sU;split
 ·rename_i h;exact aKt h
 ·exact rM _
def XI(c:Ch)(x y t:Int×Tr):(sU b c x y t).1<=b+x.1+y.1:=by
 unfold sU;split
 ·exact rM _
 ·rename_i h;exact Int.not_lt.mp h
noncomputable abbrev cC(fs:Fs)(fa:List Rw->Str)(a b:Int)(d:Nat)(R:List Rw)(c:Ch):Int:=b+(mI fs fa a b d (yR fs c R)).1+(mI fs fa a b d (nR fs c R)).1
def E7(d:Nat)(R:List Rw):(mI fs fa a b d R).1<=(kP fs fa a R).1:=by
 cases d with
 |zero=>exact rM _
 |succ d=>exact GH (g:=λc t=>sU b c (mI fs fa a b d (yR fs c R)) (mI fs fa a b d (nR fs c R)) t) (λc y=>M9 c _ _ y) _ _
def aF9{d:Nat}{R c}(hc:c∈sA fs)(hp:fG fs R c=true):(mI fs fa a b (d+1) R).1<=cC fs fa a b d R c:=
 ON (g:=λc t=>sU b c (mI fs fa a b d (yR fs c R)) (mI fs fa a b d (nR fs c R)) t) (m:=cC fs fa a b d R) (λc y=>M9 c _ _ y) (λc y=>XI c _ _ y) _ _ c (bZ.mpr ⟨hc,hp⟩)
def aAg(d:Nat)(R:List Rw):(mI fs fa a b (d+1) R).1=(kP fs fa a R).1\/∃c∈sA fs,fG fs R c=true/\(mI fs fa a b (d+1) R).1=cC fs fa a b d R c:=by
 refine JH (P:=λt:Int×Tr=>t.1=(kP fs fa a R).1\/∃c∈sA fs,fG fs R c=true/\t.1=cC fs fa a b d R c) (.inl rfl) λc hc y hy=>?_;obtain⟨h1,h2⟩:=bZ.mp hc;unfold sU;split
 ·exact .inr ⟨c,h1,h2,rfl⟩
 ·exact hy
theorem GU(ha:0<=a)(hb:0<=b):∀(d:Nat)(R:List Rw),0<=(mI fs fa a b d R).1
|0,R=>wC ha (mX _)
|d+1,R=>by
 rcases aAg (fs:=fs) (fa:=fa) (a:=a) (b:=b) d R with h | ⟨c,_,_,h⟩
 ·rw[h];exact wC ha (mX _)
 ·rw[h];have h1:=GU ha hb d (yR fs c R);have h2:=GU ha hb d (nR fs c R);show 0<=b+_+_;omega
noncomputable def T4(R:List Rw)(z:Str):Nat:=(R.filter λr=>!decide (r.2=z)).length
def AX(R:List Rw)(z:Str):T4 R z+zU R z=R.length:=by
 unfold T4 zU
 induction R with
 |nil=>rfl
 |cons r R ih=>
  rw[cX,List.countP_cons,cU];by_cases e:r.2=z
  ·rw[if_neg (by simp[e]),if_pos (decide_eq_true e)];omega
  ·rw[if_pos (by simp[e]),if_neg (by simp[e]),cU];omega
def sY(R:List Rw)(z:Str):wJ fs (.say z) R=T4 R z:=by
 unfold wJ T4;congr 1;apply WT;intro r _;show(!decide (z=r.2))=!decide (r.2=z);congr 1;exact decide_eq_decide.mpr ⟨Eq.symm,Eq.symm⟩
end
noncomputable def jC(ns:List Nat):D:=.tuple (ns.map λ(i:Nat)=>aH (i:Int))
noncomputable def bR(rs:List Rw)(ns:List Nat):List Rw:=ns.filterMap λi=>rs[i]?
noncomputable def N4(fs:Fs)(rs:List Rw)(c:Ch)(i:Nat):Bool:=match rs[i]? with | some r=>yH fs c r | none=>false
noncomputable abbrev yN(fs:Fs)(rs:List Rw)(c:Ch)(ns:List Nat):List Nat:=ns.filter (N4 fs rs c)
noncomputable abbrev nN(fs:Fs)(rs:List Rw)(c:Ch)(ns:List Nat):List Nat:=ns.filter λi=>!N4 fs rs c i
abbrev nI(rs:List Rw)(ns:List Nat):Prop:=ns.Sublist (cQ rs.length)
def nI.lt{rs:List Rw}{ns}(h:nI rs ns){i:Nat}(hi:i∈ns):i<rs.length:=dI.mp (h.subset hi)
def nI.len{rs:List Rw}{ns:List Nat}(h:nI rs ns):ns.length<=rs.length:=by
 have:=h.length_le
 rwa [cH]at this
def nI.filt{rs}{ns:List Nat}(h:nI rs ns)(p:Nat->Bool):nI rs (ns.filter p):=lV.trans h
theorem FR{fs}{rs:List Rw}{c}:∀{ns},(∀i∈ns,i<rs.length)->bR rs (yN fs rs c ns)=yR fs c (bR rs ns)/\bR rs (nN fs rs c ns)=nR fs c (bR rs ns)
|[],_=>⟨rfl,rfl⟩
|i::ns,h=>by
 have hi:=h i (aR ..);obtain⟨e1,e2⟩:=FR (fs:=fs) (rs:=rs) (c:=c) (ns:=ns) λj hj=>h j (aM _ hj);have er:rs[i]?=some rs[i]:=aF hi;have eo:N4 fs rs c i=yH fs c rs[i]:=by unfold N4;rw[er]
 have eR:bR rs (i::ns)=rs[i]::bR rs ns:=by unfold bR;rw[eQ,er]
 have eR':∀l:List Nat,bR rs (i::l)=rs[i]::bR rs l:=λl=>by unfold bR;rw[eQ,er]
 unfold yN nN yR nR at *;rw[eR,cX,cX,cX,cX,eo]
 cases yH fs c rs[i]with
 |true=>exact⟨by rw[if_pos rfl,if_pos rfl,eR',e1],by rw[if_neg (by decide),if_neg (by decide),e2]⟩
 |false=>exact⟨by rw[if_neg (by decide),if_neg (by decide),e1],by rw[if_pos (by decide),if_pos (by decide),eR',e2]⟩
theorem BK{rs:List Rw}:∀{ns:List Nat},(∀i∈ns,i<rs.length)->(bR rs ns).length=ns.length
|[],_=>rfl
|i::ns,h=>by
 have er:rs[i]?=some (rs[i]'(h i (aR ..))):=aF _;have ih:=BK (rs:=rs) (ns:=ns) λj hj=>h j (aM _ hj);unfold bR at ih |-
 rw[eQ,er,cU,ih];rfl
def S2{rs ns r}(h:r∈bR rs ns):r∈rs:=by
 obtain⟨i,_,e⟩:=kF.mp h;exact aW e
def FS{fs an rs}(h:jU fs an rs)(ns:List Nat):jU fs an (bR rs ns):=λr hr=>h r (S2 hr)
def F4:∀{xs ys},jC xs=jC ys->xs=ys:=λ{xs ys} h=>by
 have h:fJ _=fJ _:=h;injection h with h
 have:=congrArg (vJ λd:D=>match d with | .int i=>i.toNat | _=>0) h;simpa only[bM,Function.comp_def,dZ,List.map_id']using this
noncomputable def aLf(p:Int×Tr):D:=.tuple [.int p.1,trD p.2]
noncomputable def U0(ns:List Nat)(d:Nat):D:=.tuple [jC ns,.int (d:Nat)]
noncomputable def Z8(c:Ch):D:=.tuple [qD c.1,.str c.2]
noncomputable def XT(fs:Fs)(rs:List Rw)(c:Ch):D:=.list (rs.map λr=>aY (mD fs c.1.1 c.1.2.1 c.1.2.2 c.2 r.1))
noncomputable def chD(fs:Fs)(rs:List Rw)(c:Ch):D:=.tuple [qD c.1,.str c.2,XT fs rs c]
noncomputable def eY:List Str:=["form","kept","slip","knot","choices"]
noncomputable def wM(C:Addr)(fs:Fs)(an:List Str)(rs:List Rw)(a b:Int):D:=LU C eY [fC fs an,.list (rs.map fE),.int a,.int b,.list ((sA fs).map (chD fs rs))]
noncomputable def TQ(fs:Fs)(rs:List Rw)(ns:List Nat)(c:Ch):D:=.tuple [qD c.1,.str c.2,jC (yN fs rs c ns),jC (nN fs rs c ns)]
structure qY(fs:Fs)(an:List Str)(fa:List Rw->Str)(rs:List Rw)(a b:Int):Prop where
 F:mJ fs an
 fa:FA fs an fa
 R:jU fs an rs
 l:rs.length<=60
 a0:0<=a
 a1:a<=1000000
 b0:0<=b
 b1:b<=1000000
def aHb:uM:=λds Q=>∃(fs:Fs)(an:List Str),ds=[fC fs an]/\mJ fs an/\Q (.list ((sA fs).map Z8))
def aBh:uM:=λds Q=>∃(fs:Fs)(an:List Str)(c:Ch)(rs:List Rw),ds=[fC fs an,Z8 c,.list (rs.map fE)]/\mJ fs an/\c∈sA fs/\jU fs an rs/\rs.length<=60/\Q (XT fs rs c)
def aBi:uM:=λds Q=>∃xs ys:List Nat,ds=[.tuple [jC xs,jC ys],.int 1]/\Q (.bool (!xs.isEmpty&&!ys.isEmpty))
def aHi:SpI:=λds Q=>∃(fs:Fs)(an:List Str)(rs:List Rw)(a b:Int),ds=[fC fs an,.list (rs.map fE),.tuple [.int a,.int b]]/\mJ fs an/\jU fs an rs/\rs.length<=60/\Q [fC fs an,.list (rs.map fE),.int a,.int b,.list ((sA fs).map (chD fs rs))]
def aEb(w:World)(C:Addr):uM:=λds Q=>∃(fs:Fs)(an:List Str)(fa:List Rw->Str)(rs:List Rw)(a b:Int)(ns:List Nat),ds=[wM C fs an rs a b,jC ns]/\qY fs an fa rs a b/\nI rs ns/\Q (aLf (kP fs fa a (bR rs ns)))
def aHh(w:World)(C:Addr):uM:=λds Q=>∃(fs:Fs)(an:List Str)(fa:List Rw->Str)(rs:List Rw)(a b:Int)(ns:List Nat),ds=[wM C fs an rs a b,jC ns]/\qY fs an fa rs a b/\nI rs ns/\Q (.list (((sA fs).filter (fG fs (bR rs ns))).map (TQ fs rs ns)))
noncomputable def oA(x:List Nat×Nat):D:=U0 x.1 x.2
theorem EA{α:Type}[DecidableEq α]:∀{ls ms:List α},ls.Nodup->(∀x∈ls,x∈ms)->ls.length<=ms.length
|[],ms,_,_=>cL _
|a::l,ms,hn,h=>by
 have ha:=h a (aR ..)
 have:=EA (ls:=l) (ms:=ms.erase a) (jK.mp hn).2 λx hx=>by
  refine(PB (λe:x=a=>(jK.mp hn).1 (e▸hx))).mpr (h x (aM _ hx))
 rw[HE ha]at this;have hp:=KI ha;rw[cU];omega
noncomputable def DY:List Nat->List (List Nat)
|[]=>[[]]
|a::l=>DY l++(DY l).map (a::·)
theorem DX:∀l:List Nat,(DY l).length=2^l.length
|[]=>rfl
|a::l=>by
 show(DY l++_).length=_;rw[aV,aB,DX l,cU,AN];omega
def PK{x l:List Nat}(h:x.Sublist l):x∈DY l:=by
 induction h with
 |slnil=>exact aZ.mpr rfl
 |cons a _ ih=>exact fV _ ih
 |cons_cons a _ ih=>exact dW _ (aQ.mpr ⟨_,ih,rfl⟩)
def aA6:uM:=λds Q=>∃(fs:Fs)(an:List Str),ds=[fC fs an]/\mJ fs an/\Q (.list ((qs fs).map qD))
def BI{w u DT}{σ:List Sl}{i:Nat}(hi:i<σ.length)(hn:∀(j:Nat)(hs:List Int)(kvs:List (D×D)),σ[j]?≠some (.dic hs kvs))(k:u DT (σ.set i (tR w []))):kI (SX i) u DT σ:=⟨hi,hn,k⟩
theorem OJ:∀ns:List Nat,hkAll (ns.map λ(i:Nat)=>aH (i:Int))=true/\bU (ns.map λ(i:Nat)=>aH (i:Int))=0
|[]=>⟨rfl,rfl⟩
|n::ns=>by
 have:=OJ ns;refine⟨?_,?_⟩
 ·show(true&&hkAll (ns.map λ(i:Nat)=>aH (i:Int)))=true;rw[this.1];rfl
 ·show max 0 (bU (ns.map λ(i:Nat)=>aH (i:Int)))=0;rw[this.2];rfl
def lP(ns:List Nat)(d:Nat):DH (U0 ns d):=by
 obtain⟨h1,h2⟩:=OJ ns;refine⟨⟨?_,?_⟩,_,rfl⟩
 ·show(hkAll (ns.map λ(i:Nat)=>aH (i:Int))&&true)=true;rw[h1];rfl
 ·show max (bU _+1) (max 0 0)+1<=8;rw[h2];decide
def OC{xs ys}{d e:Nat}(h:U0 xs d=U0 ys e):xs=ys/\d=e:=by
 have h:fJ _=fJ _:=h;injection h with h
 injection h with h1 h
 injection h with h2 _
 injection h2 with h2
 exact⟨F4 h1,wE.inj h2⟩
def IW(d1 d2 d3 d4 d5:D):(eY.zip [d1,d2,d3,d4,d5]).lookup ("form":Str)=some d1/\(eY.zip [d1,d2,d3,d4,d5]).lookup ("kept":Str)=some d2/\(eY.zip [d1,d2,d3,d4,d5]).lookup ("slip":Str)=some d3/\(eY.zip [d1,d2,d3,d4,d5]).lookup ("knot":Str)=some d4/\(eY.zip [d1,d2,d3,d4,d5]).lookup ("choices":Str)=some d5:=by
 have n1:(("kept":Str)=="form")=false:=by decide +kernel
 have n2:(("slip":Str)=="form")=false:=by decide +kernel
 have n3:(("slip":Str)=="kept")=false:=by decide +kernel
 have n4:(("knot":Str)=="form")=false:=by decide +kernel
 have n5:(("knot":Str)=="kept")=false:=by decide +kernel
 have n6:(("knot":Str)=="slip")=false:=by decide +kernel
 have n7:(("choices":Str)=="form")=false:=by decide +kernel
 have n8:(("choices":Str)=="kept")=false:=by decide +kernel
 have n9:(("choices":Str)=="slip")=false:=by decide +kernel
 have n0:(("choices":Str)=="knot")=false:=by decide +kernel
 unfold eY;simp only[List.zip_cons_cons,iE,beq_self_eq_true,n1,n2,n3,n4,n5,n6,n7,n8,n9,n0,and_self]
theorem NK{rs:List Rw}:∀{ns:List Nat},(∀i∈ns,i<rs.length)->(ns.map λ(i:Nat)=>aH (i:Int)).map (S3 rs)=(bR rs ns).map fE
|[],_=>rfl
|i::ns,h=>by
 have hi:=h i (aR ..);have ih:=NK (rs:=rs) (ns:=ns) λj hj=>h j (aM _ hj);have er:rs[i]?=some rs[i]:=aF hi;have eR:bR rs (i::ns)=rs[i]::bR rs ns:=by unfold bR;rw[eQ,er]
 rw[aX,aX,ih,eR,aX];congr 1;show(match L2.atI rs (i:Int)with | some r=>fE r | none=>uO)=_;rw[L2.fZ er]
theorem SR{fs an}{rs:List Rw}{c:Ch}(F:mJ fs an)(hc:c∈sA fs)(hR:jU fs an rs):∀{ns:List Nat},(∀i∈ns,i<rs.length) ->
 (ns.map λ(i:Nat)=>aH (i:Int)).filter (yG fs c.1.1 c.1.2.1 c.1.2.2 c.2 rs "yes")=(yN fs rs c ns).map (λ(i:Nat)=>aH (i:Int)) /\
 (ns.map λ(i:Nat)=>aH (i:Int)).filter (yG fs c.1.1 c.1.2.1 c.1.2.2 c.2 rs "no")=(nN fs rs c ns).map (λ(i:Nat)=>aH (i:Int))
|[],_=>⟨rfl,rfl⟩
|i::ns,h=>by
 have hi:=h i (aR ..);obtain⟨e1,e2⟩:=SR F hc hR (ns:=ns) λj hj=>h j (aM _ hj);have er:rs[i]?=some rs[i]:=aF hi;have eo:N4 fs rs c i=yH fs c rs[i]:=by unfold N4;rw[er]
 obtain⟨hq,hs⟩:=V6 hc;have hyn:=XS F (K6 hq) hs (hR _ (fA hi)).1
 have o1:∀w,yG fs c.1.1 c.1.2.1 c.1.2.2 c.2 rs w (.int (i:Int))=decide (mD fs c.1.1 c.1.2.1 c.1.2.2 c.2 rs[i].1=w):=λw=>by
  show(match L2.atI rs (i:Int)with | some r=>decide (mD fs c.1.1 c.1.2.1 c.1.2.2 c.2 r.1=w) | none=>false)=_;rw[L2.fZ er]
 have oc:yH fs c rs[i]=decide (mD fs c.1.1 c.1.2.1 c.1.2.2 c.2 rs[i].1="yes"):=rfl;unfold yN nN at *;rw[aX,cX,cX,cX,cX,eo,oc,o1,o1,e1,e2];rcases hyn with e | e
 ·rw[e];have d1:decide (("yes":Str)="yes")=true:=by decide +kernel
  have d2:decide (("yes":Str)="no")=false:=by decide +kernel
  rw[d1,d2];exact⟨rfl,rfl⟩
 ·rw[e];have d1:decide (("no":Str)="yes")=false:=by decide +kernel
  have d2:decide (("no":Str)="no")=true:=by decide +kernel
  rw[d1,d2];exact⟨rfl,rfl⟩
def IK{fs}{rs:List Rw}{c ns}(h:∀i∈ns,i<rs.length):fG fs (bR rs ns) c=(!(yN fs rs c ns).isEmpty&&!(nN fs rs c ns).isEmpty):=by
 obtain⟨e1,e2⟩:=FR (fs:=fs) (rs:=rs) (c:=c) h
 have em:∀l:List Nat,(∀i∈l,i<rs.length)->(bR rs l).isEmpty=l.isEmpty:=λl hl=>by
  have:=BK hl;rw[gH,AO,AO,this]
 unfold fG;rw[<- e1,<- e2,em _ λi hi=>h i (bZ.mp hi).1,em _ λi hi=>h i (bZ.mp hi).1]
def N8{an R z}(hf:CU an R z){m:Int}(hm:m∈oM an R)(hx:∀n∈oM an R,n<=m):m=(zU R z:Int):=by
 obtain⟨k,h1,h2,_⟩:=hf;have g1:=hx _ (aQ.mpr ⟨z,aW h1,rfl⟩);obtain⟨y,hy,rfl⟩:=aQ.mp hm;obtain⟨j,hj⟩:=bV hy;have g2:=h2 j y hj;omega
def JD(x y:List Nat×Nat)(h:oA x=oA y):x=y:=Prod.ext (OC h).1 (OC h).2
def FZ{kvs:List (D×D)}{k v}(h:k∉kvs.map (·.1)):BT kvs k v=kvs++[(k,v)]:=if_neg h
def M3:("leaf_of":Str)∉eY:=by decide +kernel
def XD:("partings":Str)∉eY:=by decide +kernel
def _root_.L2.Room.u9{k:Nat}{A:Around}(r:Room k A):A.units+9<cLine:=by have:=r.un;omega
noncomputable def UK(f:Str×List Str)(x:D):D:=match x with | .int i=>(match L2.atI (f.2.map aY) i with | some d=>fJ [.str "upto",.str f.1,d] | none=>.none) | _=>.none
def UJ{f:Str×List Str}(h:2<=f.2.length):(TL.lE 1 (((f.2.map aY).length:Int)-2-1).toNat).map (UK f)=(yE f).map (mkQ "upto" f):=by
 have hn:(((f.2.map aY).length:Int)-2-1).toNat=f.2.length-3:=by rw[aB];omega
 rw[hn];unfold TL.lE yE;apply gC;intro m;rw[aI,aI,aI];by_cases hm:m<f.2.length-3
 ·rw[gZ hm,mN,if_pos hm,iV,aF (show 1+m<f.2.length by omega)];have e:(1:Int)+(m:Int)=((1+m:Nat):Int):=by omega
  unfold UK;show some (match L2.atI (f.2.map aY) ((1:Int)+(m:Int))with | some d=>fJ [.str "upto",.str f.1,d] | none=>.none)=some (mkQ "upto" f (f.2[1+m]'(by omega)));rw[e,xN (by omega)];rfl
 ·rw[eZ (by rw[cH];omega),eZ (by rw[bC,eG];omega)];rfl
def SS{te:ET}{u DT}{σ:List Sl}{i j l:Nat}{a b c}(h:∀q:D->Prop,q (.tuple [a,b,c])->te σ q)(k:u DT (((σ.set i (.val a)).set j (.val b)).set l (.val c))):kI (SW te (gP3 i j l)) u DT σ:=h _ ⟨a,b,c,rfl,k⟩
def aD1{i:Int}(h0:-999999999999<=i)(h1:i<=999999999999){m:Nat}:Th 0 m (.int i):=by
 have hz:i.natAbs<10^12:=by omega
 refine⟨aO _,?_,?_,rfl,cL _,rfl⟩
 ·have:=PyData.shown_int_le hz;show decide ((PyData.shown (.int i)).length<=110)=true;exact decide_eq_true (by omega)
 ·show decide (i.natAbs.log2<1920)=true;refine decide_eq_true ?_;by_cases e:i.natAbs=0
  ·rw[e];decide
  ·refine(Nat.log2_lt e).mpr (cW hz ?_);exact cI (show 10^12<=2^40 by decide) (lC (aC rfl) (aC rfl))
def aD0{n:Nat}(h:n<=999999999999){m:Nat}:Th 0 m (.int (n:Nat)):=aD1 (by omega) (by omega)
abbrev Rg:=Rw×List D
noncomputable def fH(r:Rg):D:=.tuple (.tuple r.1.1::.str r.1.2::r.2)
noncomputable def KB(fs:Fs)(k n v st:Str)(r:Rg):Bool:=onY fs k n v st r.1
noncomputable def aLs:D->D
|.tuple (_::b::_)=>b
|d=>d
noncomputable def aG3:D->D
|.tuple [_,_,b]=>b
|d=>d
noncomputable def plain(r:Rw):Rg:=(r,[])
def aA4:uM:=λds Q=>∃(fs:Fs)(an:List Str)(k n v st:Str)(rs:List Rg),ds=[fC fs an,.tuple [.str k,.str n,.str v],.str st,.list (rs.map fH)]/\mJ fs an/\isQ fs (.tuple [.str k,.str n,.str v])=true/\(st="yes"\/st="no")/\jU fs an (rs.map (·.1))/\rs.length<=60/\Q (.tuple [.list ((rs.filter (KB fs k n v st)).map fH),.list ((rs.filter λr=>!KB fs k n v st r).map fH)])
def aA3:uM:=λds Q=>∃(fs:Fs)(an:List Str)(rs:List Rg),ds=[fC fs an,.list (rs.map fH)]/\mJ fs an/\jU fs an (rs.map (·.1))/\rs.length<=60/\Q (.list ((oM an (rs.map (·.1))).map aH))
def NG:uM:=λds Q=>∃(fs:Fs)(an:List Str)(fa:List Rw->Str)(rs:List Rg)(a:Int),ds=[fC fs an,.list (rs.map fH),.int a]/\mJ fs an/\FA fs an fa/\jU fs an (rs.map (·.1))/\rs.length<=60/\0<=a/\a<=1000000/\Q (.int (kP fs fa a (rs.map (·.1))).1)
noncomputable def uR(fs:Fs)(rs:List Rg)(c:Ch):D:=.tuple [.list ((rs.filter λr=>yH fs c r.1).map fH),.list ((rs.filter λr=>!yH fs c r.1).map fH)]
def NF:uM:=λds Q=>∃(fs:Fs)(an:List Str)(rs:List Rg),ds=[fC fs an,.list (rs.map fH)]/\mJ fs an/\jU fs an (rs.map (·.1))/\rs.length<=60/\(∀r∈rs,Th 200 2 (fH r))/\Q (.list (((sA fs).filter (fG fs (rs.map (·.1)))).map (uR fs rs)))
noncomputable def dX(rs:List Rw)(ns:List Nat):List Rg:=ns.filterMap λi=>(rs[i]?).map λr=>(r,[aH (i:Nat)])
def NE:uM:=λds Q=>∃(rs:List Rw)(ns:List Nat),ds=[.list ((dX rs ns).map fH)]/\nI rs ns/\rs.length<=60/\Q (jC ns)
def mG(rs:List Rw)(ns:List Nat):(dX rs ns).map (·.1)=bR rs ns:=by
 unfold dX bR;rw[List.map_filterMap];congr 1;funext i;cases rs[i]?<;>rfl
theorem EN{rs:List Rw}:∀{ns:List Nat},(∀i∈ns,i<rs.length)->((dX rs ns).map fH).map aG3=ns.map λ(i:Nat)=>aH (i:Int)
|[],_=>rfl
|i::ns,h=>by
 have hi:=h i (aR ..);have ih:=EN λj hj=>h j (aM _ hj);unfold dX at ih |-
 rw[eQ,aF hi];show _::_=_::_;rw[<- ih];rfl
def EO{rs ns}{r:Rg}(h:r∈dX rs ns):∃i:Nat,i∈ns/\r.2=[.int (i:Nat)]/\r.1∈rs:=by
 obtain⟨i,hi,e⟩:=kF.mp h;obtain⟨x,hx,rfl⟩:=bT.mp e;exact⟨i,hi,rfl,aW hx⟩
def yO(rs:List Rw)(ns:List Nat):(dX rs ns).length<=ns.length:=rJ ..
theorem oZ(rs:List Rw)(p:Rw->Bool)(q:Nat->Bool):∀(ns:List Nat),(∀i∈ns,∀r,rs[i]?=some r->p r=q i)->(dX rs ns).filter (λr=>p r.1)=dX rs (ns.filter q)
|[],_=>rfl
|i::ns,h=>by
 have ih:=oZ rs p q ns λj hj=>h j (aM _ hj);unfold dX at ih |-
 cases hx:rs[i]? with
 |none=>
  rw[HF (by rw[hx];rfl),ih,cX];split
  ·rw[HF (by rw[hx];rfl)]
  ·rfl
 |some r=>
  have hp:=h i (aR ..) r hx;rw[rL (b:=(r,[aH (i:Nat)])) (by rw[hx];rfl),cX,cX];dsimp only;rw[hp,ih];split
  ·rw[rL (b:=(r,[aH (i:Nat)])) (by rw[hx];rfl)]
  ·rfl
noncomputable def cN(x:List Int×Int×Int):D:=.tuple [.tuple (x.1.map aH),.int x.2.1,.int x.2.2]
noncomputable def KV(fs:Fs)(fa:List Rw->Str)(a b:Int)(rs:List Rw)(ks:List (List Nat×Nat)):List (D×D):=ks.map λx=>(oA x,aH (mI fs fa a b x.2 (bR rs x.1)).1)
noncomputable def gF(rs:List Rw):D->D
|.int i=>match rs[i.toNat]? with | some r=>fH (r,[.int i]) | none=>.none
|_=>.none
theorem GG{rs:List Rw}:∀{ns:List Nat},(∀i∈ns,i<rs.length)->(ns.map λ(i:Nat)=>aH (i:Int)).map (gF rs)=(dX rs ns).map fH
|[],_=>rfl
|i::ns,h=>by
 have hi:=h i (aR ..);have ih:=GG λj hj=>h j (aM _ hj);unfold dX at ih |-
 rw[eQ,aF hi,aX,aX,ih];show gF rs (.int ((i:Nat):Int))::_=_::_;congr 1;unfold gF;dsimp only;rw[dZ,aF hi]
def M4{fs an}(F:mJ fs an){rs:List Rw}(hR:jU fs an rs){ns}(hn:nI rs ns)(hl:rs.length<=60){r}(hr:r∈dX rs ns):Th 200 2 (fH r):=by
 obtain⟨i,hi,e,hm⟩:=EO hr;have hil:=hn.lt hi;have h:=hR _ hm;obtain⟨r1,r2⟩:=r;dsimp only at e hm h;subst e;have n5:=F.n5;exact FN 45 1 3 (all_cons (FN 8 0 5 (CI F h.1 (aO 8)) (by rw[(pD h.1).1];exact n5) (by decide) (by decide)) (all_cons (pQ (F.an.2.1 _ h.2) (by decide)) (all_cons ((aD0 (n:=i) (m:=1) (by omega)).mono (by decide) (by decide)) GW))) (aC rfl) (by decide) (by decide)
abbrev En:=List Int×Int×Int
def GZ(m:Nat)(ns:List Int):Prop:=ns.Pairwise (·<·)/\∀n∈ns,0<=n/\n<(m:Int)
def xQ(m:Nat)(x:En):Prop:=x.1≠[]/\GZ m x.1/\1<=x.2.1/\x.2.1<=3/\0<=x.2.2
noncomputable def pN(x:En):List Int×Int:=(x.1,x.2.1)
noncomputable def JB(x:En):D:=.tuple [.tuple (x.1.map aH),.int x.2.1]
def DG(m:Nat)(xs:List En):Prop:=(∀x∈xs,xQ m x)/\(xs.map pN).Nodup
def aHg:uM:=λds Q=>∃(xs:List D)(lo hi:Int),ds=[.tuple xs,.int lo,.int hi]/\Q (.bool (decide (lo<=(xs.length:Int))&&decide ((xs.length:Int)<=hi)))
def aHf:uM:=λds Q=>∃i:Int,ds=[.int i]/\Q (.bool true)
def aBe:uM:=λds Q=>∃(m:Nat)(ns:List Int),ds=[.tuple (ns.map aH),.int (m:Nat)]/\ns.length<=60/\m<=60/\∀z:Bool,(z=true↔GZ m ns)->Q (.bool z)
def aBf:uM:=λds Q=>∃(m:Nat)(x:En),ds=[.int (m:Nat),cN x]/\x.1.length<=60/\m<=60/\∀z:Bool,(z=true↔xQ m x)->Q (.bool z)
def aBg:uM:=λds Q=>∃(m:Nat)(xs:List En),ds=[.int (m:Nat),.list (xs.map cN)]/\(∀x∈xs,x.1.length<=60)/\xs.length<300/\m<=60/\∀z:Bool,(z=true↔DG m xs)->Q (.bool z)
def WG{l m:List Int}(hl:l.Pairwise (·<·))(hm:m.Pairwise (·<·))(h:∀z,z∈l↔z∈m):l=m:=
 gD.eq_of_pairwise (le:=(·<·)) (λa b _ _ h1 h2=>by omega) hl hm ((pX (hl.imp λh=>MX h) (hm.imp λh=>MX h)).mpr h)
noncomputable def yD(m:Nat):List Int:=(cQ m).map λ(k:Nat)=>(k:Int)
def NL(m:Nat):(yD m).Pairwise (·<·):=fB.mpr (gX.imp λh=>aKr.mpr h)
def FU{m:Nat}{n:Int}:n∈yD m↔0<=n/\n<(m:Int):=by
 unfold yD;rw[aQ];constructor
 ·rintro⟨k,hk,rfl⟩;have:=dI.mp hk;omega
 ·rintro⟨h1,h2⟩;exact⟨n.toNat,dI.mpr (by omega),by omega⟩
def X3(m:Nat)(ns:List Int):ns=(yD m).filter (λi=>decide (i∈ns))↔GZ m ns:=by
 constructor
 ·intro h;have h1:(ns.Pairwise (·<·)):=by rw[h];exact(NL m).sublist lV
  refine⟨h1,λn hn=>?_⟩;rw[h]at hn;exact FU.mp (bZ.mp hn).1
 ·rintro⟨h1,h2⟩;refine WG h1 ((NL m).sublist lV) λz=>?_;rw[bZ,decide_eq_true_iff];exact⟨λh=>⟨FU.mpr (h2 z h),h⟩,λh=>h.2⟩
theorem GC:∀{l m:List Int},l.map aH=m.map aH->l=m
|[],[],_=>rfl
|[],_::_,h=>by cases h
|_::_,[],h=>by cases h
|a::l,b::m,h=>by
 rw[aX,aX]at h;injection h with h1 h2
 injection h1 with h1
 rw[h1,GC h2]
theorem xI:∀ns:List Int,hkAll (ns.map aH)=true/\bU (ns.map aH)=0
|[]=>⟨rfl,rfl⟩
|i::ns=>by
 obtain⟨h1,h2⟩:=xI ns;constructor
 ·show(hk (.int i)&&hkAll (ns.map aH))=true;rw[h1];rfl
 ·show max (HD (.int i)) (bU (ns.map aH))=0;rw[h2];rfl
def CA(l m:List Int):(cG (.list (l.map aH)) (.list (m.map aH))=true)↔l=m:=by
 constructor
 ·intro h;have h':qM (l.map aH) (m.map aH)=true:=by simpa[cG]using h
  exact GC (hk_eqvAll (xI l).1 (xI m).1 h')
 ·rintro rfl;exact PySem.SeqAt.eqv_refl _ (mQ l).1
def Y8(i:Int)(ns:List Int):JE (.int i) (.tuple (ns.map aH))=decide (i∈ns):=by
 rw[gH,decide_eq_true_iff];show(ns.map aH).any (λt=>cG t (.int i))=true↔_;rw[BB];constructor
 ·rintro⟨x,hx,e⟩;obtain⟨j,hj,rfl⟩:=aQ.mp hx;have:decide (j=i)=true:=by simpa[cG]using e
  rw[<- of_decide_eq_true this];exact hj
 ·intro h;exact⟨_,aQ.mpr ⟨i,h,rfl⟩,by simp[cG]⟩
def X2{m:Nat}{ns:List Int}(h:GZ m ns):ns.length<=m:=by
 have:ns.length<=(yD m).length:=L2.uE (h.1.imp λh=>MX h) λx hx=>FU.mpr (h.2 x hx);unfold yD at this
 rwa [aB,cH]at this
theorem JX{R:En->Prop}{f:En->D}:∀{xs:List En}{ys:List D},ys.length=(xs.map f).length->(∀(k:Nat)(d y:D),(xs.map f)[k]?=some d->ys[k]?=some y->∃(x:En)(z:Bool),xs[k]?=some x/\y=.bool z/\(z=true↔R x))->∃bs:List Bool,ys=bs.map qK/\(bs.all id=true↔∀x∈xs,R x)
|[],[],_,_=>⟨[],rfl,by simp⟩
|[],_::_,h,_=>by simp at h
|_::_,[],h,_=>by simp at h
|x::xs,y::ys,h,hh=>by
 obtain⟨bs,rfl,hb⟩:=JX (f:=f) (xs:=xs) (ys:=ys) (by simpa using h) λk d y' h1 h2=>hh (k+1) d y' h1 h2;obtain⟨x',z,hx,rfl,hz⟩:=hh 0 (f x) y rfl rfl;cases hx;refine⟨z::bs,rfl,?_⟩;rw[aGp,bY,hb,PC];exact and_congr hz Iff.rfl
def LP(x:En):DH (JB x):=by
 obtain⟨h1,h2⟩:=xI x.1;refine⟨⟨?_,?_⟩,_,rfl⟩
 ·show(hkAll (x.1.map aH)&&(hk (.int x.2.1)&&true))=true;rw[h1];rfl
 ·show max (bU (x.1.map aH)+1) (max (HD (.int x.2.1)) 0)+1<=8;rw[h2];show max (0+1) (max 0 0)+1<=8;decide
def UW{x y}(h:JB x=JB y):pN x=pN y:=by
 unfold JB at h;injection h with h
 injection h with h1 h
 injection h with h2 _
 injection h1 with h1
 injection h2 with h2
 unfold pN;rw[GC h1,h2]
def UV(xs:List En):(xs.map JB).Nodup↔(xs.map pN).Nodup:=by
 unfold R4;rw[fB,fB]
 have e:∀x y:En,JB x≠JB y↔pN x≠pN y:=λx y=>⟨λh z=>h (by
  unfold pN at z;injection z with z1 z2
  unfold JB;rw[z1,z2]),λh z=>h (UW z)⟩
 constructor
 ·exactλh=>h.imp λz=>(e _ _).mp z
 ·exactλh=>h.imp λz=>(e _ _).mpr z
noncomputable def aJ9:D->D
|.tuple (a::b::_)=>.tuple [a,b]
|d=>d
abbrev Tb:=List ((List Nat×Nat)×Int)
noncomputable def kY(t:Tb):List (D×D):=t.map λe=>(oA e.1,aH e.2)
section
variable(fs:Fs)(fa:List Rw->Str)(a b:Int)(rs:List Rw)
def nC(t:Tb)(ms:List Nat)(d:Nat)(c:Int):Prop:=(d=0/\c=(kP fs fa a (bR rs ms)).1)\/(0<d/\((ms,d),c)∈t)
def OZ(t:Tb)(ms:List Nat)(d:Nat)(v:D):Prop:=(∃c,nC fs fa a rs t ms d c/\v=.int c)\/(0<d/\(ms,d)∉t.map (·.1)/\v=.none)
def zW(t:Tb)(ns:List Nat)(d:Nat)(c:Int)(ch:Ch):Prop:=∃cy cn,nC fs fa a rs t (yN fs rs ch ns) d cy/\nC fs fa a rs t (nN fs rs ch ns) d cn/\c<=b+(cy+cn)
def xS(t:Tb)(ns:List Nat)(d:Nat)(c:Int):Prop:=c<=(kP fs fa a (bR rs ns)).1/\∀ch∈(sA fs).filter (fG fs (bR rs ns)),zW fs fa a b rs t ns d c ch
end
structure aGd(rs:List Rw)(t:Tb):Prop where
 nd:(t.map (·.1)).Nodup
 ok:∀e∈t,nI rs e.1.1/\1<=e.1.2/\e.1.2<=3/\0<=e.2/\e.2<2^40
 l:t.length<300
def kX(t:Tb):∀kv∈kY t,mT kv.1:=λkv h=>by
 obtain⟨e,_,rfl⟩:=aQ.mp h;exact(lP e.1.1 e.1.2).1
def tK(t:Tb):(kY t).map (·.1)=t.map λe=>oA e.1:=by unfold kY;rw[bM];rfl
def uG{t x v}:(oA x,v)∈kY t↔∃c,(x,c)∈t/\v=.int c:=by
 constructor
 ·intro h;obtain⟨e,he,ee⟩:=aQ.mp h;injection ee with e1 e2
  have:=JD _ _ e1;obtain⟨x',c⟩:=e;dsimp only at this e2;subst this;exact⟨c,he,e2.symm⟩
 ·rintro⟨c,h,rfl⟩;exact aQ.mpr ⟨_,h,rfl⟩
def xF{t:Tb}{x}:oA x∉(kY t).map (·.1)↔x∉t.map (·.1):=by
 rw[tK];constructor
 ·intro h z;obtain⟨e,he,rfl⟩:=aQ.mp z;exact h (aQ.mpr ⟨e,he,rfl⟩)
 ·intro h z;obtain⟨e,he,ee⟩:=aQ.mp z;exact h (aQ.mpr ⟨e,he,JD _ _ ee⟩)
def aD3{t:Tb}(h:(t.map (·.1)).Nodup){x}{c c':Int}(h1:(x,c)∈t)(h2:(x,c')∈t):c=c':=by
 obtain⟨i,hi⟩:=bV h1;obtain⟨j,hj⟩:=bV h2;have e:i=j:=BX h (c:=x) (by rw[aI,hi];rfl) (by rw[aI,hj];rfl);rw[e,hj]at hi;cases hi;rfl
def aBc(w:World)(C:Addr):uM:=λds Q=>∃(fs:Fs)(an:List Str)(fa:List Rw->Str)(rs:List Rw)(a b:Int)(t:Tb)(ns:List Nat)(d:Nat),ds=[wM C fs an rs a b,nH w (kY t),jC ns,.int (d:Nat)]/\qY fs an fa rs a b/\nI rs ns/\∀v,OZ fs fa a rs t ns d v->Q v
def aBd(w:World)(C:Addr):uM:=λds Q=>∃(fs:Fs)(an:List Str)(fa:List Rw->Str)(rs:List Rw)(a b:Int)(t:Tb)(ns:List Nat)(d:Nat)(c:Int),ds=[wM C fs an rs a b,nH w (kY t),jC ns,.int ((d+1:Nat):Int)]/\qY fs an fa rs a b/\nI rs ns/\aGd rs t/\((ns,d+1),c)∈t/\∀z:Bool,(z=true↔xS fs fa a b rs t ns d c)->Q (.bool z)
def wK{fs}{fa:List Rw->Str}{a:Int}{rs}{t:Tb}(h:(t.map (·.1)).Nodup){ms}{d:Nat}{c c':Int}(h1:nC fs fa a rs t ms d c)(h2:nC fs fa a rs t ms d c'):c=c':=by
 rcases h1 with⟨e1,rfl⟩ | ⟨p1,m1⟩
 ·rcases h2 with⟨_,rfl⟩ | ⟨p2,_⟩
  ·rfl
  ·omega
 ·rcases h2 with⟨e2,_⟩ | ⟨_,m2⟩
  ·omega
  ·exact aD3 h m1 m2
def yC{fs}{fa:List Rw->Str}{a:Int}{rs}{t:Tb}{ms}{d:Nat}{c:Int}(h0:0<d)(hn:(ms,d)∉t.map (·.1))(h:nC fs fa a rs t ms d c):False:=by
 rcases h with⟨e,_⟩ | ⟨_,m⟩
 ·omega
 ·exact hn (aQ.mpr ⟨_,m,rfl⟩)
def UP{fs an}{fa:List Rw->Str}{a b:Int}{rs}(S:qY fs an fa rs a b){ms}(hm:nI rs ms):0<=(kP fs fa a (bR rs ms)).1/\(kP fs fa a (bR rs ms)).1<2^40:=by
 have h1:(bR rs ms).length<=60:=cI (rJ ..) (cI hm.len S.l);have h2:=sY (fs:=fs) (bR rs ms) (fa (bR rs ms));have h3:=AX (bR rs ms) (fa (bR rs ms));have h4:=S.a0;have h5:=S.a1;have h6:wJ fs (.say (fa (bR rs ms))) (bR rs ms)<=60:=by rw[h2];omega
 unfold kP;dsimp only
 generalize wJ fs (.say (fa (bR rs ms))) (bR rs ms)=n at h6 |-
 refine⟨wC h4 (mX n),?_⟩;have:a*(n:Int)<=1000000*60:=aGq h5 (by omega) (mX _) (by decide);omega
def HZ{fs an}{fa:List Rw->Str}{a b:Int}{rs t}(S:qY fs an fa rs a b)(hT:aGd rs t){ms}(hm:nI rs ms){d:Nat}{c:Int}(h:nC fs fa a rs t ms d c):0<=c/\c<2^40:=by
 rcases h with⟨_,rfl⟩ | ⟨_,m⟩
 ·exact UP S hm
 ·exact(hT.ok _ m).2.2.2
noncomputable def kG(xs:List En):Tb:=xs.map λx=>((x.1.map gQ,x.2.1.toNat),x.2.2)
def J5(fs:Fs)(fa:List Rw->Str)(a b:Int)(rs:List Rw)(xs:List En):Prop:=DG rs.length xs/\∀e∈kG xs,xS fs fa a b rs (kG xs) e.1.1 (e.1.2-1) e.2
structure E9(xs:List En):Prop where
 l:xs.length<300
 n:∀x∈xs,x.1.length<=60
 c:∀x∈xs,x.2.2<2^40
def BY{m:Nat}{ns:List Int}(h:GZ m ns):(ns.map gQ).map (λ(i:Nat)=>(i:Int))=ns:=by
 rw[bM];refine(lU λi hi=>?_).trans (lB ns);have:=(h.2 i hi).1;show((i.toNat:Nat):Int)=id i;rw[fK this];rfl
def UB{m:Nat}{ns:List Int}(h:GZ m ns):jC (ns.map gQ)=.tuple (ns.map aH):=by
 have:=congrArg (vJ aH) (BY h);rw[bM]at this;unfold jC;rw[<- this];rfl
def aEm{rs:List Rw}{ns:List Int}(h:GZ rs.length ns):nI rs (ns.map gQ):=by
 have hp:(ns.map gQ).Pairwise (·<·):=fB.mpr (kK.imp_of_mem (λ{a b} ha hb hab=>by
  have:=(h.2 a ha).1;have:=(h.2 b hb).1;omega) h.1)
 have e:ns.map gQ=(cQ rs.length).filter λi=>decide (i∈ns.map gQ):=by
  have q:((cQ rs.length).filter λi=>decide (i∈ns.map gQ)).Pairwise (·<·):=gX.sublist lV;refine gD.eq_of_pairwise (le:=(·<·)) (λa b _ _ h1 h2=>by omega) hp q ((pX (hp.imp λh=>bO h) (q.imp λh=>bO h)).mpr λz=>?_);rw[bZ,decide_eq_true_iff,dI];refine⟨λhz=>⟨?_,hz⟩,λhz=>hz.2⟩;obtain⟨i,hi,rfl⟩:=aQ.mp hz;have:=h.2 i hi;omega
 rw[e];exact lV
def xG{m:Nat}{x:En}(h:xQ m x):oA (x.1.map gQ,x.2.1.toNat)=JB x:=by
 show fJ [jC (x.1.map gQ),.int ((x.2.1.toNat:Nat):Int)]=_;rw[UB h.2.1,fK (by have:=h.2.2.1;omega)];rfl
def M5{rs:List Rw}{xs}(h:DG rs.length xs)(hE:E9 xs):aGd rs (kG xs):=by
 refine⟨?_,λe he=>?_,by unfold kG;rw[aB];exact hE.l⟩
 ·unfold kG;rw[bM];refine fB.mpr (kK.imp_of_mem (λ{x y} hx hy hxy z=>hxy ?_) (fB.mp h.2));injection z with z1 z2
  have e1:=BY (h.1 x hx).2.1;have e2:=BY (h.1 y hy).2.1;have g1:=(h.1 x hx).2.2.1;have g2:=(h.1 y hy).2.2.1;unfold pN;rw[<- e1,<- e2,z1,show x.2.1=y.2.1 by omega]
 ·obtain⟨x,hx,rfl⟩:=aQ.mp he;obtain⟨h1,h2,h3,h4,h5⟩:=h.1 x hx;exact⟨aEm h2,by show 1<=x.2.1.toNat;omega,by show x.2.1.toNat<=3;omega,h5,hE.c x hx⟩
def SO(w:World)(C:Addr):uM:=λds Q=>∃(fs:Fs)(an:List Str)(fa:List Rw->Str)(rs:List Rw)(a b:Int)(xs:List En),ds=[fC fs an,.list (rs.map fE),.tuple [.int a,.int b],.list (xs.map cN)]/\qY fs an fa rs a b/\E9 xs/\∀z:Bool,(z=true↔J5 fs fa a b rs xs)->Q (.bool z)
def aFd{fr ti}{te:ET}{σ}{ts:List D}{Q:D->Prop}(hti:qI ti σ ts)(R:Nat->D->D->Prop)(hz:ts.length<=100000)(hp:∀x∈ts,∃a b,x=.tuple [a,b])
  (ht:∀(k:Nat)(a b:D)(q:D->Prop),ts[k]?=some (.tuple [a,b])->(∀y,R k (.tuple [a,b]) y->q y)->te (((jR fr σ).set 0 (.val a)).set 1 (.val b)) q)
  (hq:∀ys:List D,ys.length=ts.length->(∀(k:Nat)(x y:D),ts[k]?=some x->ys[k]?=some y->R k x y)->Q (.list ys)):WV fr ti (gP 0 1) tU te σ Q:=by
 refine hti _ ⟨hz,λk σ' ds=>(∀x y,(σ'.set 0 (.val x)).set 1 (.val y)=((jR fr σ).set 0 (.val x)).set 1 (.val y))/\ds.length=k/\∀(j:Nat)(x y:D),ts[j]?=some x->ds[j]?=some y->R j x y,⟨λ_ _=>rfl,rfl,λj x y _ h=>by simp at h⟩,λk x σ' ds hx h=>?_,λσ' ds h=>hq ds h.2.1 h.2.2⟩;obtain⟨h1,h2,h3⟩:=h;obtain⟨a,b,rfl⟩:=hp x (aW hx);refine⟨a,b,rfl,?_⟩;show te ((σ'.set 0 (.val a)).set 1 (.val b)) _;rw[h1 a b];refine ht k a b _ hx λy hy=>⟨λx y=>PR _ _ _ _ _,by simp[h2],λj x' y' e1 e2=>?_⟩;by_cases hj:j<k
 ·rw[dU (by omega)]at e2;exact h3 j x' y' e1 e2
 ·have hjk:j=k:=by
   have:=(aG.mp e2).1;rw[aV]at this;have:j<ds.length+1:=this;omega
  subst hjk;rw[dE (by omega),h2,AM]at e2;rw[hx]at e1;cases e1;cases e2;exact hy
theorem JY{R:(List Nat×Nat)×Int->Prop}{f:(List Nat×Nat)×Int->D}:∀{xs:Tb}{ys:List D},ys.length=(xs.map f).length->(∀(k:Nat)(d y:D),(xs.map f)[k]?=some d->ys[k]?=some y->∃(x:(List Nat×Nat)×Int)(z:Bool),xs[k]?=some x/\y=.bool z/\(z=true↔R x))->∃bs:List Bool,ys=bs.map qK/\(bs.all id=true↔∀x∈xs,R x)
|[],[],_,_=>⟨[],rfl,by simp⟩
|[],_::_,h,_=>by simp at h
|_::_,[],h,_=>by simp at h
|x::xs,y::ys,h,hh=>by
 obtain⟨bs,rfl,hb⟩:=JY (f:=f) (xs:=xs) (ys:=ys) (by simpa using h) λk d y' h1 h2=>hh (k+1) d y' h1 h2;obtain⟨x',z,hx,rfl,hz⟩:=hh 0 (f x) y rfl rfl;cases hx;refine⟨z::bs,rfl,?_⟩;rw[aGp,bY,hb,PC];exact and_congr hz Iff.rfl
def WM(x:En):Prop:=x.1≠[]/\x.1.Pairwise (·<·)/\1<=x.2.1/\x.2.1<=3/\0<=x.2.2
theorem J1:∀{ns:List Int}(h:ns≠[]),ns.Pairwise (·<·)->∀n∈ns,n<=ns.getLast h
|[a],_,_,n,hn=>by rw[aZ.mp hn];exact rM _
|a::b::l,_,hp,n,hn=>by
 have hp':=yA.mp hp;have ih:=J1 (ns:=b::l) (by simp) hp'.2;rw[List.getLast_cons (by simp)];rcases bH.mp hn with rfl | hn
 ·have h1:=hp'.1 _ (W5 (l:=b::l) (by simp));omega
 ·exact ih n hn
def S4{m:Nat}{ns:List Int}(h:ns≠[])(hp:ns.Pairwise (·<·)):GZ m ns↔0<=ns.head h/\ns.getLast h<(m:Int):=by
 constructor
 ·intro hr;exact⟨(hr.2 _ (List.head_mem h)).1,(hr.2 _ (W5 h)).2⟩
 ·rintro⟨h1,h2⟩;refine⟨hp,λn hn=>?_⟩;have hl:=J1 h hp n hn
  have hh:ns.head h<=n:=by
   cases ns with
   |nil=>exact absurd rfl h
   |cons a l=>
    rcases bH.mp hn with rfl | hn
    ·exact rM _
    ·exact aKt ((yA.mp hp).1 n hn)
  omega
def VT{y:List Int}(h:y≠[]):L2.atI (y.map aH) 0=some (.int (y.head h))/\L2.atI (y.map aH) (-1)=some (.int (y.getLast h)):=by
 constructor
 ·refine L2.fZ (j:=0) ?_
  cases y with
  |nil=>exact absurd rfl h
  |cons a l=>rfl
 ·have e:=(List.dropLast_concat_getLast h).symm
  conv=>lhs;rw[e]
  rw[bG];exact L2.WF _ _
def JL{y:List Int}:cG (.tuple (y.map aH)) (.tuple [])=decide (y=[]):=by
 cases y with
 |nil=>rfl
 |cons a l=>rfl
def aA0(w:World):uM:=λds Q=>∃(fs:Fs)(an:List Str)(fa:List Rw->Str)(rs:List Rw)(a b:Int)(xs:List En),ds=[fC fs an,.list (rs.map fE),.tuple [.int a,.int b],.list (xs.map cN)]/\qY fs an fa rs a b/\E9 xs/\∀z:Bool,(z=true↔J5 fs fa a b rs xs)->Q (.bool z)
def SD{m:Nat}{xs:List En}(h:DG m xs)(k:Nat):DG m (xs.take k):=⟨λx hx=>h.1 x (eT hx),by rw[rH];exact h.2.sublist (rD ..)⟩
def SE{m:Nat}{xs:List En}{k:Nat}{x}(hx:xs[k]?=some x)(h:DG m (xs.take k))(hE:xQ m x)(hn:pN x∉(xs.take k).map pN):DG m (xs.take (k+1)):=by
 rw[cP,hx];refine⟨λy hy=>?_,?_⟩
 ·rcases cK.mp hy with hy | hy
  ·exact h.1 y hy
  ·rw[aZ.mp hy];exact hE
 ·show((xs.take k++[x]).map pN).Nodup;rw[bG];refine jN.mpr ⟨h.2,by simp,λa ha b hb e=>hn ?_⟩;rw[<- aZ.mp hb,<- e];exact ha
def aCv{m:Nat}{ys:List En}(hy:∀y∈ys,xQ m y){x}(hE:xQ m x):JB x∈(kY (kG ys)).map (·.1)↔pN x∈ys.map pN:=by
 rw[tK];unfold kG;rw[bM];constructor
 ·intro h;obtain⟨y,hy',e⟩:=aQ.mp h;exact aQ.mpr ⟨y,hy',UW (by rw[<- xG (hy y hy')];exact e)⟩
 ·intro h;obtain⟨y,hy',e⟩:=aQ.mp h;refine aQ.mpr ⟨y,hy',?_⟩;show oA (y.1.map gQ,y.2.1.toNat)=_;rw[xG (hy y hy')];unfold pN at e;injection e with e1 e2
  unfold JB;rw[e1,e2]
structure G0(fs:Fs)(fa:List Rw->Str)(a b:Int)(rs:List Rw)(t:Tb):Prop where
 nd:(t.map (·.1)).Nodup
 ok:∀e∈t,nI rs e.1.1/\e.1.1≠[]/\1<=e.1.2/\e.1.2<=3/\e.2=(mI fs fa a b e.1.2 (bR rs e.1.1)).1
 cl:∀x d,(x,d+2)∈t.map (·.1)->∀ch∈(sA fs).filter (fG fs (bR rs x)),(yN fs rs ch x,d+1)∈t.map (·.1)/\(nN fs rs ch x,d+1)∈t.map (·.1)
def J7(t t':Tb)(d:Nat):Prop:=∃l:Tb,t'=t++l/\∀e∈l,e.1.2<=d
def J7.refl(t:Tb)(d:Nat):J7 t t d:=⟨[],(dL t).symm,λe he=>by cases he⟩
def J7.trans{t t1 t2}{d:Nat}(h1:J7 t t1 d)(h2:J7 t1 t2 d):J7 t t2 d:=by
 obtain⟨l1,rfl,g1⟩:=h1;obtain⟨l2,rfl,g2⟩:=h2;exact⟨l1++l2,nE ..,λe he=>(cK.mp he).elim (g1 e) (g2 e)⟩
def J7.mem{t t1:Tb}{d:Nat}(h:J7 t t1 d){x}(hx:x∈t.map (·.1)):x∈t1.map (·.1):=by
 obtain⟨l,rfl,_⟩:=h;rw[bG];exact fV _ hx
def J7.not{t t1:Tb}{d:Nat}(h:J7 t t1 d){x:List Nat×Nat}(hx:x∉t.map (·.1))(hd:d<x.2):x∉t1.map (·.1):=by
 obtain⟨l,rfl,g⟩:=h;rw[bG];intro z;rcases cK.mp z with z | z
 ·exact hx z
 ·obtain⟨e,he,rfl⟩:=aQ.mp z;have:=g e he;omega
def xC{fs}{fa:List Rw->Str}{a b:Int}{rs:List Rw}{t:Tb}(h:G0 fs fa a b rs t)(h5:rs.length<=5):t.length<=96:=by
 have h1:(t.map (·.1)).length<=((DY (cQ rs.length)).flatMap λx=>[(x,1),(x,2),(x,3)]).length:=EA h.nd λx hx=>by
  obtain⟨e,he,rfl⟩:=aQ.mp hx;obtain⟨g1,_,g3,g4,_⟩:=h.ok e he;refine W4.mpr ⟨e.1.1,PK g1,?_⟩;obtain⟨⟨x,d⟩,c⟩:=e;dsimp only at g3 g4 |-
  rcases(show d=1\/d=2\/d=3 by omega)with rfl | rfl | rfl<;>simp
 have h2:∀l:List (List Nat),(l.flatMap λx=>[(x,1),(x,2),(x,3)]).length=3*l.length:=λl=>by
  induction l with
  |nil=>rfl
  |cons x l ih=>rw[rF,aV,ih];show 3+_=3*(l.length+1);omega
 rw[aB,h2,DX,cH]at h1;have:2^rs.length<=2^5:=lC (by decide) h5;omega
def aA1:uM:=λds Q=>∃rs:List Rw,ds=[.list (rs.map fE)]/\rs.length<=60/\Q (.list ((dX rs (cQ rs.length)).map fH))
def sX(w:World)(n:Nat):SpZ (KC w):=λτ (kvs:List (D×D)) ds QD=>∃(fs:Fs)(an:List Str)(fa:List Rw->Str)(rs:List Rw)(a b:Int)(ns:List Nat)(d:Nat)(t:Tb),ds=[fC fs an,.list ((dX rs ns).map fH),.int (d:Nat),.tuple [.int a,.int b],τ]/\qY fs an fa rs a b/\rs.length<=5/\nI rs ns/\ns≠[]/\d<n/\d<=3/\kvs=kY t/\G0 fs fa a b rs t /\
 ∀t':Tb,G0 fs fa a b rs t'->J7 t t' d->(0<d->(ns,d)∈t'.map (·.1))->QD (kY t') (.int (mI fs fa a b d (bR rs ns)).1)
def aAz(w:World):SpZ (KC w):=sX w 4
def UH{w τ kvs ds}{Q:List (D×D)->D->Prop}(h:sX w 0 τ kvs ds Q):False:=by
 obtain⟨_,_,_,_,_,_,_,_,_,_,_,_,_,_,h,_⟩:=h;omega
def aDq{F:KG}{c:TZ F}{t u:SZ F}{τ DC n σ}(b:Bool)(P:F.S->List Sl->Prop)(h:∀q:F.S->Bool->Prop,q n b->c τ n σ q)
  (k1:b=true->∀DC':zY F,(∀m σ',P m σ'->DC'.nx m σ')->t τ DC' n σ) (k0:b=false->P n σ) (k:∀m σ',P m σ'->u τ DC m σ'):C5 (zIf c t R7) u τ DC n σ:=
 R6 b h (λhb=>k1 hb _ k) λhb=>k _ _ (k0 hb)
def zn'{F:KG}{τ}{DC:zY F}{n σ}(h:DC.nx n σ):R7 τ DC n σ:=h
structure RW(k:Nat)(x:En):Prop where
 n:x.1.length<6*2^k
 c:x.2.2<1000000000+3*(k:Int)
def aAy:WK:=λ_ n ds Q=>∃(x:En)(m k:Nat),ds=[cN x,.int (m:Nat)]/\m<=5/\k<=2/\RW k x/\n<600000000000/\∀n' y,n'<=n+5->RW (k+1) y->Q n' (cN y)
structure G1(k:Nat)(xs:List En):Prop where
 l:xs.length<=100+k
 b:∀x∈xs,RW k x
def aAx:WK:=λ_ n ds Q=>∃(xs:List En)(m k:Nat),ds=[.list (xs.map cN),.int (m:Nat)]/\m<=5/\k<=2/\G1 k xs/\n<500000000000/\∀n' ys,n'<=n+10->G1 (k+1) ys->Q n' (.list (ys.map cN))
def aAw:uM:=λds Q=>∃(fs:Fs)(an:List Str)(fa:List Rw->Str)(rs:List Rw)(a b:Int)(xs:List En),ds=[fC fs an,.list (rs.map fE),.tuple [.int a,.int b],.list (xs.map cN)]/\qY fs an fa rs a b/\E9 xs/\Q (.bool true)
def cn'{τ}{DC:CV}{n:Nat}{σ}(h:DC.nx n σ):E2 τ DC n σ:=h
def XN{DT:zZ}{σ}(h:DT.nx σ):oV DT σ:=h
theorem yI:∀xs:List En,dP (xs.map cN)=true/\bU (xs.map cN)<=2
|[]=>⟨rfl,cL _⟩
|x::xs=>by
 obtain⟨h1,h2⟩:=yI xs;obtain⟨g1,g2⟩:=mQ x.1;constructor
 ·show((dP (x.1.map aH)&&true)&&dP (xs.map cN))=true;rw[g1,h1];rfl
 ·show max (max (bU (x.1.map aH)+1) (max 0 (max 0 0))+1) (bU (xs.map cN))<=2;rw[g2];show max (max 1 0+1) _<=2;omega
def RW.up{k:Nat}{x}(h:RW k x):RW (k+1) x:=by
 obtain⟨h1,h2⟩:=h;refine⟨?_,by rw[DQ];omega⟩;have:2^(k+1)=2^k*2:=AN ..;omega
def VQ(xs:List En):cG (.list (xs.map cN)) (.list [])=decide (xs=[]):=by
 cases xs with
 |nil=>rfl
 |cons a l=>rfl
def aF0(xs:List En)(j:Nat):iB (xs.map cN) none (some (j:Int))=(xs.take j).map cN:=by rw[yW,rH]
def aJ8(xs:List En)(j:Nat):iB (xs.map cN) (some (j:Int)) none=(xs.drop j).map cN:=by rw[L9,xW]
def aDa(xs:List En)(j:Nat):iB (xs.map cN) (some ((j:Int)+1)) none=(xs.drop (j+1)).map cN:=aJ8 xs (j+1)
noncomputable def WU(e:(List Nat×Nat)×Int):En:=(e.1.1.map λ(i:Nat)=>(i:Int),((e.1.2:Nat):Int),e.2)
def Y1(e:(List Nat×Nat)×Int):cN (WU e)=.tuple [jC e.1.1,.int ((e.1.2:Nat):Int),.int e.2]:=by
 unfold cN WU jC;dsimp only;rw[bM];rfl
def XB(tb:Tb):kG (tb.map WU)=tb:=by
 unfold kG;rw[bM];refine(lU λe _=>?_).trans (lB tb);obtain⟨⟨x,d⟩,c⟩:=e;show(((x.map λ(i:Nat)=>(i:Int)).map gQ,((d:Nat):Int).toNat),c)=_;rw[bM,dZ,show(gQ∘λ(i:Nat)=>(i:Int))=id from funext λi=>dZ i,lB];rfl
def aFb{rs:List Rw}{ns:List Nat}(h:nI rs ns):GZ rs.length (ns.map λ(i:Nat)=>(i:Int)):=by
 refine⟨fB.mpr ((gX.sublist h).imp λh=>aKr.mpr h),λn hn=>?_⟩;obtain⟨i,hi,rfl⟩:=aQ.mp hn;have:=h.lt hi;omega
def QG{fs}{fa:List Rw->Str}{a b:Int}{rs}{t tb:Tb}(a0:0<=a)(b0:0<=b)(hM:G0 fs fa a b rs t)(hp:tb.Perm t):J5 fs fa a b rs (tb.map WU):=by
 have hin:∀{e},e∈tb->e∈t:=λh=>hp.mem_iff.mp h;refine⟨⟨λx hx=>?_,?_⟩,λe he=>?_⟩
 ·obtain⟨⟨⟨x,d⟩,c⟩,he,rfl⟩:=aQ.mp hx;obtain⟨h1,h2,h3,h4,h5⟩:=hM.ok _ (hin he);dsimp only at h1 h2 h3 h4 h5;refine⟨λz=>h2 (List.map_eq_nil_iff.mp z),aFb h1,by show(1:Int)<=((d:Nat):Int);omega,by show((d:Nat):Int)<=3;omega,?_⟩;show 0<=c;rw[h5];exact GU a0 b0 d _
 ·have e1:(tb.map WU).map pN=(tb.map (·.1)).map λx:List Nat×Nat=>(x.1.map λ(i:Nat)=>(i:Int),((x.2:Nat):Int)):=by rw[bM,bM];rfl
  rw[e1];have hnd:(tb.map (·.1)).Nodup:=((hp.map (·.1)).nodup_iff).mpr hM.nd;unfold R4 at hnd;refine fB.mpr (kK.imp ?_ hnd);intro x y hxy z;refine hxy ?_;obtain⟨x1,x2⟩:=x;obtain⟨y1,y2⟩:=y;injection z with z1 z2
  have:=congrArg (vJ gQ) z1;rw[bM,bM,show(gQ∘λ(i:Nat)=>(i:Int))=id from funext λi=>dZ i,lB,lB]at this;have h2:x2=y2:=wE.inj z2;rw[show x1=y1 from this,h2]
 ·rw[XB]at he |-
  obtain⟨⟨x,d⟩,c⟩:=e;obtain⟨h1,h2,h3,h4,h5⟩:=hM.ok _ (hin he);dsimp only at h1 h2 h3 h4 h5 |-
  subst h5;refine⟨E7 d _,λch hch=>?_⟩;obtain⟨hc,hpr⟩:=bZ.mp hch;obtain⟨ry,rn⟩:=FR (fs:=fs) (c:=ch) λi hi=>h1.lt hi;obtain⟨d',rfl⟩:∃d',d=d'+1:=⟨d-1,by omega⟩;have hle:=aF9 (fa:=fa) (a:=a) (b:=b) (d:=d') hc hpr
  have side:∀y:List Nat,(0<d'->(y,d')∈t.map (·.1))->nC fs fa a rs tb y d' (mI fs fa a b d' (bR rs y)).1:=λy hy=>by
   cases d' with
   |zero=>exact .inl ⟨rfl,rfl⟩
   |succ d2=>
    obtain⟨⟨⟨y',d3⟩,c⟩,he',ee⟩:=aQ.mp (hy (by omega));cases ee;have:=(hM.ok _ he').2.2.2.2;dsimp only at this;rw[<- this];exact .inr ⟨by omega,hp.mem_iff.mpr he'⟩
  have hcl:0<d'->(yN fs rs ch x,d')∈t.map (·.1)/\(nN fs rs ch x,d')∈t.map (·.1):=λh0=>by
   obtain⟨d2,rfl⟩:∃d2,d'=d2+1:=⟨d'-1,by omega⟩;exact hM.cl x d2 (aQ.mpr ⟨_,hin he,rfl⟩) ch hch
  refine⟨_,_,side _ λh0=>(hcl h0).1,side _ λh0=>(hcl h0).2,?_⟩;rw[ry,rn];show _<=_;unfold cC at hle;omega
def YW{fs an}{fa:List Rw->Str}{a b:Int}{rs}(S:qY fs an fa rs a b){ms}(hm:nI rs ms):(kP fs fa a (bR rs ms)).1<1000000000:=by
 have h1:(bR rs ms).length<=60:=cI (rJ ..) (cI hm.len S.l);have h2:=sY (fs:=fs) (bR rs ms) (fa (bR rs ms));have h3:=AX (bR rs ms) (fa (bR rs ms));have h5:=S.a1;have h6:wJ fs (.say (fa (bR rs ms))) (bR rs ms)<=60:=by rw[h2];omega
 unfold kP;dsimp only
 generalize wJ fs (.say (fa (bR rs ms))) (bR rs ms)=n at h6 |-
 have:a*(n:Int)<=1000000*60:=aGq h5 (by omega) (mX _) (by decide);omega
def aFc{fs an}{fa:List Rw->Str}{a b:Int}{rs:List Rw}{t tb:Tb}(S:qY fs an fa rs a b)(h5:rs.length<=5)(hM:G0 fs fa a b rs t)(hp:tb.Perm t):G1 0 (tb.map WU):=by
 have hl:=xC hM h5;refine⟨by rw[aB,hp.length_eq];omega,λx hx=>?_⟩;obtain⟨⟨⟨x,d⟩,c⟩,he,rfl⟩:=aQ.mp hx;obtain⟨h1,_,_,_,h6⟩:=hM.ok _ (hp.mem_iff.mp he);dsimp only at h1 h6;have h2:=h1.len;have h3:=E7 (fs:=fs) (fa:=fa) (a:=a) (b:=b) d (bR rs x);have h4:=YW S h1;refine⟨?_,?_⟩
 ·show(x.map _).length<6*1;rw[aB];omega
 ·show c<1000000000+3*((0:Nat):Int);omega
def G1.ok{k:Nat}{xs}(h:G1 k xs)(hk:k<=3):E9 xs:=by
 have h2:2^k<=2^3:=lC (by decide) hk;have h3:=h.l;refine⟨by omega,λx hx=>?_,λx hx=>?_⟩
 ·have:=(h.b x hx).n;omega
 ·have:=(h.b x hx).c;omega
theorem aC7:∀{ys}{P:En->Prop},(∀y∈ys,∃x,y=cN x/\P x)->∃xs:List En,ys=xs.map cN/\∀x∈xs,P x
|[],_,_=>⟨[],rfl,λx hx=>by cases hx⟩
|y::ys,P,h=>by
 obtain⟨x,rfl,hx⟩:=h y (aR ..);obtain⟨xs,rfl,hxs⟩:=aC7 (ys:=ys) (P:=P) λy hy=>h y (aM _ hy)
 exact⟨x::xs,rfl,λz hz=>by
  rcases bH.mp hz with rfl | hz
  ·exact hx
  ·exact hxs z hz⟩
def UL(fs:Fs)(fa:List Rw->Str)(a b:Int)(rs:List Rw):G0 fs fa a b rs []:=⟨List.nodup_nil,(λe he=>by cases he),(λx d hx=>by cases hx)⟩
def TU{α:Type}{l m:List α}{x}(h:l.Perm m)(j:Nat):(l.take j++x::l.drop j).Perm (m++[x]):=by
 have h1:(l.take j++x::l.drop j).Perm (x::(l.take j++l.drop j)):=A8;rw[nU]at h1;exact h1.trans ((h.cons x).trans (FK x m).symm)
def Z6{te:EC}{g:GT}{tb u:zA}{τ DC}{n:Nat}{σ}(R:Nat->Int->Prop)(P:Int->Nat->Nat->List Sl->Prop)(h:∀q:Nat->D->Prop,(∀m N,R m N->q m (.int N))->te τ n σ q)(hN:∀m N,R m N->0<=N/\N<=1000)(h0:∀m N,R m N->P N 0 m σ)
  (hs:∀(N:Int)(k m:Nat)σ',0<=N->(k:Int)<N->P N k m σ'->g (.int (k:Nat)) σ' λσ2=>tb τ { DC with nx:=P N (k+1),ct:=P N (k+1),bk:=u τ DC } m σ2) (hd:∀N m σ',0<=N->P N N.toNat m σ'->u τ DC m σ'):mB (aDd te g tb) u τ DC n σ:=by
 refine h _ λm N r=>?_;obtain⟨n0,n1⟩:=hN m N r;have hl:(eW N.toNat).length=N.toNat:=by unfold eW;rw[aB,cH]
 refine⟨N,rfl,by omega,by omega,_,rfl,P N,h0 m N r,λk m x σ' hx hP=>?_,λm σ' hP=>hd N m σ' n0 (by rw[hl]at hP;exact hP)⟩;have hk:k<N.toNat:=by rw[<- hl];exact(aG.mp hx).1
 have ex:x=.int (k:Nat):=by
  unfold eW at hx;rw[aI,gZ hk]at hx;cases hx;rfl
 subst ex;exact hs N k m σ' n0 (by omega) hP
end K37
namespace K37
set_option maxHeartbeats 4000000
open PySem L2 TL
def aHq:dC ["thing","fewest","most"] ["thing","fewest","most"] (bP (iW 1)):=qE
def aHp:dC ["thing"] ["thing"] (bP (iW 2)):=qE
def aB8:dC ["numbers","many"] ["numbers","many"] (bP (iW 24)):=qE
def aB9:dC ["many","entry"] ["many","entry"] (bP (iW 23)):=qE
def aCa:dC ["many","table"] ["many","table"] (bP (iW 22)):=qE
def aB6:dC ["sets","costs","numbers","deep"] ["sets","costs","numbers","deep"] (bP (iW 26)):=qE
def aB7:dC ["sets","costs","numbers","deep","cost","question","stray","yes","no","sides"] ["sets","costs","numbers","deep"] (bP (iW 25)):=qE
def aCb:dC ["form","rows","prices","table","sets","costs","numbers","deep","cost"] ["form","rows","prices","table"] (bP (iW 21)):=qE
def aBq:dC ["_law_form_here","_law_rows_here","_law_prices_here","_law_table","_law_costs","_law_numbers_here","_law_deep","_law_cost","_law_right","_law_some","_law_sides","_law_least_cost","_law_side_here"] ["_law_form_here","_law_rows_here","_law_prices_here","_law_table"] (bP (iW 43)):=qE
def aBs:dC ["_law_rows_here"] ["_law_rows_here"] (bP (iW 41)):=qE
def aBp:dC ["_law_form_here","_law_rows_here","_law_deep","_law_prices_here","_law_met","_law_key","_law_cost","_law_ones","_law_others","_law_one"] ["_law_form_here","_law_rows_here","_law_deep","_law_prices_here","_law_met"] (bP (iW 44)):=qE
def aBo:dC ["_law_tape_here","_law_one","_law_many","_law_numbers_here","_law_deep","_law_cost","_law_way","_law_k"] ["_law_tape_here","_law_one","_law_many"] (bP (iW 45)):=qE
def aBn:dC ["_law_tape_here","_law_table","_law_many","_law_way","_law_k"] ["_law_tape_here","_law_table","_law_many"] (bP (iW 46)):=qE
def aBm:dC ["_law_form_here","_law_rows_here","_law_prices_here","_law_table","_law_handed","_law_found"] ["_law_form_here","_law_rows_here","_law_prices_here","_law_table"] (bP (iW 47)):=qE
def SV:dC ["_law_script","_law_tape_here","_law_fields","_law_form_here","_law_rows_here","_law_deep","_law_prices_here","_law_met","_law_table","_law_numbers_here","_law_low","_law_less","_law_k","_law_bent_here","_law_turn"] ["_law_script"] (bP (iW 48)):=qE
def aHt:dC ["self","form","rows","prices"] ["self","form","rows","prices"] (bP (vS (iW 17) 0)):=qE
def aHs:dC ["self","numbers","rows","slips"] ["self","numbers"] (bP (vS (iW 17) 1)):=qE
def aHr:dC ["self","numbers","told","question","stray","sides","yes","no"] ["self","numbers"] (bP (vS (iW 17) 2)):=qE
def aHo:dC ["form","rows","told"] ["form","rows"] (bP (iW 4)):=qE
def aHn:dC ["form","rows","counts"] ["form","rows"] (bP (iW 5)):=qE
def aHm:dC ["form","questions","field"] ["form"] (bP (iW 8)):=qE
def aHl:dC ["field","name","values","told_by_is","told_by_upto"] ["field"] (bP (iW 9)):=qE
def aHk:dC ["form","choices","question"] ["form"] (bP (iW 10)):=qE
def aCh:dC ["form","question","stray","case","number"] ["form","question","stray","case"] (bP (iW 11)):=qE
def aCg:dC ["form","question"] ["form","question"] (bP (iW 12)):=qE
def aCf:dC ["question","stray","field"] ["question","stray","field"] (bP (iW 13)):=qE
def aCe:dC ["question","field"] ["question","field"] (bP (iW 14)):=qE
def aCd:dC ["sides","fewest"] ["sides","fewest"] (bP (iW 15)):=qE
def aCc:dC ["form","choice","rows"] ["form","choice","rows"] (bP (iW 18)):=qE
def aB5:dC ["_law_script","_law_digits"] ["_law_script"] (bP (iW 28)):=qE
def aB4:dC ["_law_tape_here","_law_many","_law_script","_law_at","_law_left","_law_number"] ["_law_tape_here","_law_many"] (bP (iW 29)):=qE
def aB3:dC ["_law_tape_here","_law_many","_law_way","_law_first","_law_letters","_law_words","_law_base","_law_names_here","_law_at"] ["_law_tape_here","_law_many"] (bP (iW 30)):=qE
def aB2:dC ["_law_tape_here","_law_fields","_law_values","_law_answers","_law_names_here"] ["_law_tape_here","_law_fields","_law_values"] (bP (iW 31)):=qE
def aB1:dC ["_law_tape_here","_law_form_here","_law_case_here","_law_name","_law_values","_law_at"] ["_law_tape_here","_law_form_here"] (bP (iW 32)):=qE
def aB0:dC ["_law_tape_here","_law_form_here","_law_many","_law_rows_here","_law_k","_law_case_here","_law_at","_law_row"] ["_law_tape_here","_law_form_here","_law_many"] (bP (iW 33)):=qE
def aBz:dC ["_law_form_here","_law_found","_law_name","_law_values","_law_some"] ["_law_form_here"] (bP (iW 34)):=qE
def aBy:dC ["_law_form_here","_law_question","_law_stray","_law_case_here","_law_kind","_law_name","_law_value","_law_values","_law_mine","_law_k","_law_far"] ["_law_form_here","_law_question","_law_stray","_law_case_here"] (bP (iW 35)):=qE
def aBx:dC ["_law_form_here","_law_question","_law_stray","_law_rows_here","_law_ones","_law_others","_law_row"] ["_law_form_here","_law_question","_law_stray","_law_rows_here"] (bP (iW 36)):=qE
def aBw:dC ["_law_form_here","_law_rows_here","_law_told_here"] ["_law_form_here","_law_rows_here"] (bP (iW 37)):=qE
def aBv:dC ["_law_tape_here","_law_some"] ["_law_tape_here"] (bP (iW 38)):=qE
def aBu:dC ["_law_form_here","_law_rows_here","_law_slip"] ["_law_form_here","_law_rows_here","_law_slip"] (bP (iW 39)):=qE
def aBt:dC ["_law_form_here","_law_rows_here","_law_found","_law_question","_law_stray","_law_sides"] ["_law_form_here","_law_rows_here"] (bP (iW 40)):=qE
def aBr:dC ["_law_rows_here"] ["_law_rows_here"] (bP (iW 42)):=qE
section
variable{P:bX}{w:World}{K:aL}{mg:Str->Option Value}{base:Heap}{a_0 a_1 a_2 a_3 a_4 a_5 a_6 a_7 a_8 a_9 a_10 a_11 a_12 a_13 a_14 a_15 a_16 a_17 a_18 a_19 a_20 a_21 a_22 a_23 a_24 a_25 a_26 a_27 a_28 a_29 a_30 a_31 a_32 a_33 a_34 a_35 a_36 a_37 a_38 a_39 a_40 a_41 a_law:Addr}{f_0 f_1 f_2 f_3 f_4 f_5 f_6 f_7 f_8 f_9 f_10 f_11 f_12 f_13 f_14 f_15 f_16 f_17 f_18 f_19 f_20 f_21 f_22 f_23 f_24 f_25 f_26 f_27 f_28 f_29 f_30 f_31 f_32 f_33 f_34 f_35 f_36 f_37 f_38 f_39 f_40 f_41 f_law:jL}{c_RowSets:Addr}{t_SIDES:Addr}{t_MOST_TABLE_DEEP:Tok}(T:Txt K mg a_0 a_1 a_2 a_3 a_4 a_5 a_6 a_7 a_8 a_9 a_10 a_11 a_12 a_13 a_14 a_15 a_16 a_17 a_18 a_19 a_20 a_21 a_22 a_23 a_24 a_25 a_26 a_27 a_28 a_29 a_30 a_31 a_32 a_33 a_34 a_35 a_36 a_37 a_38 a_39 a_40 a_41 a_law f_0 f_1 f_2 f_3 f_4 f_5 f_6 f_7 f_8 f_9 f_10 f_11 f_12 f_13 f_14 f_15 f_16 f_17 f_18 f_19 f_20 f_21 f_22 f_23 f_24 f_25 f_26 f_27 f_28 f_29 f_30 f_31 f_32 f_33 f_34 f_35 f_36 f_37 f_38 f_39 f_40 f_41 f_law c_RowSets t_SIDES t_MOST_TABLE_DEEP)
include T
def aL3:dD P w K mg base gA 1 a_3 f_3 ["thing","fewest","most"] (cO K aHg):=by
 refine xJ T.D_3.F aHq (λds Q h=>by obtain⟨xs,lo,hi,rfl,h⟩:=h;rfl) λcdv Ar outer s H E hr ds Q h=>?_;obtain⟨xs,lo,hi,rfl,h⟩:=h;have nd:=aHq.nd;refine⟨_,(cM (dQ (rY (GI (QL _) (aK 0) (λh=>mP xM rfl T.b_isinstance nL (fY h (fY (AW rfl T.b_tuple lF rfl) jG)))) (yS (B8 D7 D7 qB qB (aK 1) (cB jZ (aD (aK 0) aU) dR T.b_len iG) (aK 2)))))),?_⟩;refine⟨_,rfl,?_⟩;dsimp only[U3];rw[if_pos (show U4 "tuple" (.tuple xs)=true from rfl)];refine⟨_,rfl,_,rfl,?_⟩;by_cases h1:lo<=(xs.length:Int)
 ·rw[decide_eq_true h1,HG]at h;show(if decide (lo<=(xs.length:Int))=true then _ else _);rw[if_pos (decide_eq_true h1)];exact⟨_,rfl,h⟩
 ·rw[decide_eq_false h1,aDp]at h;show(if decide (lo<=(xs.length:Int))=true then _ else _);rw[if_neg (by simpa using h1)];exact h
def aL2:dD P w K mg base gA 1 a_4 f_4 ["thing"] (cO K aHf):=by
 refine xJ T.D_4.F aHp (λds Q h=>by obtain⟨i,rfl,h⟩:=h;rfl) λcdv Ar outer s H E hr ds Q h=>?_;obtain⟨i,rfl,h⟩:=h;have nd:=aHp.nd;refine⟨_,(cM (dQ (rY (GI (Y0 _) (aK 0) (λh=>mP xM rfl T.b_isinstance nL (fY h (fY (AW rfl T.b_int aF7 rfl) jG)))) (yS (ZJ (GI (JC _) (aK 0) (λh=>mP xM rfl T.b_isinstance nL (fY h (fY (AW rfl T.b_bool OY rfl) jG))))))))),?_⟩;refine⟨_,rfl,?_⟩;dsimp only[U3];rw[if_pos (show U4 "int" (.int i)=true from rfl)];exact⟨_,rfl,h⟩
def aI1:dD P w K mg base gA 1 a_19 f_19 ["numbers","many"] (cO K aBe):=by
 refine xJ T.D_19.F aB8 (λds Q h=>by obtain⟨m,ns,rfl,hl,hm,h⟩:=h;rfl) λcdv Ar outer s H E hr ds Q h=>?_;obtain⟨m,ns,rfl,hl,hm,h⟩:=h;have nd:=aB8.nd;refine⟨_,(cM (dQ (pB (vP hr) qA (cY vX (aD (aK 0) aU) jY T.b_list sI) (el (fr:=[none,some 0]) (N':=["number","numbers"]) (mR (aD (aK 1) aU) (λh=>kC rfl T.b_range h)) (λb=>⟨(eK (pk 0)),(LV (eP (LG hr) UA (aK 0) (aK 1))),(aK 0)⟩))))),?_⟩;refine⟨_,rfl,?_⟩;dsimp only[WJ,f1,aCz];refine B2 (ts:=eW m) (λR h=>⟨_,rfl,_,rfl,by omega,by omega,by rw[dZ];exact h⟩) (λd=>JE d (.tuple (ns.map aH))) id (by unfold eW;rw[aB,cH];omega) (λx q hx hq=>?_) (λx q hx hq=>⟨_,rfl,hq⟩) ?_
 ·obtain⟨k,_,rfl⟩:=aQ.mp hx;exact⟨_,rfl,_,rfl,⟨(mQ ns).1,rfl,cI (oE _ _) (cL 60)⟩,hq⟩
 ·have e:((eW m).filter λd=>JE d (.tuple (ns.map aH))).map id=((yD m).filter λi=>decide (i∈ns)).map aH:=by
   have e1:eW m=(yD m).map aH:=by unfold eW yD;rw[bM];rfl
   rw[lB,e1,C3];congr 1;exact WT λi _=>Y8 i ns
  rw[e];have l1:=mQ ns;have l2:=mQ ((yD m).filter λi=>decide (i∈ns));refine⟨⟨l1.1,l2.1,cI (DP _ _) ?_⟩,h _ ?_⟩
  ·show bU (ns.map aH)+1<=60;rw[l1.2];decide
  ·rw[CA];exact X3 m ns
def aI2
  (F_19:dD P w K mg base gA 1 a_19 f_19 ["numbers","many"] (cO K aBe))
  (F_3:dD P w K mg base gA 1 a_3 f_3 ["thing","fewest","most"] (cO K aHg))
  (F_4:dD P w K mg base gA 1 a_4 f_4 ["thing"] (cO K aHf)):dD P w K mg base gA 2 a_18 f_18 ["many","entry"] (cO K aBf):=by
 refine xJ T.D_18.F aB9 (λds Q h=>by obtain⟨m,x,rfl,hl,hm,h⟩:=h;rfl) λcdv Ar outer s H E hr ds Q h=>?_;obtain⟨m,x,rfl,hl,hm,h⟩:=h;have nd:=aB9.nd;refine⟨_,(cS (iT (wF (uZ (nW (tv (cd F_3 T.D_3 hr (aD (aK 1) (aD aN (aD aN aU)))))) (sT (nW (tv (cd F_3 T.D_3 hr (aD (cZ bW eN (aK 1) aN) (aD aN (aD (aK 0) aU)))))))))
 (cM (dQ nQ))
 hX)
 (cS (iT (nW (tv (cB WA (aD (el (fr:=[none]) (N':=["number"]) (fL (dH cA fN (cZ bW eN (aK 1) aN) (fR iQ oY (aK 1) (gI aN) hV))) (λb=>⟨(eK (pk 0)),iA,(cd F_4 T.D_4 hr (aD (aK 0) aU))⟩)) aU) (sE rfl) T.b_all MH)))
 (cM (dQ nQ))
 hX)
 (cM (dQ (rY (cd F_19 T.D_19 hr (aD (cZ bW eN (aK 1) aN) (aD (aK 0) aU))) (rY (B8 D7 D7 qB qB aN (cZ bW eN (aK 1) aN) (ZM rfl T.c_MOST_TABLE_DEEP)) (yS (pB IM qB (cZ bW eN (aK 1) aN) aN)))))))),?_⟩
 show kI _ _ _ [.val (.int (m:Nat)),.val (cN x)];obtain⟨ns,dp,c⟩:=x;dsimp only at hl;have hxl:((ns.map aH).length:Int)=(ns.length:Int):=by rw[aB]
 have hdep:dp=dp:=rfl;refine jF (λb=>b=!(decide ((1:Int)<=(ns.length:Int))&&decide ((ns.length:Int)<=(m:Int)))) (λq hq=>⟨_,rfl,_,_,_,rfl,?_⟩) (λhT=>?_) λhF=>?_
 ·show(if(!(decide ((3:Int)<=3)&&decide ((3:Int)<=3)))=true then q true else _);rw[if_neg (by decide)];refine⟨_,rfl,_,rfl,_,rfl,_,_,_,rfl,?_⟩;show q (!(decide ((1:Int)<=((ns.map aH).length:Int))&&decide (((ns.map aH).length:Int)<=(m:Int))));rw[hxl];exact hq _ rfl
 ·refine h false ⟨(λz=>by cases z),λhE=>?_⟩
  have h1:1<=ns.length:=by
   cases hn:ns with
   |nil=>exact absurd hn hE.1
   |cons a l=>exact Nat.succ_le_succ (cL _)
  have h2:ns.length<=m:=X2 hE.2.1;rw[decide_eq_true (show(1:Int)<=(ns.length:Int) by omega),decide_eq_true (show(ns.length:Int)<=(m:Int) by omega)]at hT;exact absurd hT (by decide)
 try unfold oV
 dsimp only;have hpos:ns≠[]:=λz=>by rw[z]at hF;cases hF
 refine jF (λb=>b=false) (λq hq=>?_) (λhT=>by cases hT) λ_=>?_
 ·have e0:(ns.map aH++iB [fJ (ns.map aH),.int dp,.int c] (some 1) none)=(ns++[dp,c]).map aH:=by rw[bG];rfl
  dsimp only[aF4,E1,oG,xO];refine iC (ts:=(ns++[dp,c]).map aH) (λR h=>⟨_,rfl,_,rfl,_,rfl,?_⟩) (λ_=>.bool true) (by rw[aB,aV];show _+2<=_;omega) (λy q hy hq=>?_) ?_
  ·rw[<- e0]at h;exact⟨by rw[aB];show ns.length+2<=_;omega,_,rfl,h⟩
  ·obtain⟨i,_,rfl⟩:=aQ.mp hy;exact⟨_,rfl,i,rfl,hq⟩
  ·have e1:((ns++[dp,c]).map aH).map (λ_=>qK true)=(vG (ns.length+2) true).map qK:=by rw[bM,List.map_replicate];exact List.eq_replicate_iff.mpr ⟨by simp,λb hb=>by obtain⟨_,_,rfl⟩:=aQ.mp hb;rfl⟩
   rw[e1];refine⟨_,rfl,?_⟩;have e2:(vG (ns.length+2) true).all id=true:=by simp
   exact hq _ (by rw[e2];rfl)
 try unfold oV
 dsimp only;refine⟨_,rfl,_,rfl,_,rfl,m,ns,rfl,hl,hm,λz hz=>?_⟩;dsimp only
 cases z with
 |false=>
  rw[if_neg bE];exact h false ⟨(λz=>by cases z),λhE=>hz.mpr hE.2.1⟩
 |true=>
  rw[if_pos rfl];have hR:=hz.mp rfl;refine⟨_,rfl,_,rfl,?_⟩;show(if decide ((1:Int)<=dp)=true then _ else _);by_cases h1:(1:Int)<=dp
  ·rw[if_pos (decide_eq_true h1)];show(if decide (dp<=(3:Int))=true then _ else Q (.bool false));by_cases h3:dp<=(3:Int)
   ·rw[if_pos (decide_eq_true h3)];refine⟨_,rfl,_,rfl,?_⟩;show Q (.bool (decide ((0:Int)<=c)));refine h _ ?_;rw[decide_eq_true_iff];exact⟨λh0=>⟨hpos,hR,h1,h3,h0⟩,λhE=>hE.2.2.2.2⟩
   ·rw[if_neg (by simpa using h3)];exact h false ⟨(λz=>by cases z),λhE=>absurd hE.2.2.2.1 h3⟩
  ·rw[if_neg (by simpa using h1)];show(if false=true then _ else _);rw[if_neg bE];exact h false ⟨(λz=>by cases z),λhE=>absurd hE.2.2.1 h1⟩
def aI3
  (F_18:dD P w K mg base gA 2 a_18 f_18 ["many","entry"] (cO K aBf)):dD P w K mg base gA 3 a_17 f_17 ["many","table"] (cO K aBg):=by
 refine xJ T.D_17.F aCa (λds Q h=>by obtain⟨m,xs,rfl,hl,hz,hm,h⟩:=h;rfl) λcdv Ar outer s H E hr ds Q h=>?_;obtain⟨m,xs,rfl,hl,hz,hm,h⟩:=h;have nd:=aCa.nd;refine⟨_,(cS (iT (nW (tv (cB WA (aD (el (fr:=[none,some 0]) (N':=["entry","many"]) (fL (aK 1)) (λb=>⟨(eK (pk 0)),iA,(cd F_18 T.D_18 hr (aD (aK 1) (aD (aK 0) aU)))⟩)) aU) (sE rfl) T.b_all MH)))
 (cM (dQ nQ))
 hX)
 (cM (dQ (pB jM nB (L7 (el (fr:=[none]) (N':=["entry"]) (fL (aK 1)) (λb=>⟨(eK (pk 0)),iA,(fR iQ oY (aK 0) hV (gI aN))⟩)) (pc:=λh=>mP DD rfl T.b_len iG (fY (mE (GP rfl hr.u20) rfl T.b_set WC h) jG))) (cB jZ (aD (aK 1) aU) dR T.b_len iG))))),?_⟩
 show kI _ _ _ [.val (.int (m:Nat)),.val (.list (xs.map cN))];refine jF (λb=>b=true↔¬∀x∈xs,xQ m x) (λq hq=>?_) (λhT=>?_) λhF=>?_
 ·dsimp only[aF4,E1,oG,xO];refine UQ (ts:=xs.map cN) (λR h=>⟨_,rfl,_,rfl,h⟩) (λk d y=>∃(x:En)(z:Bool),xs[k]?=some x/\y=.bool z/\(z=true↔xQ m x)) (by rw[aB];omega) (λk d q' hk hq'=>?_) λys hyl hys=>?_
  ·rw[aI]at hk;obtain⟨x,hx,rfl⟩:=bT.mp hk;exact⟨_,rfl,_,rfl,m,x,rfl,hl x (aW hx),hm,λz hz'=>hq' _ ⟨x,z,hx,rfl,hz'⟩⟩
  ·obtain⟨bs,rfl,hbs⟩:=JX (R:=xQ m) hyl hys;refine⟨bs,rfl,hq _ ?_⟩;show(!(bs.all id))=true↔_;rw[Bool.not_eq_true',<- Bool.not_eq_true,hbs]
 ·exact h false ⟨(λz=>by cases z),λhE=>absurd hE.1 (hT.mp rfl)⟩
 ·have hall:∀x∈xs,xQ m x:=Classical.byContradiction λz=>by cases hF.mpr z
  try unfold oV
  dsimp only;show ZY _ _ _ _ _;dsimp only[ZY,JO];refine iC (ts:=xs.map cN) (λR h=>⟨_,rfl,_,rfl,h⟩) aJ9 (by rw[aB];omega) (λy q hy hq=>?_) ?_
  ·obtain⟨x,_,rfl⟩:=aQ.mp hy;exact⟨_,rfl,hq⟩
  ·have e1:(xs.map cN).map aJ9=xs.map JB:=by rw[bM];rfl
   rw[e1];refine⟨xs.map JB,rfl,λk hk=>by obtain⟨x,_,rfl⟩:=aQ.mp hk;exact LP x,by rw[aB];exact hz,λn hn hle=>⟨_,rfl,?_⟩⟩;show Q (.bool (decide ((n:Int)=((xs.map cN).length:Int))));refine h _ ?_;rw[decide_eq_true_iff,aB];rw[aB]at hn;rw[show((n:Int)=(xs.length:Int))↔n=xs.length by omega,hn,UV];exact⟨λz=>⟨hall,z⟩,λz=>z.2⟩
def aIz
  (F_1:dD P w K mg base gA 3 a_1 f_1 ["self","numbers"] (cO K (aEb w c_RowSets))):dD P w K mg base gA 5 a_21 f_21 ["sets","costs","numbers","deep"] (cO K (aBc w c_RowSets)):=by
 refine xJ T.D_21.F aB6 (λds Q h=>by obtain⟨fs,an,fa,rs,a,b,t,ns,d,rfl,S,hns,h⟩:=h;rfl) λcdv Ar outer s H E hr ds Q h=>?_;obtain⟨fs,an,fa,rs,a,b,t,ns,d,rfl,S,hns,h⟩:=h;have nd:=aB6.nd;refine⟨_,(cM (dQ (B7 (eP zL qB (aK 3) aN) (VP (aK 1) (eD (aD (aK 2) (aD (aK 3) aU))) (pc:=λh1 h2=>T2 hr.u9 h1 h2)) (cZ bW eN (B6 (aK 0) (aD (aK 2) aU) (λh ha=>F2 h T.C_RowSets T.M_1 F_1 (hr.mono (by decide)) T.D_1.d .nil tG ha)) aN)))),?_⟩;show PX _ _ [.val (wM c_RowSets fs an rs a b),.val (nH w (kY t)),.val (jC ns),.val (.int (d:Nat))];refine⟨_,rfl,?_⟩;by_cases h0:0<d
 ·show(if decide ((0:Int)<((d:Nat):Int))=true then _ else _);rw[if_pos (decide_eq_true (by omega))];refine⟨_,rfl,⟨kY t,rfl⟩,_,rfl,_,rfl,(aC rfl),kY t,rfl,lP ns d,kX t,λhn=>?_,λv hv=>?_⟩
  ·exact h _ (.inr ⟨h0,xF.mp hn,rfl⟩)
  ·obtain⟨c,hc,rfl⟩:=uG.mp (show(oA (ns,d),v)∈kY t from hv);exact h _ (.inl ⟨c,.inr ⟨h0,hc⟩,rfl⟩)
 ·show(if decide ((0:Int)<((d:Nat):Int))=true then _ else _);rw[if_neg (λz=>by have:=of_decide_eq_true z;omega)];exact⟨_,rfl,eY,_,rfl,M3,_,rfl,fs,an,fa,rs,a,b,ns,rfl,S,hns,_,rfl,h _ (.inl ⟨_,.inl ⟨by omega,rfl⟩,rfl⟩)⟩
def aI0
  (F_1:dD P w K mg base gA 3 a_1 f_1 ["self","numbers"] (cO K (aEb w c_RowSets)))
  (F_2:dD P w K mg base gA 2 a_2 f_2 ["self","numbers"] (cO K (aHh w c_RowSets)))
  (F_21:dD P w K mg base gA 5 a_21 f_21 ["sets","costs","numbers","deep"] (cO K (aBc w c_RowSets))):dD P w K mg base gA 6 a_20 f_20 ["sets","costs","numbers","deep"] (cO K (aBd w c_RowSets)):=by
 refine xJ T.D_20.F aB7 (λds Q h=>by obtain⟨fs,an,fa,rs,a,b,t,ns,d,c,rfl,S,hns,hT,hin,h⟩:=h;rfl) λcdv Ar outer s H E hr ds Q h=>?_;obtain⟨fs,an,fa,rs,a,b,t,ns,d,c,rfl,S,hns,hT,hin,h⟩:=h;have nd:=aB7.nd;refine⟨_,(cS (ss 4 nd (tP (w:=w) rfl hr.u9 (aK 1) (eD (aD (aK 2) (aD (aK 3) aU)))))
 (cS (iT (eP zL qB (aK 4) (cZ bW eN (B6 (aK 0) (aD (aK 2) aU) (λh ha=>F2 h T.C_RowSets T.M_1 F_1 (hr.mono (by decide)) T.D_1.d .nil tG ha)) aN))
 (cM (dQ nQ))
 hX)
 (cS (sf (fL (B6 (aK 0) (aD (aK 2) aU) (λh ha=>F2 h T.C_RowSets T.M_2 F_2 (hr.mono (by decide)) T.D_2.d .nil tG ha))) (ZA (nY rfl (eM (pn 5 nd) (eM (pn 6 nd) (eM (pn 7 nd) (eM (pn 8 nd) lN))))))
 (cS (wG (i:=9) (fr:=[none,some 0,some 1,some 3]) (N':=["side","sets","costs","deep"]) (fL (eD (aD (aK 7) (aD (aK 8) aU)))) (λb=>⟨(eK (pk 0)),iA,(cd F_21 T.D_21 hr (aD (aK 1) (aD (aK 2) (aD (aK 0) (aD (dH lW vQ (aK 3) aN) aU)))))⟩) (λhi hY=>qT (show sN _ (bP (iW 25)) ["sets","costs","numbers","deep","cost","question","stray","yes","no","sides"] ["side","sets","costs","deep"] [none,some 0,some 1,some 3]=true from by decide +kernel) nd rfl (by first | exact Or.inl rfl | exact Or.inr rfl) rfl hi hY rfl))
 (cM (iT (wF (uZ (eP (LG hr) UA yT (aK 9)) (sT (eP zL qB (aK 4) (dH cA fN (yU (K:=K) rfl (aK 0)) (cB aKb (aD (aK 9) aU) (DA rfl) T.b_sum aF6))))))
 (cM (dQ nQ))
 hX))))
 (cM (dQ nQ))))),?_⟩
 show kI _ _ _ [.val (wM c_RowSets fs an rs a b),.val (nH w (kY t)),.val (jC ns),.val (.int ((d+1:Nat):Int)),.un,.un,.un,.un,.un,.un];have hlt:∀i∈ns,i<rs.length:=λi hi=>hns.lt hi;obtain⟨_,_,_,hc0,hc1⟩:=hT.ok _ hin;dsimp only at hc0 hc1;refine eU (.int c) (λq hq=>⟨_,rfl,_,rfl,_,rfl,(aC rfl),kY t,rfl,lP ns (d+1),kX t,_,uG.mpr ⟨c,hin,rfl⟩,hq⟩) ?_;refine jF (λz=>z=decide ((kP fs fa a (bR rs ns)).1<c)) (λq hq=>⟨_,rfl,_,rfl,eY,_,rfl,M3,_,rfl,fs,an,fa,rs,a,b,ns,rfl,S,hns,_,rfl,hq _ rfl⟩) (λhT'=>?_) λhF=>?_
 ·exact h false ⟨(λz=>by cases z),λhB=>by have:=of_decide_eq_true hT'.symm;have:=hB.1;omega⟩
 have hleaf:c<=(kP fs fa a (bR rs ns)).1:=by have:=of_decide_eq_false hF.symm;omega
 try unfold oV
 dsimp only
 refine lM (ts:=((sA fs).filter (fG fs (bR rs ns))).map (TQ fs rs ns)) (λR h=>⟨_,rfl,eY,_,rfl,XD,_,rfl,fs,an,fa,rs,a,b,ns,rfl,S,hns,_,rfl,h⟩)
  (λk σ=>(∃s5 s6 s7 s8 s9:Sl,σ=[.val (wM c_RowSets fs an rs a b),.val (nH w (kY t)),.val (jC ns),.val (.int ((d+1:Nat):Int)),.val (.int c),s5,s6,s7,s8,s9])/\∀ch∈((sA fs).filter (fG fs (bR rs ns))).take k,zW fs fa a b rs t ns d c ch) ⟨⟨_,_,_,_,_,rfl⟩,λch hch=>by simp at hch⟩ (λk x σ' hx hP=>?_) λσ' hP=>?_
 ·obtain⟨⟨s5,s6,s7,s8,s9,rfl⟩,hall⟩:=hP;rw[aI]at hx;obtain⟨ch,hck,rfl⟩:=bT.mp hx;have hcm:=aW hck;have ed:(((d+1:Nat):Int)-1)=((d:Nat):Int):=by omega
  refine⟨_,_,_,_,rfl,?_⟩;show kI _ _ _ [.val (wM c_RowSets fs an rs a b),.val (nH w (kY t)),.val (jC ns),.val (.int ((d+1:Nat):Int)),.val (.int c),.val (qD ch.1),.val (.str ch.2),.val (jC (yN fs rs ch ns)),.val (jC (nN fs rs ch ns)),s9];refine tD (λv=>∃vy vn,v=.list [vy,vn]/\OZ fs fa a rs t (yN fs rs ch ns) d vy/\OZ fs fa a rs t (nN fs rs ch ns) d vn) (λq hq=>?_) ?_
  ·refine UQ (ts:=[jC (yN fs rs ch ns),jC (nN fs rs ch ns)]) (λR h=>⟨_,rfl,_,rfl,(aC rfl),_,rfl,h⟩) (λi x y=>∃ms:List Nat,x=jC ms/\OZ fs fa a rs t ms d y) (aC rfl) (λi x q' hi hq'=>?_) λys hyl hys=>?_
   ·obtain⟨ms,rfl,hms⟩:∃ms,x=jC ms/\nI rs ms:=by
     rcases i with _ | _ | i
     ·cases hi;exact⟨_,rfl,hns.filt _⟩
     ·cases hi;exact⟨_,rfl,hns.filt _⟩
     ·simp at hi
    refine⟨_,rfl,_,rfl,_,rfl,_,rfl,fs,an,fa,rs,a,b,t,ms,d,by rw[ed],S,hms,λv hv=>hq' v ⟨ms,rfl,hv⟩⟩
   ·match ys,hyl with
    |[vy,vn],_=>
     obtain⟨m1,e1,g1⟩:=hys 0 _ _ rfl rfl;obtain⟨m2,e2,g2⟩:=hys 1 _ _ rfl rfl;rw[<- F4 e1]at g1;rw[<- F4 e2]at g2;exact hq _ ⟨vy,vn,rfl,g1,g2⟩
  ·rintro _ ⟨vy,vn,rfl,hy,hn⟩;have et:((sA fs).filter (fG fs (bR rs ns))).take (k+1)=((sA fs).filter (fG fs (bR rs ns))).take k++[ch]:=by rw[cP,hck];rfl
   have fin:zW fs fa a b rs t ns d c ch->∀x∈((sA fs).filter (fG fs (bR rs ns))).take (k+1),zW fs fa a b rs t ns d c x:=λhp x hx=>by
    rw[et]at hx;rcases cK.mp hx with hx | hx
    ·exact hall x hx
    ·rw[aZ.mp hx];exact hp
   refine nZ (λz=>z=true↔¬zW fs fa a b rs t ns d c ch) (λq hq=>?_) (λhT'=>?_) λhF'=>?_
   ·rcases hy with⟨cy,hy,rfl⟩ | ⟨h0,hy,rfl⟩
    ·rcases hn with⟨cn,hn,rfl⟩ | ⟨h0,hn,rfl⟩
     ·have by_:=HZ S hT (hns.filt _) hy;have bn:=HZ S hT (hns.filt _) hn;refine⟨_,rfl,⟨rfl,rfl,(aC rfl)⟩,?_⟩;show(if false=true then q true else _);rw[if_neg bE];refine⟨_,rfl,_,rfl,c_RowSets,eY,_,_,rfl,T.C_RowSets,T.n_RowSets_knot,rfl,_,rfl,[cy,cn],rfl,?_,(aC rfl),?_⟩
      ·intro n hn';rcases bH.mp hn' with rfl | hn'
       ·exact by_
       ·rw[aZ.mp hn'];exact bn
      ·show q (decide (b+[cy,cn].sum<c));have e:[cy,cn].sum=cy+cn:=by simp
       rw[e];refine hq _ ?_;rw[decide_eq_true_iff];constructor
       ·rintro hlt' ⟨cy',cn',g1,g2,g3⟩;rw[wK hT.nd g1 hy,wK hT.nd g2 hn]at g3;omega
       ·intro hp;exact Classical.byContradiction λz=>hp ⟨cy,cn,hy,hn,by omega⟩
     ·refine⟨_,rfl,⟨rfl,rfl,(aC rfl)⟩,?_⟩;exact hq _ ⟨λ_ ⟨_,cn,_,h2,_⟩=>yC h0 hn h2,λ_=>rfl⟩
    ·refine⟨_,rfl,⟨?_,rfl,?_⟩,?_⟩
     ·rcases hn with⟨cn,_,rfl⟩ | ⟨_,_,rfl⟩<;>rfl
     ·rcases hn with⟨cn,_,rfl⟩ | ⟨_,_,rfl⟩<;>exact(aC rfl)
     ·show(if(cG .none .none||(cG vn .none||false))=true then q true else _);rw[show cG .none .none=true from rfl,aGw,if_pos rfl];exact hq _ ⟨λ_ ⟨cy,_,h1,_⟩=>yC h0 hy h1,λ_=>rfl⟩
   ·exact h false ⟨(λz=>by cases z),λhB=>absurd (hB.2 ch hcm) (hT'.mp rfl)⟩
   ·exact⟨⟨_,_,_,_,_,rfl⟩,fin (Classical.byContradiction λz=>by cases hF'.mpr z)⟩
 ·obtain⟨⟨s5,s6,s7,s8,s9,rfl⟩,hall⟩:=hP;rw[aB,dY]at hall;exact h true ⟨λ_=>⟨hleaf,hall⟩,λ_=>rfl⟩
def aI4
  (F_0:dD P w K mg base gA 5 a_0 f_0 ["self","form","rows","prices"] (xD c_RowSets eY K aHi))
  (F_20:dD P w K mg base gA 6 a_20 f_20 ["sets","costs","numbers","deep"] (cO K (aBd w c_RowSets)))
  (F_17:dD P w K mg base gA 3 a_17 f_17 ["many","table"] (cO K aBg)):dD P w K mg base gA 7 a_16 f_16 ["form","rows","prices","table"] (cO K (SO w c_RowSets)):=by
 refine xJ T.D_16.F aCb (λds Q h=>by obtain⟨fs,an,fa,rs,a,b,xs,rfl,S,hE,h⟩:=h;rfl) λcdv Ar outer s H E hr ds Q h=>?_;obtain⟨fs,an,fa,rs,a,b,xs,rfl,S,hE,h⟩:=h;have nd:=aCb.nd;refine⟨_,(cS (iT (nW (tv (cd F_17 T.D_17 hr (aD (cB jZ (aD (aK 1) aU) dR T.b_len iG) (aD (aK 3) aU)))))
 (cM (dQ nQ))
 hX)
 (cS (ss 4 nd (ZK (aD (aK 0) (aD (aK 1) (aD (aK 2) aU))) (λh=>YE T.K_RowSets F_0 (hr.mono (by decide)) rfl T.x_RowSets T.D_0.d .nil tG h)))
 (cS (sn 5 nd)
 (cS (sf (fL (aK 3)) (qW (nY rfl (eM (pn 6 nd) (eM (pn 7 nd) (eM (pn 8 nd) lN)))))
 (cM (HU (i:=5) hr.u9 (pv 5) (eD (aD (aK 6) (aD (aK 7) aU))) (aK 8))))
 (D0 5 (cM (dQ (cB WA (aD (el (fr:=[none,none,some 4,some 5]) (N':=["numbers","deep","sets","costs"]) (F9 (aK 5)) (λb=>⟨(uJ (nY rfl (eM (pk 0) (eM (pk 1) lN)))),iA,(cd F_20 T.D_20 hr (aD (aK 2) (aD (aK 3) (aD (aK 0) (aD (aK 1) aU)))))⟩)) aU) (sE rfl) T.b_all MH)))))))),?_⟩
 show kI _ _ _ [.val (fC fs an),.val (.list (rs.map fE)),.val (.tuple [.int a,.int b]),.val (.list (xs.map cN)),.un,.un,.un,.un,.un];have hl:=S.l;have hxl:=hE.l;refine jF (λz=>z=true↔¬DG rs.length xs) (λq hq=>⟨_,rfl,_,rfl,rs.length,xs,by rw[aB],hE.n,hE.l,hl,λz hz=>hq _ ?_⟩) (λhT=>?_) λhF=>?_
 ·rw[<- hz];cases z<;>simp
 ·exact h false ⟨(λz=>by cases z),λhH=>absurd hH.1 (hT.mp rfl)⟩
 have hT:DG rs.length xs:=Classical.byContradiction λz=>by cases hF.mpr z
 have hO:=M5 hT hE
 try unfold oV
 dsimp only;refine eU (wM c_RowSets fs an rs a b) (λq hq=>⟨_,rfl,_,rfl,_,rfl,fs,an,rs,a,b,rfl,S.F,S.R,S.l,hq⟩) ?_;refine BI (w:=w) (show 5<9 by decide) (λj hs kvs hj=>?_) ?_
 ·rcases j with _ | _ | _ | _ | _ | _ | _ | _ | _ | j<;>simp at hj
 refine lM (ts:=xs.map cN) (λR h=>⟨_,rfl,_,rfl,h⟩)
  (λk σ=>∃s6 s7 s8:Sl,σ=[.val (fC fs an),.val (.list (rs.map fE)),.val (.tuple [.int a,.int b]),.val (.list (xs.map cN)),.val (wM c_RowSets fs an rs a b),tR w (kY ((kG xs).take k)),s6,s7,s8]) ⟨_,_,_,rfl⟩ (λk x σ' hx hP=>?_) λσ' hP=>?_
 ·obtain⟨s6,s7,s8,rfl⟩:=hP;rw[aI]at hx;obtain⟨x,hxk,rfl⟩:=bT.mp hx;have hkl:k<xs.length:=(aG.mp hxk).1;have hEx:=hT.1 x (aW hxk);have htk:(kG xs)[k]?=some ((x.1.map gQ,x.2.1.toNat),x.2.2):=by unfold kG;rw[aI,hxk];rfl
  have hnew:oA (x.1.map gQ,x.2.1.toNat)∉(kY ((kG xs).take k)).map (·.1):=by
   rw[xF];intro z;obtain⟨j,hj⟩:=bV z;rw[aI]at hj;obtain⟨e,he,ee⟩:=bT.mp hj;have hjl:=(aG.mp he).1;rw[bC]at hjl;rw[mN,if_pos (by omega)]at he;have:=BX hO.nd (i:=j) (j:=k) (c:=(x.1.map gQ,x.2.1.toNat)) (by rw[aI,he];exact congrArg some ee) (by rw[aI,htk];rfl);omega
  have hkvl:(kY ((kG xs).take k)).length<=300:=by unfold kY;rw[aB,bC];omega
  have ek:fJ [.tuple (x.1.map aH),.int x.2.1]=oA (x.1.map gQ,x.2.1.toNat):=(xG hEx).symm;refine⟨_,_,_,rfl,?_⟩;refine⟨_,rfl,_,rfl,_,rfl,_,rfl,(aC rfl),?_⟩;rw[ek];refine⟨lP _ _,kX _,by omega,.val (.tuple (x.1.map aH)),.val (.int x.2.1),.val (.int x.2.2),?_⟩;rw[FZ hnew,cP,htk];show _=[_,_,_,_,_,tR w (((kG xs).take k++[_]).map _),_,_,_];rw[bG];rfl
 ·obtain⟨s6,s7,s8,rfl⟩:=hP;have htl:(kG xs).length=xs.length:=by unfold kG;rw[aB]
  rw[aB,<- htl,dY];refine⟨_,_,rfl,?_⟩;show PX _ _ [.val (fC fs an),.val (.list (rs.map fE)),.val (.tuple [.int a,.int b]),.val (.list (xs.map cN)),.val (wM c_RowSets fs an rs a b),.val (nH w (kY (kG xs))),s6,s7,s8];dsimp only[PX,oG,xO];refine aFd (ts:=(kG xs).map λe=>oA e.1) (λR h=>⟨_,rfl,kY (kG xs),rfl,by rw[tK];exact h⟩) (λk _ y=>∃(e:(List Nat×Nat)×Int)(z:Bool),(kG xs)[k]?=some e/\y=.bool z/\(z=true↔xS fs fa a b rs (kG xs) e.1.1 (e.1.2-1) e.2)) (by rw[aB];omega) (λx hx=>?_) (λk u v q hk hq=>?_) λys hyl hys=>?_
  ·obtain⟨e,_,rfl⟩:=aQ.mp hx;exact⟨_,_,rfl⟩
  ·rw[aI]at hk;obtain⟨e,hek,ee⟩:=bT.mp hk;injection ee with ee
   injection ee with e1 ee
   injection ee with e2 _
   subst e1 e2;have hem:=aW hek;obtain⟨g1,g2,g3,g4,g5⟩:=hO.ok _ hem;obtain⟨⟨y,d⟩,c⟩:=e;dsimp only at g1 g2 g3 g4 g5 hq;obtain⟨d',rfl⟩:∃d',d=d'+1:=⟨d-1,by omega⟩;exact⟨_,rfl,_,rfl,_,rfl,_,rfl,fs,an,fa,rs,a,b,kG xs,y,d',c,rfl,S,g1,hO,hem,λz hz=>hq _ ⟨_,z,hek,rfl,hz⟩⟩
  ·obtain⟨bs,rfl,hbs⟩:=JY (R:=λe=>xS fs fa a b rs (kG xs) e.1.1 (e.1.2-1) e.2) hyl hys;exact⟨bs,rfl,h _ (by rw[hbs];exact⟨λz=>⟨hT,z⟩,λz=>z.2⟩)⟩
def aIj
  (F_33:dD P w K mg base gA 2 a_33 f_33 ["_law_form_here","_law_rows_here","_law_slip"] (cO K NG))
  (F_36:dD P w K mg base gA 1 a_36 f_36 ["_law_rows_here"] (cO K NE))
  (F_34:dD P w K mg base gA 3 a_34 f_34 ["_law_form_here","_law_rows_here"] (cO K NF)):dD P w K mg base gA 4 a_37 f_37 ["_law_form_here","_law_rows_here","_law_prices_here","_law_table"] (cO K (aA0 w)):=by
 refine xJ T.D_37.F aBq (λds Q h=>by obtain⟨fs,an,fa,rs,a,b,xs,rfl,S,hE,h⟩:=h;rfl) λcdv Ar outer s H E hr ds Q h=>?_;obtain⟨fs,an,fa,rs,a,b,xs,rfl,S,hE,h⟩:=h;have nd:=aBq.nd;refine⟨_,(cS (sn 4 nd)
 (cS (sf (fL (aK 3)) (qW (nY rfl (eM (pn 5 nd) (eM (pn 6 nd) (eM (pn 7 nd) lN)))))
 (cS (ss 8 nd (rY (pB (T6 hr) qA (aK 5) (eD aU)) (rY (pB (vP hr) qA (cY vX (aD (aK 5) aU) jY T.b_list sI) (VN (aK 5) (pc:=λh=>mP (ME rfl) rfl T.b_sorted RE (fY (mE (Q9 rfl) rfl T.b_set WC h) jG)))) (rY (B8 D7 D7 qB qB aN (aK 6) aN) (yS (pB IM qB (aK 7) aN))))))
 (cS (iT (wF (uZ (nW (tv (aK 8))) (uZ (eP aCr qB (cZ bW eN (aK 5) aN) aN) (uZ (eP IM qB (cZ bW eN (aK 5) (L6 aN)) (cB jZ (aD (aK 1) aU) dR T.b_len iG)) (sT (M2 (i:=4) (aE4 hr.u9) (pv 4) (eD (aD (aK 5) (aD (aK 6) aU)))))))))
 (cM (dQ nQ))
 hX)
 (cM (HU (i:=4) hr.u9 (pv 4) (eD (aD (aK 5) (aD (aK 6) aU))) (aK 7))))))
 (D0 4 (cS (sf (F9 (aK 4)) (uJ (nY rfl (eM (pn 5 nd) (eM (pn 6 nd) lN))))
 (cS (wG (i:=9) (fr:=[none,some 1]) (N':=["_law_k","_law_rows_here"]) (fL (aK 5)) (λb=>⟨(eK (pk 0)),iA,(eD (aD (cZ bW eN (cZ bW eN (aK 1) (aK 0)) aN) (aD (cZ bW eN (cZ bW eN (aK 1) (aK 0)) aN) (aD (aK 0) aU))))⟩) (λhi hY=>qT (show sN _ (bP (iW 43)) ["_law_form_here","_law_rows_here","_law_prices_here","_law_table","_law_costs","_law_numbers_here","_law_deep","_law_cost","_law_right","_law_some","_law_sides","_law_least_cost","_law_side_here"] ["_law_k","_law_rows_here"] [none,some 1]=true from by decide +kernel) nd rfl (by first | exact Or.inl rfl | exact Or.inr rfl) rfl hi hY rfl))
 (cS (iT (eP zL qB (tP (w:=w) rfl hr.u9 (aK 4) (eD (aD (aK 5) (aD (aK 6) aU)))) (cd F_33 T.D_33 hr (aD (aK 0) (aD (aK 9) (aD (cZ bW eN (aK 2) aN) aU)))))
 (cM (dQ nQ))
 hX)
 (cM (sf (fL (cd F_34 T.D_34 hr (aD (aK 0) (aD (aK 9) aU)))) (eK (pn 10 nd))
 (cS (ss 11 nd (cZ bW eN (aK 2) aN))
 (cS (sf (fL (aK 10)) (eK (pn 12 nd))
 (cM (iT (eP (vP hr) qA (aK 6) aN)
 (cM (ss 11 nd (dH cA fN (aK 11) (cd F_33 T.D_33 hr (aD (aK 0) (aD (aK 12) (aD (cZ bW eN (aK 2) aN) aU)))))))
 (cM (iT (eP (D8 hr.u9) (aJe true) (eD (aD (cd F_36 T.D_36 hr (aD (aK 12) aU)) (aD (dH lW vQ (aK 6) aN) aU))) (aK 4))
 (cM (dQ nQ))
 (cM (ss 11 nd (dH cA fN (aK 11) (tP (w:=w) rfl hr.u9 (aK 4) (eD (aD (cd F_36 T.D_36 hr (aD (aK 12) aU)) (aD (dH lW vQ (aK 6) aN) aU))))))))))))
 (cM (iT (eP zL qB (tP (w:=w) rfl hr.u9 (aK 4) (eD (aD (aK 5) (aD (aK 6) aU)))) (aK 11))
 (cM (dQ nQ))
 hX)))))))))
 (cM (dQ nQ)))))),?_⟩
 show kI _ _ _ [.val (fC fs an),.val (.list (rs.map fE)),.val (.tuple [.int a,.int b]),.val (.list (xs.map cN)),.un,.un,.un,.un,.un,.un,.un,.un,.un];have hl:=S.l;have hxl:=hE.l;refine BI (w:=w) (show 4<13 by decide) (λj hs kvs hj=>?_) ?_
 ·rcases j with _ | _ | _ | _ | _ | _ | _ | _ | _ | _ | _ | _ | _ | j<;>simp at hj
 refine lM (ts:=xs.map cN) (λR h=>⟨_,rfl,_,rfl,h⟩)
  (λk σ=>DG rs.length (xs.take k)/\∃s5 s6 s7 s8:Sl,σ=[.val (fC fs an),.val (.list (rs.map fE)),.val (.tuple [.int a,.int b]),.val (.list (xs.map cN)),tR w (kY (kG (xs.take k))),s5,s6,s7,s8,.un,.un,.un,.un]) ⟨⟨(λx hx=>by simp at hx),by simp⟩,_,_,_,_,rfl⟩ (λk x σ' hx hP=>?_) λσ' hP=>?_
 ·obtain⟨hTk,s5,s6,s7,s8,rfl⟩:=hP;rw[aI]at hx;obtain⟨x,hxk,rfl⟩:=bT.mp hx;have hkl:k<xs.length:=(aG.mp hxk).1;have hxm:=aW hxk;have hnl:=hE.n x hxm;obtain⟨ns,dp,c⟩:=x;dsimp only at hnl;have l1:=mQ ns;refine⟨_,_,_,rfl,?_⟩;show kI _ _ _ [.val (fC fs an),.val (.list (rs.map fE)),.val (.tuple [.int a,.int b]),.val (.list (xs.map cN)),tR w (kY (kG (xs.take k))),.val (.tuple (ns.map aH)),.val (.int dp),.val (.int c),s8,.un,.un,.un,.un];refine tD (λv=>∃z:Bool,v=.bool z/\(z=true↔WM (ns,dp,c))) (λq hq=>?_) ?_
  ·have no:∀{p:Prop},¬p->(WM (ns,dp,c)->p)->q (.bool false):=λhp hh=>hq _ ⟨false,rfl,(λz=>by cases z),λhR=>absurd (hh hR) hp⟩;refine⟨_,rfl,(aC rfl),⟨l1.1,rfl,cI (oE _ _) (aC rfl)⟩,?_⟩;show(if(!cG (.tuple (ns.map aH)) (.tuple []))=true then _ else q (.bool false));rw[JL];by_cases hne:ns=[]
   ·rw[decide_eq_true hne,if_neg (by decide)];exact no (p:=ns≠[]) (λz=>z hne) λhR=>hR.1
   rw[decide_eq_false hne,if_pos (by decide)];refine⟨_,rfl,_,rfl,ns,rfl,hnl,λus u1 u2 u3=>?_⟩;have l2:=mQ us;refine⟨⟨l1.1,l2.1,cI (DP _ _) ?_⟩,?_⟩
   ·show bU (ns.map aH)+1<=60;rw[l1.2];exact(aC rfl)
   show(if cG (.list (ns.map aH)) (.list (us.map aH))=true then _ else q (.bool false));by_cases hu:ns=us
   ·rw[if_pos ((CA ns us).mpr hu)];have hp:ns.Pairwise (·<·):=by rw[hu];exact u1
    refine⟨_,rfl,?_⟩;show(if decide ((1:Int)<=dp)=true then _ else _);by_cases h1:(1:Int)<=dp
    ·rw[if_pos (decide_eq_true h1)];show(if decide (dp<=(3:Int))=true then _ else q (.bool false));by_cases h3:dp<=(3:Int)
     ·rw[if_pos (decide_eq_true h3)];refine⟨_,rfl,?_⟩;show q (.bool (decide ((0:Int)<=c)));refine hq _ ⟨_,rfl,?_⟩;rw[decide_eq_true_iff];exact⟨λh0=>⟨hne,hp,h1,h3,h0⟩,λhR=>hR.2.2.2.2⟩
     ·rw[if_neg (by simpa using h3)];exact no (p:=dp<=3) h3 λhR=>hR.2.2.2.1
    ·rw[if_neg (by simpa using h1)];exact no (p:=1<=dp) h1 λhR=>hR.2.2.1
   ·rw[if_neg λz=>hu ((CA ns us).mp z)];exact no (p:=ns.Pairwise (·<·)) (λz=>hu (WG z u1 λw=>(u2 w).symm)) λhR=>hR.2.1
  rintro _ ⟨z,rfl,hz⟩;have hkvl:(kY (kG (xs.take k))).length<=300:=by unfold kY kG;rw[aB,aB,bC];omega
  refine jF (λu=>u=true↔¬(xQ rs.length (ns,dp,c)/\pN (ns,dp,c)∉(xs.take k).map pN)) (λq hq=>?_) (λhT'=>?_) λhF'=>?_
  ·have yes:¬(xQ rs.length (ns,dp,c)/\pN (ns,dp,c)∉(xs.take k).map pN)->q true:=λhn=>hq _ ⟨λ_=>hn,λ_=>rfl⟩;refine⟨_,rfl,?_⟩
   cases z with
   |false=>
    show(if(!false)=true then q true else _);rw[if_pos (by decide)];exact yes λhB=>by cases hz.mpr ⟨hB.1.1,hB.1.2.1.1,hB.1.2.2⟩
   |true=>
    show(if(!true)=true then q true else _);rw[if_neg (by decide)];obtain⟨hne,hp,hd1,hd3,hc0⟩:=hz.mp rfl;dsimp only at hne hp hd1 hd3 hc0;obtain⟨e0,e1⟩:=VT hne;have hre:=S4 (m:=rs.length) hne hp;refine⟨_,rfl,_,e0,?_⟩;by_cases hh:ns.head hne<0
    ·show(if decide (ns.head hne<0)=true then q true else _);rw[if_pos (decide_eq_true hh)];exact yes λhB=>by have:=(hre.mp hB.1.2.1).1;omega
    show(if decide (ns.head hne<0)=true then q true else _);rw[if_neg (by simpa using hh)];refine⟨_,rfl,_,e1,_,rfl,?_⟩;by_cases hg:((rs.map fE).length:Int)<=ns.getLast hne
    ·show(if decide (((rs.map fE).length:Int)<=ns.getLast hne)=true then q true else _);rw[if_pos (decide_eq_true hg)];exact yes λhB=>by have:=(hre.mp hB.1.2.1).2;rw[aB]at hg;omega
    show(if decide (((rs.map fE).length:Int)<=ns.getLast hne)=true then q true else _);rw[if_neg (by simpa using hg)];rw[aB]at hg;have hEx:xQ rs.length (ns,dp,c):=⟨hne,hre.mpr ⟨by omega,by omega⟩,hd1,hd3,hc0⟩;refine⟨_,rfl,_,rfl,(aC rfl),_,rfl,LP (ns,dp,c),kX _,λu hu=>hq _ ?_⟩;rw[show(if false=true then !u else u)=u from rfl,hu,show fJ [.tuple (ns.map aH),.int dp]=JB (ns,dp,c)from rfl,aCv hTk.1 hEx];exact⟨λz1 z2=>z2.2 z1,λz1=>Classical.byContradiction λz2=>z1 ⟨hEx,z2⟩⟩
  ·refine h false ⟨(λz=>by cases z),λhH=>absurd ?_ (hT'.mp rfl)⟩;have h1:=SD hH.1 (k+1);rw[cP,hxk]at h1;refine⟨h1.1 _ (dW _ (aZ.mpr rfl)),λz1=>?_⟩;have h2:=h1.2;rw[bG]at h2;exact(jN.mp h2).2.2 _ z1 _ (aZ.mpr rfl) rfl
  ·obtain⟨hEx,hnk⟩:xQ rs.length (ns,dp,c)/\pN (ns,dp,c)∉(xs.take k).map pN:=Classical.byContradiction λz1=>by cases hF'.mpr z1
   try unfold oV
   dsimp only;have hnew:JB (ns,dp,c)∉(kY (kG (xs.take k))).map (·.1):=λz1=>hnk ((aCv hTk.1 hEx).mp z1);refine⟨_,rfl,_,rfl,_,rfl,_,rfl,(aC rfl),?_⟩;rw[show fJ [.tuple (ns.map aH),.int dp]=JB (ns,dp,c)from rfl];refine⟨LP _,kX _,by omega,SE hxk hTk hEx hnk,.val (.tuple (ns.map aH)),.val (.int dp),.val (.int c),.val (.bool z),?_⟩;rw[FZ hnew,cP,hxk]
   have et:kY (kG (xs.take k++[(ns,dp,c)]))=kY (kG (xs.take k))++[(JB (ns,dp,c),.int c)]:=by
    unfold kG kY;rw[bG,bG,<- xG hEx];rfl
   show _=[_,_,_,_,tR w (kY (kG (xs.take k++[(ns,dp,c)]))),_,_,_,_,_,_,_,_];rw[et];rfl
 ·obtain⟨hTk,s5,s6,s7,s8,rfl⟩:=hP;rw[aB,dY]at *;refine⟨_,_,rfl,?_⟩;have hO:=M5 hTk hE;have hH:J5 fs fa a b rs xs↔∀e∈kG xs,xS fs fa a b rs (kG xs) e.1.1 (e.1.2-1) e.2:=⟨λz=>z.2,λz=>⟨hTk,z⟩⟩;rw[hH]at h;show kI _ _ _ [.val (fC fs an),.val (.list (rs.map fE)),.val (.tuple [.int a,.int b]),.val (.list (xs.map cN)),.val (nH w (kY (kG xs))),s5,s6,s7,s8,.un,.un,.un,.un]
  generalize kG xs=t at hO h
  have htl:=hO.l;have thG:∀ns:List Nat,nI rs ns->∀r∈dX rs ns,Th 200 2 (fH r):=λns hn r hr=>M4 S.F S.R hn (by omega) hr;have okG:∀ns:List Nat,jU fs an ((dX rs ns).map (·.1)):=λns=>by rw[mG];exact FS S.R ns
  have lenG:∀ns:List Nat,nI rs ns->(dX rs ns).length<=60:=λns hn=>by have:=yO rs ns;have:=hn.len;omega
  refine lM (ts:=t.map λe=>oA e.1) (λR h=>⟨_,rfl,kY t,rfl,by rw[tK];exact h⟩)
   (λk σ=>(∀e∈t.take k,xS fs fa a b rs t e.1.1 (e.1.2-1) e.2)/\∃s5 s6 s7 s8 s9 s10 s11 s12:Sl,σ=[.val (fC fs an),.val (.list (rs.map fE)),.val (.tuple [.int a,.int b]),.val (.list (xs.map cN)),.val (nH w (kY t)),s5,s6,s7,s8,s9,s10,s11,s12]) ⟨(λe he=>by simp at he),_,_,_,_,_,_,_,_,rfl⟩ (λk x σ' hx hP=>?_) λσ' hP=>?_
  ·obtain⟨hdone,s5,s6,s7,s8,s9,s10,s11,s12,rfl⟩:=hP;rw[aI]at hx;obtain⟨e,hek,rfl⟩:=bT.mp hx;have hem:=aW hek;obtain⟨hyo,hd1,hd3,hc0,hc1⟩:=hO.ok _ hem;have bad:¬xS fs fa a b rs t e.1.1 (e.1.2-1) e.2->Q (.bool false):=λhn=>h false ⟨(λz=>by cases z),λhB=>absurd (hB e hem) hn⟩
   have good:xS fs fa a b rs t e.1.1 (e.1.2-1) e.2->∀x∈t.take (k+1),xS fs fa a b rs t x.1.1 (x.1.2-1) x.2:=λhB x hx=>by
    rw[cP,hek]at hx;rcases cK.mp hx with hx | hx
    ·exact hdone x hx
    ·rw[aZ.mp hx];exact hB
   obtain⟨⟨y,dd⟩,c⟩:=e;dsimp only at hyo hd1 hd3 hc0 hc1 bad good;obtain⟨d,rfl⟩:∃d,dd=d+1:=⟨dd-1,by omega⟩;rw[WR]at bad good;have hget:(U0 y (d+1),aH c)∈kY t:=uG.mpr ⟨c,hem,rfl⟩;refine⟨_,_,rfl,?_⟩;refine eU (.list ((dX rs y).map fH)) (λq hq=>?_) ?_
   ·rw[<- GG λi hi=>hyo.lt hi]at hq;refine iC (ts:=y.map λ(i:Nat)=>aH (i:Int)) (λR h=>⟨_,rfl,_,rfl,h⟩) (gF rs) (by rw[aB];have:=hyo.len;omega) (λx q hx hq=>?_) hq;obtain⟨i,hi,rfl⟩:=aQ.mp hx;have hil:=hyo.lt hi;have ei:L2.atI (rs.map fE) ((i:Nat):Int)=some (fE rs[i]):=L2.fZ (by rw[aI,aF hil];rfl)
    have eg:gF rs (.int ((i:Nat):Int))=.tuple [.tuple rs[i].1,.str rs[i].2,.int ((i:Nat):Int)]:=by
     unfold gF;dsimp only;rw[dZ,aF hil];rfl
    rw[eg]at hq;exact⟨_,rfl,_,rfl,_,ei,_,rfl,_,rfl,_,rfl,_,ei,_,rfl,_,rfl,(aC rfl),hq⟩
   refine jF (λz=>z=decide ((kP fs fa a (bR rs y)).1<c)) (λq hq=>⟨_,rfl,_,rfl,_,rfl,(aC rfl),kY t,rfl,lP y (d+1),kX t,_,hget,?_⟩) (λhT'=>?_) λhF'=>?_
   ·refine⟨_,rfl,_,rfl,_,rfl,_,rfl,fs,an,fa,dX rs y,a,rfl,S.F,S.fa,okG y,lenG y hyo,S.a0,S.a1,?_⟩;rw[mG];exact hq _ rfl
   ·exact bad λhB=>by have:=of_decide_eq_true hT'.symm;have:=hB.1;omega
   have hleaf:c<=(kP fs fa a (bR rs y)).1:=by have:=of_decide_eq_false hF'.symm;omega
   try unfold oV
   dsimp only;have hR:(dX rs y).map (·.1)=bR rs y:=mG rs y
   refine aFp (ts:=((sA fs).filter (fG fs (bR rs y))).map (uR fs (dX rs y))) (λR h=>⟨_,rfl,_,rfl,fs,an,dX rs y,rfl,S.F,okG y,lenG y hyo,thG y hyo,by rw[hR];exact⟨_,rfl,h⟩⟩)
    (λk σ=>(∀ch∈((sA fs).filter (fG fs (bR rs y))).take k,zW fs fa a b rs t y d c ch)/\∃s7 s8 s10 s11 s12:Sl,σ=[.val (fC fs an),.val (.list (rs.map fE)),.val (.tuple [.int a,.int b]),.val (.list (xs.map cN)),.val (nH w (kY t)),.val (jC y),.val (.int ((d+1:Nat):Int)),s7,s8,.val (.list ((dX rs y).map fH)),s10,s11,s12]) ⟨(λch hch=>by simp at hch),_,_,_,_,_,rfl⟩ (λi x σ' hx hP=>?_) λσ' hP=>?_
   ·obtain⟨hall,s7,s8,s10,s11,s12,rfl⟩:=hP;rw[aI]at hx;obtain⟨ch,hck,rfl⟩:=bT.mp hx;have hcf:=aW hck;have gy:(dX rs y).filter (λr=>yH fs ch r.1)=dX rs (yN fs rs ch y):=oZ rs (yH fs ch) (N4 fs rs ch) y λi _ r hr=>by unfold N4;rw[hr]
    have gn:(dX rs y).filter (λr=>!yH fs ch r.1)=dX rs (nN fs rs ch y):=oZ rs (λr=>!yH fs ch r) (λi=>!N4 fs rs ch i) y λi _ r hr=>by unfold N4;rw[hr]
    have e2:uR fs (dX rs y) ch=.tuple [.list ((dX rs (yN fs rs ch y)).map fH),.list ((dX rs (nN fs rs ch y)).map fH)]:=by unfold uR;rw[gy,gn]
    have badP:¬zW fs fa a b rs t y d c ch->Q (.bool false):=λhn=>bad λhB=>hn (hB.2 ch hcf);show kI _ _ _ [.val (fC fs an),.val (.list (rs.map fE)),.val (.tuple [.int a,.int b]),.val (.list (xs.map cN)),.val (nH w (kY t)),.val (jC y),.val (.int ((d+1:Nat):Int)),s7,s8,.val (.list ((dX rs y).map fH)),.val (uR fs (dX rs y) ch),s11,s12];refine eU (.int b) (λq hq=>⟨_,rfl,_,rfl,hq⟩) ?_;rw[e2]
    refine lM (ts:=[.list ((dX rs (yN fs rs ch y)).map fH),.list ((dX rs (nN fs rs ch y)).map fH)]) (λR h=>⟨_,rfl,_,rfl,h⟩)
     (λi σ=>∃(l:Int)(s12:Sl),σ=[.val (fC fs an),.val (.list (rs.map fE)),.val (.tuple [.int a,.int b]),.val (.list (xs.map cN)),.val (nH w (kY t)),.val (jC y),.val (.int ((d+1:Nat):Int)),s7,s8,.val (.list ((dX rs y).map fH)),.val (.tuple [.list ((dX rs (yN fs rs ch y)).map fH),.list ((dX rs (nN fs rs ch y)).map fH)]),.val (.int l),s12]/\((i=0/\l=b)\/(i=1/\∃cy,nC fs fa a rs t (yN fs rs ch y) d cy/\l=b+cy)\/(i=2/\∃cy cn,nC fs fa a rs t (yN fs rs ch y) d cy/\nC fs fa a rs t (nN fs rs ch y) d cn/\l=b+cy+cn))) ⟨b,s12,rfl,.inl ⟨rfl,rfl⟩⟩ (λi x σ' hx hP=>?_) λσ' hP=>?_
    ·obtain⟨l,s12,rfl,hacc⟩:=hP;have hi:i<2:=(aG.mp hx).1
     obtain⟨zs,hzs,rfl,hnx,hno⟩:∃zs:List Nat,nI rs zs/\x=.list ((dX rs zs).map fH)/\(∀v,nC fs fa a rs t zs d v->((i+1=0/\l+v=b)\/(i+1=1/\∃cy,nC fs fa a rs t (yN fs rs ch y) d cy/\l+v=b+cy)\/(i+1=2/\∃cy cn,nC fs fa a rs t (yN fs rs ch y) d cy/\nC fs fa a rs t (nN fs rs ch y) d cn/\l+v=b+cy+cn)))/\((∀v,¬nC fs fa a rs t zs d v)->¬zW fs fa a b rs t y d c ch):=by
      rcases(show i=0\/i=1 by omega)with rfl | rfl
      ·cases hx;refine⟨yN fs rs ch y,hyo.filt _,rfl,λv hv=>.inr (.inl ⟨rfl,v,hv,?_⟩),λhn ⟨cy,_,g1,_⟩=>hn cy g1⟩;rcases hacc with⟨_,e⟩ | ⟨e,_⟩ | ⟨e,_⟩
       ·rw[e]
       ·cases e
       ·cases e
      ·cases hx;refine⟨nN fs rs ch y,hyo.filt _,rfl,λv hv=>.inr (.inr ⟨rfl,?_⟩),λhn ⟨_,cn,_,g2,_⟩=>hn cn g2⟩;rcases hacc with⟨e,_⟩ | ⟨_,cy,g,e⟩ | ⟨e,_⟩
       ·cases e
       ·exact⟨cy,v,g,hv,by rw[e]⟩
       ·cases e
     show sIf _ _ _ _ [.val (fC fs an),.val (.list (rs.map fE)),.val (.tuple [.int a,.int b]),.val (.list (xs.map cN)),.val (nH w (kY t)),.val (jC y),.val (.int ((d+1:Nat):Int)),s7,s8,.val (.list ((dX rs y).map fH)),.val (.tuple [.list ((dX rs (yN fs rs ch y)).map fH),.list ((dX rs (nN fs rs ch y)).map fH)]),.val (.int l),.val (.list ((dX rs zs).map fH))]
     cases d with
     |zero=>
      refine nZ (λz=>z=true) (λq hq=>⟨_,rfl,⟨rfl,rfl,(aC rfl)⟩,hq _ (PySem.SeqAt.eqv_refl _ rfl)⟩) (λ_=>?_) λhF=>by cases hF
      refine wV (.int (l+(kP fs fa a (bR rs zs)).1)) (λq hq=>⟨_,rfl,_,rfl,_,rfl,_,rfl,_,rfl,fs,an,fa,dX rs zs,a,rfl,S.F,S.fa,okG zs,lenG zs hzs,S.a0,S.a1,?_⟩) ⟨_,.val (.list ((dX rs zs).map fH)),rfl,hnx _ (.inl ⟨rfl,rfl⟩)⟩;rw[mG];exact hq
     |succ d=>
      have ed:(((d+1+1:Nat):Int)-1)=((d+1:Nat):Int):=by omega
      have ekey:fJ [jC zs,.int (((d+1+1:Nat):Int)-1)]=oA (zs,d+1):=by rw[ed];rfl
      have evF:cG (.int ((d+1+1:Nat):Int)) (.int 1)=false:=by
       show((((d+1+1:Nat):Int))==1)=false;rw[beq_eq_false_iff_ne];omega
      refine nZ (λz=>z=false) (λq hq=>⟨_,rfl,⟨rfl,rfl,(aC rfl)⟩,hq _ evF⟩) (λhT=>by cases hT) λ_=>?_;refine nZ (λz=>z=true↔(zs,d+1)∉t.map (·.1)) (λq hq=>⟨_,rfl,rs,zs,rfl,hzs,by omega,_,rfl,(aC rfl),_,rfl,kY t,rfl,by rw[ekey];exact lP zs (d+1),kX t,λz hz=>hq _ ?_⟩) (λhT2=>?_) λhF2=>?_
      ·rw[ekey]at hz;rw[<- xF,<- hz];cases z<;>simp
      ·exact badP (hno λv hv=>yC (by omega) (hT2.mp rfl) hv)
      ·have hmem:(zs,d+1)∈t.map (·.1):=Classical.byContradiction λz1=>by cases hF2.mpr z1
       obtain⟨e,he,ee⟩:=aQ.mp hmem;obtain⟨e1,v⟩:=e;dsimp only at ee;subst ee;refine wV (.int (l+v)) (λq hq=>⟨_,rfl,_,rfl,_,rfl,rs,zs,rfl,hzs,by omega,_,rfl,(aC rfl),kY t,rfl,by rw[ekey];exact lP zs (d+1),kX t,aH v,by rw[ekey];exact uG.mpr ⟨v,he,rfl⟩,hq⟩) ⟨_,.val (.list ((dX rs zs).map fH)),rfl,hnx v (.inr ⟨by omega,he⟩)⟩
    ·obtain⟨l,s12,rfl,hacc⟩:=hP
     obtain⟨cy,cn,g1,g2,rfl⟩:∃cy cn,nC fs fa a rs t (yN fs rs ch y) d cy/\nC fs fa a rs t (nN fs rs ch y) d cn/\l=b+cy+cn:=by
      rcases hacc with⟨e,_⟩ | ⟨e,_⟩ | ⟨_,g⟩
      ·cases e
      ·cases e
      ·exact g
     refine nZ (λz=>z=decide (b+cy+cn<c)) (λq hq=>⟨_,rfl,_,rfl,_,rfl,(aC rfl),kY t,rfl,lP y (d+1),kX t,_,hget,_,rfl,hq _ rfl⟩) (λhT2=>?_) λhF2=>?_
     ·refine badP λzq=>?_;obtain⟨cy',cn',k1,k2,k3⟩:=zq;have:=of_decide_eq_true hT2.symm;rw[wK hO.nd k1 g1,wK hO.nd k2 g2]at k3;omega
     ·have:=of_decide_eq_false hF2.symm;refine⟨λx hx=>?_,_,_,_,_,_,rfl⟩;rw[cP,hck]at hx;rcases cK.mp hx with hx | hx
      ·exact hall x hx
      ·rw[aZ.mp hx];exact⟨cy,cn,g1,g2,by omega⟩
   ·obtain⟨hall,s7,s8,s10,s11,s12,rfl⟩:=hP;rw[aB,dY]at hall;exact⟨good ⟨hleaf,hall⟩,_,_,_,_,_,_,_,_,rfl⟩
  ·obtain⟨hdone,s5,s6,s7,s8,s9,s10,s11,s12,rfl⟩:=hP;rw[aB,dY]at hdone;exact h true ⟨λ_=>hdone,λ_=>rfl⟩
def aIl:dD P w K mg base gA 1 a_35 f_35 ["_law_rows_here"] (cO K aA1):=by
 refine xJ T.D_35.F aBs (λds Q h=>by obtain⟨rs,rfl,hl,h⟩:=h;rfl) λcdv Ar outer s H E hr ds Q h=>?_;obtain⟨rs,rfl,hl,h⟩:=h;have nd:=aBs.nd;refine⟨_,(cM (dQ (el (fr:=[none,some 0]) (N':=["_law_k","_law_rows_here"]) (mR (aD (cB jZ (aD (aK 0) aU) dR T.b_len iG) aU) (λh=>kC rfl T.b_range h)) (λb=>⟨(eK (pk 0)),iA,(eD (aD (cZ bW eN (cZ bW eN (aK 1) (aK 0)) aN) (aD (cZ bW eN (cZ bW eN (aK 1) (aK 0)) aN) (aD (aK 0) aU))))⟩)))),?_⟩;have e0:(eW rs.length)=(cQ rs.length).map λ(i:Nat)=>aH (i:Int):=rfl;rw[<- GG λi hi=>dI.mp hi,<- e0]at h;refine iC (ts:=eW rs.length) (λR h=>⟨_,rfl,_,rfl,by rw[aB];omega,by rw[aB];omega,by rw[dZ,aB];exact h⟩) (gF rs) (by unfold eW;rw[aB,cH];omega) (λx q hx hq=>?_) h;obtain⟨i,hi,rfl⟩:=aQ.mp hx;have hil:=dI.mp hi;have ei:L2.atI (rs.map fE) ((i:Nat):Int)=some (fE rs[i]):=L2.fZ (by rw[aI,aF hil];rfl)
 have eg:gF rs (.int ((i:Nat):Int))=.tuple [.tuple rs[i].1,.str rs[i].2,.int ((i:Nat):Int)]:=by
  unfold gF;dsimp only;rw[dZ,aF hil];rfl
 rw[eg]at hq;exact⟨_,rfl,_,rfl,_,ei,_,rfl,_,rfl,_,rfl,_,ei,_,rfl,_,rfl,(aC rfl),hq⟩
def XJ(dd:Nat)
  (F_33:dD P w K mg base gA 2 a_33 f_33 ["_law_form_here","_law_rows_here","_law_slip"] (cO K NG))
  (F_36:dD P w K mg base gA 1 a_36 f_36 ["_law_rows_here"] (cO K NE))
  (F_34:dD P w K mg base gA 3 a_34 f_34 ["_law_form_here","_law_rows_here"] (cO K NF))
  (F_38:dD P w K mg base gA (4+dd) a_38 f_38 ["_law_form_here","_law_rows_here","_law_deep","_law_prices_here","_law_met"] (nK K (sX w dd))):dD P w K mg base gA (4+dd+1) a_38 f_38 ["_law_form_here","_law_rows_here","_law_deep","_law_prices_here","_law_met"] (nK K (sX w (dd+1))):=by
 refine fnZ (F:=KC w) T.D_38.F aBp (λτ n ds Q h=>by obtain⟨fs,an,fa,rs,a,b,ns,d,t,rfl,S,h5,hns,hne,hdn,hd3,rfl,hM,h⟩:=h;rfl) λcdv Ar outer s H E hr Tp n ds Q h=>?_;obtain⟨fs,an,fa,rs,a,b,ns,d,t,rfl,S,h5,hns,hne,hdn,hd3,rfl,hM,h⟩:=h;have nd:=aBp.nd;refine⟨_,(uB (aAv (aLg (eP jM nB (aK 2) aN))
 (FP (SI (yQ (cd (hk:=by omega) F_33 T.D_33 hr (aD (aK 0) (aD (aK 1) (aD (cZ bW eN (aK 3) aN) aU)))))))
 SJ)
 (uB (aHa (ss 5 nd (eD (aD (cd (hk:=by omega) F_36 T.D_36 hr (aD (aK 1) aU)) (aD (aK 2) aU)))))
 (uB (aAv (aG2 (j:=4) (M2 (i:=4) (D8 hr.u9) (pv 4) (aK 5)))
 (uB (aHa (ss 6 nd (cd (hk:=by omega) F_33 T.D_33 hr (aD (aK 0) (aD (aK 1) (aD (cZ bW eN (aK 3) aN) aU))))))
 (uB (aD7 (fL (cd (hk:=by omega) F_34 T.D_34 hr (aD (aK 0) (aD (aK 1) aU)))) (uJ (nY rfl (eM (pn 7 nd) (eM (pn 8 nd) lN))))
 (uB (SH (i:=9) (OP (k:=0) (f:=a_38) (fd:=f_38) (pn:=[]) (lR (yQ (aK 0)) (lR (yQ (aK 7)) (lR (yQ (dH lW vQ (aK 2) aN)) (lR (yQ (aK 3)) (lR (yQ (aK 4)) MJ))))) (λh=>rW F_38 (hr.mono (by omega)) rfl T.D_38.m T.D_38.k T.D_38.d .nil tG h)) (λh=>tE (i:=9) nd rfl (by first | exact Or.inl rfl | exact Or.inr rfl) h))
 (FP (SH (i:=6) (aJ0 V7 (lR (yQ (aK 6)) (lR (aJy cA fN (yQ (dH cA fN (cZ bW eN (aK 3) aN) (aK 9))) (OP (k:=0) (f:=a_38) (fd:=f_38) (pn:=[]) (lR (yQ (aK 0)) (lR (yQ (aK 8)) (lR (yQ (dH lW vQ (aK 2) aN)) (lR (yQ (aK 3)) (lR (yQ (aK 4)) MJ))))) (λh=>rW F_38 (hr.mono (by omega)) rfl T.D_38.m T.D_38.k T.D_38.d .nil tG h))) MJ)) (λh=>mP (EW rfl) rfl T.b_min WE h)) (λh=>tE (i:=6) nd rfl (by first | exact Or.inl rfl | exact Or.inr rfl) h)))) (λhi hg hb=>F1 PassesOwn.never rfl hi hg hb))
 (FP (XH (i:=4) hr.u9 (pv 4) (aK 5) (aK 6)))))
 SJ)
 (FP (SI (aJz (j:=4) (VO (i:=4) hr.u9 (pv 4) (aK 5) (by intro _ _;rfl)))))))),?_⟩
 show C5 (F:=KC w) _ _ _ _ _ [.val (fC fs an),.val (.list ((dX rs ns).map fH)),.val (.int (d:Nat)),.val (.tuple [.int a,.int b]),.val (KD Tp),.un,.un,.un,.un,.un];have hl:=S.l;have thG:∀ns:List Nat,nI rs ns->∀r∈dX rs ns,Th 200 2 (fH r):=λns hn r hr=>M4 S.F S.R hn (by omega) hr;have okG:∀ns:List Nat,jU fs an ((dX rs ns).map (·.1)):=λns=>by rw[mG];exact FS S.R ns
 have lenG:∀ns:List Nat,nI rs ns->(dX rs ns).length<=60:=λns hn=>by have:=yO rs ns;have:=hn.len;omega
 refine R6 (decide (d=0)) (λq hq=>⟨_,rfl,?_⟩) (λh0=>?_) λh0=>?_
 ·show q _ (decide (((d:Nat):Int)=0));rw[show decide (((d:Nat):Int)=0)=decide (d=0) by rw[decide_eq_decide];omega];exact hq
 ·have h0:=of_decide_eq_true h0;subst h0;refine⟨_,rfl,_,rfl,_,rfl,_,rfl,fs,an,fa,dX rs ns,a,rfl,S.F,S.fa,okG ns,lenG ns hns,S.a0,S.a1,?_⟩;rw[mG];exact h t hM (J7.refl t 0) λz=>absurd z (by omega)
 have h0:=of_decide_eq_false h0;obtain⟨d',rfl⟩:∃d',d=d'+1:=⟨d-1,by omega⟩;refine zn' ?_;dsimp only;have hml:=xC hM h5;have hkl:(kY t).length<=100:=by unfold kY;rw[aB];omega
 refine MY (eU (oA (ns,d'+1)) (λq hq=>⟨_,rfl,rs,ns,rfl,hns,by omega,_,rfl,(aC rfl),hq⟩) ?_)
 try dsimp only
 show C5 (F:=KC w) _ _ _ _ _ [.val (fC fs an),.val (.list ((dX rs ns).map fH)),.val (.int ((d'+1:Nat):Int)),.val (.tuple [.int a,.int b]),.val (KD Tp),.val (oA (ns,d'+1)),.un,.un,.un,.un];refine aDq (decide ((ns,d'+1)∉t.map (·.1))) (λm σ=>∃(t':Tb)(s6 s7 s8 s9:Sl),wZ [s6,s7,s8,s9]=true/\σ=[.val (fC fs an),.val (.list ((dX rs ns).map fH)),.val (.int ((d'+1:Nat):Int)),.val (.tuple [.int a,.int b]),.val (KD Tp),.val (oA (ns,d'+1)),s6,s7,s8,s9]/\m=kY t'/\G0 fs fa a b rs t'/\J7 t t' (d'+1)/\(ns,d'+1)∈t'.map (·.1)) (λq hq=>⟨rfl,rfl,?_⟩) (λhb DC' hD=>?_) (λhb=>⟨t,_,_,_,_,rfl,rfl,rfl,hM,J7.refl t _,?_⟩) λm σ' hP=>?_
 ·refine⟨_,rfl,kY t,rfl,lP ns (d'+1),kX t,λz hz=>?_⟩
  have hz2:(!z)=decide ((ns,d'+1)∉t.map (·.1)):=by
   rw[gH,decide_eq_true_iff,<- xF,<- show z=true↔oA (ns,d'+1)∈(kY t).map (·.1)from hz];cases z<;>simp
  show q _ (!z);rw[hz2];exact hq
 ·have hnk:=of_decide_eq_true hb;have hR:(dX rs ns).map (·.1)=bR rs ns:=mG rs ns;have ed:((((d'+1:Nat):Int))-1)=((d':Nat):Int):=by omega
  refine MY (eU (.int (kP fs fa a (bR rs ns)).1) (λq hq=>⟨_,rfl,_,rfl,_,rfl,_,rfl,fs,an,fa,dX rs ns,a,rfl,S.F,S.fa,okG ns,lenG ns hns,S.a0,S.a1,by rw[mG];exact hq⟩) ?_)
  try dsimp only
  show C5 (F:=KC w) _ _ _ _ _ [.val (fC fs an),.val (.list ((dX rs ns).map fH)),.val (.int ((d'+1:Nat):Int)),.val (.tuple [.int a,.int b]),.val (KD Tp),.val (oA (ns,d'+1)),.val (.int (kP fs fa a (bR rs ns)).1),.un,.un,.un]
  refine aDr (ts:=((sA fs).filter (fG fs (bR rs ns))).map (uR fs (dX rs ns))) (λR h=>⟨_,rfl,_,rfl,fs,an,dX rs ns,rfl,S.F,okG ns,lenG ns hns,thG ns hns,by rw[hR];exact⟨_,rfl,h⟩⟩)
   (λk m σ=>∃(t':Tb)(s7 s8 s9:Sl),wZ [s7,s8,s9]=true/\σ=[.val (fC fs an),.val (.list ((dX rs ns).map fH)),.val (.int ((d'+1:Nat):Int)),.val (.tuple [.int a,.int b]),.val (KD Tp),.val (oA (ns,d'+1)),.val (.int ((((sA fs).filter (fG fs (bR rs ns))).take k).foldl (λtold c=>sU b c (mI fs fa a b d' (yR fs c (bR rs ns))) (mI fs fa a b d' (nR fs c (bR rs ns))) told) (kP fs fa a (bR rs ns))).1),s7,s8,s9]/\m=kY t'/\G0 fs fa a b rs t'/\J7 t t' d'/\∀ch∈((sA fs).filter (fG fs (bR rs ns))).take k,0<d'->(yN fs rs ch ns,d')∈t'.map (·.1)/\(nN fs rs ch ns,d')∈t'.map (·.1))
   ⟨t,_,_,_,rfl,rfl,rfl,hM,J7.refl t _,λch hch=>by simp at hch⟩ (λk m x σ' hx hP=>?_) λm σ' hP=>?_
  ·obtain⟨t',s7,s8,s9,hnd,rfl,rfl,hM',hE',hall⟩:=hP;rw[aI]at hx;obtain⟨ch,hck,rfl⟩:=bT.mp hx;have hcf:=aW hck;have hpp:=(bZ.mp hcf).2;rw[IK λi hi=>hns.lt hi,bY]at hpp;have hyne:yN fs rs ch ns≠[]:=λe=>by rw[e]at hpp;cases hpp.1
   have hnne:nN fs rs ch ns≠[]:=λe=>by rw[e]at hpp;cases hpp.2
   obtain⟨ry,rn⟩:=FR (fs:=fs) (c:=ch) λi hi=>hns.lt hi;have gy:(dX rs ns).filter (λr=>yH fs ch r.1)=dX rs (yN fs rs ch ns):=oZ rs (yH fs ch) (N4 fs rs ch) ns λi _ r hr=>by unfold N4;rw[hr]
   have gn:(dX rs ns).filter (λr=>!yH fs ch r.1)=dX rs (nN fs rs ch ns):=oZ rs (λr=>!yH fs ch r) (λi=>!N4 fs rs ch i) ns λi _ r hr=>by unfold N4;rw[hr]
   have et:((sA fs).filter (fG fs (bR rs ns))).take (k+1)=((sA fs).filter (fG fs (bR rs ns))).take k++[ch]:=by rw[cP,hck];rfl
   rw[et,List.foldl_append]
   generalize (((sA fs).filter (fG fs (bR rs ns))).take k).foldl (λtold c=>sU b c (mI fs fa a b d' (yR fs c (bR rs ns))) (mI fs fa a b d' (nR fs c (bR rs ns))) told) (kP fs fa a (bR rs ns))=told
   show∃u v,uR fs (dX rs ns) ch=.tuple [u,v]/\_;refine⟨_,_,rfl,?_⟩;rw[gy,gn];show C5 (F:=KC w) _ _ _ _ _ [.val (fC fs an),.val (.list ((dX rs ns).map fH)),.val (.int ((d'+1:Nat):Int)),.val (.tuple [.int a,.int b]),.val (KD Tp),.val (oA (ns,d'+1)),.val (.int told.1),.val (.list ((dX rs (yN fs rs ch ns)).map fH)),.val (.list ((dX rs (nN fs rs ch ns)).map fH)),s9];refine W6 (F:=KC w) (λm v=>∃t1:Tb,m=kY t1/\v=.int (mI fs fa a b d' (yR fs ch (bR rs ns))).1/\G0 fs fa a b rs t1/\J7 t' t1 d'/\(0<d'->(yN fs rs ch ns,d')∈t1.map (·.1))) (λq hq=>⟨_,rfl,_,rfl,_,rfl,_,rfl,_,rfl,fs,an,fa,rs,a,b,yN fs rs ch ns,d',t',by rw[ed];rfl,S,h5,hns.filt _,hyne,by omega,by omega,rfl,hM',λt1 g1 g2 g3=>hq _ _ ⟨t1,rfl,by rw[<- ry],g1,g2,g3⟩⟩) ?_;rintro _ _ ⟨t1,rfl,rfl,hM1,hE1,hy1⟩;show aDs _ _ _ _ _ [.val (fC fs an),.val (.list ((dX rs ns).map fH)),.val (.int ((d'+1:Nat):Int)),.val (.tuple [.int a,.int b]),.val (KD Tp),.val (oA (ns,d'+1)),.val (.int told.1),.val (.list ((dX rs (yN fs rs ch ns)).map fH)),.val (.list ((dX rs (nN fs rs ch ns)).map fH)),.val (.int (mI fs fa a b d' (yR fs ch (bR rs ns))).1)];refine⟨_,rfl,_,rfl,_,rfl,_,rfl,_,rfl,_,rfl,_,rfl,_,rfl,_,rfl,fs,an,fa,rs,a,b,nN fs rs ch ns,d',t1,by rw[ed];rfl,S,h5,hns.filt _,hnne,by omega,by omega,rfl,hM1,λt2 hM2 hE2 hn2=>?_⟩;rw[rn];show∃(t':Tb)(s7 s8 s9:Sl),_;refine⟨t2,.val (.list ((dX rs (yN fs rs ch ns)).map fH)),.val (.list ((dX rs (nN fs rs ch ns)).map fH)),.val (.int (mI fs fa a b d' (yR fs ch (bR rs ns))).1),rfl,?_,rfl,hM2,(hE'.trans hE1).trans hE2,λc hc h0'=>?_⟩
   ·show[_,_,_,_,_,_,Sl.val (aH (if b+(mI fs fa a b d' (yR fs ch (bR rs ns))).1+(mI fs fa a b d' (nR fs ch (bR rs ns))).1<told.1 then b+(mI fs fa a b d' (yR fs ch (bR rs ns))).1+(mI fs fa a b d' (nR fs ch (bR rs ns))).1 else told.1)),_,_,_]=_;rw[aAp,List.foldl_nil];unfold sU;split<;>rfl
   ·rcases cK.mp hc with hc | hc
    ·exact⟨hE2.mem (hE1.mem (hall c hc h0').1),hE2.mem (hE1.mem (hall c hc h0').2)⟩
    ·rw[aZ.mp hc];exact⟨hE2.mem (hy1 h0'),hn2 h0'⟩
  ·obtain⟨t',s7,s8,s9,hnd,rfl,rfl,hM',hE',hall⟩:=hP;rw[aB,dY]at *;have hml':=xC hM' h5;have hnk':=hE'.not hnk (by show d'<d'+1;omega);have hnew:oA (ns,d'+1)∉(kY t').map (·.1):=xF.mpr hnk';refine⟨rfl,hnd,_,rfl,_,rfl,lP ns (d'+1),kX t',by unfold kY;rw[aB];omega,?_⟩;refine hD _ _ ⟨t'++[((ns,d'+1),(mI fs fa a b (d'+1) (bR rs ns)).1)],_,_,_,_,hnd,rfl,?_,⟨?_,λe he=>?_,λx dx hx c hc=>?_⟩,?_,?_⟩
   ·show BT (kY t') (oA (ns,d'+1)) _=_;rw[FZ hnew];unfold kY;rw[bG];rfl
   ·rw[bG];refine jN.mpr ⟨hM'.nd,by simp,λu hu v hv e=>hnk' ?_⟩;have hv':v=(ns,d'+1):=aZ.mp hv;rw[<- hv',<- e];exact hu
   ·rcases cK.mp he with he | he
    ·exact hM'.ok e he
    ·rw[aZ.mp he];exact⟨hns,hne,by show 1<=d'+1;omega,by show d'+1<=3;omega,rfl⟩
   ·rw[bG]at hx |-
    rcases cK.mp hx with hx | hx
    ·obtain⟨g1,g2⟩:=hM'.cl x dx hx c hc;exact⟨fV _ g1,fV _ g2⟩
    ·have hx':(x,dx+2)=(ns,d'+1):=aZ.mp hx;injection hx' with e1 e2
     subst e1;have e3:d'=dx+1:=by omega
     subst e3;obtain⟨g1,g2⟩:=hall c hc (by omega);exact⟨fV _ g1,fV _ g2⟩
   ·obtain⟨l,rfl,hle⟩:=hE';refine⟨l++[((ns,d'+1),(mI fs fa a b (d'+1) (bR rs ns)).1)],nE ..,λe he=>?_⟩;rcases cK.mp he with he | he
    ·have:=hle e he;omega
    ·rw[aZ.mp he];exact aO _
   ·rw[bG];exact dW _ (aZ.mpr rfl)
 ·exact Classical.byContradiction λz=>by rw[decide_eq_true z]at hb;cases hb
 ·obtain⟨t',s6,s7,s8,s9,hnd,rfl,rfl,hM',hE',hin⟩:=hP;obtain⟨⟨x,c⟩,he,ee⟩:=aQ.mp hin;dsimp only at ee;subst ee;refine⟨rfl,hnd,kY t',rfl,_,rfl,lP ns (d'+1),kX t',.int c,uG.mpr ⟨c,he,rfl⟩,?_⟩;have hc:=(hM'.ok _ he).2.2.2.2;dsimp only at hc;rw[hc];exact h t' hM' hE' λ_=>hin
def aIi
  (F_33:dD P w K mg base gA 2 a_33 f_33 ["_law_form_here","_law_rows_here","_law_slip"] (cO K NG))
  (F_36:dD P w K mg base gA 1 a_36 f_36 ["_law_rows_here"] (cO K NE))
  (F_34:dD P w K mg base gA 3 a_34 f_34 ["_law_form_here","_law_rows_here"] (cO K NF)):dD P w K mg base gA 8 a_38 f_38 ["_law_form_here","_law_rows_here","_law_deep","_law_prices_here","_law_met"] (nK K (aAz w)):=by
 have h:∀dd:Nat,dD P w K mg base gA (4+dd) a_38 f_38 ["_law_form_here","_law_rows_here","_law_deep","_law_prices_here","_law_met"] (nK K (sX w dd)):=λdd=>by
  induction dd with
  |zero=>exact VH.imp λvs H Q E ⟨_,_,_,_,_,_,_,_,_,h,_⟩=>(UH h).elim
  |succ dd ih=>exact XJ T dd F_33 F_36 F_34 ih
 exact h 4
def aIh
  (F_23:dD P w K mg base gA 1 a_23 f_23 ["_law_tape_here","_law_many"] (fP K wH)):dD P w K mg base gA 2 a_39 f_39 ["_law_tape_here","_law_one","_law_many"] (fP K aAy):=by
 refine fnC T.D_39.F aBo (λτ n ds Q h=>by obtain⟨x,m,k,rfl,hm,hk,hx,hc,h⟩:=h;rfl) λcdv Ar outer s H E hr Tp c ds Q hdig h=>?_;obtain⟨x,m,k,rfl,hm,hk,hx,hc,h⟩:=h;have nd:=aBo.nd;refine⟨_,(cJ (kW (NA (aK 1) (qW (nY rfl (eM (pn 3 nd) (eM (pn 4 nd) (eM (pn 5 nd) lN))))) (λhe hg=>TN he hg)))
 (cJ (sC 6 nd (cc F_23 T.D_23 hr (bB (dF (aK 0)) (bB (dF aN) dJ))))
 (cJ (sC 7 nd (cc F_23 T.D_23 hr (bB (dF (aK 0)) (bB (dF (dH cA fN (cB jZ (aD (aK 3) aU) dR T.b_len iG) aN)) dJ))))
 (cJ (wN (HL (eP jM nB (aK 6) aN))
 (iR (rQ (qF (bB (dF (aK 3)) (bB (dF (aK 4)) (bB (pC cA fN (dF (dH cA fN (aK 5) aN)) (cc F_23 T.D_23 hr (bB (dF (aK 0)) (bB (dF aN) dJ)))) dJ))))))
 rR)
 (cJ (wN (HL (eP jM nB (aK 6) aN))
 (iR (rQ (qF (bB (dF (aK 3)) (bB (dF (aK 4)) (bB (pC lW vQ (dF (dH lW vQ (aK 5) aN)) (cc F_23 T.D_23 hr (bB (dF (aK 0)) (bB (dF aN) dJ)))) dJ))))))
 rR)
 (cJ (wN (HL (eP jM nB (aK 6) aN))
 (iR (rQ (qF (bB (dF (aK 3)) (bB (cc F_23 T.D_23 hr (bB (dF (aK 0)) (bB (dF aN) dJ))) (bB (dF (aK 5)) dJ))))))
 rR)
 (cJ (kW (iT (eP jM nB (aK 6) aN)
 (cM (dQ (eD (aD (ZI (aK 3) (pc:=λh=>mE (JV rfl) rfl T.b_tuple lF (fY (mE RA rfl T.b_reversed DF h) jG))) (aD (aK 4) (aD (aK 5) aU))))))
 hX))
 (cJ (kW (iT (eP jM nB (aK 6) aN)
 (cM (dQ (eD (aD (dH cA fN (fR iQ oY (aK 3) hV (gI (aK 7))) (fR iQ oY (aK 3) (gI (dH lW vQ (aK 7) aN)) hV)) (aD (aK 4) (aD (aK 5) aU))))))
 hX))
 (cJ (kW (iT (eP jM nB (aK 6) aN)
 (cM (dQ (eD (aD (dH cA fN (fR iQ oY (aK 3) hV (gI (aK 7))) (fR iQ oY (aK 3) (gI (dH cA fN (aK 7) aN)) hV)) (aD (aK 4) (aD (aK 5) aU))))))
 hX))
 (cJ (wN (HL (eP jM nB (aK 6) aN))
 (iR (rQ (qF (bB (pC cA fN (pC cA fN (dF (fR iQ oY (aK 3) hV (gI (aK 7)))) (qF (bB (JN bW eN (dF (pA (aD (L6 aN) (aD (aK 2) (aD (dH LE A1 aN aN) aU))))) (cc F_23 T.D_23 hr (bB (dF (aK 0)) (bB (dF aN) dJ)))) dJ))) (dF (fR iQ oY (aK 3) (gI (aK 7)) hV))) (bB (dF (aK 4)) (bB (dF (aK 5)) dJ))))))
 rR)
 (cJ (kW (iT (eP jM nB (aK 6) aN)
 (cM (dQ (eD (aD (eD aU) (aD (aK 4) (aD aN aU))))))
 hX))
 (iR (rQ (qF (bB (ZR (cc F_23 T.D_23 hr (bB (dF (aK 0)) (bB (dF (dH cA fN (aK 2) aN)) dJ))) (λh=>mE (CK rfl) rfl T.b_tuple lF (fY (mE JW rfl T.b_range WD h) jG))) (bB (pC cA fN (dF aN) (cc F_23 T.D_23 hr (bB (dF (aK 0)) (bB (dF aN) dJ)))) (bB (cc F_23 T.D_23 hr (bB (dF (aK 0)) (bB (dF aN) dJ))) dJ))))))))))))))))),?_⟩
 show mB _ _ _ _ _ [.val (nX Tp),.val (cN x),.val (.int (m:Nat)),.un,.un,.un,.un,.un];obtain⟨ns,dp,c0⟩:=x;obtain⟨hn,hc0⟩:=hx;dsimp only at hn hc0;have h2:2^(k+1)=2^k*2:=AN ..;have h3:2^k<=2^2:=lC (by decide) hk;have h4:0<2^k:=aDn k
 generalize 2^k=e at hn h2 h3 h4
 have hml:(ns.map aH).length=ns.length:=aB ..;refine gJ (SS (a:=.tuple (ns.map aH)) (b:=.int dp) (c:=.int c0) (λq hq=>⟨_,rfl,hq⟩) ?_)
 try dsimp only
 refine iD (λm v=>m=c+1/\∃r:Int,0<=r/\r<9/\v=.int r) (λq hq=>⟨_,rfl,_,rfl,9,rfl,by decide,by decide,by omega,λr h0 h1=>hq _ _ ⟨rfl,r,h0,h1,rfl⟩⟩) ?_;rintro c1 _ ⟨rfl,r,hr0,hr1,rfl⟩;refine iD (λm v=>m=c+2/\∃j:Nat,v=.int (j:Nat)) (λq hq=>⟨_,rfl,_,rfl,_,rfl,((ns.map aH).length:Int)+1,rfl,by omega,by omega,by omega,λr h0 h1=>hq _ _ ⟨rfl,r.toNat,by rw[fK h0]⟩⟩) ?_;rintro c1 _ ⟨rfl,j,rfl⟩;have ok:∀(n':Nat)(ms:List Int)(dp' c':Int),n'<=c+5->ms.length<12*e->c'<1000000003+3*(k:Int)->Q n' (.tuple [.tuple (ms.map aH),.int dp',.int c']):=λn' ms dp' c' g1 g2 g3=>h n' (ms,dp',c') g1 ⟨by show ms.length<_;rw[h2];omega,by show c'<_;rw[DQ];omega⟩;have cl:∀lo hi,(iB ns lo hi).length<=ns.length:=λlo hi=>Z5 ns lo hi;have cm:∀lo hi,iB (ns.map aH) lo hi=(iB ns lo hi).map aH:=λlo hi=>rZ aH ns lo hi;refine yX (decide (r=0)) (λq hq=>⟨_,rfl,hq⟩) (λhb=>?_) λhb=>?_
 ·exact⟨_,rfl,_,rfl,_,rfl,_,rfl,_,rfl,3,rfl,by decide,by decide,by omega,λr1 r2 r3=>⟨(aC rfl),ok _ ns dp (c0+1+r1) (by omega) (by omega) (by omega)⟩⟩
 refine cn' ?_;dsimp only;refine yX (decide (r=1)) (λq hq=>⟨_,rfl,hq⟩) (λhb=>?_) λhb=>?_
 ·exact⟨_,rfl,_,rfl,_,rfl,_,rfl,_,rfl,3,rfl,by decide,by decide,by omega,λr1 r2 r3=>⟨(aC rfl),ok _ ns dp (c0-1-r1) (by omega) (by omega) (by omega)⟩⟩
 refine cn' ?_;dsimp only;refine yX (decide (r=2)) (λq hq=>⟨_,rfl,hq⟩) (λhb=>?_) λhb=>?_
 ·exact⟨_,rfl,_,rfl,_,rfl,6,rfl,by decide,by decide,by omega,λr1 r2 r3=>⟨_,rfl,(aC rfl),ok _ ns r1 c0 (by omega) (by omega) (by omega)⟩⟩
 refine cn' ?_;dsimp only;refine gJ (jF (λ_=>True) (λq hq=>⟨_,rfl,hq _ trivial⟩) (λ_=>?_) λ_=>?_)
 ·refine⟨_,rfl,_,rfl,by omega,_,rfl,_,rfl,(aC rfl),?_⟩;rw[<- List.map_reverse];exact ok _ ns.reverse dp c0 (by omega) (by rw[pI];omega) (by omega)
 refine XN ?_;dsimp only;refine gJ (jF (λ_=>True) (λq hq=>⟨_,rfl,hq _ trivial⟩) (λ_=>?_) λ_=>?_)
 ·refine⟨_,rfl,_,rfl,_,rfl,_,rfl,?_⟩;show(iB (ns.map aH) none (some (j:Int))).length+(iB (ns.map aH) (some ((j:Int)-1)) none).length<=100000/\_;rw[cm,cm];have g1:=cl none (some (j:Int));have g2:=cl (some ((j:Int)-1)) none;refine⟨by rw[aB,aB];omega,_,rfl,_,rfl,(aC rfl),?_⟩;rw[<- bG];exact ok _ _ dp c0 (by omega) (by rw[aV];omega) (by omega)
 refine XN ?_;dsimp only;refine gJ (jF (λ_=>True) (λq hq=>⟨_,rfl,hq _ trivial⟩) (λ_=>?_) λ_=>?_)
 ·refine⟨_,rfl,_,rfl,_,rfl,_,rfl,?_⟩;show(iB (ns.map aH) none (some (j:Int))).length+(iB (ns.map aH) (some ((j:Int)+1)) none).length<=100000/\_;rw[cm,cm];have g1:=cl none (some (j:Int));have g2:=cl (some ((j:Int)+1)) none;refine⟨by rw[aB,aB];omega,_,rfl,_,rfl,(aC rfl),?_⟩;rw[<- bG];exact ok _ _ dp c0 (by omega) (by rw[aV];omega) (by omega)
 refine XN ?_;dsimp only;refine yX (decide (r=6)) (λq hq=>⟨_,rfl,hq⟩) (λhb=>?_) λhb=>?_
 ·have pw:WP 10 12:=by unfold WP;decide
  refine⟨_,rfl,_,rfl,_,rfl,pw,(aC rfl),_,rfl,_,rfl,3,rfl,by decide,by decide,by omega,λr1 r2 r3=>?_⟩
  obtain⟨z,hz⟩:∃z:Int,L2.atI [aH (-1),.int (m:Nat),.int (10^12)] r1=some (.int z):=by
   rcases(show r1=0\/r1=1\/r1=2 by omega)with rfl | rfl | rfl<;>exact⟨_,rfl⟩
  refine⟨_,hz,(aC rfl),?_⟩;have g1:=cl none (some (j:Int));have g2:=cl (some (j:Int)) none;show(iB (ns.map aH) none (some (j:Int))).length+1<=100000/\_;rw[cm];refine⟨by rw[aB];omega,_,rfl,_,rfl,?_⟩;show((iB ns none (some (j:Int))).map aH++[aH z]).length+(iB (ns.map aH) (some (j:Int)) none).length<=100000/\_;rw[cm];have ea:(iB ns none (some (j:Int))).map aH++[aH z]=(iB ns none (some (j:Int))++[z]).map aH:=by rw[bG];rfl
  rw[ea];refine⟨by rw[aB,aB,aV];show _+1+_<=_;omega,_,rfl,_,rfl,(aC rfl),?_⟩;rw[<- bG];exact ok _ _ dp c0 (by omega) (by rw[aV,aV];show _+1+_<_;omega) (by omega)
 refine cn' ?_;dsimp only;refine gJ (jF (λ_=>True) (λq hq=>⟨_,rfl,hq _ trivial⟩) (λ_=>?_) λ_=>?_)
 ·exact⟨(aC rfl),_,rfl,(aC rfl),ok _ [] dp 0 (by omega) (by show 0<_;omega) (by omega)⟩
 refine XN ?_;dsimp only;refine⟨_,rfl,_,rfl,_,rfl,((m:Nat):Int)+1,rfl,by omega,by omega,by omega,λr1 r2 r3=>⟨_,rfl,r2,by omega,_,rfl,_,rfl,3,rfl,by decide,by decide,by omega,λq1 q2 q3=>⟨_,rfl,_,rfl,4,rfl,by decide,by decide,by omega,λp1 p2 p3=>⟨(aC rfl),?_⟩⟩⟩⟩;have ei:eW r1.toNat=(yD r1.toNat).map aH:=by unfold eW yD;rw[bM];rfl
 rw[ei];exact ok _ _ (1+q1) p1 (by omega) (by unfold yD;rw[aB,cH];omega) (by omega)
def aIg
  (F_23:dD P w K mg base gA 1 a_23 f_23 ["_law_tape_here","_law_many"] (fP K wH))
  (F_39:dD P w K mg base gA 2 a_39 f_39 ["_law_tape_here","_law_one","_law_many"] (fP K aAy)):dD P w K mg base gA 3 a_40 f_40 ["_law_tape_here","_law_table","_law_many"] (fP K aAx):=by
 refine fnC T.D_40.F aBn (λτ n ds Q h=>by obtain⟨xs,m,k,rfl,hm,hk,hx,hc,h⟩:=h;rfl) λcdv Ar outer s H E hr Tp c ds Q hdig h=>?_;obtain⟨xs,m,k,rfl,hm,hk,hx,hc,h⟩:=h;have nd:=aBn.nd;refine⟨_,(cJ (kW (ss 1 nd (cY vX (aD (aK 1) aU) jY T.b_list sI)))
 (cJ (sC 3 nd (cc F_23 T.D_23 hr (bB (dF (aK 0)) (bB (dF aN) dJ))))
 (cJ (sC 4 nd (cc F_23 T.D_23 hr (bB (dF (aK 0)) (bB (dF (cB V8 (aD aN (aD (cB jZ (aD (aK 1) aU) dR T.b_len iG) aU)) (EY rfl) T.b_max CL)) dJ))))
 (cJ (wN (HL (wF (uZ (eP (vP hr) qA (aK 1) (pA aU)) (sT (eP (vP hr) qA (aK 3) aN)))))
 (iR (rQ (pC cA fN (dF (aK 1)) (L8 (bB (cc F_39 T.D_39 hr (bB (dF (aK 0)) (bB (dF (eD (aD (eD (aD aN aU)) (aD aN (aD aN aU))))) (bB (dF (aK 2)) dJ)))) dJ)))))
 rR)
 (cJ (kW (iT (eP (vP hr) qA (aK 3) aN)
 (cM (dQ (dH cA fN (fR iQ oY (aK 1) hV (gI (aK 4))) (fR iQ oY (aK 1) (gI (dH cA fN (aK 4) aN)) hV))))
 hX))
 (cJ (kW (iT (eP (vP hr) qA (aK 3) aN)
 (cM (dQ (dH cA fN (dH cA fN (fR iQ oY (aK 1) hV (gI (aK 4))) (pA (aD (cZ bW eN (aK 1) (aK 4)) aU))) (fR iQ oY (aK 1) (gI (aK 4)) hV))))
 hX))
 (iR (rQ (pC cA fN (pC cA fN (dF (fR iQ oY (aK 1) hV (gI (aK 4)))) (L8 (bB (cc F_39 T.D_39 hr (bB (dF (aK 0)) (bB (dF (cZ bW eN (aK 1) (aK 4))) (bB (dF (aK 2)) dJ)))) dJ))) (dF (fR iQ oY (aK 1) (gI (dH cA fN (aK 4) aN)) hV))))))))))),?_⟩
 show mB _ _ _ _ _ [.val (nX Tp),.val (.list (xs.map cN)),.val (.int (m:Nat)),.un,.un];have hl:=hx.l;have hml:(xs.map cN).length=xs.length:=aB ..;refine gJ (eU (.list (xs.map cN)) (λq hq=>⟨_,rfl,hq⟩) ?_)
 try dsimp only
 refine iD (λm v=>m=c+1/\∃r:Int,v=.int r) (λq hq=>⟨_,rfl,_,rfl,5,rfl,by decide,by decide,by omega,λr h0 h1=>hq _ _ ⟨rfl,r,rfl⟩⟩) ?_;rintro c1 _ ⟨rfl,r,rfl⟩;refine iD (λm v=>m=c+2/\∃j:Nat,v=.int (j:Nat)/\(xs≠[]->j<xs.length)) (λq hq=>⟨_,rfl,_,rfl,_,rfl,max 1 ((xs.map cN).length:Int),?_,by omega,by omega,by omega,λr h0 h1=>hq _ _ ⟨rfl,r.toNat,by rw[fK h0],λhne=>?_⟩⟩) ?_
 ·show[aH (if(1:Int)<((xs.map cN).length:Int)then((xs.map cN).length:Int)else 1)]=_;congr 2;split<;>omega
 ·have:=RN.mpr hne;omega
 rintro c1 _ ⟨rfl,j,rfl,hj⟩;have lk:=yI xs
 have ok:∀(n':Nat)(ys zs us:List En),n'<=c+10->(∀x∈ys,x∈xs)->(∀x∈us,x∈xs)->(∀x∈zs,RW (k+1) x)->ys.length+zs.length+us.length<=xs.length+1->Q n' (.list ((ys.map cN++zs.map cN)++us.map cN)):=λn' ys zs us g1 g2 g3 g4 g5=>by
  have:=h n' ((ys++zs)++us) g1 ⟨by rw[aV,aV];omega,λx hx'=>by
   rcases cK.mp hx' with hx' | hx'
   ·rcases cK.mp hx' with hx' | hx'
    ·exact(hx.b x (g2 x hx')).up
    ·exact g4 x hx'
   ·exact(hx.b x (g3 x hx')).up⟩
  rw[bG,bG]at this;exact this
 have tk:∀x∈xs.take j,x∈xs:=λx hx'=>eT hx';have dk:∀j,∀x∈xs.drop j,x∈xs:=λj x hx'=>vH hx';have no:∀x∈([]:List En),RW (k+1) x:=λx hx'=>by cases hx'
 have one:∀y:En,RW (k+1) y->∀x∈[y],RW (k+1) x:=λy hy x hx'=>by rw[aZ.mp hx'];exact hy
 have l1:(xs.take j).length<=j:=by rw[bC];omega
 have l2:(xs.take j).length<=xs.length:=by rw[bC];omega
 have l3:∀j,(xs.drop j).length=xs.length-j:=λj=>eG ..;refine aF1 (λm b=>m=c+2/\(b=false->xs≠[])) (λq hq=>⟨_,rfl,(aC rfl),⟨lk.1,rfl,cI (oE _ _) (by decide)⟩,?_⟩) (λm1 hb=>?_) λm1 hb=>?_
 ·show(if cG (.list (xs.map cN)) (.list [])=true then _ else _);rw[VQ];split
  ·exact hq _ _ ⟨rfl,λz=>by cases z⟩
  ·next hb=>exact⟨_,rfl,⟨rfl,rfl,(aC rfl)⟩,hq _ _ ⟨rfl,λ_ z=>hb (decide_eq_true z)⟩⟩
 ·obtain⟨rfl,_⟩:=hb;refine⟨_,rfl,_,rfl,(aC rfl),(aC rfl),_,rfl,_,rfl,([0],1,0),m,k,rfl,hm,hk,⟨?_,?_⟩,by omega,λn' y hn' hy=>⟨(aC rfl),?_⟩⟩
  ·have:=aDn k;show 1<_;omega
  ·show(0:Int)<_;omega
  ·show(xs.map cN).length+1<=100000/\_;refine⟨by omega,?_⟩;have:=ok n' xs [y] [] (by omega) (λx h=>h) (λx hx'=>by cases hx') (one y hy) (by show _+1+0<=_;omega);rw[iH,dL]at this;exact this
 obtain⟨rfl,hne⟩:=hb;have hne:=hne rfl;have hj:=hj hne;obtain⟨x0,hx0⟩:∃x0,xs[j]?=some x0:=⟨_,aF hj⟩;have hxm:=aW hx0;have hat:L2.atI (xs.map cN) ((j:Nat):Int)=some (cN x0):=L2.fZ (by rw[aI,hx0];rfl);refine cn' ?_;dsimp only;refine gJ (jF (λ_=>True) (λq hq=>⟨_,rfl,⟨rfl,rfl,(aC rfl)⟩,hq _ trivial⟩) (λ_=>?_) λ_=>?_)
 ·refine⟨_,rfl,_,rfl,_,rfl,_,rfl,?_⟩;show(iB (xs.map cN) none (some (j:Int))).length+(iB (xs.map cN) (some ((j:Int)+1)) none).length<=100000/\Q _ (.list (iB (xs.map cN) none (some (j:Int))++iB (xs.map cN) (some ((j:Int)+1)) none));rw[aF0,aDa];have g:=l3 (j+1);refine⟨by rw[aB,aB];omega,?_⟩;have:=ok (c+2) (xs.take j) [] (xs.drop (j+1)) (by omega) tk (dk _) no (by show _+0+_<=_;omega);rw[iH,dL]at this;exact this
 refine XN ?_;dsimp only;refine gJ (jF (λ_=>True) (λq hq=>⟨_,rfl,⟨rfl,rfl,(aC rfl)⟩,hq _ trivial⟩) (λ_=>?_) λ_=>?_)
 ·refine⟨_,rfl,_,rfl,_,rfl,_,rfl,_,hat,(aC rfl),?_⟩;show(iB (xs.map cN) none (some (j:Int))).length+1<=100000/\_;rw[aF0];refine⟨by rw[aB];omega,_,rfl,_,rfl,?_⟩;show((xs.take j).map cN++[cN x0]).length+(iB (xs.map cN) (some (j:Int)) none).length<=100000/\Q _ (.list (((xs.take j).map cN++[cN x0])++iB (xs.map cN) (some (j:Int)) none));rw[aJ8];have g:=l3 j;exact⟨by rw[aV,aB,aB];show _+1+_<=_;omega,ok (c+2) (xs.take j) [x0] (xs.drop j) (by omega) tk (dk _) (one x0 (hx.b x0 hxm).up) (by show _+1+_<=_;omega)⟩
 refine XN ?_;dsimp only;refine⟨_,rfl,_,rfl,_,rfl,_,rfl,_,rfl,_,hat,_,rfl,_,rfl,x0,m,k,rfl,hm,hk,hx.b x0 hxm,by omega,λn' y hn' hy=>⟨(aC rfl),?_⟩⟩;show(iB (xs.map cN) none (some (j:Int))).length+1<=100000/\_;rw[aF0];refine⟨by rw[aB];omega,_,rfl,_,rfl,?_⟩;show((xs.take j).map cN++[cN y]).length+(iB (xs.map cN) (some ((j:Int)+1)) none).length<=100000/\Q _ (.list (((xs.take j).map cN++[cN y])++iB (xs.map cN) (some ((j:Int)+1)) none));rw[aDa];have g:=l3 (j+1);exact⟨by rw[aV,aB,aB];show _+1+_<=_;omega,ok n' (xs.take j) [y] (xs.drop (j+1)) (by omega) tk (dk _) (one y hy) (by show _+1+_<=_;omega)⟩
def aIf
  (F_37:dD P w K mg base gA 4 a_37 f_37 ["_law_form_here","_law_rows_here","_law_prices_here","_law_table"] (cO K (aA0 w)))
  (F_16:dD P w K mg base gA 7 a_16 f_16 ["form","rows","prices","table"] (cO K (SO w c_RowSets))):dD P w K mg base gA 8 a_41 f_41 ["_law_form_here","_law_rows_here","_law_prices_here","_law_table"] (cO K aAw):=by
 refine xJ T.D_41.F aBm (λds Q h=>by obtain⟨fs,an,fa,rs,a,b,xs,rfl,S,hE,h⟩:=h;rfl) λcdv Ar outer s H E hr ds Q h=>?_;obtain⟨fs,an,fa,rs,a,b,xs,rfl,S,hE,h⟩:=h;have nd:=aBm.nd;refine⟨_,(cS (ss 4 nd (eD (aD (cY vX (aD (aK 1) aU) jY T.b_list sI) (aD (cY vX (aD (aK 3) aU) jY T.b_list sI) aU))))
 (cS (ss 5 nd (cd F_16 T.D_16 hr (aD (aK 0) (aD (cZ bW eN (aK 4) aN) (aD (aK 2) (aD (cZ bW eN (aK 4) aN) aU))))))
 (cS (iT (wF (uZ (nW (tv (GI (JC _) (aK 5) (λh=>mP xM rfl T.b_isinstance nL (fY h (fY (AW rfl T.b_bool OY rfl) jG)))))) (sT (eP (T6 hr) qA (aK 4) (eD (aD (aK 1) (aD (aK 3) aU)))))))
 (cM (dQ nQ))
 hX)
 (cM (dQ (pB jM nB (aK 5) (cd F_37 T.D_37 hr (aD (aK 0) (aD (aK 1) (aD (aK 2) (aD (aK 3) aU))))))))))),?_⟩
 show kI _ _ _ [.val (fC fs an),.val (.list (rs.map fE)),.val (.tuple [.int a,.int b]),.val (.list (xs.map cN)),.un,.un];have lk:=yI xs;have lr:=XC S.F S.R S.l;have lrl:=lr.lay;have lrd:=lr.depth
 have cl:(fJ [.list (rs.map fE),.list (xs.map cN)]).canLay0=true:=by
  show(C1 (.list (rs.map fE))&&(dP (xs.map cN)&&true))=true;rw[lrl,lk.1];rfl
 have cd:(fJ [.list (rs.map fE),.list (xs.map cN)]).depth<=60:=by
  show max (HD (.list (rs.map fE))) (max (bU (xs.map cN)+1) 0)+1<=60;have:=lk.2;omega
 refine eU (.tuple [.list (rs.map fE),.list (xs.map cN)]) (λq hq=>⟨_,rfl,_,rfl,(aC rfl),hq⟩) ?_;refine tD (λv=>∃z:Bool,v=.bool z/\(z=true↔J5 fs fa a b rs xs)) (λq hq=>⟨_,rfl,_,rfl,_,rfl,_,rfl,_,rfl,_,rfl,fs,an,fa,rs,a,b,xs,rfl,S,hE,λz hz=>hq _ ⟨z,rfl,hz⟩⟩) ?_;rintro _ ⟨z,rfl,hz⟩;have hev:cG (.tuple [.list (rs.map fE),.list (xs.map cN)]) (.tuple [.list (rs.map fE),.list (xs.map cN)])=true:=PySem.SeqAt.eqv_refl _ cl;refine jF (λb=>b=false) (λq hq=>⟨_,rfl,?_⟩) (λhT=>by cases hT) λ_=>?_
 ·refine Eq.mpr (if_neg (t:=q true) (c:=(!U4 "bool" (.bool z))=true) bE) ?_;refine⟨_,rfl,_,rfl,_,rfl,(aC rfl),⟨cl,cl,cI (DP _ _) cd⟩,?_⟩;show q (!cG _ _);rw[hev];exact hq _ rfl
 refine XN ?_;dsimp only;refine⟨_,rfl,_,rfl,_,rfl,_,rfl,_,rfl,fs,an,fa,rs,a,b,xs,rfl,S,hE,λz' hz'=>?_⟩;show Q (.bool (decide (z=z')));rw[decide_eq_true (gH.mpr (hz.trans hz'.symm))];exact h
def aE7
  (F_40:dD P w K mg base gA 3 a_40 f_40 ["_law_tape_here","_law_table","_law_many"] (fP K aAx))
  (F_23:dD P w K mg base gA 1 a_23 f_23 ["_law_tape_here","_law_many"] (fP K wH))
  (F_25:dD P w K mg base gA 3 a_25 f_25 ["_law_tape_here","_law_fields","_law_values"] (fP K aA9))
  (F_35:dD P w K mg base gA 1 a_35 f_35 ["_law_rows_here"] (cO K aA1))
  (F_32:dD P w K mg base gA 2 a_32 f_32 ["_law_tape_here"] (fP K aA2))
  (F_27:dD P w K mg base gA 3 a_27 f_27 ["_law_tape_here","_law_form_here","_law_many"] (fP K aA7))
  (F_38:dD P w K mg base gA 8 a_38 f_38 ["_law_form_here","_law_rows_here","_law_deep","_law_prices_here","_law_met"] (nK K (aAz w)))
  (F_22:dD P w K mg base gA 1 a_22 f_22 ["_law_script"] (N9 K aBb))
  (F_41:dD P w K mg base gA 8 a_41 f_41 ["_law_form_here","_law_rows_here","_law_prices_here","_law_table"] (cO K aAw))
  (F_16:dD P w K mg base gA 7 a_16 f_16 ["form","rows","prices","table"] (cO K (SO w c_RowSets))):dD P w K mg base gA 9 a_law f_law ["_law_script"] (cO K BF):=by
 refine xJ T.D_law.F SV (λds Q h=>by obtain⟨ns,rfl,hl63,h⟩:=h;rfl) λcdv Ar outer s H E hr ds Q h=>?_;obtain⟨ns,rfl,hl63,h⟩:=h;have nd:=SV.nd;refine⟨_,(XL (i:=1) F_22 (aK 0) rfl (λh=>tE (i:=1) nd rfl (by first | exact Or.inl rfl | exact Or.inr rfl) (rW F_22 (hr.mono (by decide)) rfl T.D_22.m T.D_22.k T.D_22.d .nil tG h)) (cJ (sC 2 nd (pC cA fN (dF aN) (cc F_23 T.D_23 hr (bB (dF (aK 1)) (bB (dF aN) dJ)))))
 (cJ (sC 3 nd (cc F_25 T.D_25 hr (bB (dF (aK 1)) (bB (dF (aK 2)) (bB (pC cA fN (dF aN) (cc F_23 T.D_23 hr (bB (dF (aK 1)) (bB (dF aN) dJ)))) dJ)))))
 (cJ (sC 4 nd (cc F_27 T.D_27 hr (bB (dF (aK 1)) (bB (dF (aK 3)) (bB (pC cA fN (dF aN) (cc F_23 T.D_23 hr (bB (dF (aK 1)) (bB (dF aN) dJ)))) dJ)))))
 (cJ (sC 5 nd (kB V7 (bB (JN bW eN (dF (pA (aD aN (aD aN (aD aN (aD aN aU)))))) (cc F_23 T.D_23 hr (bB (dF (aK 1)) (bB (dF aN) dJ)))) (bB (dF (dH lW vQ aN (aK 2))) dJ)) (EW rfl) T.b_min WE))
 (cJ (sC 6 nd (cc F_32 T.D_32 hr (bB (dF (aK 1)) dJ)))
 (cJ (kW (sn 7 nd))
 (cJ (kW (SL (k:=0) (f:=a_38) (fd:=f_38) (pn:=[]) (i:=7) (aD (aK 3) (aD (cd F_35 T.D_35 hr (aD (aK 4) aU)) (aD (aK 5) (aD (aK 6) (aD (aK 7) aU))))) (λh=>rW F_38 (hr.mono (by decide)) rfl T.D_38.m T.D_38.k T.D_38.d .nil tG h) (λh=>oK h)))
 (cJ (kW (so 8 nd aU))
 (PV 7 (cJ (sfC (F9 (aK 7)) (uJ (nY rfl (eM (pn 9 nd) (eM (pn 10 nd) lN))))
 (iR (XW (i:=8) (cc F_23 T.D_23 hr (bB (dF (aK 1)) (bB (dF (dH cA fN (Q0 8 (cB jZ (aD (aK 8) aU) dR T.b_len iG)) aN)) dJ))) (eD (aD (aK 9) (aD (aK 10) (aD (tP (w:=w) rfl hr.u9 (aK 7) (eD (aD (aK 9) (aD (aK 10) aU)))) aU)))) (pb:=λh=>oK (nP dS DN PySem.F.type_list_insert QC (pv 8) h)))))
 (IE 8 (cJ (kW (iT (wF (uZ (nW (tv (cd F_41 T.D_41 hr (aD (aK 3) (aD (aK 4) (aD (aK 6) (aD (aK 8) aU))))))) (sT (nW (tv (cd F_16 T.D_16 hr (aD (aK 3) (aD (aK 4) (aD (aK 6) (aD (cY vX (aD (aK 8) aU) jY T.b_list sI) aU))))))))))
 (cM (dQ nQ))
 hX))
 (cJ (SU (i:=11) (fr:=[none,some 1,some 6]) (N':=["_law_one","_law_tape_here","_law_prices_here"]) (fL (aK 8)) (λb=>⟨(eK (pk 0)),iA,(qF (bB (dF (cZ bW eN (aK 0) aN)) (bB (dF (cZ bW eN (aK 0) aN)) (bB (kB V8 (bB (dF aN) (bB (pC lW vQ (dF (cZ bW eN (aK 0) aN)) (pC iZ sM (cc F_23 T.D_23 hr (bB (dF (aK 1)) (bB (dF aN) dJ))) (dF (cZ bW eN (aK 2) aN)))) dJ)) (EY rfl) T.b_max CL) dJ))))⟩) (λhi hY=>qT (show sN _ (bP (iW 48)) ["_law_script","_law_tape_here","_law_fields","_law_form_here","_law_rows_here","_law_deep","_law_prices_here","_law_met","_law_table","_law_numbers_here","_law_low","_law_less","_law_k","_law_bent_here","_law_turn"] ["_law_one","_law_tape_here","_law_prices_here"] [none,some 1,some 6]=true from by decide +kernel) nd rfl (by first | exact Or.inl rfl | exact Or.inr rfl) rfl hi hY rfl))
 (cJ (kW (iT (wF (uZ (nW (tv (cd F_41 T.D_41 hr (aD (aK 3) (aD (aK 4) (aD (aK 6) (aD (aK 11) aU))))))) (sT (nW (tv (cd F_41 T.D_41 hr (aD (aK 3) (aD (aK 4) (aD (aK 6) (aD (pA aU) aU))))))))))
 (cM (dQ nQ))
 hX))
 (cJ (sfC (mR (aD aN aU) (λh=>kC rfl T.b_range h)) (eK (pn 12 nd))
 (cJ (sC 13 nd (cc F_40 T.D_40 hr (bB (dF (aK 1)) (bB (dF (cZ bW eN (pA (aD (aK 8) (aD (aK 11) aU))) (dH kO A1 (aK 12) aN))) (bB (dF (cB jZ (aD (aK 4) aU) dR T.b_len iG)) dJ)))))
 (cJ (XX (cc F_23 T.D_23 hr (bB (dF (aK 1)) (bB (dF aN) dJ))) (eK (pn 14 nd))
 (iR (sC 13 nd (cc F_40 T.D_40 hr (bB (dF (aK 1)) (bB (dF (aK 13)) (bB (dF (cB jZ (aD (aK 4) aU) dR T.b_len iG)) dJ)))))) (λh=>kC rfl T.b_range h) (pf:=λhi hg hb=>F1 PassesOwn.never rfl hi hg hb))
 (iR (kW (iT (nW (tv (cd F_41 T.D_41 hr (aD (aK 3) (aD (aK 4) (aD (aK 6) (aD (aK 13) aU)))))))
 (cM (dQ nQ))
 hX))))))
 (iR (kW (dQ nQ))))))))))))))))))),?_⟩
 show aCi _ _ _ _ [.val (.list (ns.map aH)),.un,.un,.un,.un,.un,.un,.un,.un,.un,.un,.un,.un,.un,.un];refine⟨_,rfl,ns,rfl,λTp _ _=>?_⟩;show mB _ _ _ _ _ [.val (.list (ns.map aH)),.val (nX Tp),.un,.un,.un,.un,.un,.un,.un,.un,.un,.un,.un,.un,.un];refine iD (λm d=>m<=1/\∃f:Nat,1<=f/\f<=2/\d=.int (f:Nat)) (λq hq=>⟨_,rfl,_,rfl,2,rfl,by decide,by decide,by decide,λr h0 h1=>hq _ _ ⟨by omega,(1+r).toNat,by omega,by omega,by rw[fK (by omega)]⟩⟩) ?_;rintro c1 _ ⟨hc1,f,hf1,hf2,rfl⟩;refine iD (λm d=>m<=200/\∃fs an,mJ fs an/\d=fC fs an) (λq hq=>⟨_,rfl,_,rfl,_,rfl,_,rfl,2,rfl,by decide,by decide,by omega,λr h0 h1=>⟨_,rfl,f,(2+r).toNat,?_,hf1,by omega,by omega,by omega,by omega,λn' fs an hn F _ _=>hq _ _ ⟨by omega,fs,an,F,rfl⟩⟩⟩) ?_
 ·rw[fK (by omega)]
 rintro c2 _ ⟨hc2,fs,an,F,rfl⟩;refine iD (λm d=>m<=600/\∃rs,jU fs an rs/\1<=rs.length/\rs.length<=5/\d=.list (rs.map fE)) (λq hq=>⟨_,rfl,_,rfl,_,rfl,_,rfl,5,rfl,by decide,by decide,by omega,λr h0 h1=>⟨_,rfl,fs,an,(1+r).toNat,?_,F,by omega,by omega,λn' rs hn hrs hrl=>hq _ _ ⟨by omega,rs,hrs,by omega,by omega,rfl⟩⟩⟩) ?_
 ·rw[fK (by omega)]
 rintro c3 _ ⟨hc3,rs,hrs,hrl1,hrl5,rfl⟩;refine iD (λm d=>m<=700/\∃v:Nat,1<=v/\v<=3/\d=.int (v:Nat)) (λq hq=>⟨(aC rfl),_,rfl,_,rfl,4,rfl,by decide,by decide,by omega,λr h0 h1=>?_⟩) ?_
 ·obtain⟨z,hz,z1,z3⟩:∃z:Int,L2.atI [aH 1,.int 2,.int 2,.int 3] r=some (.int z)/\1<=z/\z<=3:=by
   rcases(show r=0\/r=1\/r=2\/r=3 by omega)with rfl | rfl | rfl | rfl<;>exact⟨_,rfl,by decide,by decide⟩
  refine⟨_,hz,_,rfl,?_⟩;show q _ (.int (if(4:Int)-((f:Nat):Int)<z then(4:Int)-((f:Nat):Int)else z));refine hq _ _ ⟨by omega,(if(4:Int)-((f:Nat):Int)<z then(4:Int)-((f:Nat):Int)else z).toNat,?_,?_,?_⟩
  ·split<;>omega
  ·split<;>omega
  ·rw[fK (by split<;>omega)]
 rintro c4 _ ⟨hc4,dp,hdp1,hdp3,rfl⟩;refine iD (λm' d=>m'<=800/\∃a b:Int,0<=a/\a<=1000000/\0<=b/\b<=1000000/\d=.tuple [.int a,.int b]) (λq hq=>⟨_,rfl,_,rfl,rfl,by omega,λn' a b hn a0 a1 b0 b1=>hq _ _ ⟨by omega,a,b,a0,a1,b0,b1,rfl⟩⟩) ?_;rintro c5 _ ⟨hc5,a,b,a0,a1,b0,b1,rfl⟩;obtain⟨fa,hfa⟩:=aJu F;have S:qY fs an fa rs a b:=⟨F,hfa,hrs,by omega,a0,a1,b0,b1⟩;have hne:cQ rs.length≠[]:=λe=>by have:=congrArg iL e;rw[cH]at this;have:rs.length=0:=this;omega
 show mB _ _ _ _ _ [.val (.list (ns.map aH)),.val (nX Tp),.val (.int (f:Nat)),.val (fC fs an),.val (.list (rs.map fE)),.val (.int (dp:Nat)),.val (.tuple [.int a,.int b]),.un,.un,.un,.un,.un,.un,.un,.un];refine gJ (BI (w:=w) (show 7<15 by decide) (λj hs kvs hj=>?_) ?_)
 ·rcases j with _ | _ | _ | _ | _ | _ | _ | _ | _ | _ | _ | _ | _ | _ | _ | j<;>simp at hj
 show mB _ _ _ _ _ [.val (.list (ns.map aH)),.val (nX Tp),.val (.int (f:Nat)),.val (fC fs an),.val (.list (rs.map fE)),.val (.int (dp:Nat)),.val (.tuple [.int a,.int b]),tR w [],.un,.un,.un,.un,.un,.un,.un];refine gJ ?_;refine⟨[],rfl,λτ'=>⟨_,rfl,_,rfl,rs,rfl,by omega,_,rfl,_,rfl,_,rfl,fs,an,fa,rs,a,b,cQ rs.length,dp,[],rfl,S,hrl5,List.Sublist.refl _,hne,by omega,hdp3,rfl,UL ..,λt hM _ _=>?_⟩⟩;dsimp only;show mB _ _ _ _ _ (List.set _ _ _);show mB _ _ _ _ _ [.val (.list (ns.map aH)),.val (nX Tp),.val (.int (f:Nat)),.val (fC fs an),.val (.list (rs.map fE)),.val (.int (dp:Nat)),.val (.tuple [.int a,.int b]),tR w (kY t),.un,.un,.un,.un,.un,.un,.un];refine gJ (pS [] (by decide) (λq hq=>hq) ?_);refine⟨_,_,rfl,?_⟩;show mB _ _ _ _ _ [.val (.list (ns.map aH)),.val (nX Tp),.val (.int (f:Nat)),.val (fC fs an),.val (.list (rs.map fE)),.val (.int (dp:Nat)),.val (.tuple [.int a,.int b]),.val (nH w (kY t)),.own [],.un,.un,.un,.un,.un,.un];have hml:=xC hM hrl5;have hrlm:(rs.map fE).length=rs.length:=aB ..;refine GM (ts:=(kY t).map (·.1)) (λR h=>⟨_,rfl,_,rfl,h⟩) (λk m σ=>m<=800+k/\∃(tb:Tb)(s9 s10:Sl),tb.Perm (t.take k)/\σ=[.val (.list (ns.map aH)),.val (nX Tp),.val (.int (f:Nat)),.val (fC fs an),.val (.list (rs.map fE)),.val (.int (dp:Nat)),.val (.tuple [.int a,.int b]),.val (nH w (kY t)),.own ((tb.map WU).map cN),s9,s10,.un,.un,.un,.un]) ⟨hc5,[],_,_,gD.refl _,rfl⟩ (λk m x σ' hx hP=>?_) λm σ' hP=>?_
 ·obtain⟨hm,tb,s9,s10,hp,rfl⟩:=hP;rw[tK,aI]at hx;obtain⟨e,hek,rfl⟩:=bT.mp hx;have hkl:k<t.length:=(aG.mp hek).1;have htl:tb.length=k:=by rw[hp.length_eq,bC];omega
  have hl2:((tb.map WU).map cN).length=k:=by rw[aB,aB];exact htl
  refine⟨_,_,rfl,?_⟩;refine⟨_,rfl,_,rfl,⟨_,rfl,_,rfl,rfl,_,rfl,(((tb.map WU).map cN).length:Int)+1,rfl,by omega,by omega,by omega,λr h0 h1=>?_⟩⟩;refine⟨_,rfl,_,rfl,_,rfl,_,rfl,_,rfl,(aC rfl),kY t,rfl,lP e.1.1 e.1.2,kX t,.int e.2,uG.mpr ⟨e.2,aW hek,rfl⟩,(aC rfl),r.toNat,by rw[fK h0],by omega,by omega,?_⟩;refine⟨by omega,tb.take r.toNat++e::tb.drop r.toNat,.val (jC e.1.1),.val (.int ((e.1.2:Nat):Int)),?_,?_⟩
  ·rw[cP,hek];exact TU hp r.toNat
  ·rw[bG,bG,rH,rH,aX,aX,xW,xW,Y1];rfl
 obtain⟨hm,tb,s9,s10,hp,rfl⟩:=hP;rw[aB,show(kY t).length=t.length by unfold kY;rw[aB]]at hm hp;rw[dY]at hp;have hB:=aFc S hrl5 hM hp;have hH:=QG a0 b0 hM hp
 generalize tb.map WU=xs at hB hH |-
 have hxl:=hB.l;refine⟨_,rfl,?_⟩;show mB _ _ _ _ _ [.val (.list (ns.map aH)),.val (nX Tp),.val (.int (f:Nat)),.val (fC fs an),.val (.list (rs.map fE)),.val (.int (dp:Nat)),.val (.tuple [.int a,.int b]),.val (nH w (kY t)),.val (.list (xs.map cN)),s9,s10,.un,.un,.un,.un];refine gJ (jF (λb=>b=false) (λq hq=>⟨_,rfl,_,rfl,_,rfl,_,rfl,fs,an,fa,rs,a,b,xs,rfl,S,hB.ok (by decide),?_⟩) (λhT=>by cases hT) λ_=>?_)
 ·refine Eq.mpr (if_neg (t:=q true) (c:=(!true)=true) bE) ?_;refine⟨_,rfl,_,rfl,_,rfl,_,rfl,fs,an,fa,rs,a,b,xs,rfl,S,hB.ok (by decide),λz hz=>?_⟩;rw[show z=true from hz.mpr hH];exact hq _ rfl
 refine XN ?_;dsimp only;refine iD (λm v=>m<=1000/\∃ys:List En,G1 0 ys/\v=.list (ys.map cN)) (λq hq=>?_) ?_
 ·refine MB (ts:=xs.map cN) (λR h=>⟨_,rfl,_,rfl,h⟩) (λk x y=>∃e:En,y=cN e/\RW 0 e) 1 (by rw[aB];omega) (λk m' x q' hx hm' hq'=>?_) λm' ys hm' hyl hys=>?_
  ·rw[aI]at hx;obtain⟨e,hek,rfl⟩:=bT.mp hx;have hkl:k<xs.length:=(aG.mp hek).1;have he:=hB.b e (aW hek);refine⟨_,rfl,_,rfl,_,rfl,_,rfl,_,rfl,_,rfl,_,rfl,_,rfl,3,rfl,by decide,by decide,by omega,λr h0 h1=>⟨_,rfl,_,rfl,.inl ⟨by omega,by omega⟩,?_⟩⟩;have hra:0<=r*a:=wC h0 a0;show([_,_,aH (if e.2.2-r*a>0 then e.2.2-r*a else 0)]:List D).length<=1000/\_;refine⟨(aC rfl),hq' _ _ (by omega) ⟨(e.1,e.2.1,if e.2.2-r*a>0 then e.2.2-r*a else 0),rfl,he.n,?_⟩⟩;have:=he.c;show(if e.2.2-r*a>0 then e.2.2-r*a else 0)<_;split<;>omega
  ·rw[aB]at hm' hyl
   obtain⟨zs,rfl,hz⟩:=aC7 (ys:=ys) (P:=RW 0) λy hy=>by
    obtain⟨j,hj⟩:=bV hy;have hjl:j<xs.length:=by rw[<- hyl];exact(aG.mp hj).1
    exact hys j _ y (by rw[aI,aF hjl];rfl) hj
   rw[aB]at hyl;exact hq _ _ ⟨by omega,zs,⟨by omega,hz⟩,rfl⟩
 rintro c6 _ ⟨hc6,zs,hZ,rfl⟩;have hE0:E9 []:=⟨by decide,(λx hx=>by cases hx),(λx hx=>by cases hx)⟩;refine gJ (jF (λb=>b=false) (λq hq=>⟨_,rfl,_,rfl,_,rfl,_,rfl,fs,an,fa,rs,a,b,zs,rfl,S,hZ.ok (by decide),?_⟩) (λhT=>by cases hT) λ_=>?_)
 ·refine Eq.mpr (if_neg (t:=q true) (c:=(!true)=true) bE) ?_;exact⟨_,rfl,_,rfl,_,rfl,(aC rfl),fs,an,fa,rs,a,b,[],rfl,S,hE0,hq _ rfl⟩
 refine XN ?_;dsimp only;show mB _ _ _ _ _ [.val (.list (ns.map aH)),.val (nX Tp),.val (.int (f:Nat)),.val (fC fs an),.val (.list (rs.map fE)),.val (.int (dp:Nat)),.val (.tuple [.int a,.int b]),.val (nH w (kY t)),.val (.list (xs.map cN)),s9,s10,.val (.list (zs.map cN)),.un,.un,.un];refine GM (ts:=eW 8) (λR h=>⟨8,rfl,by decide,by decide,h⟩) (λk m σ=>m<=1000+100*k/\∃s12 s13 s14:Sl,σ=[.val (.list (ns.map aH)),.val (nX Tp),.val (.int (f:Nat)),.val (fC fs an),.val (.list (rs.map fE)),.val (.int (dp:Nat)),.val (.tuple [.int a,.int b]),.val (nH w (kY t)),.val (.list (xs.map cN)),s9,s10,.val (.list (zs.map cN)),s12,s13,s14]) ⟨hc6,_,_,_,rfl⟩ (λk m x σ' hx hP=>?_) λm σ' hP=>?_
 ·obtain⟨hm,s12,s13,s14,rfl⟩:=hP;have hk8:k<8:=by have:=(aG.mp hx).1;unfold eW at this;rw[aB,cH]at this;exact this
  have ex:x=.int (k:Nat):=by
   unfold eW at hx;rw[aI,gZ hk8]at hx;cases hx;rfl
  subst ex;show mB _ _ _ _ _ [.val (.list (ns.map aH)),.val (nX Tp),.val (.int (f:Nat)),.val (fC fs an),.val (.list (rs.map fE)),.val (.int (dp:Nat)),.val (.tuple [.int a,.int b]),.val (nH w (kY t)),.val (.list (xs.map cN)),s9,s10,.val (.list (zs.map cN)),.val (.int (k:Nat)),s13,s14];refine iD (λm' v=>m'<=1010+100*k/\∃ys:List En,G1 1 ys/\v=.list (ys.map cN)) (λq hq=>?_) ?_
  ·obtain⟨us,hU,hat⟩:∃us:List En,G1 0 us/\L2.atI [KH (xs.map cN),.list (zs.map cN)] (((k:Nat):Int)%2)=some (.list (us.map cN)):=by
    rcases(show((k:Nat):Int)%2=0\/((k:Nat):Int)%2=1 by omega)with e | e<;>rw[e]
    ·exact⟨xs,hB,rfl⟩
    ·exact⟨zs,hZ,rfl⟩
   exact⟨_,rfl,_,rfl,_,rfl,(aC rfl),_,rfl,(show(0:Int)<2 by decide),_,hat,_,rfl,_,rfl,us,(rs.map fE).length,0,rfl,by omega,by decide,hU,by omega,λn' ys hn' hys=>hq _ _ ⟨by omega,ys,hys,rfl⟩⟩
  rintro c7 _ ⟨hc7,ys,hY,rfl⟩
  refine Z6 (λm' N=>m'<=1011+100*k/\0<=N/\N<3) (λN j m' σ=>N<3/\m'<=1011+100*k+10*j/\∃(ys:List En)(s14:Sl),G1 (1+j) ys/\σ=[.val (.list (ns.map aH)),.val (nX Tp),.val (.int (f:Nat)),.val (fC fs an),.val (.list (rs.map fE)),.val (.int (dp:Nat)),.val (.tuple [.int a,.int b]),.val (nH w (kY t)),.val (.list (xs.map cN)),s9,s10,.val (.list (zs.map cN)),.val (.int (k:Nat)),.val (.list (ys.map cN)),s14])
   (λq hq=>⟨_,rfl,_,rfl,3,rfl,by decide,by decide,by omega,λr h0 h1=>hq _ _ ⟨by omega,h0,h1⟩⟩) (λm' N hR=>⟨hR.2.1,by omega⟩) (λm' N hR=>⟨hR.2.2,hR.1,ys,_,hY,rfl⟩) (λN j m' σ' hN hj hP=>?_) λN m' σ' hN hP=>?_
  ·obtain⟨hN3,hm',ys,s14,hY,rfl⟩:=hP;exact⟨_,rfl,_,rfl,_,rfl,_,rfl,ys,(rs.map fE).length,1+j,rfl,by omega,by omega,hY,by omega,λn' us hn' hus=>⟨hN3,by omega,us,_,hus,rfl⟩⟩
  ·obtain⟨hN3,hm',ys,s14,hY,rfl⟩:=hP;refine nZ (λb=>b=false) (λq hq=>⟨_,rfl,_,rfl,_,rfl,_,rfl,fs,an,fa,rs,a,b,ys,rfl,S,hY.ok (by omega),hq _ rfl⟩) (λhT=>by cases hT) λ_=>?_;exact⟨by omega,_,_,_,rfl⟩
 exact h
def aL6
  (F_9:dD P w K mg base gA 3 a_9 f_9 ["form"] (cO K aHb))
  (F_15:dD P w K mg base gA 4 a_15 f_15 ["form","choice","rows"] (cO K aBh)):dD P w K mg base gA 5 a_0 f_0 ["self","form","rows","prices"] (xD c_RowSets eY K aHi):=by
 refine fnI T.D_0.F aHt (λds Q h=>by obtain⟨fs,an,rs,a,b,rfl,F,hrs,hl,h⟩:=h;rfl) λcdv Ar outer s H E hr zz ds Q h=>?_;obtain⟨fs,an,rs,a,b,rfl,F,hrs,hl,h⟩:=h;have nd:=aHt.nd;refine⟨_,(wX T.C_RowSets T.n_RowSets_form (pv 0) (aK 1)
 (wX T.C_RowSets T.n_RowSets_kept (pv 0) (cY vX (aD (aK 2) aU) jY T.b_list sI)
 (wX T.C_RowSets T.n_RowSets_slip (pv 0) (cZ bW eN (aK 3) aN)
 (wX T.C_RowSets T.n_RowSets_knot (pv 0) (cZ bW eN (aK 3) aN)
 (wX T.C_RowSets T.n_RowSets_choices (pv 0) (el (fr:=[none,some 1,some 2]) (N':=["choice","form","rows"]) (fL (cd F_9 T.D_9 hr (aD (aK 1) aU))) (λb=>⟨(eK (pk 0)),iA,(dH cA fN (aK 0) (eD (aD (cd F_15 T.D_15 hr (aD (aK 1) (aD (aK 0) (aD (aK 2) aU)))) aU)))⟩))
 aFa))))),?_⟩
 show aJi _ _ _ _ _ [.val zz,.val (fC fs an),.val (.list (rs.map fE)),.val (.tuple [.int a,.int b])];have n5:=F.n5;have hcl:=lZ F fs λg hg=>hg;have hch:=OW fs;refine⟨_,rfl,(aC rfl),(λz=>nomatch z),_,rfl,(aC rfl),(show("kept":Str)∉(["form"]:List Str)from by decide +kernel),_,rfl,_,rfl,(aC rfl),(show("slip":Str)∉(["form","kept"]:List Str)from by decide +kernel),_,rfl,_,rfl,(aC rfl),(show("knot":Str)∉(["form","kept","slip"]:List Str)from by decide +kernel),?_⟩;refine iC (ts:=(sA fs).map Z8) (λR h=>⟨_,rfl,fs,an,rfl,F,_,rfl,h⟩) (λx=>match x with | .tuple [.tuple [.str k,.str n,.str v],.str s]=>chD fs rs ((k,n,v),s) | _=>.none) (by rw[aB];omega) (λx q' hx hq'=>?_) ?_
 ·obtain⟨c,hc,rfl⟩:=aQ.mp hx;exact⟨_,rfl,_,rfl,_,rfl,_,rfl,fs,an,c,rs,rfl,F,hc,hrs,hl,(aC rfl),(aC rfl),hq'⟩
 ·rw[bM];exact⟨(aC rfl),(show("choices":Str)∉(["form","kept","slip","knot"]:List Str)from by decide +kernel),rfl,h⟩
def aL5
  (F_5:dD P w K mg base gA 1 a_5 f_5 ["form","rows"] (lO K aEa))
  (F_6:dD P w K mg base gA 2 a_6 f_6 ["form","rows"] (cO K aHe)):dD P w K mg base gA 3 a_1 f_1 ["self","numbers"] (cO K (aEb w c_RowSets)):=by
 refine xJ T.D_1.F aHs (λds Q h=>by obtain⟨fs,an,fa,rs,a,b,ns,rfl,S,hns,h⟩:=h;rfl) λcdv Ar outer s H E hr ds Q h=>?_;obtain⟨fs,an,fa,rs,a,b,ns,rfl,S,hns,h⟩:=h;have nd:=aHs.nd;refine⟨_,(cS (wG (i:=2) (fr:=[none,some 0]) (N':=["number","self"]) (fL (aK 1)) (λb=>⟨(eK (pk 0)),iA,(cZ bW eN (yU (K:=K) rfl (aK 1)) (aK 0))⟩) (λhi hY=>qT (show sN _ (bP (vS (iW 17) 1)) ["self","numbers","rows","slips"] ["number","self"] [none,some 0]=true from by decide +kernel) nd rfl (by first | exact Or.inl rfl | exact Or.inr rfl) rfl hi hY rfl))
 (cS (ss 3 nd (dH lW vQ (cB jZ (aD (aK 2) aU) dR T.b_len iG) (cB V9 (aD (OR (cF F_5 T.D_5 hr (aD (yU (K:=K) rfl (aK 0)) (aD (aK 2) aU)))) aU) (qG rfl) T.b_max CL)))
 (cM (dQ (eD (aD (dH iZ sM (yU (K:=K) rfl (aK 0)) (aK 3)) (aD (eD (aD jT (aD (cd F_6 T.D_6 hr (aD (yU (K:=K) rfl (aK 0)) (aD (aK 2) aU))) aU))) aU))))))),?_⟩
 show kI _ _ _ [.val (wM c_RowSets fs an rs a b),.val (jC ns),.un,.un];have hlt:∀i∈ns,i<rs.length:=λi hi=>hns.lt hi;have hR:=FS S.R ns;have hl:=S.l;have hnl:=hns.len;have hrl:(bR rs ns).length<=60:=by rw[BK hlt];omega
 refine eU (.list ((bR rs ns).map fE)) (λq hq=>?_) ?_
 ·refine iC (ts:=ns.map λ(i:Nat)=>aH (i:Int)) (λR h=>⟨_,rfl,_,rfl,h⟩) (S3 rs) (by rw[aB];omega) (λx q' hx hq'=>?_) (by rw[NK hlt];exact hq);obtain⟨i,hi,rfl⟩:=aQ.mp hx;have er:rs[i]?=some (rs[i]'(hlt i hi)):=aF (hlt i hi);refine⟨_,rfl,c_RowSets,eY,_,_,rfl,T.C_RowSets,T.n_RowSets_kept,(IW _ _ _ _ _).2.1,_,rfl,_,L2.fZ (v:=fE (rs[i]'(hlt i hi))) (by rw[aI,er];rfl),?_⟩
  have e:S3 rs (.int (i:Int))=fE (rs[i]'(hlt i hi)):=by
   show(match L2.atI rs (i:Int)with | some r=>fE r | none=>uO)=_;rw[L2.fZ er]
  rw[e]at hq';exact hq'
 have hf:=S.fa _ hR;have ho:=AX (bR rs ns) (fa (bR rs ns));refine eU (.int (wJ fs (.say (fa (bR rs ns))) (bR rs ns):Nat)) (λq hq=>?_) ?_
 ·refine⟨_,rfl,_,rfl,c_RowSets,eY,_,_,rfl,T.C_RowSets,T.n_RowSets_form,(IW _ _ _ _ _).1,_,rfl,fs,an,bR rs ns,rfl,S.F,hR,hrl,oM an (bR rs ns),rfl,?_,λm hm hx=>?_⟩
  ·intro z;have a2:=S.F.a2;have:=congrArg iL z;unfold oM at this;rw[aB,tY]at this;omega
  ·rw[N8 hf hm hx];show q (.int (((((bR rs ns).map fE).length:Nat):Int)-_));rw[sY]at hq;have e:((((bR rs ns).map fE).length:Nat):Int)-(zU (bR rs ns) (fa (bR rs ns)):Int)=((T4 (bR rs ns) (fa (bR rs ns)):Nat):Int):=by rw[aB];omega
   rw[e];exact hq
 have hs:=sY (fs:=fs) (bR rs ns) (fa (bR rs ns));have a0:=S.a0;have a1:=S.a1;refine⟨_,rfl,c_RowSets,eY,_,_,rfl,T.C_RowSets,T.n_RowSets_slip,(IW _ _ _ _ _).2.2.1,_,rfl,.inl ⟨by omega,by omega⟩,_,rfl,c_RowSets,eY,_,_,rfl,T.C_RowSets,T.n_RowSets_form,(IW _ _ _ _ _).1,_,rfl,fs,an,bR rs ns,rfl,S.F,hR,hrl,λz hz=>?_⟩;rw[hz.uniq hf];exact⟨(aC rfl),(aC rfl),h⟩
def aL4
  (F_14:dD P w K mg base gA 1 a_14 f_14 ["sides","fewest"] (cO K aBi)):dD P w K mg base gA 2 a_2 f_2 ["self","numbers"] (cO K (aHh w c_RowSets)):=by
 refine xJ T.D_2.F aHr (λds Q h=>by obtain⟨fs,an,fa,rs,a,b,ns,rfl,S,hns,h⟩:=h;rfl) λcdv Ar outer s H E hr ds Q h=>?_;obtain⟨fs,an,fa,rs,a,b,ns,rfl,S,hns,h⟩:=h;have nd:=aHr.nd;refine⟨_,(cS (so 2 nd aU)
 (cS (sf (fL (yU (K:=K) rfl (aK 0))) (qW (nY rfl (eM (pn 3 nd) (eM (pn 4 nd) (eM (pn 5 nd) lN)))))
 (cS (ss 6 nd (cY sG (aD (el (fr:=[none,some 5]) (N':=["number","sides"]) (fL (aK 1)) (λb=>⟨(eK (pk 0)),(LV (eP jM nB (cZ bW eN (aK 1) (aK 0)) jT)),(aK 0)⟩)) aU) jH T.b_tuple lF))
 (cS (ss 7 nd (cY sG (aD (el (fr:=[none,some 5]) (N':=["number","sides"]) (fL (aK 1)) (λb=>⟨(eK (pk 0)),(LV (eP jM nB (cZ bW eN (aK 1) (aK 0)) jT)),(aK 0)⟩)) aU) jH T.b_tuple lF))
 (cM (iT (tv (cd F_14 T.D_14 hr (aD (eD (aD (aK 6) (aD (aK 7) aU))) (aD aN aU))))
 (cM (BE (i:=2) (pv 2) (eD (aD (aK 3) (aD (aK 4) (aD (aK 6) (aD (aK 7) aU))))) (pb:=λh=>oK (nP dS jJ jI oR (pv 2) h))))
 hX)))))
 (sV 2 (cM (dQ (aK 2)))))),?_⟩
 show kI _ _ _ [.val (wM c_RowSets fs an rs a b),.val (jC ns),.un,.un,.un,.un,.un,.un];have hlt:∀i∈ns,i<rs.length:=λi hi=>hns.lt hi;have hl:=S.l;have hnl:=hns.len;have n5:=S.F.n5;have hcl:=lZ S.F fs λg hg=>hg;have hch:=OW fs;refine pS [] (by decide) (λq hq=>hq) ?_
 refine lM (ts:=(sA fs).map (chD fs rs)) (λR h=>⟨_,rfl,c_RowSets,eY,_,_,rfl,T.C_RowSets,T.n_RowSets_choices,(IW _ _ _ _ _).2.2.2.2,_,rfl,h⟩)
  (λk σ=>∃s3 s4 s5 s6 s7:Sl,σ=[.val (wM c_RowSets fs an rs a b),.val (jC ns),.own ((((sA fs).take k).filter (fG fs (bR rs ns))).map (TQ fs rs ns)),s3,s4,s5,s6,s7]) ⟨_,_,_,_,_,rfl⟩ (λk x σ' hx hP=>?_) λσ' hP=>?_
 ·obtain⟨s3,s4,s5,s6,s7,rfl⟩:=hP;rw[aI]at hx;obtain⟨c,hck,rfl⟩:=bT.mp hx;have hc:c∈sA fs:=aW hck;obtain⟨w1,w2⟩:=SR S.F hc S.R hlt
  have sat:∀x∈ns.map (λ(i:Nat)=>aH (i:Int)),∃(i:Nat)(r:Rw),x=.int (i:Int)/\rs[i]?=some r:=λx hx=>by
   obtain⟨i,hi,rfl⟩:=aQ.mp hx;exact⟨i,_,rfl,aF (hlt i hi)⟩
  refine⟨_,_,_,rfl,?_⟩;refine eU (jC (yN fs rs c ns)) (λq hq=>?_) ?_
  ·dsimp only[oG,xO]
   refine B2 (ts:=ns.map λ(i:Nat)=>aH (i:Int)) (λR h=>⟨_,rfl,_,rfl,h⟩) (yG fs c.1.1 c.1.2.1 c.1.2.2 c.2 rs "yes") id (by rw[aB];omega) (λx q' hx hq'=>by
    obtain⟨i,r,rfl,er⟩:=sat x hx;rw[D9 er]at hq';exact⟨_,rfl,_,rfl,_,L2.fZ (v:=aY (mD fs c.1.1 c.1.2.1 c.1.2.2 c.2 r.1)) (by rw[aI,er];rfl),hq'⟩) (λx q' hx hq'=>⟨_,rfl,hq'⟩) ?_
   rw[w1,lB];exact hq
  refine eU (jC (nN fs rs c ns)) (λq hq=>?_) ?_
  ·dsimp only[oG,xO]
   refine B2 (ts:=ns.map λ(i:Nat)=>aH (i:Int)) (λR h=>⟨_,rfl,_,rfl,h⟩) (yG fs c.1.1 c.1.2.1 c.1.2.2 c.2 rs "no") id (by rw[aB];omega) (λx q' hx hq'=>by
    obtain⟨i,r,rfl,er⟩:=sat x hx;rw[D9 er]at hq';exact⟨_,rfl,_,rfl,_,L2.fZ (v:=aY (mD fs c.1.1 c.1.2.1 c.1.2.2 c.2 r.1)) (by rw[aI,er];rfl),hq'⟩) (λx q' hx hq'=>⟨_,rfl,hq'⟩) ?_
   rw[w2,lB];exact hq
  have hp:=IK (fs:=fs) (c:=c) hlt
  have hlen:((((sA fs).take k).filter (fG fs (bR rs ns))).map (TQ fs rs ns)).length<=100:=by
   have h1:=kM (fG fs (bR rs ns)) ((sA fs).take k);have h2:((sA fs).take k).length<=(sA fs).length:=by rw[bC];omega
   rw[aB];omega
  have et:(sA fs).take (k+1)=(sA fs).take k++[c]:=by rw[cP,hck];rfl
  refine nZ (λt=>t=fG fs (bR rs ns) c) (λq hq=>⟨_,rfl,_,rfl,(aC rfl),yN fs rs c ns,nN fs rs c ns,rfl,hq _ hp.symm⟩) (λht=>?_) λhf=>?_
  ·refine wW (TQ fs rs ns c) rfl (by omega) (λq hq=>⟨_,rfl,_,rfl,_,rfl,_,rfl,(aC rfl),hq⟩) ⟨.val (qD c.1),.val (.str c.2),.val (XT fs rs c),.val (jC (yN fs rs c ns)),.val (jC (nN fs rs c ns)),?_⟩;rw[et,gK,bG,cX,if_pos ht.symm];rfl
  ·refine⟨.val (qD c.1),.val (.str c.2),.val (XT fs rs c),.val (jC (yN fs rs c ns)),.val (jC (nN fs rs c ns)),?_⟩;rw[et,gK,bG,cX,if_neg (by rw[<- hf];decide)];show _=[_,_,Sl.own (_++[]),_,_,_,_,_];rw[dL];rfl
 ·obtain⟨s3,s4,s5,s6,s7,rfl⟩:=hP;rw[aB,dY];exact⟨_,rfl,_,rfl,h⟩
def aL1:dD P w K mg base gA 1 a_5 f_5 ["form","rows"] (lO K aEa):=by
 refine fnF T.D_5.F aHo (λds Q h=>by obtain⟨fs,an,rs,rfl,F,hok,hrl,h⟩:=h;rfl) λcdv Ar outer s H E hr ds Q h=>?_;obtain⟨fs,an,rs,rfl,F,hok,hrl,h⟩:=h;have nd:=aHo.nd;refine⟨_,(cS (ss 2 nd (el (fr:=[none]) (N':=["row"]) (fL (aK 1)) (λb=>⟨(eK (pk 0)),iA,(cZ bW eN (aK 0) aN)⟩)))
 (cM (NC (fl (fr:=[none,some 2]) (N':=["answer","told"]) (fL (cZ bW eN (aK 0) aN)) (λb=>⟨(eK (pk 0)),iA,(ES (aK 1) (aD (aK 0) aU) (λh ha=>nP dS FE FC (ED hr) h ha))⟩))))),?_⟩
 show kI _ _ _ [.val (fC fs an),.val (.list (rs.map fE)),.un];have a4:=F.a4;refine eU (.list (rs.map λr=>aY r.2)) (λq hq=>?_) ?_
 ·refine iC (ts:=rs.map fE) (λR h=>⟨_,rfl,_,rfl,h⟩) aLr (by rw[aB];omega) (λx q hx hq=>?_) ?_
  ·obtain⟨r,hr,rfl⟩:=aQ.mp hx;exact⟨_,rfl,_,rfl,hq⟩
  ·rw[bM];exact hq
 have ll:=I0 (ys:=rs.map λr=>r.2) λy hy=>by
  obtain⟨r,hr,rfl⟩:=aQ.mp hy;exact F.an.2.1 _ (hok r hr).2
 rw[bM]at ll;refine aFq (iC (ts:=an.map aY) (λR h=>⟨_,rfl,_,rfl,_,rfl,h⟩) (Z7 rs) (by rw[aB];omega) (λx q hx hq=>?_) ?_)
 ·obtain⟨a,ha,rfl⟩:=aQ.mp hx;have hA:=pQ (F.an.2.1 a ha) (n:=8) (m:=0) (aO _);refine⟨_,rfl,_,rfl,_,rfl,_,rfl,⟨ll.1,hA.lay,by have:=hA.depth;omega⟩,?_⟩;rw[BC];exact hq
 ·show Q _
  have e:(an.map aY).map (Z7 rs)=(oM an rs).map aH:=by
   unfold oM;rw[bM,bM];rfl
  rw[e];exact h
def aL0
  (F_5:dD P w K mg base gA 1 a_5 f_5 ["form","rows"] (lO K aEa)):dD P w K mg base gA 2 a_6 f_6 ["form","rows"] (cO K aHe):=by
 refine xJ T.D_6.F aHn (λds Q h=>by obtain⟨fs,an,rs,rfl,F,hok,hrl,h⟩:=h;rfl) λcdv Ar outer s H E hr ds Q h=>?_;obtain⟨fs,an,rs,rfl,F,hok,hrl,h⟩:=h;have nd:=aHn.nd;refine⟨_,(cS (ss 2 nd (OR (cF F_5 T.D_5 hr (aD (aK 0) (aD (aK 1) aU)))))
 (cM (dQ (cZ bW eN (cZ bW eN (aK 0) aN) (ER (aK 2) (aD (cB V9 (aD (aK 2) aU) (qG rfl) T.b_max CL) aU) (λh ha=>nP dS FD FB (EB hr) h ha)))))),?_⟩
 show kI _ _ _ [.val (fC fs an),.val (.list (rs.map fE)),.un];have a2:=F.a2;refine eU (.list ((oM an rs).map aH)) (λq hq=>⟨_,rfl,_,rfl,fs,an,rs,rfl,F,hok,hrl,hq⟩) ?_
 have hne:oM an rs≠[]:=λz=>by
  have:=congrArg iL z;unfold oM at this;rw[aB]at this;simp at this;rw[this]at a2;simp at a2
 refine⟨_,rfl,_,rfl,_,rfl,_,rfl,_,rfl,_,rfl,hne,λm hm hmax=>?_⟩;obtain⟨j,hj,hno⟩:=JI (oM an rs) m hm;have hjl:=(aG.mp hj).1;have hal:(oM an rs).length=an.length:=by unfold oM;rw[aB]
 have a4:=F.a4;have haj:an[j]?=some an[j]:=aF (by omega);have hcj:(oM an rs)[j]?=some ((zU rs an[j]:Nat):Int):=by unfold oM;rw[aI,haj];rfl
 rw[hj]at hcj;have em:m=((zU rs an[j]:Nat):Int):=Option.some.inj hcj;refine⟨_,j,rfl,P7 hj hno,by omega,_,L2.fZ (by rw[aI,haj];rfl),h _ ⟨j,haj,λi b hb=>?_,λi b hi hb=>?_⟩⟩
 ·have:=hmax ((zU rs b:Nat):Int) (aW (i:=i) (by unfold oM;rw[aI,hb];rfl));omega
 ·have hcb:(oM an rs)[i]?=some ((zU rs b:Nat):Int):=by unfold oM;rw[aI,hb];rfl
  have h1:=hmax _ (aW hcb);have h2:((zU rs b:Nat):Int)≠m:=λz=>hno i hi (by rw[hcb,z]);omega
def aLz
  (F_8:dD P w K mg base gA 1 a_8 f_8 ["field"] (lO K aHc)):dD P w K mg base gA 2 a_7 f_7 ["form"] (lO K aHd):=by
 refine fnF T.D_7.F aHm (λds Q h=>by obtain⟨fs,an,rfl,F,h⟩:=h;rfl) λcdv Ar outer s H E hr ds Q h=>?_;obtain⟨fs,an,rfl,F,h⟩:=h;have nd:=aHm.nd;refine⟨_,(cS (so 1 nd aU)
 (cS (sf (fL (cZ bW eN (aK 0) aN)) (eK (pn 2 nd))
 (cM (ND (i:=1) (pv 1) (OR (cF F_8 T.D_8 hr (aD (aK 2) aU))) (pb:=λh=>oK (nP dS DO DL N7 (pv 1) h)))))
 (cM (PL (pv 1))))),?_⟩
 show kI _ _ _ [.val (fC fs an),.un,.un];have n5:=F.n5;refine pS [] (by decide) (λq hq=>hq) ?_
 refine lM (ts:=fs.map kZ) (λR h=>⟨_,rfl,_,rfl,_,rfl,h⟩)
  (λk σ=>∃s2:Sl,σ=[.val (fC fs an),.own (fQ (fs.take k)),s2]) ⟨_,rfl⟩ (λk x σ' hx hP=>?_) λσ' hP=>?_
 ·obtain⟨s2,rfl⟩:=hP;rw[aI]at hx;obtain⟨f,hfk,rfl⟩:=bT.mp hx;have hf:f∈fs:=aW hfk;obtain⟨v2,v5,hvv⟩:=F.vs f hf;have hcl:=lZ F (fs.take k) λg hg=>eT hg;have hkl:(fs.take k).length<=5:=by rw[bC];omega
  have hql:(K7 f).length<=10:=by
   unfold K7 uT yE;rw[aV,aB,aB,bC,eG];split
   ·rw[bC];omega
   ·omega
  refine IN (ts:=fQ (fs.take k)) (us:=K7 f) rfl (by omega) (λq hq=>⟨_,rfl,f,rfl,v2,v5,hq⟩) ⟨.val (kZ f),?_⟩
  have e:fQ (fs.take (k+1))=fQ (fs.take k)++K7 f:=by
   unfold fQ;rw[cP,hfk,bG,RO];show _++[K7 f].flatten=_;rw[KJ]
  rw[e];rfl
 ·obtain⟨s2,rfl⟩:=hP;rw[aB,dY];exact⟨_,rfl,h⟩
def aLy:dD P w K mg base gA 1 a_8 f_8 ["field"] (lO K aHc):=by
 refine fnF T.D_8.F aHl (λds Q h=>by obtain⟨f,rfl,h2,h5,h⟩:=h;rfl) λcdv Ar outer s H E hr ds Q h=>?_;obtain⟨f,rfl,h2,h5,h⟩:=h;have nd:=aHl.nd;refine⟨_,(cS (ss 1 nd (cZ bW eN (aK 0) aN))
 (cS (ss 2 nd (cZ bW eN (aK 0) aN))
 (cS (ss 3 nd (B7 (eP jM nB (cB jZ (aD (aK 2) aU) dR T.b_len iG) aN) (fR iQ oY (aK 2) hV (gI aN)) (aK 2)))
 (cS (ss 4 nd (fR iQ oY (aK 2) (gI aN) (gI (L6 aN))))
 (cM (NC (aFo (el (fr:=[none,some 1]) (N':=["value","name"]) (fL (aK 3)) (λb=>⟨(eK (pk 0)),iA,(eD (aD jT (aD (aK 1) (aD (aK 0) aU))))⟩)) (el (fr:=[none,some 1]) (N':=["value","name"]) (fL (aK 4)) (λb=>⟨(eK (pk 0)),iA,(eD (aD jT (aD (aK 1) (aD (aK 0) aU))))⟩))))))))),?_⟩
 show kI _ _ _ [.val (kZ f),.un,.un,.un,.un];refine eU (.str f.1) (λq hq=>⟨_,rfl,_,rfl,hq⟩) ?_;refine eU (.tuple (f.2.map aY)) (λq hq=>⟨_,rfl,_,rfl,hq⟩) ?_;refine eU (.tuple ((uT f).map aY)) (λq hq=>⟨_,rfl,?_⟩) ?_
 ·show(if decide (((f.2.map aY).length:Int)=2)=true then _ else _);unfold uT at hq;rw[aB];by_cases e:f.2.length=2
  ·rw[if_pos (decide_eq_true (by omega))];rw[if_pos e]at hq;refine⟨_,rfl,?_⟩;show q (.tuple (iB (f.2.map aY) none (some 1)));rw[rZ,OS _ h2];exact hq
  ·rw[if_neg (by simpa using(by omega:¬(f.2.length:Int)=2))];rw[if_neg e]at hq;exact⟨_,rfl,hq⟩
 refine eU (.tuple ((yE f).map aY)) (λq hq=>⟨_,rfl,?_⟩) ?_
 ·show q (.tuple (iB (f.2.map aY) (some 1) (some (-2))));rw[rZ,Z4 _ h2];exact hq
 have s5:(uT f).length<=5:=by
  unfold uT;split
  ·rw[bC];omega
  ·omega
 have m5:(yE f).length<=5:=by
  unfold yE;rw[bC,eG];omega
 dsimp only[aCj,aC4];refine iC (ts:=(uT f).map aY) (λR h=>⟨_,rfl,_,rfl,h⟩) (λx=>.tuple [.str "is",.str f.1,x]) (by rw[aB];omega) (λx q hx hq=>⟨_,rfl,_,rfl,aC rfl,hq⟩) ?_;refine iC (ts:=(yE f).map aY) (λR h=>⟨_,rfl,_,rfl,h⟩) (λx=>.tuple [.str "upto",.str f.1,x]) (by rw[aB];omega) (λx q hx hq=>⟨_,rfl,_,rfl,aC rfl,hq⟩) ?_;refine⟨_,_,rfl,rfl,by simp only[aB];omega,?_⟩;rw[bM,bM];exact h
def aLx
  (F_7:dD P w K mg base gA 2 a_7 f_7 ["form"] (lO K aHd)):dD P w K mg base gA 3 a_9 f_9 ["form"] (cO K aHb):=by
 refine xJ T.D_9.F aHk (λds Q h=>by obtain⟨fs,an,rfl,F,h⟩:=h;rfl) λcdv Ar outer s H E hr ds Q h=>?_;obtain⟨fs,an,rfl,F,h⟩:=h;have nd:=aHk.nd;refine⟨_,(cS (so 1 nd aU)
 (cS (sf (fL (OR (cF F_7 T.D_7 hr (aD (aK 0) aU)))) (eK (pn 2 nd))
 (cM (ND (i:=1) (pv 1) (el (fr:=[none,some 2]) (N':=["stray","question"]) (fL (ZL rfl T.c_SIDES T.t_SIDES)) (λb=>⟨(eK (pk 0)),iA,(eD (aD (aK 1) (aD (aK 0) aU)))⟩)) (pb:=λh=>oK (nP dS DO DL N7 (pv 1) h)))))
 (sV 1 (cM (dQ (aK 1)))))),?_⟩
 show kI _ _ _ [.val (fC fs an),.un,.un];have n5:=F.n5;have hcl:=lZ F fs λg hg=>hg;have hql:(qs fs).length=(fQ fs).length:=by rw[<- wR,aB]
 refine pS [] (by decide) (λq hq=>hq) ?_
 refine lM (ts:=(qs fs).map qD) (λR h=>⟨_,rfl,fs,an,rfl,F,_,rfl,by rw[<- wR];exact h⟩)
  (λk σ=>∃s2:Sl,σ=[.val (fC fs an),.own ((((qs fs).take k).flatMap uS).map Z8),s2]) ⟨_,rfl⟩ (λk x σ' hx hP=>?_) λσ' hP=>?_
 ·obtain⟨s2,rfl⟩:=hP;rw[aI]at hx;obtain⟨q,hqk,rfl⟩:=bT.mp hx
  have hlen:((((qs fs).take k).flatMap uS).map Z8).length=2*((qs fs).take k).length:=by
   rw[aB]
   generalize (qs fs).take k=l
   induction l with
   |nil=>rfl
   |cons x l ih=>rw[rF,aV,ih,cU];show 2+_=_;omega
  have hk2:((qs fs).take k).length<=50:=by rw[bC];omega
  refine IN (us:=[Z8 (q,"yes"),Z8 (q,"no")]) rfl (by rw[hlen];show _+2<=_;omega) (λr hr=>?_) ⟨.val (qD q),?_⟩
  ·refine iC (ts:=[.str "yes",.str "no"]) (λR h=>⟨_,rfl,h⟩) (λx=>.tuple [qD q,x]) (by decide) (λx r' hx hr'=>⟨_,rfl,_,rfl,(aC rfl),hr'⟩) hr
  ·rw[cP,hqk];show _=[_,Sl.own (((((qs fs).take k)++[q]).flatMap uS).map Z8),_];rw[RP,bG];rfl
 ·obtain⟨s2,rfl⟩:=hP;rw[aB,dY];exact⟨_,rfl,_,rfl,h⟩
def aJa
  (F_12:dD P w K mg base gA 2 a_12 f_12 ["question","stray","field"] (cO K aBk))
  (F_11:dD P w K mg base gA 1 a_11 f_11 ["form","question"] (cO K aBl)):dD P w K mg base gA 3 a_10 f_10 ["form","question","stray","case"] (cO K SQ):=by
 refine xJ T.D_10.F aCh (λds Q h=>by obtain⟨fs,an,k,n,v,st,cs,rfl,F,hq,hst,hc,h⟩:=h;rfl) λcdv Ar outer s H E hr ds Q h=>?_;obtain⟨fs,an,k,n,v,st,cs,rfl,F,hq,hst,hc,h⟩:=h;have nd:=aCh.nd;refine⟨_,(cS (ss 4 nd (cd F_11 T.D_11 hr (aD (aK 0) (aD (aK 1) aU))))
 (cM (dQ (B7 (eP (LG hr) UA (cZ bW eN (aK 3) (aK 4)) (cd F_12 T.D_12 hr (aD (aK 1) (aD (aK 2) (aD (cZ bW eN (cZ bW eN (aK 0) aN) (aK 4)) aU))))) jT jT)))),?_⟩
 show kI _ _ _ [.val (fC fs an),.val (.tuple [.str k,.str n,.str v]),.val (.str st),.val (.tuple cs),.un];obtain⟨hcl,hcv⟩:=pD hc;obtain⟨f0,hf0,hfn,hv0,hk0⟩:=GB hq;obtain⟨j,hj⟩:=bV hf0;have hjl:=(aG.mp hj).1;have hcj:cs[j]?=some cs[j]:=aF (by omega)
 generalize hcc:cs[j]=c at hcj
 have hca:L2.atI cs (j:Int)=some c:=L2.fZ hcj;have hfa:L2.atI (fs.map kZ) (j:Int)=some (kZ f0):=L2.fZ (by rw[aI,hj];rfl);have hok:=hcv j f0 c hj hcj;rw[BH F hj hcj hfn]at h
 have hcd:Cd c:=by
  cases c with
  |none=>exact(FO (n:=8) (m:=0)).cd (by decide)
  |str z=>exact(pQ (F.vals hf0 z (of_decide_eq_true hok)) (n:=8) (m:=0) (aO _)).cd (by decide)
  |_=>cases hok
 refine eU (.int (j:Int)) (λq hq=>⟨_,rfl,_,rfl,fs,an,k,n,v,f0,j,rfl,F,hj,hfn,hq⟩) ?_;refine⟨_,rfl,_,rfl,_,hca,_,rfl,_,rfl,_,rfl,_,rfl,_,rfl,_,hfa,k,n,v,st,f0,rfl,F.vals hf0,hv0,(F.vs f0 hf0).2.1,VL (T8 (F.vals hf0) hv0 hcd) ?_⟩;rw[<- U7 hst hok]at h;show(if JE c (.tuple (vA k v st f0))=true then _ else _)
 cases hb:JE c (.tuple (vA k v st f0))with
 |true=>rw[if_pos rfl];rw[hb,if_pos rfl]at h;exact h
 |false=>rw[if_neg (by decide)];rw[hb,if_neg (by decide)]at h;exact h
def aI9:dD P w K mg base gA 1 a_11 f_11 ["form","question"] (cO K aBl):=by
 refine xJ T.D_11.F aCg (λds Q h=>by obtain⟨fs,an,k,n,v,f0,j,rfl,F,hj,hfn,h⟩:=h;rfl) λcdv Ar outer s H E hr ds Q h=>?_;obtain⟨fs,an,k,n,v,f0,j,rfl,F,hj,hfn,h⟩:=h;have nd:=aCg.nd;refine⟨_,(cM (dQ (ER (el (fr:=[none]) (N':=["field"]) (fL (cZ bW eN (aK 0) aN)) (λb=>⟨(eK (pk 0)),iA,(cZ bW eN (aK 0) aN)⟩)) (aD (cZ bW eN (aK 1) aN) aU) (λh ha=>nP dS FD FB (EB hr) h ha)))),?_⟩;have n5:=F.n5;have hjl:=(aG.mp hj).1;have ej:(fs.map (·.1)).idxOf n=j:=by rw[<- hfn];exact A2 F hj
 have hnm:n∈fs.map (·.1):=aQ.mpr ⟨f0,aW hj,hfn⟩;show GJ _ _ _ Q;dsimp only[GJ];refine iC (ts:=fs.map kZ) (λR h=>⟨_,rfl,_,rfl,_,rfl,h⟩) fst (by rw[aB];omega) (λx q hx hq=>?_) ?_
 ·obtain⟨f,hf,rfl⟩:=aQ.mp hx;exact⟨_,rfl,_,rfl,hq⟩
 ·have e:(fs.map kZ).map fst=(fs.map (·.1)).map aY:=by rw[bM,bM];rfl
  rw[e];have:=qV F.nd.2.1 hnm;rw[ej]at this;exact⟨_,rfl,_,rfl,_,rfl,_,j,rfl,this,by omega,h⟩
def aI8
  (F_13:dD P w K mg base gA 1 a_13 f_13 ["question","field"] (cO K aBj)):dD P w K mg base gA 2 a_12 f_12 ["question","stray","field"] (cO K aBk):=by
 refine xJ T.D_12.F aCf (λds Q h=>by obtain⟨k,n,v,st,f,rfl,hn,hv,hl,h⟩:=h;rfl) λcdv Ar outer s H E hr ds Q h=>?_;obtain⟨k,n,v,st,f,rfl,hn,hv,hl,h⟩:=h;have nd:=aCf.nd;refine⟨_,(cM (dQ (dH cA fN (cd F_13 T.D_13 hr (aD (aK 0) (aD (aK 2) aU))) (B7 (eP jM nB (aK 1) jT) (eD (aD yT aU)) (eD aU))))),?_⟩;have hhl:=VC (k:=k) (v:=v) hl;refine⟨_,rfl,_,rfl,k,n,v,f,rfl,hn,hv,hl,_,rfl,?_⟩;unfold vA at h;show(if decide (st="yes")=true then _ else _);by_cases e:st="yes"
 ·rw[if_pos (decide_eq_true e)];rw[if_pos e]at h;exact⟨aC rfl,by rw[aB];show _+1<=_;omega,h⟩
 ·rw[if_neg (by simpa using e)];rw[if_neg e]at h;exact⟨aC rfl,by rw[aB];show _+0<=_;omega,h⟩
def aI7:dD P w K mg base gA 1 a_13 f_13 ["question","field"] (cO K aBj):=by
 refine xJ T.D_13.F aCe (λds Q h=>by obtain⟨k,n,v,f,rfl,hn,hv,hl,h⟩:=h;rfl) λcdv Ar outer s H E hr ds Q h=>?_;obtain⟨k,n,v,f,rfl,hn,hv,hl,h⟩:=h;have nd:=aCe.nd;refine⟨_,(cS (iT (eP jM nB (cZ bW eN (aK 0) aN) jT)
 (cM (dQ (eD (aD (cZ bW eN (aK 0) aN) aU))))
 hX)
 (cM (dQ (fR iQ oY (cZ bW eN (aK 1) aN) hV (gI (dH cA fN (xK (cZ bW eN (aK 1) aN) (aD (cZ bW eN (aK 0) aN) aU) (λh ha=>nP lJ lH lG (xA hr) h ha)) aN)))))),?_⟩
 show kI _ _ _ [.val (.tuple [.str k,.str n,.str v]),.val (kZ f)];unfold B4 at h;refine jF (λb=>b=decide (k="is")) (λq hq=>⟨_,rfl,_,rfl,hq _ rfl⟩) (λhT=>?_) λhF=>?_
 ·rw[if_pos (of_decide_eq_true hT.symm)]at h;exact⟨_,rfl,_,rfl,aC rfl,h⟩
 ·try unfold oV
  dsimp only;rw[if_neg (of_decide_eq_false hF.symm)]at h;refine⟨_,rfl,_,rfl,_,rfl,_,rfl,_,rfl,_,rfl,_,rfl,_,_,rfl,qV hn hv,?_⟩;show Q (.tuple (iB (f.2.map aY) none (some ((f.2.idxOf v:Int)+1))));have e:((f.2.idxOf v:Nat):Int)+1=((f.2.idxOf v+1:Nat):Int):=rfl;rw[e,rZ,yW];exact h
def aI6:dD P w K mg base gA 1 a_14 f_14 ["sides","fewest"] (cO K aBi):=by
 refine xJ T.D_14.F aCd (λds Q h=>by obtain⟨xs,ys,rfl,h⟩:=h;rfl) λcdv Ar outer s H E hr ds Q h=>?_;obtain⟨xs,ys,rfl,h⟩:=h;have nd:=aCd.nd;refine⟨_,(cM (dQ (rY (pB IM qB (cB jZ (aD (cZ bW eN (aK 0) aN) aU) dR T.b_len iG) (aK 1)) (yS (pB IM qB (cB jZ (aD (cZ bW eN (aK 0) aN) aU) dR T.b_len iG) (aK 1)))))),?_⟩;show PX _ _ [.val (.tuple [jC xs,jC ys]),.val (.int 1)]
 have e:∀zs:List Nat,decide ((1:Int)<=((zs.map λ(i:Nat)=>aH (i:Int)).length:Int))=!zs.isEmpty:=λzs=>by
  cases zs with
  |nil=>rfl
  |cons z zs=>rw[aB];exact decide_eq_true (by simp only[cU];omega)
 refine⟨_,rfl,_,rfl,_,rfl,?_⟩;show(if decide ((1:Int)<=((xs.map λ(i:Nat)=>aH (i:Int)).length:Int))=true then _ else _);rw[e xs]
 cases xs with
 |nil=>rw[if_neg (by decide)];exact h
 |cons x xs=>
  rw[if_pos (by rfl)];refine⟨_,rfl,_,rfl,_,rfl,?_⟩;show Q (.bool (decide ((1:Int)<=((ys.map λ(i:Nat)=>aH (i:Int)).length:Int))));rw[e ys];exact h
def aI5
  (F_10:dD P w K mg base gA 3 a_10 f_10 ["form","question","stray","case"] (cO K SQ)):dD P w K mg base gA 4 a_15 f_15 ["form","choice","rows"] (cO K aBh):=by
 refine xJ T.D_15.F aCc (λds Q h=>by obtain⟨fs,an,c,rs,rfl,F,hc,hrs,hl,h⟩:=h;rfl) λcdv Ar outer s H E hr ds Q h=>?_;obtain⟨fs,an,c,rs,rfl,F,hc,hrs,hl,h⟩:=h;have nd:=aCc.nd;refine⟨_,(cM (dQ (el (fr:=[none,some 0,some 1]) (N':=["row","form","choice"]) (fL (aK 2)) (λb=>⟨(eK (pk 0)),iA,(cd F_10 T.D_10 hr (aD (aK 1) (aD (cZ bW eN (aK 2) aN) (aD (cZ bW eN (aK 2) aN) (aD (cZ bW eN (aK 0) aN) aU)))))⟩)))),?_⟩;show PX _ _ [.val (fC fs an),.val (Z8 c),.val (.list (rs.map fE))];obtain⟨hq,hs⟩:=V6 hc;refine iC (ts:=rs.map fE) (λR h=>⟨_,rfl,_,rfl,h⟩) (λx=>match x with | .tuple [.tuple cs,_]=>.str (mD fs c.1.1 c.1.2.1 c.1.2.2 c.2 cs) | _=>.none) (by rw[aB];omega) (λx q' hx hq'=>?_) ?_
 ·obtain⟨r,hr',rfl⟩:=aQ.mp hx;exact⟨_,rfl,_,rfl,_,rfl,_,rfl,_,rfl,_,rfl,_,rfl,fs,an,c.1.1,c.1.2.1,c.1.2.2,c.2,r.1,rfl,F,K6 hq,hs,(hrs r hr').1,hq'⟩
 ·rw[bM];exact h
def aIy:dD P w K mg base gA 1 a_22 f_22 ["_law_script"] (N9 K aBb):=by
 refine aJt T.D_22.F aB5 λcdv Ar outer s H E hr=>?_;have nd:=aB5.nd;refine⟨_,_,_,_,rfl,(ss 1 nd (rY (pB zL qB (cB jZ (aD (aK 0) aU) dR T.b_len iG) aN) (yS (pB jM nB (dH kO A1 (cZ bW eN (aK 0) aN) aN) aN)))),(YF (wT oX (pv 0) (wT oX LD (wT oX LD (wT oX (pv 1) X8)))) rfl rfl (λz=>nomatch z) (by decide)),λns Q h=>?_⟩;refine⟨_,rfl,?_⟩;show(if decide (((ns.map aH).length:Int)>0)=true then _ else Q (.bool false));split
 ·next hb=>
  have hb':((ns.map aH).length:Int)>0:=of_decide_eq_true hb;rw[aB]at hb';have hn:0<ns.length:=by omega
  have e:L2.atI (ns.map aH) 0=some (.int ns[0]):=L2.fZ (j:=0) (by rw[aI,aF hn];rfl);exact⟨_,rfl,_,e,(show(0:Int)<2 by decide),h _ λ_=>hn⟩
 ·exact h false λz=>by cases z
def aIx:dD P w K mg base gA 1 a_23 f_23 ["_law_tape_here","_law_many"] (fP K wH):=by
 refine fnC T.D_23.F aB4 (λτ n ds Q h=>by obtain⟨m,rfl,hm0,hm1,hc,h⟩:=h;rfl) λcdv Ar outer s H E hr Tp c ds Q hdig h=>?_;obtain⟨m,rfl,hm0,hm1,hc,h⟩:=h;have nd:=aB4.nd;refine⟨_,(cJ (sC 2 nd (ZT hr (pv 0)))
 (cJ (sC 3 nd (ZW hr (pv 0)))
 (cJ (XV hr (pv 0) (dF (dH cA fN (aK 3) aN)))
 (cJ (wN (aD2 (ZV hr (pv 0)) (λh=>TJ h))
 (cJ (wN (HL (eP jM nB (dH kO A1 (aK 3) aN) aN))
 (iR (NJ hr (pv 0) (dF (dH A0 A1 (cZ bW eN (aK 2) (dH kO A1 (dH A0 A1 (aK 3) aN) (cB jZ (aD (aK 2) aU) dR T.b_len iG))) aN))))
 rR)
 (cJ (sC 4 nd (ZU hr (pv 0)))
 (cJ (NJ hr (pv 0) (dF (dH A0 A1 (aK 4) (aK 1))))
 (iR (kW (dQ (dH kO A1 (aK 4) (aK 1))))))))
 rR)
 (cJ (kW (ss 5 nd (dH cA fN (dH cA fN (dH iZ sM (aK 3) (aK 3)) (dH iZ sM aN (aK 3))) aN)))
 (cJ (kW (iT (eP zL qB (cB jZ (aD (aK 2) aU) dR T.b_len iG) aN)
 (cM (ss 5 nd (dH cA fN (aK 5) (dH kO A1 (cZ bW eN (aK 2) (dH kO A1 (aK 3) (cB jZ (aD (aK 2) aU) dR T.b_len iG))) aN))))
 hX))
 (cJ (kW (ss 5 nd (dH kO A1 (dH iZ sM (dH cA fN (dH kO A1 (dH iZ sM (aK 5) aN) aN) (aK 3)) aN) aN)))
 (iR (kW (dQ (dH kO A1 (dH kO A1 (dH iZ sM (dH cA fN (dH iZ sM (aK 5) (aK 5)) (aK 3)) aN) aN) (aK 1)))))))))))),?_⟩
 show mB _ _ _ _ _ [.val (nX Tp),.val (.int m),.un,.un,.un,.un];have p50:(0:Int)<50:=by decide
 refine OU (.list (Tp.ns.map aH)) (λq hq=>⟨rfl,hq⟩) ?_;refine OU (.int (c:Int)) (λq hq=>⟨rfl,hq⟩) ?_;refine(show mB (aDb _ _) _ _ _ _ _ from⟨_,rfl,rfl,rfl,?_⟩);dsimp only;refine yX Tp.b (λq hq=>⟨rfl,hq⟩) (λhb=>?_) λ_=>?_
 ·have hn:=hdig hb;have hp:(0:Int)<((Tp.ns.map aH).length:Nat):=by rw[aB];omega
  obtain⟨x,hx⟩:=J0 hn ((c:Int) / 50);refine V4 rfl (decide ((c:Int)%50=0)) (λq hq=>⟨_,rfl,p50,hq⟩) (λq hq=>⟨_,rfl,_,rfl,⟨by decide,by decide⟩,_,rfl,hp,_,hx,⟨by decide,by decide⟩,hq _⟩) ?_;refine(show mB (MF _ _) _ _ _ _ _ from⟨rfl,λl=>?_⟩);dsimp only;refine(show mB (WB _ _) _ _ _ _ _ from⟨_,rfl,_,rfl,⟨hm0,by omega⟩,⟨_,rfl⟩,rfl,?_⟩);exact⟨_,rfl,_,rfl,hm0,h _ (pJ _ (by omega)) (mY _ hm0)⟩
 ·try unfold E2
  dsimp only;have cm:MT (c:Int) (c:Int):=.inl ⟨by omega,by omega⟩;refine gJ (tD (λd=>∃x:Int,d=.int x) (λq hq=>⟨_,rfl,_,rfl,cm,_,rfl,.inl ⟨by decide,by decide⟩,hq _ ⟨_,rfl⟩⟩) ?_);rintro _ ⟨x,rfl⟩;refine gJ (KZ (0<Tp.ns.length) (λd=>∃x:Int,d=.int x) (λq hq=>⟨_,rfl,hq _ λhb=>?_⟩) (λhn q hq=>?_) (.int x) rfl ⟨x,rfl⟩ ?_)
  ·have hb':((Tp.ns.map aH).length:Int)>0:=of_decide_eq_true hb;rw[aB]at hb';omega
  ·have hp:(0:Int)<((Tp.ns.map aH).length:Nat):=by rw[aB];omega
   obtain⟨y,hy⟩:=J0 hn (c:Int);exact⟨_,rfl,_,rfl,_,rfl,_,rfl,hp,_,hy,(show(0:Int)<1000003 by decide),hq _ ⟨_,rfl⟩⟩
  rintro _ ⟨y,rfl⟩;refine gJ (tD (λd=>∃x:Int,d=.int x/\0<=x/\x<65519) (λq hq=>⟨_,rfl,.inr ⟨by decide,by decide⟩,(show(0:Int)<999983 by decide),_,rfl,.inr ⟨by decide,by decide⟩,(show(0:Int)<65519 by decide),hq _ ⟨_,rfl,pJ _ (by decide),mY _ (by decide)⟩⟩) ?_);rintro _ ⟨z,rfl,z0,z1⟩;exact⟨_,rfl,_,rfl,.inl ⟨by omega,by omega⟩,_,rfl,.inr ⟨by decide,by decide⟩,(show(0:Int)<65521 by decide),_,rfl,hm0,h _ (pJ _ (by omega)) (mY _ hm0)⟩
def aIw
  (F_23:dD P w K mg base gA 1 a_23 f_23 ["_law_tape_here","_law_many"] (fP K wH)):dD P w K mg base gA 2 a_24 f_24 ["_law_tape_here","_law_many"] (fP K aBa):=by
 refine fnC T.D_24.F aB3 (λτ n ds Q h=>by obtain⟨m,rfl,hm1,hm5,hc,h⟩:=h;rfl) λcdv Ar outer s H E hr Tp c ds Q hdig h=>?_;obtain⟨m,rfl,hm1,hm5,hc,h⟩:=h;have nd:=aB3.nd;refine⟨_,(cJ (sC 2 nd (cc F_23 T.D_23 hr (bB (dF (aK 0)) (bB (dF aN) dJ))))
 (cJ (sC 3 nd (cc F_23 T.D_23 hr (bB (dF (aK 0)) (bB (dF aN) dJ))))
 (cJ (kW (ss 4 nd jT))
 (cJ (kW (NB (i:=5) nd rfl (by first | exact Or.inl rfl | exact Or.inr rfl) (pA (RF (by repeat constructor)))))
 (cJ (kW (iT (eP jM nB (aK 2) aN)
 (cM (dQ (cY sG (aD (el (fr:=[none,some 5,some 3]) (N':=["_law_k","_law_words","_law_first"]) (mR (aD (aK 1) aU) (λh=>kC rfl T.b_range h)) (λb=>⟨(eK (pk 0)),iA,(cZ bW eN (aK 1) (dH kO A1 (dH cA fN (aK 2) (dH iZ sM aN (aK 0))) aN))⟩)) aU) jH T.b_tuple lF)))
 hX))
 (cJ (sC 6 nd (ZS jT (bB (elC (fr:=[none,some 4,some 0]) (N':=["_law_k","_law_letters","_law_tape_here"]) (mR (aD aN aU) (λh=>kC rfl T.b_range h)) (λb=>⟨(eK (pk 0)),iA,(JN bW eN (dF (aK 1)) (cc F_23 T.D_23 hr (bB (dF (aK 2)) (bB (dF aN) dJ))))⟩)) dJ) (λh ha=>nP PySem.F.plainAttrs_str PySem.F.slot_str_join PySem.F.type_str_join YT h ha)))
 (cJ (kW (iT (eP jM nB (aK 2) aN)
 (cS (wG (i:=7) (fr:=[none,some 6]) (N':=["_law_k","_law_base"]) (mR (aD (aK 1) aU) (λh=>kC rfl T.b_range h)) (λb=>⟨(eK (pk 0)),iA,(fR iQ oY (aK 1) hV (gI (dH cA fN (aK 0) aN)))⟩) (λhi hY=>qT (show sN _ (bP (iW 30)) ["_law_tape_here","_law_many","_law_way","_law_first","_law_letters","_law_words","_law_base","_law_names_here","_law_at"] ["_law_k","_law_base"] [none,some 6]=true from by decide +kernel) nd rfl (by first | exact Or.inl rfl | exact Or.inr rfl) rfl hi hY rfl))
 (cM (dQ (cY sG (aD (dH cA fN (fR iQ oY (aK 7) (gI (dH kO A1 (aK 3) (aK 1))) hV) (fR iQ oY (aK 7) hV (gI (dH kO A1 (aK 3) (aK 1))))) aU) jH T.b_tuple lF))))
 hX))
 (cJ (sC 8 nd (cc F_23 T.D_23 hr (bB (dF (aK 0)) (bB (dF aN) dJ))))
 (iR (kW (dQ (cY sG (aD (el (fr:=[none,some 6,some 4,some 8,some 3]) (N':=["_law_k","_law_base","_law_letters","_law_at","_law_first"]) (mR (aD (aK 1) aU) (λh=>kC rfl T.b_range h)) (λb=>⟨(eK (pk 0)),iA,(dH cA fN (dH cA fN (fR iQ oY (aK 1) hV (gI (aK 3))) (cZ bW eN (aK 2) (dH kO A1 (dH cA fN (aK 4) (dH iZ sM aN (aK 0))) aN))) (fR iQ oY (aK 1) (gI (aK 3)) hV))⟩)) aU) jH T.b_tuple lF)))))))))))),?_⟩
 show mB _ _ _ _ _ [.val (nX Tp),.val (.int m),.un,.un,.un,.un,.un,.un,.un];refine iD (λn1 d=>n1=c+1/\∃w:Int,d=.int w) (λq hq=>⟨_,rfl,_,rfl,3,rfl,by decide,by decide,by omega,λr _ _=>hq _ _ ⟨rfl,r,rfl⟩⟩) ?_;rintro c1 _ ⟨hc1,w,rfl⟩;refine iD (λn1 d=>n1=c+2/\∃s:Nat,d=.int (s:Int)) (λq hq=>⟨_,rfl,_,rfl,26,rfl,by decide,by decide,by omega,λr h0 _=>hq _ _ ⟨by omega,(IS h0).imp λ_ e=>by rw[e]⟩⟩) ?_;rintro c2 _ ⟨hc2,s,rfl⟩;refine gJ (eU (.str iJ) (λq hq=>hq) ?_);refine gJ (eU (.list (rN.map aY)) (λq hq=>⟨by decide,hq⟩) ?_);refine gJ (jF (λ_=>True) (λq hq=>⟨_,rfl,hq _ trivial⟩) (λ_=>?_) λ_=>?_)
 ·show oG (f1 GF) _ _ _;dsimp only[oG,xO,WJ];refine iC (ts:=eW m) (λR h=>⟨_,rfl,(m:Int),rfl,by omega,by omega,by simpa using h⟩) (λx=>match x with | .int j=>.str (wAt ((s+3*j.toNat)%10)) | _=>.none) (by rw[lY];omega) (λx q hx hq=>?_) ?_
  ·obtain⟨j,hj,rfl⟩:=aQ.mp hx;have hj':j<m:=by simpa using hj
   have e:((s:Int)+3*(j:Int))%10=(((s+3*j)%10:Nat):Int):=by omega
   have hat:L2.atI (rN.map aY) (((s:Int)+3*(j:Int))%10)=some (.str (wAt ((s+3*j)%10))):=by
    rw[e];exact L2.fZ (by rw[aI,AQ (iY _ (by decide))];rfl)
   exact⟨_,rfl,_,rfl,_,rfl,.inl ⟨by decide,by decide⟩,(show(0:Int)<10 by decide),_,hat,hq⟩
  ·unfold eW;rw[bM];have:=h c2 _ (by omega) (IQ (s:=s) (m:=m) (by omega));rw[bM]at this;exact this
 ·try unfold oV
  dsimp only;refine iD (λn1 d=>n1<=c+9/\∃z:Str,d=.str z/\z.cps.toList.length=7/\∀c∈z.cps.toList,c∈iJ.cps.toList) (λq hq=>?_) ?_
  ·refine⟨_,rfl,?_⟩;refine MB (ts:=eW 7) (λR h=>⟨7,rfl,by decide,by decide,h⟩) (λ_ _ y=>∃c,c∈iJ.cps.toList/\y=.str ⟨#[c]⟩) 1 (by decide) (λj k x q hx hk hq=>?_) λk ys hk hl' hy=>?_
   ·rw[aK9]at hk;have hj:=(vU hx).1;refine⟨_,rfl,_,rfl,_,rfl,26,rfl,by decide,by decide,by omega,λr h0 h1=>?_⟩;obtain⟨c,hc,hcc,_⟩:=CN (xs:=iJ.cps.toList) (i:=r) h0 (by rw[zQ];exact h1);exact⟨by decide,c,hcc,hq _ _ (aO _) ⟨c,hc,rfl⟩⟩
   ·obtain⟨cs,rfl,hcl⟩:=HW (ys:=ys) λy hy'=>by
     obtain⟨j,hj,rfl⟩:=vI.mp hy';have hjt:j<(eW 7).length:=by rw[<- hl'];exact hj
     exact hy j (eW 7)[j] _ (aF hjt) (aF hj)
    have hl7:cs.length=7:=by rw[aB,lY]at hl';exact hl'
    rw[lY]at hk;refine⟨cs.map λc=>⟨#[c]⟩,by rw[bM];rfl,?_,hq _ _ ⟨by omega,_,rfl,?_,?_⟩⟩
    ·rw[aB,bM,hl7]
     have:(vJ ((λx:Str=>x.length)∘λc=>(⟨#[c]⟩:Str)) cs).sum=cs.length:=by
      clear hl7 hl' hy hcl
      induction cs with
      |nil=>rfl
      |cons a l ih=>rw[aX,aGo,ih,cU];show 1+_=_;omega
     rw[this,hl7];decide
    ·rw[show(Txt.join (Str.ofString "") (cs.map λc=>⟨#[c]⟩)).cps.toList=cs from B3 cs];exact hl7
    ·rw[show(Txt.join (Str.ofString "") (cs.map λc=>⟨#[c]⟩)).cps.toList=cs from B3 cs];exact hcl
  rintro c3 _ ⟨hc3,z,rfl,hz7,hzl⟩
  have hz:z.length<=100000:=by
   have:z.length=z.cps.toList.length:=by simp[Str.length]
   omega
  refine gJ (jF (λ_=>True) (λq hq=>⟨_,rfl,hq _ trivial⟩) (λ_=>?_) λ_=>?_)
  ·refine eU (.list (((cQ m).map λj:Nat=>Txt.slice z none (some ((j:Int)+1))).map aY)) (λq hq=>?_) ?_
   ·refine iC (ts:=eW m) (λR h=>⟨_,rfl,(m:Int),rfl,by omega,by omega,by simpa using h⟩) (λx=>match x with | .int j=>.str (Txt.slice z none (some (j+1))) | _=>.none) (by rw[lY];omega) (λx q hx hq=>?_) ?_
    ·obtain⟨j,hj,rfl⟩:=aQ.mp hx;exact⟨_,rfl,_,rfl,hz,hq⟩
    ·unfold eW;rw[bM];rw[bM]at hq;exact hq
   have hnb:=UD hz7 hzl (m:=m) (by omega);have e:(s:Int)%(m:Int)=((s%m:Nat):Int):=by omega
   have fin:∀ys:List Str,KF m ys->(iB (ys.map aY) (some ((s:Int)%(m:Int))) none).length+(iB (ys.map aY) none (some ((s:Int)%(m:Int)))).length<=100000/\Q c3 (.tuple (iB (ys.map aY) (some ((s:Int)%(m:Int))) none++iB (ys.map aY) none (some ((s:Int)%(m:Int))))):=λys hy=>by
    have h1:=hy.1;rw[e,rZ,rZ,<- bG,aB,aB,L9,yW,eG,bC];exact⟨by omega,h _ _ (by omega) (QA hy (s%m))⟩
   have hm0:(0:Int)<(m:Int):=by omega
   exact⟨_,rfl,_,rfl,_,rfl,hm0,_,rfl,_,rfl,_,rfl,hm0,fin _ hnb⟩
  ·try unfold oV
   dsimp only;refine iD (λn1 d=>n1<=c+10/\∃t:Nat,d=.int (t:Int)) (λq hq=>⟨_,rfl,_,rfl,8,rfl,by decide,by decide,by omega,λr h0 _=>hq _ _ ⟨by omega,(IS h0).imp λ_ e=>by rw[e]⟩⟩) ?_;rintro c4 _ ⟨hc4,t,rfl⟩;show oG (f1 GF) _ _ _;dsimp only[oG,xO,WJ];refine iC (ts:=eW m) (λR h=>⟨_,rfl,(m:Int),rfl,by omega,by omega,by simpa using h⟩) (λx=>match x with | .int j=>.str (EK z t (RB ((s+7*j.toNat)%26))) | _=>.none) (by rw[lY];omega) (λx q hx hq=>?_) ?_
   ·obtain⟨j,hj,rfl⟩:=aQ.mp hx;have e:((s:Int)+7*(j:Int))%26=(((s+7*j)%26:Nat):Int):=by omega
    have hc:=A5 (i:=(s+7*j)%26) (iY _ (by decide));have hca:L2.atI iJ.cps.toList (((s:Int)+7*(j:Int))%26)=some (RB ((s+7*j)%26)):=by rw[e];exact L2.fZ hc
    obtain⟨w1,w2⟩:=QR z hz7 t (RB ((s+7*j)%26));exact⟨_,rfl,_,rfl,hz,_,rfl,_,rfl,_,rfl,.inl ⟨by decide,by decide⟩,(show(0:Int)<26 by decide),by decide,_,hca,w1,_,rfl,_,rfl,hz,w2,hq⟩
   ·unfold eW;rw[bM];have:=h c4 _ (by omega) (YR hz7 hzl (t:=t) (s:=s) (m:=m) (by omega));rw[bM]at this;exact this
def aIv
  (F_23:dD P w K mg base gA 1 a_23 f_23 ["_law_tape_here","_law_many"] (fP K wH))
  (F_24:dD P w K mg base gA 2 a_24 f_24 ["_law_tape_here","_law_many"] (fP K aBa)):dD P w K mg base gA 3 a_25 f_25 ["_law_tape_here","_law_fields","_law_values"] (fP K aA9):=by
 refine fnC T.D_25.F aB2 (λτ n ds Q h=>by obtain⟨f,v,rfl,hf1,hf5,hv2,hv5,hc,h⟩:=h;rfl) λcdv Ar outer s H E hr Tp c ds Q hdig h=>?_;obtain⟨f,v,rfl,hf1,hf5,hv2,hv5,hc,h⟩:=h;have nd:=aB2.nd;refine⟨_,(cJ (sC 3 nd (cc F_24 T.D_24 hr (bB (dF (aK 0)) (bB (JN bW eN (dF (pA (aD aN (aD aN (aD aN (aD aN aU)))))) (cc F_23 T.D_23 hr (bB (dF (aK 0)) (bB (dF aN) dJ)))) dJ))))
 (cJ (sC 4 nd (cc F_24 T.D_24 hr (bB (dF (aK 0)) (bB (dF (aK 1)) dJ))))
 (iR (rQ (qF (bB (kT sG (bB (elC (fr:=[none,some 0,some 2]) (N':=["_law_name","_law_tape_here","_law_values"]) (fL (aK 4)) (λb=>⟨(eK (pk 0)),iA,(qF (bB (dF (aK 0)) (bB (cc F_24 T.D_24 hr (bB (dF (aK 1)) (bB (pC cA fN (dF aN) (cc F_23 T.D_23 hr (bB (dF (aK 1)) (bB (dF (dH lW vQ (aK 2) aN)) dJ)))) dJ))) dJ)))⟩)) dJ) jH T.b_tuple lF) (bB (dF (aK 3)) dJ))))))),?_⟩
 show mB _ _ _ _ _ [.val (nX Tp),.val (.int f),.val (.int v),.un,.un];refine iD (λn1 d=>n1<=c+13/\∃(m:Nat)(ys:List Str),2<=m/\m<=4/\KF m ys/\d=.tuple (ys.map aY)) (λq hq=>⟨_,rfl,by decide,_,rfl,_,rfl,4,rfl,by decide,by decide,by omega,λr h0 h1=>?_⟩) ?_
 ·obtain⟨d,hm,hat,_⟩:=CN (xs:=[aH 2,.int 3,.int 2,.int 4]) (i:=r) h0 h1
  have:∃m:Nat,d=.int (m:Int)/\2<=m/\m<=4:=by
   simp only[bH,gM,or_false]at hm;rcases hm with rfl | rfl | rfl | rfl
   ·exact⟨2,rfl,by decide,by decide⟩
   ·exact⟨3,rfl,by decide,by decide⟩
   ·exact⟨2,rfl,by decide,by decide⟩
   ·exact⟨4,rfl,by decide,by decide⟩
  obtain⟨m,rfl,hm2,hm4⟩:=this;exact⟨_,hat,_,rfl,m,rfl,by omega,by omega,by omega,λn' ys hn hy=>hq _ _ ⟨by omega,m,ys,hm2,hm4,hy,rfl⟩⟩
 rintro c1 _ ⟨hc1,ma,an,hma2,hma4,han,rfl⟩;refine iD (λn1 d=>n1<=c+25/\∃ys:List Str,KF f ys/\d=.tuple (ys.map aY)) (λq hq=>⟨_,rfl,_,rfl,_,rfl,f,rfl,hf1,hf5,by omega,λn' ys hn hy=>hq _ _ ⟨by omega,ys,hy,rfl⟩⟩) ?_;rintro c2 _ ⟨hc2,ns,hns,rfl⟩;have hnl:=hns.1;dsimp only[aKf,aKd,aDf,OX];refine MB (ts:=ns.map aY) (λR h=>⟨_,rfl,_,rfl,h⟩) (λ_ x y=>∃nm vs,x=.str nm/\y=kZ (nm,vs)/\(2<=vs.length/\vs.length<=v/\KF vs.length vs)) 13 (by rw[aB];omega) (λj k x q hx hk hq=>?_) λk ys hk hl' hy=>?_
 ·have hj:j<ns.length:=by have:=(aG.mp hx).1;rw[aB]at this;exact this
  obtain⟨nm,_,rfl⟩:=aQ.mp (aW hx);refine⟨_,rfl,_,rfl,_,rfl,_,rfl,_,rfl,(v:Int)-1,rfl,by omega,by omega,by omega,λr h0 h1=>?_⟩;obtain⟨t,rfl⟩:=IS h0
  have e:[aH (2+(t:Int))]=[.int ((2+t:Nat):Int)]:=by
   have:(2:Int)+(t:Int)=((2+t:Nat):Int):=by omega
   rw[this]
  exact⟨_,rfl,2+t,e,by omega,by omega,by omega,λn' vs hn hv=>⟨(aC rfl),hq _ _ (by omega) ⟨nm,vs,rfl,rfl,by rw[hv.1];omega,by rw[hv.1];omega,by rw[hv.1];exact hv⟩⟩⟩
 ·rw[aB]at hl' hk;obtain⟨fs,rfl,h1,h2⟩:=OO ns ys hl' hy;have hfl:fs.length=f:=by rw[<- hnl,<- h1,aB]
  have hal:=han.1;refine⟨_,rfl,(aC rfl),h k fs an (by omega) ⟨by omega,by omega,by rw[h1,hfl];exact hns,λx hx=>⟨(h2 x hx).1,by have:=(h2 x hx).2.1;omega,(h2 x hx).2.2⟩,by omega,by omega,by rw[hal];exact han⟩ hfl λx hx=>(h2 x hx).2.1⟩
def aIu
  (F_23:dD P w K mg base gA 1 a_23 f_23 ["_law_tape_here","_law_many"] (fP K wH)):dD P w K mg base gA 2 a_26 f_26 ["_law_tape_here","_law_form_here"] (fP K aA8):=by
 refine fnC T.D_26.F aB1 (λτ n ds Q h=>by obtain⟨fs,an,rfl,F,hc,h⟩:=h;rfl) λcdv Ar outer s H E hr Tp c ds Q hdig h=>?_;obtain⟨fs,an,rfl,F,hc,h⟩:=h;have nd:=aB1.nd;refine⟨_,(cJ (kW (ss 2 nd (eD aU)))
 (cJ (sfC (fL (cZ bW eN (aK 1) aN)) (uJ (nY rfl (eM (pn 3 nd) (eM (pn 4 nd) lN))))
 (cJ (sC 5 nd (cc F_23 T.D_23 hr (bB (dF (aK 0)) (bB (dF (dH iZ sM aN (cB jZ (aD (aK 4) aU) dR T.b_len iG))) dJ))))
 (iR (kW (ss 2 nd (dH cA fN (aK 2) (eD (aD (B7 (eP jM nB (dH kO A1 (aK 5) aN) aN) yT (cZ bW eN (aK 4) (dH A0 A1 (aK 5) aN))) aU))))))))
 (iR (kW (dQ (aK 2)))))),?_⟩
 show mB _ _ _ _ _ [.val (nX Tp),.val (fC fs an),.un,.un,.un,.un];have n5:=F.n5;refine gJ (eU (.tuple []) (λq hq=>⟨(aC rfl),hq⟩) ?_)
 refine GM (ts:=fs.map kZ) (λR h=>⟨_,rfl,_,rfl,_,rfl,h⟩)
  (λk m σ=>∃(cs:List D)(s3 s4 s5:Sl),σ=[.val (nX Tp),.val (fC fs an),.val (.tuple cs),s3,s4,s5]/\m<=c+k/\cs.length=k/\∀(j:Nat) f d,fs[j]?=some f->cs[j]?=some d->okV f d=true) ⟨[],_,_,_,rfl,aO _,rfl,λj f d _ h=>by simp at h⟩ (λk m x σ' hx hP=>?_) λm σ' hP=>?_
 ·obtain⟨cs,s3,s4,s5,rfl,hm,hcl,hcv⟩:=hP;have hk:k<fs.length:=by have:=(aG.mp hx).1;rw[aB]at this;exact this
  have ex:x=kZ fs[k]:=by rw[aI,aF hk]at hx;exact(Option.some.inj hx).symm
  subst ex;have hfk:fs[k]?=some fs[k]:=aF hk;obtain⟨v2,v5,hvv⟩:=F.vs _ (fA hk)
  generalize fs[k]=f at *
  refine⟨.str f.1,.tuple (f.2.map aY),rfl,?_⟩;refine iD (λn1 d=>n1=m+1/\∃t:Nat,d=.int (t:Int)/\t<5*f.2.length) (λq hq=>⟨_,rfl,_,rfl,.inl ⟨by decide,by decide⟩,_,rfl,5*((f.2.map aY).length:Int),rfl,by rw[aB];omega,by rw[aB];omega,by omega,λr h0 h1=>hq _ _ ⟨rfl,?_⟩⟩) ?_
  ·obtain⟨t,rfl⟩:=IS h0;rw[aB]at h1;exact⟨t,rfl,by omega⟩
  rintro m1 _ ⟨hm1,t,rfl,ht⟩;have e5:((t:Int) / 5)=((t / 5:Nat):Int):=by omega
  have hat:L2.atI (f.2.map aY) ((t:Int) / 5)=some (.str f.2[t / 5]):=by rw[e5];exact xN (by omega)
  have fin:∀d,okV f d=true->∃(cs':List D)(s3 s4 s5:Sl),[Sl.val (nX Tp),.val (fC fs an),.val (.tuple (cs++[d])),.val (.str f.1),.val (.tuple (f.2.map aY)),.val (.int (t:Int))]=[.val (nX Tp),.val (fC fs an),.val (.tuple cs'),s3,s4,s5]/\m1<=c+(k+1)/\cs'.length=k+1/\∀(j:Nat) f d,fs[j]?=some f->cs'[j]?=some d->okV f d=true:=λd hd=>by
   refine⟨cs++[d],_,_,_,rfl,by omega,by simp[hcl],λj g e hg he=>?_⟩;by_cases hj:j<k
   ·rw[dU (by omega)]at he;exact hcv j g e hg he
   ·rw[dE (by omega)]at he
    have:j=k:=by
     by_cases z:j=k
     ·exact z
     ·have:j-cs.length≠0:=by omega
      cases q:j-cs.length with
      |zero=>exact absurd q this
      |succ n=>rw[q]at he;simp at he
    subst this;rw[hfk]at hg;cases hg;simp[hcl]at he;subst he;exact hd
  by_cases hz:(t:Int)%5=4
  ·refine wV (.tuple (cs++[.none])) (λq hq=>⟨_,rfl,_,rfl,(show(0:Int)<5 by decide),by
    show(if decide ((t:Int)%5=4)=true then _ else _);rw[if_pos (decide_eq_true hz)];exact⟨(aC rfl),by show cs.length+1<=_;omega,hq⟩⟩) ?_
   dsimp only;exact fin .none rfl
  ·refine wV (.tuple (cs++[.str f.2[t / 5]])) (λq hq=>⟨_,rfl,_,rfl,(show(0:Int)<5 by decide),by
    show(if decide ((t:Int)%5=4)=true then _ else _);rw[if_neg (by simpa using hz)];exact⟨_,rfl,_,rfl,⟨by decide,by decide⟩,_,hat,(aC rfl),by show cs.length+1<=_;omega,hq⟩⟩) ?_
   dsimp only;have hmem:f.2[t / 5]∈f.2:=fA _;exact fin (.str f.2[t / 5]) (decide_eq_true hmem)
 ·obtain⟨cs,s3,s4,s5,rfl,hm,hcl,hcv⟩:=hP;rw[aB]at hm hcl;exact⟨_,rfl,h m cs (by omega) (Z9 hcl hcv)⟩
def aIt
  (F_26:dD P w K mg base gA 2 a_26 f_26 ["_law_tape_here","_law_form_here"] (fP K aA8))
  (F_23:dD P w K mg base gA 1 a_23 f_23 ["_law_tape_here","_law_many"] (fP K wH)):dD P w K mg base gA 3 a_27 f_27 ["_law_tape_here","_law_form_here","_law_many"] (fP K aA7):=by
 refine fnC T.D_27.F aB0 (λτ n ds Q h=>by obtain⟨fs,an,m,rfl,F,hm60,hc,h⟩:=h;rfl) λcdv Ar outer s H E hr Tp c ds Q hdig h=>?_;obtain⟨fs,an,m,rfl,F,hm60,hc,h⟩:=h;have nd:=aB0.nd;refine⟨_,(cJ (kW (so 3 nd aU))
 (cJ (sfC (mR (aD (aK 2) aU) (λh=>kC rfl T.b_range h)) (eK (pn 4 nd))
 (cJ (sC 5 nd (cc F_26 T.D_26 hr (bB (dF (aK 0)) (bB (dF (aK 1)) dJ))))
 (cJ (sC 6 nd (cc F_23 T.D_23 hr (bB (dF (aK 0)) (bB (dF (cB jZ (aD (cZ bW eN (aK 1) aN) aU) dR T.b_len iG)) dJ))))
 (cJ (wN (aAr (R8 (HL (eP P4 T9 (cZ bW eN (aK 5) aN) yT)) (MZ (SC jM nB (cc F_23 T.D_23 hr (bB (dF (aK 0)) (bB (dF aN) dJ))) (dF aN)))))
 (iR (kW (ss 6 nd (dH kO A1 (xK (cZ bW eN (cZ bW eN (cZ bW eN (aK 1) aN) aN) aN) (aD (cZ bW eN (aK 5) aN) aU) (λh ha=>nP lJ lH lG (xA hr) h ha)) (cB jZ (aD (cZ bW eN (aK 1) aN) aU) dR T.b_len iG)))))
 rR)
 (cJ (kW (ss 7 nd (eD (aD (aK 5) (aD (cZ bW eN (cZ bW eN (aK 1) aN) (aK 6)) aU)))))
 (cJ (wN (aAr (R8 (HL (eP zL qB (aK 4) aN)) (MZ (SC jM nB (cc F_23 T.D_23 hr (bB (dF (aK 0)) (bB (dF aN) dJ))) (dF aN)))))
 (iR (sC 7 nd (VU (i:=3) (pv 3) (cc F_23 T.D_23 hr (bB (dF (aK 0)) (bB (dF (aK 4)) dJ))))))
 rR)
 (iR (kW (BE (i:=3) (pv 3) (aK 7) (pb:=λh=>oK (nP dS jJ jI oR (pv 3) h)))))))))))
 (IE 3 (iR (kW (dQ (aK 3))))))),?_⟩
 show mB _ _ _ _ _ [.val (nX Tp),.val (fC fs an),.val (.int m),.un,.un,.un,.un,.un];have n1:=F.n1;have a2:=F.a2;have a4:=F.a4;refine gJ (pS [] (by decide) (λq hq=>hq) ?_)
 refine GM (ts:=eW m) (λR h=>⟨_,rfl,(m:Int),rfl,by omega,by omega,by simpa using h⟩)
  (λk c1 σ=>∃(rs:List (List D×Str))(s4 s5 s6 s7:Sl),σ=[.val (nX Tp),.val (fC fs an),.val (.int m),.own (rs.map fE),s4,s5,s6,s7]/\c1<=c+10*k/\rs.length=k/\jU fs an rs) ⟨[],_,_,_,_,rfl,by omega,rfl,λr hr=>by simp at hr⟩ (λk c1 x σ' hx hP=>?_) λc1 σ' hP=>?_
 ·obtain⟨hk,rfl⟩:=vU hx;obtain⟨rs,s4,s5,s6,s7,rfl,hc1,hrl,hrs⟩:=hP;refine iD (λn1 d=>n1<=c1+5/\∃cs,qC fs (.tuple cs)=true/\d=.tuple cs) (λq hq=>⟨_,rfl,_,rfl,_,rfl,fs,an,rfl,F,by omega,λn' cs hn hcs=>hq _ _ ⟨hn,cs,hcs,rfl⟩⟩) ?_;rintro c2 _ ⟨hc2,cs,hcs,rfl⟩;have hal:((an.map aY).length:Int)=(an.length:Int):=by rw[aB]
  refine iD (λn1 d=>n1=c2+1/\∃t:Nat,d=.int (t:Int)/\t<an.length) (λq hq=>⟨_,rfl,_,rfl,_,rfl,_,rfl,((an.map aY).length:Int),rfl,by omega,by omega,by omega,λr h0 h1=>hq _ _ ⟨rfl,?_⟩⟩) ?_
  ·obtain⟨t,rfl⟩:=IS h0;exact⟨t,rfl,by omega⟩
  rintro c3 _ ⟨hc3,t,rfl,ht⟩;obtain⟨hcl,hcv⟩:=pD hcs;obtain⟨f0,hf0⟩:∃f,fs[0]?=some f:=⟨_,aF (by omega)⟩;obtain⟨d0,hd0⟩:∃d,cs[0]?=some d:=⟨_,aF (by omega)⟩;have hok:=hcv 0 f0 d0 hf0 hd0;have hca:L2.atI cs 0=some d0:=L2.fZ (j:=0) hd0;have hfa:L2.atI (fs.map kZ) 0=some (kZ f0):=L2.fZ (j:=0) (by rw[aI,hf0];rfl);have hfm:=aW hf0;refine Q5 (∃z:Str,d0=.str z/\z∈f0.2) (λc4=>c4<=c3+1) (λd=>∃t:Nat,d=.int (t:Int)/\t<an.length) (λq hq=>⟨_,rfl,_,hca,?_⟩) (.int (t:Int)) rfl ⟨t,rfl,ht⟩ (λhC q hq=>?_) ?_
  ·show(if(!pU d0)=true then _ else q c3 false)
   cases hn:pU d0 with
   |true=>rw[if_neg (by decide)];exact hq _ _ (by omega) λz=>by cases z
   |false=>
    rw[if_pos (by decide)]
    have hstr:∃z:Str,d0=.str z/\z∈f0.2:=by
     cases d0 with
     |none=>cases hn
     |str z=>exact⟨z,rfl,of_decide_eq_true hok⟩
     |_=>cases hok
    exact⟨_,rfl,_,rfl,2,rfl,by decide,by decide,by omega,λr h0 h1=>hq _ _ (aO _) λ_=>hstr⟩
  ·obtain⟨z,rfl,hz⟩:=hC;have hx:=qV (F.vals hfm) hz;have hp:(0:Int)<((an.map aY).length:Int):=by omega
   refine⟨_,rfl,_,rfl,_,hfa,_,rfl,_,rfl,_,rfl,_,hca,_,_,rfl,hx,_,rfl,_,rfl,hp,hq _ ⟨(f0.2.idxOf z)%an.length,?_,iY _ (by omega)⟩⟩;show aH (((f0.2.idxOf z:Nat):Int)%((an.map aY).length:Int))=_;rw[hal]
   rfl
  rintro c4 _ hc4 ⟨t2,rfl,ht2⟩;have haa:L2.atI (an.map aY) (t2:Int)=some (.str an[t2]):=xN ht2;refine gJ (eU (fE (cs,an[t2])) (λq hq=>⟨_,rfl,_,rfl,_,rfl,_,rfl,_,haa,(aC rfl),hq⟩) ?_);have hrow:O0 fs an (cs,an[t2]):=⟨hcs,fA _⟩;refine V3 (0<k) (λc5=>c5<=c4+1) (λd=>∃r,O0 fs an r/\d=fE r) (λq hq=>⟨_,rfl,?_⟩) (fE (cs,an[t2])) rfl ⟨_,hrow,rfl⟩ (λc6=>c6<=c4+2) (λ_ z=>by omega) (λc5 hc5 hk0 q hq=>⟨rs.map fE,rfl,_,rfl,_,rfl,_,rfl,(k:Int),rfl,by omega,by omega,by omega,λr h0 h1=>?_⟩) ?_
  ·show(if decide ((k:Int)>0)=true then _ else q c4 false);by_cases hk0:(k:Int)>0
   ·rw[if_pos (decide_eq_true hk0)];exact⟨_,rfl,_,rfl,8,rfl,by decide,by decide,by omega,λr h0 h1=>hq _ _ (aO _) λ_=>by omega⟩
   ·rw[if_neg (by simpa using hk0)];exact hq _ _ (by omega) λz=>by cases z
  ·obtain⟨d,hdm,hda,_⟩:=CN (xs:=rs.map fE) (i:=r) h0 (by rw[aB,hrl];exact h1);obtain⟨r',hr',rfl⟩:=aQ.mp hdm;exact⟨r,_,rfl,hda,hq _ _ (by omega) ⟨r',hrs r' hr',rfl⟩⟩
  rintro c6 _ hc6 ⟨r,hr,rfl⟩;refine wW (ts:=rs.map fE) (fE r) rfl (by rw[aB];omega) (λq hq=>⟨_,rfl,hq⟩) ?_;refine⟨rs++[r],_,_,_,_,by rw[bG];rfl,by omega,by simp[hrl],λr' hr'=>?_⟩;rcases cK.mp hr' with z | z
  ·exact hrs r' z
  ·rw[aZ.mp z];exact hr
 ·obtain⟨rs,s4,s5,s6,s7,rfl,hc1,hrl,hrs⟩:=hP;rw[lY]at hc1 hrl;exact⟨_,rfl,_,rfl,h c1 rs hc1 hrs hrl⟩
def aIs:dD P w K mg base gA 1 a_28 f_28 ["_law_form_here"] (cO K aA6):=by
 refine xJ T.D_28.F aBz (λds Q h=>by obtain⟨fs,an,rfl,F,h⟩:=h;rfl) λcdv Ar outer s H E hr ds Q h=>?_;obtain⟨fs,an,rfl,F,h⟩:=h;have nd:=aBz.nd;refine⟨_,(cS (ss 1 nd (pA aU))
 (cS (sf (fL (cZ bW eN (aK 0) aN)) (uJ (nY rfl (eM (pn 2 nd) (eM (pn 3 nd) lN))))
 (cS (ss 4 nd (B7 (eP jM nB (cB jZ (aD (aK 3) aU) dR T.b_len iG) aN) (fR iQ oY (aK 3) hV (gI aN)) (aK 3)))
 (cS (ss 1 nd (dH cA fN (aK 1) (el (fr:=[none,some 2]) (N':=["_law_value","_law_name"]) (fL (aK 4)) (λb=>⟨(eK (pk 0)),iA,(eD (aD jT (aD (aK 1) (aD (aK 0) aU))))⟩))))
 (cM (ss 1 nd (dH cA fN (aK 1) (el (fr:=[none,some 2,some 3]) (N':=["_law_k","_law_name","_law_values"]) (QO (aD aN (aD (dH lW vQ (cB jZ (aD (aK 3) aU) dR T.b_len iG) aN) aU)) (λh=>P1 rfl T.b_range h)) (λb=>⟨(eK (pk 0)),iA,(eD (aD jT (aD (aK 1) (aD (cZ bW eN (aK 2) (aK 0)) aU))))⟩))))))))
 (cM (dQ (aK 1))))),?_⟩
 show kI _ _ _ [.val (fC fs an),.un,.un,.un,.un];have n5:=F.n5;refine eU (.list []) (λq hq=>⟨(aC rfl),hq⟩) ?_
 refine lM (ts:=fs.map kZ) (λR h=>⟨_,rfl,_,rfl,_,rfl,h⟩)
  (λi σ=>∃s2 s3 s4:Sl,σ=[.val (fC fs an),.val (.list (fQ (fs.take i))),s2,s3,s4]) ⟨_,_,_,rfl⟩ (λi x σ' hx hP=>?_) λσ' hP=>?_
 ·obtain⟨s2,s3,s4,rfl⟩:=hP;rw[aI]at hx;obtain⟨f,hfk,rfl⟩:=bT.mp hx;have hf:=aW hfk;obtain⟨v2,v5,hvv⟩:=F.vs f hf;have hcl:=lZ F (fs.take i) λg hg=>eT hg;have hkl:(fs.take i).length<=5:=by rw[bC];omega
  refine⟨.str f.1,.tuple (f.2.map aY),rfl,?_⟩;dsimp only;refine eU (.tuple ((uT f).map aY)) (λq hq=>⟨_,rfl,?_⟩) ?_
  ·show(if decide (((f.2.map aY).length:Int)=2)=true then _ else _);unfold uT at hq;rw[aB];by_cases e:f.2.length=2
   ·rw[if_pos (decide_eq_true (by omega))];rw[if_pos e]at hq;refine⟨_,rfl,?_⟩;show q (.tuple (iB (f.2.map aY) none (some 1)));rw[rZ,OS _ v2];exact hq
   ·rw[if_neg (by simpa using(by omega:¬(f.2.length:Int)=2))];rw[if_neg e]at hq;exact⟨_,rfl,hq⟩
  have s5:(uT f).length<=5:=by
   unfold uT;split
   ·rw[bC];omega
   ·omega
  refine eU (.list (fQ (fs.take i)++(uT f).map (mkQ "is" f))) (λq hq=>⟨_,rfl,?_⟩) ?_
  ·refine iC (ts:=(uT f).map aY) (λR h=>⟨_,rfl,_,rfl,h⟩) (λx=>.tuple [.str "is",.str f.1,x]) (by rw[aB];omega) (λx q hx hq=>⟨_,rfl,_,rfl,(aC rfl),hq⟩) ?_;rw[bM];exact⟨by rw[aB];omega,hq⟩
  have hlF:(TL.lE 1 (((f.2.map aY).length:Int)-2-1).toNat).length<=5:=by
   unfold TL.lE;rw[aB,cH,aB];omega
  refine(show BJ _ _ _ _ from⟨_,rfl,?_⟩);refine iC (ts:=TL.lE 1 (((f.2.map aY).length:Int)-2-1).toNat) (λR h=>⟨_,rfl,1,((f.2.map aY).length:Int)-2,rfl,⟨by decide,by decide,by rw[aB];omega,by rw[aB];omega⟩,h⟩) (UK f) (by omega) (λx q hx hq=>?_) ?_
  ·obtain⟨m,hm,rfl⟩:=aQ.mp hx;have hm':m<(((f.2.map aY).length:Int)-2-1).toNat:=by simpa using hm
   rw[aB]at hm';have e:(1:Int)+(m:Int)=((m+1:Nat):Int):=by omega
   have hat:L2.atI (f.2.map aY) (1+(m:Int))=some (.str (f.2[m+1]'(by omega))):=by rw[e];exact xN (by omega)
   have hq2:q (.tuple [.str "upto",.str f.1,.str (f.2[m+1]'(by omega))]):=by
    have e2:UK f (.int (1+(m:Int)))=.tuple [.str "upto",.str f.1,.str (f.2[m+1]'(by omega))]:=by unfold UK;dsimp only;rw[hat]
    rw[<- e2];exact hq
   exact⟨_,rfl,_,rfl,_,rfl,_,hat,(aC rfl),hq2⟩
  ·rw[UJ v2];have ql:(yE f).length<=5:=by unfold yE;rw[bC,eG];omega
   refine⟨by rw[aV,aB,aB];omega,.val (.str f.1),.val (.tuple (f.2.map aY)),.val (.tuple ((uT f).map aY)),?_⟩;rw[nE]
   have e:fQ (fs.take (i+1))=fQ (fs.take i)++K7 f:=by
    unfold fQ;rw[cP,hfk,bG,RO];show _++[K7 f].flatten=_;rw[KJ]
   rw[e];rfl
 ·obtain⟨s2,s3,s4,rfl⟩:=hP;rw[aB,dY];exact⟨_,rfl,by rw[<- wR];exact h⟩
def aIr:dD P w K mg base gA 1 a_29 f_29 ["_law_form_here","_law_question","_law_stray","_law_case_here"] (cO K aA5):=by
 refine xJ T.D_29.F aBy (λds Q h=>by obtain⟨fs,an,k,n,v,st,cs,rfl,F,hq,hst,hcs,h⟩:=h;rfl) λcdv Ar outer s H E hr ds Q h=>?_;obtain⟨fs,an,k,n,v,st,cs,rfl,F,hq,hst,hcs,h⟩:=h;have nd:=aBy.nd;refine⟨_,(cS (NA (aK 1) (qW (nY rfl (eM (pn 4 nd) (eM (pn 5 nd) (eM (pn 6 nd) lN))))) (λhe hg=>TN he hg))
 (cS (ss 7 nd (eD aU))
 (cS (ss 8 nd yT)
 (cS (sf (mR (aD (cB jZ (aD (cZ bW eN (aK 0) aN) aU) dR T.b_len iG) aU) (λh=>kC rfl T.b_range h)) (eK (pn 9 nd))
 (cM (iT (eP jM nB (cZ bW eN (cZ bW eN (cZ bW eN (aK 0) aN) (aK 9)) aN) (aK 5))
 (cS (ss 7 nd (cZ bW eN (cZ bW eN (cZ bW eN (aK 0) aN) (aK 9)) aN))
 (cM (ss 8 nd (cZ bW eN (aK 3) (aK 9)))))
 hX)))
 (cS (iT (eP aE3 aJd (aK 8) yT)
 (cM (dQ (aK 2)))
 hX)
 (cS (ss 10 nd (dH lW vQ (xK (aK 7) (aD (aK 8) aU) (λh ha=>nP lJ lH lG (xA hr) h ha)) (xK (aK 7) (aD (aK 6) aU) (λh ha=>nP lJ lH lG (xA hr) h ha))))
 (cM (dQ (B7 (wF (uZ (eP jM nB (aK 10) aN) (sT (wF (aDw (eP jM nB (aK 4) jT) (XA (eP aCr qB (aK 10) aN))))))) jT jT))))))))),?_⟩
 show kI _ _ _ [.val (fC fs an),.val (.tuple [.str k,.str n,.str v]),.val (.str st),.val (.tuple cs),.un,.un,.un,.un,.un,.un,.un];have n5:=F.n5;obtain⟨f,hf,hfn,hv,hk⟩:=GB hq;obtain⟨j,hj⟩:=bV hf;have hjl:=(aG.mp hj).1;obtain⟨hcl,hcv⟩:=pD hcs;obtain⟨c0,hc0⟩:∃d,cs[j]?=some d:=⟨_,aF (by omega)⟩;have hok:=hcv j f c0 hj hc0;have hfl:((fs.map kZ).length:Int)=(fs.length:Int):=by rw[aB]
 refine(show kI (SW _ _) _ _ _ from⟨_,rfl,_,_,_,rfl,?_⟩);dsimp only;refine eU (.tuple []) (λq hq=>⟨(aC rfl),hq⟩) ?_;refine eU .none (λq hq=>hq) ?_
 refine lM (ts:=eW fs.length) (λR h=>⟨_,rfl,_,rfl,((fs.map kZ).length:Int),rfl,by omega,by omega,by rw[hfl];simpa using h⟩)
  (λi σ=>∃s9:Sl,σ=[.val (fC fs an),.val (.tuple [.str k,.str n,.str v]),.val (.str st),.val (.tuple cs),.val (.str k),.val (.str n),.val (.str v),.val (if j<i then .tuple (f.2.map aY)else .tuple []),.val (if j<i then c0 else .none),s9,.un]) ⟨_,by rw[if_neg (by omega),if_neg (by omega)];rfl⟩ (λi x σ' hx hP=>?_) λσ' hP=>?_
 ·obtain⟨hi,rfl⟩:=vU hx;obtain⟨s9,rfl⟩:=hP;have hfi:L2.atI (fs.map kZ) (i:Int)=some (kZ fs[i]):=L2.fZ (by rw[aI,aF hi];rfl);have hci:L2.atI cs (i:Int)=some cs[i]:=L2.fZ (aF (by omega));by_cases hij:i=j
  ·subst hij;have e1:fs[i]=f:=by rw[aF hi]at hj;exact Option.some.inj hj
   have e2:cs[i]=c0:=by rw[aF (by omega)]at hc0;exact Option.some.inj hc0
   rw[e1]at hfi;rw[e2]at hci;refine nZ (λb=>b=true) (λq hq=>⟨_,rfl,_,rfl,_,rfl,_,hfi,_,rfl,_,rfl,hq _ (decide_eq_true hfn)⟩) (λ_=>?_) λhF=>by cases hF
   refine eU (.tuple (f.2.map aY)) (λq hq=>⟨_,rfl,_,rfl,_,rfl,_,hfi,_,rfl,hq⟩) ?_;refine wV c0 (λq hq=>⟨_,rfl,_,rfl,_,hci,hq⟩) ?_;refine⟨.val (.int (i:Int)),?_⟩;rw[if_pos (eI i),if_pos (eI i)];rfl
  ·have hne:¬fs[i].1=n:=λe=>hij (by
    have h1:=A2 F (aF hi);have h2:=A2 F hj;rw[e]at h1;rw[hfn]at h2;omega)
   refine nZ (λb=>b=false) (λq hq=>⟨_,rfl,_,rfl,_,rfl,_,hfi,_,rfl,_,rfl,hq _ (decide_eq_false hne)⟩) (λhT=>by cases hT) λ_=>?_
   try unfold oV
   dsimp only;refine⟨.val (.int (i:Int)),?_⟩;by_cases hl:j<i
   ·rw[if_pos hl,if_pos hl,if_pos (eJ hl),if_pos (eJ hl)];rfl
   ·rw[if_neg hl,if_neg hl,if_neg (show¬j<i+1 by omega),if_neg (show¬j<i+1 by omega)];rfl
 ·obtain⟨s9,rfl⟩:=hP;rw[lY,if_pos hjl,if_pos hjl];rw[BH F hj hc0 hfn]at h
  cases c0 with
  |none=>
   refine jF (λb=>b=true) (λq hq=>⟨_,rfl,hq _ rfl⟩) (λ_=>⟨_,rfl,h⟩) λhF=>by cases hF
  |str z=>
   have hz:z∈f.2:=of_decide_eq_true hok;refine jF (λb=>b=false) (λq hq=>⟨_,rfl,hq _ rfl⟩) (λhT=>by cases hT) λ_=>?_
   try unfold oV
   dsimp only;have x1:=qV (F.vals hf) hz;have x2:=qV (F.vals hf) hv;refine eU (.int ((f.2.idxOf z:Nat)-(f.2.idxOf v:Nat):Int)) (λq hq=>⟨_,rfl,_,rfl,_,rfl,_,_,rfl,x1,_,rfl,_,rfl,_,rfl,_,_,rfl,x2,hq⟩) ?_
   have hinj:f.2.idxOf z=f.2.idxOf v->z=v:=λe=>by
    have a1:=mM (jP.mpr hz);have a2:=mM (jP.mpr hv);rw[<- a1,<- a2];congr 1
   refine⟨_,rfl,?_⟩;show(if decide (((f.2.idxOf z:Nat)-(f.2.idxOf v:Nat):Int)=0)=true then _ else _);by_cases e0:f.2.idxOf z=f.2.idxOf v
   ·rw[if_pos (decide_eq_true (by omega))]
    have hs:vO f k v st (.str z)="yes":=by
     show(if k="is" then(if z=v then("yes":Str)else "no")else if f.2.idxOf z<=f.2.idxOf v then("yes":Str)else "no")=_;rw[if_pos (hinj e0),if_pos (show f.2.idxOf z<=f.2.idxOf v by omega)];exact ite_self _
    rw[hs]at h;exact h
   ·rw[if_neg (by rw[decide_eq_false (by omega)];decide)];refine⟨_,rfl,?_⟩;show(if decide (k="upto")=true then _ else _);have hzv:¬z=v:=λe=>e0 (by rw[e]);rcases hk with rfl | ⟨rfl,_⟩
    ·have hs:vO f "is" v st (.str z)="no":=by
      show(if("is":Str)="is" then(if z=v then("yes":Str)else "no")else if f.2.idxOf z<=f.2.idxOf v then("yes":Str)else "no")=_;rw[if_pos rfl,if_neg hzv]
     rw[hs]at h;rw[if_neg (by decide +kernel)];exact h
    ·rw[if_pos (by decide +kernel)];refine⟨_,rfl,?_⟩
     have hs:vO f "upto" v st (.str z)=if f.2.idxOf z<=f.2.idxOf v then("yes":Str)else "no":=by
      show(if("upto":Str)="is" then(if z=v then("yes":Str)else "no")else if f.2.idxOf z<=f.2.idxOf v then("yes":Str)else "no")=_;rw[if_neg (by decide +kernel)]
     rw[hs]at h;show(if decide (((f.2.idxOf z:Nat)-(f.2.idxOf v:Nat):Int)<0)=true then _ else _);by_cases hl:f.2.idxOf z<f.2.idxOf v
     ·rw[if_pos (decide_eq_true (by omega))];rw[if_pos (by omega)]at h;exact h
     ·rw[if_neg (by rw[decide_eq_false (by omega)];decide)];rw[if_neg (by omega)]at h;exact h
  |_=>cases hok
def aIq
  (F_29:dD P w K mg base gA 1 a_29 f_29 ["_law_form_here","_law_question","_law_stray","_law_case_here"] (cO K aA5)):dD P w K mg base gA 2 a_30 f_30 ["_law_form_here","_law_question","_law_stray","_law_rows_here"] (cO K aA4):=by
 refine xJ T.D_30.F aBx (λds Q h=>by obtain⟨fs,an,k,n,v,st,rs,rfl,F,hq,hst,hrs,hl,h⟩:=h;rfl) λcdv Ar outer s H E hr ds Q h=>?_;obtain⟨fs,an,k,n,v,st,rs,rfl,F,hq,hst,hrs,hl,h⟩:=h;have nd:=aBx.nd;refine⟨_,(cS (so 4 nd aU)
 (cS (so 5 nd aU)
 (cS (sf (fL (aK 3)) (eK (pn 6 nd))
 (cM (iT (eP jM nB (cd F_29 T.D_29 hr (aD (aK 0) (aD (aK 1) (aD (aK 2) (aD (cZ bW eN (aK 6) aN) aU))))) jT)
 (cM (BE (i:=4) (pv 4) (aK 6) (pb:=λh=>oK (nP dS jJ jI oR (pv 4) h))))
 (cM (BE (i:=5) (pv 5) (aK 6) (pb:=λh=>oK (nP dS jJ jI oR (pv 5) h)))))))
 (sV 5 (sV 4 (cM (dQ (eD (aD (aK 4) (aD (aK 5) aU)))))))))),?_⟩
 show kI _ _ _ [.val (fC fs an),.val (.tuple [.str k,.str n,.str v]),.val (.str st),.val (.list (rs.map fH)),.un,.un,.un];refine pS [] (by decide) (λq hq=>hq) ?_;refine pS [] (by decide) (λq hq=>hq) ?_
 refine lM (ts:=rs.map fH) (λR h=>⟨_,rfl,_,rfl,h⟩)
  (λi σ=>∃s6:Sl,σ=[.val (fC fs an),.val (.tuple [.str k,.str n,.str v]),.val (.str st),.val (.list (rs.map fH)),.own (((rs.take i).filter (KB fs k n v st)).map fH),.own (((rs.take i).filter λr=>!KB fs k n v st r).map fH),s6]) ⟨_,rfl⟩ (λi x σ' hx hP=>?_) λσ' hP=>?_
 ·obtain⟨s6,rfl⟩:=hP;have hi:i<rs.length:=by have:=(aG.mp hx).1;rw[aB]at this;exact this
  have ex:x=fH rs[i]:=by rw[aI,aF hi]at hx;exact(Option.some.inj hx).symm
  subst ex;have et:rs.take (i+1)=rs.take i++[rs[i]]:=by rw[cP,aF hi];rfl
  have hr:=hrs rs[i].1 (aQ.mpr ⟨_,fA hi,rfl⟩)
  have l1:(((rs.take i).filter (KB fs k n v st)).map fH).length<=60:=by
   rw[aB];have:=kM (KB fs k n v st) (rs.take i);rw[bC]at this;omega
  have l2:(((rs.take i).filter λr=>!KB fs k n v st r).map fH).length<=60:=by
   rw[aB];have:=kM (λr=>!KB fs k n v st r) (rs.take i);rw[bC]at this;omega
  generalize rs[i]=r at *
  by_cases hy:mD fs k n v st r.1.1="yes"
  ·have hb:KB fs k n v st r=true:=decide_eq_true hy;refine nZ (λb=>b=true) (λq hq'=>⟨_,rfl,_,rfl,_,rfl,_,rfl,_,L2.fZ (j:=0) rfl,fs,an,k,n,v,st,r.1.1,rfl,F,hq,hst,hr.1,hq' _ (decide_eq_true hy)⟩) (λ_=>?_) λhF=>by cases hF
   refine wW (ts:=((rs.take i).filter (KB fs k n v st)).map fH) (fH r) rfl (by omega) (λq hq=>⟨_,rfl,hq⟩) ?_;refine⟨.val (fH r),?_⟩;rw[et,gK,gK,bG,bG,cX (p:=KB fs k n v st),if_pos hb,cX (p:=λr=>!KB fs k n v st r),if_neg (by rw[hb];decide),tZ,tZ,iH,dL]
   rfl
  ·have hb:KB fs k n v st r=false:=decide_eq_false hy;refine nZ (λb=>b=false) (λq hq'=>⟨_,rfl,_,rfl,_,rfl,_,rfl,_,L2.fZ (j:=0) rfl,fs,an,k,n,v,st,r.1.1,rfl,F,hq,hst,hr.1,hq' _ (decide_eq_false hy)⟩) (λhT=>by cases hT) λ_=>?_;refine wW (ts:=((rs.take i).filter λr=>!KB fs k n v st r).map fH) (fH r) rfl (by omega) (λq hq=>⟨_,rfl,hq⟩) ?_;refine⟨.val (fH r),?_⟩;rw[et,gK,gK,bG,bG,cX (p:=KB fs k n v st),if_neg (by rw[hb];decide),cX (p:=λr=>!KB fs k n v st r),if_pos (by rw[hb];rfl),tZ,tZ,iH,dL]
   rfl
 ·obtain⟨s6,rfl⟩:=hP;rw[aB,dY];exact⟨_,rfl,_,rfl,_,rfl,_,rfl,(aC rfl),h⟩
def aIp:dD P w K mg base gA 1 a_31 f_31 ["_law_form_here","_law_rows_here"] (cO K aA3):=by
 refine xJ T.D_31.F aBw (λds Q h=>by obtain⟨fs,an,rs,rfl,F,hok,hrl,h⟩:=h;rfl) λcdv Ar outer s H E hr ds Q h=>?_;obtain⟨fs,an,rs,rfl,F,hok,hrl,h⟩:=h;have nd:=aBw.nd;refine⟨_,(cS (ss 2 nd (el (fr:=[none]) (N':=["_law_row"]) (fL (aK 1)) (λb=>⟨(eK (pk 0)),iA,(cZ bW eN (aK 0) aN)⟩)))
 (cM (dQ (el (fr:=[none,some 2]) (N':=["_law_answer","_law_told_here"]) (fL (cZ bW eN (aK 0) aN)) (λb=>⟨(eK (pk 0)),iA,(ES (aK 1) (aD (aK 0) aU) (λh ha=>nP dS FE FC (ED hr) h ha))⟩))))),?_⟩
 show kI _ _ _ [.val (fC fs an),.val (.list (rs.map fH)),.un];have a4:=F.a4;refine eU (.list ((rs.map (·.1)).map λr=>aY r.2)) (λq hq=>?_) ?_
 ·refine iC (ts:=rs.map fH) (λR h=>⟨_,rfl,_,rfl,h⟩) aLs (by rw[aB];omega) (λx q hx hq=>?_) ?_
  ·obtain⟨r,hr,rfl⟩:=aQ.mp hx;exact⟨_,rfl,_,L2.fZ (j:=1) rfl,hq⟩
  ·rw[bM]at hq |-;exact hq
 have ll:=I0 (ys:=(rs.map (·.1)).map λr=>r.2) λy hy=>by
  obtain⟨r,hr,rfl⟩:=aQ.mp hy;exact F.an.2.1 _ (hok r hr).2
 rw[bM]at ll;refine(iC (ts:=an.map aY) (λR h=>⟨_,rfl,_,rfl,_,rfl,h⟩) (Z7 (rs.map (·.1))) (by rw[aB];omega) (λx q hx hq=>?_) ?_)
 ·obtain⟨a,ha,rfl⟩:=aQ.mp hx;have hA:=pQ (F.an.2.1 a ha) (n:=8) (m:=0) (aO _);refine⟨_,rfl,_,rfl,_,rfl,_,rfl,⟨ll.1,hA.lay,by have:=hA.depth;omega⟩,?_⟩;rw[BC];exact hq
 ·show Q _
  have e:(an.map aY).map (Z7 (rs.map (·.1)))=(oM an (rs.map (·.1))).map aH:=by
   unfold oM;rw[bM,bM];rfl
  rw[e];exact h
def aIo
  (F_23:dD P w K mg base gA 1 a_23 f_23 ["_law_tape_here","_law_many"] (fP K wH)):dD P w K mg base gA 2 a_32 f_32 ["_law_tape_here"] (fP K aA2):=by
 refine fnC T.D_32.F aBv (λτ n ds Q h=>by obtain⟨rfl,hc,h⟩:=h;rfl) λcdv Ar outer s H E hr Tp c ds Q hdig h=>?_;obtain⟨rfl,hc,h⟩:=h;have nd:=aBv.nd;refine⟨_,(cJ (kW (NB (i:=1) nd rfl (by first | exact Or.inl rfl | exact Or.inr rfl) (pA (aD (eD (aD aN (aD aN aU))) (aD (eD (aD aN (aD aN aU))) (aD (eD (aD aN (aD aN aU))) (aD (eD (aD aN (aD aN aU))) (aD (eD (aD aN (aD aN aU))) (aD (eD (aD aN (aD aN aU))) (aD (eD (aD (dH LE A1 aN aN) (aD aN aU))) (aD (eD (aD aN (aD (dH LE A1 aN aN) aU))) aU)))))))))))
 (cJ (sC 1 nd (pC cA fN (dF (aK 1)) (L8 (bB (qF (bB (cc F_23 T.D_23 hr (bB (dF (aK 0)) (bB (dF aN) dJ))) (bB (cc F_23 T.D_23 hr (bB (dF (aK 0)) (bB (dF aN) dJ))) dJ))) (bB (dF (eD (aD aN (aD aN aU)))) dJ)))))
 (iR (rQ (JN bW eN (dF (aK 1)) (cc F_23 T.D_23 hr (bB (dF (aK 0)) (bB (dF aN) dJ)))))))),?_⟩
 show mB _ _ _ _ _ [.val (nX Tp),.un];have pw:WP 10 6:=by unfold WP;decide
 refine gJ (eU (.list ([(1,0),(0,1),(3,1),(1,1),(2,3),(0,0),(10^6,1),(1,10^6)].map λp:Int×Int=>.tuple [.int p.1,.int p.2])) (λq hq=>⟨(aC rfl),(aC rfl),(aC rfl),(aC rfl),(aC rfl),(aC rfl),pw,(aC rfl),pw,(aC rfl),(aC rfl),hq⟩) ?_);refine iD (λn1 d=>n1=c+2/\∃ps:List (Int×Int),ps.length=10/\(∀p∈ps,(0<=p.1/\p.1<=1000000)/\0<=p.2/\p.2<=1000000)/\d=.list (ps.map λp:Int×Int=>.tuple [.int p.1,.int p.2])) (λq hq=>⟨_,rfl,_,rfl,_,rfl,12,rfl,by decide,by decide,by omega,λr h0 h1=>⟨_,rfl,_,rfl,6,rfl,by decide,by decide,by omega,λs g0 g1=>⟨(aC rfl),(aC rfl),(aC rfl),(aC rfl),hq _ _ ⟨rfl,[(1,0),(0,1),(3,1),(1,1),(2,3),(0,0),(10^6,1),(1,10^6),(r,s),(7,2)],rfl,λp hp=>?_,rfl⟩⟩⟩⟩) ?_
 ·simp only[bH,gM,or_false]at hp;rcases hp with rfl | rfl | rfl | rfl | rfl | rfl | rfl | rfl | rfl | rfl<;>(refine⟨⟨?_,?_⟩,?_,?_⟩<;>first | decide | (show(0:Int)<=r;exact h0) | (show r<=1000000;omega) | (show(0:Int)<=s;exact g0) | (show s<=1000000;omega))
 rintro c1 _ ⟨hc1,ps,hl,hp,rfl⟩;refine⟨_,rfl,_,rfl,_,rfl,10,rfl,by decide,by decide,by omega,λr h0 h1=>?_⟩;obtain⟨d,hdm,hda,_⟩:=CN (xs:=ps.map λp:Int×Int=>fJ [.int p.1,.int p.2]) (i:=r) h0 (by rw[aB,hl];exact h1);obtain⟨p,hpm,rfl⟩:=aQ.mp hdm;exact⟨_,hda,h _ p.1 p.2 (by omega) (hp p hpm).1.1 (hp p hpm).1.2 (hp p hpm).2.1 (hp p hpm).2.2⟩
def aIn
  (F_31:dD P w K mg base gA 1 a_31 f_31 ["_law_form_here","_law_rows_here"] (cO K aA3)):dD P w K mg base gA 2 a_33 f_33 ["_law_form_here","_law_rows_here","_law_slip"] (cO K NG):=by
 refine xJ T.D_33.F aBu (λds Q h=>by obtain⟨fs,an,fa,rs,a,rfl,F,hfa,hok,hl,ha0,ha1,h⟩:=h;rfl) λcdv Ar outer s H E hr ds Q h=>?_;obtain⟨fs,an,fa,rs,a,rfl,F,hfa,hok,hl,ha0,ha1,h⟩:=h;have nd:=aBu.nd;refine⟨_,(cM (dQ (dH iZ sM (aK 2) (dH lW vQ (cB jZ (aD (aK 1) aU) dR T.b_len iG) (cB V9 (aD (cd F_31 T.D_31 hr (aD (aK 0) (aD (aK 1) aU))) aU) (qG rfl) T.b_max CL))))),?_⟩;have a2:=F.a2;have hf:=hfa _ hok;have hcl:(oM an (rs.map (·.1))).length=an.length:=by unfold oM;rw[aB]
 refine⟨_,rfl,_,rfl,_,rfl,_,rfl,fs,an,rs,rfl,F,hok,hl,oM an (rs.map (·.1)),rfl,?_,λm hm hx=>?_⟩
 ·intro z;have:=congrArg iL z;rw[hcl,tY]at this;omega
 ·have em:=N8 hf hm hx;subst em;have e1:=sY (fs:=fs) (rs.map (·.1)) (fa (rs.map (·.1)));have e2:=AX (rs.map (·.1)) (fa (rs.map (·.1)))
  have e3:(((rs.map fH).length:Nat):Int)-(zU (rs.map (·.1)) (fa (rs.map (·.1))):Int)=((wJ fs (.say (fa (rs.map (·.1)))) (rs.map (·.1)):Nat):Int):=by
   rw[aB]at e2 |-
   rw[e1];omega
  show MT a ((((rs.map fH).length:Nat):Int)-(zU (rs.map (·.1)) (fa (rs.map (·.1))):Int))/\Q (.int (a*((((rs.map fH).length:Nat):Int)-(zU (rs.map (·.1)) (fa (rs.map (·.1))):Int))));rw[e3];exact⟨.inl ⟨by omega,by omega⟩,h⟩
def aIm
  (F_30:dD P w K mg base gA 2 a_30 f_30 ["_law_form_here","_law_question","_law_stray","_law_rows_here"] (cO K aA4))
  (F_28:dD P w K mg base gA 1 a_28 f_28 ["_law_form_here"] (cO K aA6)):dD P w K mg base gA 3 a_34 f_34 ["_law_form_here","_law_rows_here"] (cO K NF):=by
 refine xJ T.D_34.F aBt (λds Q h=>by obtain⟨fs,an,rs,rfl,F,hok,hl,hth,h⟩:=h;rfl) λcdv Ar outer s H E hr ds Q h=>?_;obtain⟨fs,an,rs,rfl,F,hok,hl,hth,h⟩:=h;have nd:=aBt.nd;refine⟨_,(cS (so 2 nd aU)
 (cS (sf (fL (cd F_28 T.D_28 hr (aD (aK 0) aU))) (eK (pn 3 nd))
 (cM (sf (fL (eD (aD jT (aD jT aU)))) (eK (pn 4 nd))
 (cS (ss 5 nd (cd F_30 T.D_30 hr (aD (aK 0) (aD (aK 3) (aD (aK 4) (aD (aK 1) aU))))))
 (cM (iT (eP (F3 hr) qA (pA aU) (aK 5))
 (cM (BE (i:=2) (pv 2) (aK 5) (pb:=λh=>oK (nP dS jJ jI oR (pv 2) h))))
 hX))))))
 (sV 2 (cM (dQ (aK 2)))))),?_⟩
 show kI _ _ _ [.val (fC fs an),.val (.list (rs.map fH)),.un,.un,.un,.un];have n5:=F.n5;have hcl:=lZ F fs λg hg=>hg;have hql:(qs fs).length=(fQ fs).length:=by rw[<- wR,aB]
 have two:∀l:List Qn,(l.flatMap uS).length=2*l.length:=λl=>by
  induction l with
  |nil=>rfl
  |cons x l ih=>rw[rF,aV,ih];show 2+_=2*(l.length+1);omega
 refine pS [] (by decide) (λq hq=>hq) ?_
 refine lM (ts:=(qs fs).map qD) (λR h=>⟨_,rfl,fs,an,rfl,F,_,rfl,h⟩)
  (λk σ=>∃s3 s4 s5:Sl,σ=[.val (fC fs an),.val (.list (rs.map fH)),.own (((((qs fs).take k).flatMap uS).filter (fG fs (rs.map (·.1)))).map (uR fs rs)),s3,s4,s5]) ⟨_,_,_,rfl⟩ (λk x σ' hx hP=>?_) λσ' hP=>?_
 ·obtain⟨s3,s4,s5,rfl⟩:=hP;rw[aI]at hx;obtain⟨q0,hqk,rfl⟩:=bT.mp hx;have hqm:=aW hqk;have hk:k<(qs fs).length:=(aG.mp hqk).1;have hfl:(((qs fs).take k).flatMap uS).length<=100:=by rw[two,bC];omega
  generalize hL:((qs fs).take k).flatMap uS=L at hfl |-
  refine aFp (ts:=[.str "yes",.str "no"]) (λR h=>⟨(aC rfl),_,rfl,h⟩)
   (λi σ=>∃s4 s5:Sl,σ=[.val (fC fs an),.val (.list (rs.map fH)),.own (((L++(uS q0).take i).filter (fG fs (rs.map (·.1)))).map (uR fs rs)),.val (qD q0),s4,s5]) ⟨s4,s5,by simp⟩ (λi x σ' hx hP=>?_) λσ' hP=>?_
  ·obtain⟨s4,s5,rfl⟩:=hP;have hi:i<2:=(aG.mp hx).1
   obtain⟨st,hst,htk,rfl⟩:∃st:Str,(st="yes"\/st="no")/\(uS q0)[i]?=some (q0,st)/\x=.str st:=by
    rcases(show i=0\/i=1 by omega)with rfl | rfl
    ·cases hx;exact⟨"yes",.inl rfl,rfl,rfl⟩
    ·cases hx;exact⟨"no",.inr rfl,rfl,rfl⟩
   have htl:((uS q0).take i).length<=2:=by rw[bC];show min i 2<=2;omega
   have hll:(((L++(uS q0).take i).filter (fG fs (rs.map (·.1)))).map (uR fs rs)).length<=102:=by
    rw[aB];refine cI (kM _ _) ?_;rw[aV];omega
   have eA:((rs.map (·.1)).filter (yH fs (q0,st)))=(rs.filter λr=>yH fs (q0,st) r.1).map (·.1):=by rw[C3];rfl
   have eB:((rs.map (·.1)).filter λr=>!yH fs (q0,st) r)=(rs.filter λr=>!yH fs (q0,st) r.1).map (·.1):=by rw[C3];rfl
   have ep:fG fs (rs.map (·.1)) (q0,st)=!JE (.list []) (uR fs rs (q0,st)):=by
    unfold fG;rw[show yR fs (q0,st) (rs.map (·.1))=_ from eA,show nR fs (q0,st) (rs.map (·.1))=_ from eB];show _=!(cG (.list ((rs.filter λr=>yH fs (q0,st) r.1).map fH)) (.list [])||(cG (.list ((rs.filter λr=>!yH fs (q0,st) r.1).map fH)) (.list [])||false));cases (rs.filter λr=>yH fs (q0,st) r.1)<;>cases (rs.filter λr=>!yH fs (q0,st) r.1)<;>rfl
   have thF:∀p:Rg->Bool,Th 13000 3 (.list ((rs.filter p).map fH)):=λp=>SA 200 2 60 (λt ht=>by
    obtain⟨r,hr,rfl⟩:=aQ.mp ht;exact hth r (bZ.mp hr).1) (by rw[aB];exact cI (kM _ _) hl) (by decide) (by decide)
   have t1:=thF λr=>yH fs (q0,st) r.1;have t2:=thF λr=>!yH fs (q0,st) r.1;have d1:=t1.depth;have d2:=t2.depth;refine eU (uR fs rs (q0,st)) (λq hq=>⟨_,rfl,_,rfl,_,rfl,_,rfl,fs,an,q0.1,q0.2.1,q0.2.2,st,rs,rfl,F,K6 hqm,hst,hok,hl,hq⟩) ?_
   have et:(L++(uS q0).take (i+1)).filter (fG fs (rs.map (·.1)))=(L++(uS q0).take i).filter (fG fs (rs.map (·.1)))++(if fG fs (rs.map (·.1)) (q0,st)=true then[(q0,st)]else[]):=by
    rw[cP,htk,<- nE,gK];congr 1;show List.filter _ [(q0,st)]=_;rw[cX];rfl
   refine nZ (λb=>b=fG fs (rs.map (·.1)) (q0,st)) (λq hq=>⟨(aC rfl),_,rfl,?_,?_⟩) (λhT=>?_) λhF=>?_
   ·refine⟨?_,rfl,cI (oE _ _) (by decide)⟩;show(C1 _&&(C1 _&&true))=true;rw[t1.lay,t2.lay];rfl
   ·show q (!JE _ _);rw[<- ep];exact hq _ rfl
   ·refine wW (uR fs rs (q0,st)) rfl (by omega) (λq hq=>⟨_,rfl,hq⟩) ⟨.val (.str st),.val (uR fs rs (q0,st)),?_⟩;rw[et,if_pos hT.symm,bG];rfl
   ·refine⟨.val (.str st),.val (uR fs rs (q0,st)),?_⟩;rw[et,if_neg (by rw[<- hF];decide),dL];rfl
  ·obtain⟨s4,s5,rfl⟩:=hP;refine⟨.val (qD q0),s4,s5,?_⟩;rw[cP,hqk];show _=[_,_,Sl.own (((((qs fs).take k++[q0]).flatMap uS).filter (fG fs (rs.map (·.1)))).map (uR fs rs)),_,_,_];rw[RP,hL];rfl
 ·obtain⟨s3,s4,s5,rfl⟩:=hP;rw[aB,dY];exact⟨_,rfl,_,rfl,h⟩
def aIk:dD P w K mg base gA 1 a_36 f_36 ["_law_rows_here"] (cO K NE):=by
 refine xJ T.D_36.F aBr (λds Q h=>by obtain⟨rs,ns,rfl,hns,hl,h⟩:=h;rfl) λcdv Ar outer s H E hr ds Q h=>?_;obtain⟨rs,ns,rfl,hns,hl,h⟩:=h;have nd:=aBr.nd;refine⟨_,(cM (dQ (cY sG (aD (el (fr:=[none]) (N':=["_law_row"]) (fL (aK 0)) (λb=>⟨(eK (pk 0)),iA,(cZ bW eN (aK 0) aN)⟩)) aU) jH T.b_tuple lF))),?_⟩;show oG (f1 GF) _ _ _;dsimp only[oG,xO,WJ];have hgl:=yO rs ns;have hnl:=hns.len;refine iC (ts:=(dX rs ns).map fH) (λR h=>⟨_,rfl,_,rfl,h⟩) aG3 (by rw[aB];omega) (λx q hx hq=>?_) ?_
 ·obtain⟨r,hr,rfl⟩:=aQ.mp hx;obtain⟨i,hi,e,_⟩:=EO hr;obtain⟨r1,r2⟩:=r;dsimp only at e;subst e;exact⟨_,rfl,_,rfl,hq⟩
 ·rw[EN λi hi=>hns.lt hi];exact h
def aGb:dD P w K mg base gA 9 a_law f_law ["_law_script"] (cO K BF):=by
 have O_23:=aIx (P:=P) (w:=w) (base:=base) T;have O_39:=aIh (P:=P) (w:=w) (base:=base) T O_23;have O_40:=aIg (P:=P) (w:=w) (base:=base) T O_23 O_39;have O_24:=aIw (P:=P) (w:=w) (base:=base) T O_23;have O_25:=aIv (P:=P) (w:=w) (base:=base) T O_23 O_24;have O_35:=aIl (P:=P) (w:=w) (base:=base) T;have O_32:=aIo (P:=P) (w:=w) (base:=base) T O_23;have O_26:=aIu (P:=P) (w:=w) (base:=base) T O_23;have O_27:=aIt (P:=P) (w:=w) (base:=base) T O_26 O_23;have O_31:=aIp (P:=P) (w:=w) (base:=base) T;have O_33:=aIn (P:=P) (w:=w) (base:=base) T O_31;have O_36:=aIk (P:=P) (w:=w) (base:=base) T;have O_29:=aIr (P:=P) (w:=w) (base:=base) T;have O_30:=aIq (P:=P) (w:=w) (base:=base) T O_29;have O_28:=aIs (P:=P) (w:=w) (base:=base) T;have O_34:=aIm (P:=P) (w:=w) (base:=base) T O_30 O_28;have O_38:=aIi (P:=P) (w:=w) (base:=base) T O_33 O_36 O_34;have O_22:=aIy (P:=P) (w:=w) (base:=base) T;have O_37:=aIj (P:=P) (w:=w) (base:=base) T O_33 O_36 O_34;have O_8:=aLy (P:=P) (w:=w) (base:=base) T;have O_7:=aLz (P:=P) (w:=w) (base:=base) T O_8;have O_9:=aLx (P:=P) (w:=w) (base:=base) T O_7;have O_13:=aI7 (P:=P) (w:=w) (base:=base) T;have O_12:=aI8 (P:=P) (w:=w) (base:=base) T O_13;have O_11:=aI9 (P:=P) (w:=w) (base:=base) T;have O_10:=aJa (P:=P) (w:=w) (base:=base) T O_12 O_11;have O_15:=aI5 (P:=P) (w:=w) (base:=base) T O_10;have O_0:=aL6 (P:=P) (w:=w) (base:=base) T O_9 O_15;have O_5:=aL1 (P:=P) (w:=w) (base:=base) T;have O_6:=aL0 (P:=P) (w:=w) (base:=base) T O_5;have O_1:=aL5 (P:=P) (w:=w) (base:=base) T O_5 O_6;have O_14:=aI6 (P:=P) (w:=w) (base:=base) T;have O_2:=aL4 (P:=P) (w:=w) (base:=base) T O_14;have O_21:=aIz (P:=P) (w:=w) (base:=base) T O_1;have O_20:=aI0 (P:=P) (w:=w) (base:=base) T O_1 O_2 O_21;have O_19:=aI1 (P:=P) (w:=w) (base:=base) T;have O_3:=aL3 (P:=P) (w:=w) (base:=base) T;have O_4:=aL2 (P:=P) (w:=w) (base:=base) T;have O_18:=aI2 (P:=P) (w:=w) (base:=base) T O_19 O_3 O_4;have O_17:=aI3 (P:=P) (w:=w) (base:=base) T O_18;have O_16:=aI4 (P:=P) (w:=w) (base:=base) T O_0 O_20 O_17;have O_41:=aIf (P:=P) (w:=w) (base:=base) T O_37 O_16;have O_law:=aE7 (P:=P) (w:=w) (base:=base) T O_40 O_23 O_25 O_35 O_32 O_27 O_38 O_22 O_41 O_16;exact O_law
def aGc{l:PySem.W.OpenLaw}{fa:Addr}(hfa:mg "law"=some (.ref fa)):∃fd:jL,(∀s(v:Value),BindsTo s fd ⟨[v],[]⟩ [("_law_script",v)])/\∀base:Heap,K.In base->base.Ns jA mg->dD l.prog w K mg base gA 9 fa fd ["_law_script"] (cO K BF):=by
 have e:=hfa.symm.trans T.D_law.m;cases e;refine⟨f_law,?_,λbase _ _=>aGb T⟩;obtain⟨_,_,_,_,_,_,_,_,_,e,_⟩:=T.D_law.F.ex;rw[e]
 exactλs v=>.of_eq rfl
omit T
def UX{t n:Nat}{s k0 k1}(l:K.lookup t=some ⟨.type "tuple",none,.seq #[.str "yes" k0,.str "no" k1] n,s⟩):aGm K t ["yes","no"]:=⟨_,_,_,l,rfl,rfl,rfl,(by show 2<=bL;decide),.cons ⟨_,rfl⟩ (.cons ⟨_,rfl⟩ (.nil))⟩
def UM{H}:bJ H (mask H []):=λb o e=>by
 unfold mask;rw[if_neg (by simp)];exact e
theorem EJ{K H}:∀ns:List Int,Reps K H (ns.map aH) (ns.map V.int)
|[]=>.nil
|n::ns=>.cons (.int n) (EJ ns)
def aLe{l:PySem.W.OpenLaw}{q loose}{XP:(Str->Option Value)->Heap->Prop}{YP:World->Heap->Prop}{d:DefRec}{K:Params->aL}(hn:l.most=some 63)(hdf:d.params.defaults=[])
  (hY:∀(w:World)(h:Heap),YP w h->(K w.params).In h) (hT:∀(w:World)(h:Heap),YP w h->∀P,tabA=some P->h.get? P=some { cls:=.none,data:=.fields #[] }/\(K w.params).lookup P=none/\isCodeTable h P)
  (F:∀(w:World)(mg:Str->Option Value)(fa:Addr)(h:Heap),(K w.params).In h->h.Ns jA mg->mg d.name=some (.ref fa) ->
   ∃fd:jL,(∀s(u:Value),BindsTo s fd ⟨[u],[]⟩ [("_law_script",u)])/\∀base:Heap,(K w.params).In base->base.Ns jA mg->dD l.prog w (K w.params) mg base gA 9 fa fd ["_law_script"] (cO (K w.params) BF)) :
  W1 q loose XP YP l.row.toRowW d [] (λf vs=>PySem.call f vs):=
 L2.W7 (n:=63) (k:=9) (x:="_law_script") (CX:=λ_=>gA) (sp:=λw=>cO (K w.params) BF) hn (by decide) hdf ⟨rfl,by decide,by decide,rfl⟩ hY hT F
  (λw H a ns hl _ hS=>⟨[],[.list (ns.map aH)],λd=>d=.bool true,λp hp=>by simp at hp,.cons (.list (L2.bJ.seq UM hS) (EJ ns)) .nil,⟨ns,rfl,hl,rfl⟩,λd v H' _ r q=>by subst q;cases r;rfl⟩) λ_ _ _ _ _ z=>z
end
end K37
open L2
namespace PySem.W.Fast
theorem tw5898806235834304959:True:=⟨⟩
theorem tw4237063186911206547:True:=⟨⟩
theorem tw17369374410767873306:True:=⟨⟩
theorem tw1993467816910725457:True:=⟨⟩
theorem tw11540735275247249989:True:=⟨⟩
theorem tw3624827703242079021:True:=⟨⟩
theorem tw14655533626105242020:True:=⟨⟩
theorem tw17202343049352319823:True:=⟨⟩
theorem tw18143719530819118786:True:=⟨⟩
theorem tw10216233042373074122:True:=⟨⟩
theorem tw2605714592657187053:True:=⟨⟩
theorem tw14886838461686004821:True:=⟨⟩
theorem tw15269451897371241088:True:=⟨⟩
theorem tw16586569731508480:True:=⟨⟩
theorem tw6583983759786211636:True:=⟨⟩
theorem tw10741774554049404958:True:=⟨⟩
theorem tw12561337522839977104:True:=⟨⟩
theorem tw10318651986028726570:True:=⟨⟩
theorem tw14081509698526769841:True:=⟨⟩
theorem tw16606002865552602368:True:=⟨⟩
theorem tw12028606295454546461:True:=⟨⟩
theorem tw4115641771863361261:True:=⟨⟩
theorem tw3777173195074872667:True:=⟨⟩
theorem tw1679142200114082927:True:=⟨⟩
theorem tw17555069548237422000:True:=⟨⟩
theorem tw4353688952811327770:True:=⟨⟩
theorem tw14069995339794946123:True:=⟨⟩
theorem tw8011559834032449654:True:=⟨⟩
theorem tw1272853670574284048:True:=⟨⟩
theorem tw6524763552445315703:True:=⟨⟩
theorem tw9303947337737814111:True:=⟨⟩
theorem tw16030129226156934106:True:=⟨⟩
theorem tw3460552175986455689:True:=⟨⟩
theorem tw7236952801587036717:True:=⟨⟩
theorem tw4466587689173765852:True:=⟨⟩
theorem tw12191805783142903267:True:=⟨⟩
theorem tw6481164014707353258:True:=⟨⟩
theorem tw8831797671737693447:True:=⟨⟩
theorem tw4751824813528184325:True:=⟨⟩
theorem tw16006230520158716643:True:=⟨⟩
theorem tw11099913496985698128:True:=⟨⟩
theorem tw14073038815900330784:True:=⟨⟩
theorem tw2617963784457501912:True:=⟨⟩
theorem tw12742220838061066964:True:=⟨⟩
theorem tw7220171629780032285:True:=⟨⟩
theorem tw14485202877763374188:True:=⟨⟩
theorem tw17152390056571377283:True:=⟨⟩
theorem tw14803541889232476964:True:=⟨⟩
theorem tw17101648306745587518:True:=⟨⟩
theorem tw12144499585675920135:True:=⟨⟩
theorem tw10343701136600158734:True:=⟨⟩
theorem tw16410078230001717314:True:=⟨⟩
theorem tw2056675488945172539:True:=⟨⟩
theorem tw6414338521696774881:True:=⟨⟩
theorem tw6651776321220887884:True:=⟨⟩
theorem tw9309788062867711800:True:=⟨⟩
theorem tw1558146191059347665:True:=⟨⟩
theorem tw15767682147825543636:True:=⟨⟩
theorem tw7245390918391008850:True:=⟨⟩
theorem tw5466395951163788478:True:=⟨⟩
theorem tw16486193465519052106:True:=⟨⟩
theorem tw7181584197737881071:True:=⟨⟩
theorem tw10565333477592069193:True:=⟨⟩
theorem tw16730903575708792609:True:=⟨⟩
theorem tw12262839006385230585:True:=⟨⟩
theorem tw2873389365472658533:True:=⟨⟩
theorem tw2660822680641257896:True:=⟨⟩
theorem tw16627614518104634525:True:=⟨⟩
theorem tw12241746536086432427:True:=⟨⟩
theorem tw11156585012046636414:True:=⟨⟩
theorem tw2231562139862977907:True:=⟨⟩
theorem tw5917555807632382171:True:=⟨⟩
theorem tw4365906566506329399:True:=⟨⟩
theorem tw1628081886003127163:True:=⟨⟩
theorem tw7407464221520444898:True:=⟨⟩
theorem tw12780866949055219822:True:=⟨⟩
theorem tw9478332468864978063:True:=⟨⟩
theorem tw7822945311170018948:True:=⟨⟩
theorem tw8697838826243897054:True:=⟨⟩
theorem tw11797268914387310798:True:=⟨⟩
theorem tw11454901695535124945:True:=⟨⟩
theorem tw15455325191305637488:True:=⟨⟩
theorem tw7499811492581990523:True:=⟨⟩
theorem tw17938536595300730387:True:=⟨⟩
theorem tw9937332907249073947:True:=⟨⟩
theorem tw18117997430448187687:True:=⟨⟩
theorem tw16052884041616667596:True:=⟨⟩
theorem tw14771181206651058221:True:=⟨⟩
theorem tw2627005782248349351:True:=⟨⟩
theorem tw7793241304905007362:True:=⟨⟩
theorem tw2614395614118808978:True:=⟨⟩
theorem tw16875158583290618023:True:=⟨⟩
theorem tw3051498059807240036:True:=⟨⟩
theorem tw50175288377404425:True:=⟨⟩
theorem tw15098754609304369426:True:=⟨⟩
theorem tw12001398811743727400:True:=⟨⟩
theorem tw16457721435494245108:True:=⟨⟩
theorem tw14981110277771744345:True:=⟨⟩
theorem tw6626754544235806735:True:=⟨⟩
theorem tw16399515807053001029:True:=⟨⟩
theorem tw16252461655734229789:True:=⟨⟩
theorem tw1484046703595427799:True:=⟨⟩
theorem tw7588168138594624811:True:=⟨⟩
end PySem.W.Fast
open PySem PySem.W PyProof.Rows
set_option maxRecDepth 100000 in
set_option maxHeartbeats 0 in
theorem PySem.Challenge.cw_leafjudge_k37_tables_that_hold_holds : PySem.Challenge.rw_leafjudge_k37_tables_that_hold.Holds := by
  w_on; o_law; k_head; (case hw => w_witness2)
  k_fill
  refine K37.aLe (l := PySem.Challenge.rw_leafjudge_k37_tables_that_hold) rfl rfl (λw h Y => PySem.W.kIn_of Y) (λ_ _ _ _ e => nomatch e) ?F
  case F =>
    intro w mg fa h KX G hmg
    refine' K37.aGc ⟨mg_of KX G ?_,⟨?_, ?_, ?_, ?_⟩,⟨?_, ?_, ?_, ?_⟩,na ?_,na ?_,na ?_,na ?_,na ?_,⟨?_, ?_, ?_⟩,⟨?_, ?_, ?_⟩,dg bn4 ?_ ?_ ?_,dg MG ?_ ?_ ?_,dg MG ?_ ?_ ?_,df KX G bn3 ?_ ?_ ?_ ?_,df KX G WW ?_ ?_ ?_ ?_,df KX G MG ?_ ?_ ?_ ?_,df KX G MG ?_ ?_ ?_ ?_,df KX G WW ?_ ?_ ?_ ?_,df KX G WW ?_ ?_ ?_ ?_,df KX G WW ?_ ?_ ?_ ?_,df KX G bn4 ?_ ?_ ?_ ?_,df KX G MG ?_ ?_ ?_ ?_,df KX G bn3 ?_ ?_ ?_ ?_,df KX G MG ?_ ?_ ?_ ?_,df KX G MG ?_ ?_ ?_ ?_,df KX G bn3 ?_ ?_ ?_ ?_,df KX G bn4 ?_ ?_ ?_ ?_,df KX G MG ?_ ?_ ?_ ?_,df KX G MG ?_ ?_ ?_ ?_,df KX G MG ?_ ?_ ?_ ?_,df KX G bn4 ?_ ?_ ?_ ?_,df KX G bn4 ?_ ?_ ?_ ?_,df KX G WW ?_ ?_ ?_ ?_,df KX G MG ?_ ?_ ?_ ?_,df KX G MG ?_ ?_ ?_ ?_,df KX G bn3 ?_ ?_ ?_ ?_,df KX G MG ?_ ?_ ?_ ?_,df KX G bn3 ?_ ?_ ?_ ?_,df KX G WW ?_ ?_ ?_ ?_,df KX G bn4 ?_ ?_ ?_ ?_,df KX G bn4 ?_ ?_ ?_ ?_,df KX G MG ?_ ?_ ?_ ?_,df KX G WW ?_ ?_ ?_ ?_,df KX G bn3 ?_ ?_ ?_ ?_,df KX G MG ?_ ?_ ?_ ?_,df KX G WW ?_ ?_ ?_ ?_,df KX G WW ?_ ?_ ?_ ?_,df KX G bn4 ?_ ?_ ?_ ?_,df KX G bn5 ?_ ?_ ?_ ?_,df KX G bn3 ?_ ?_ ?_ ?_,df KX G bn3 ?_ ?_ ?_ ?_,df KX G bn4 ?_ ?_ ?_ ?_,df KX G WW ?_ ?_ ?_ ?_,mg_of KX G ?_,K37.UX ?_,mg_of KX G ?_,mg_none_of KX G ?_,mg_none_of KX G ?_,mg_none_of KX G ?_,mg_none_of KX G ?_,mg_none_of KX G ?_,mg_none_of KX G ?_,mg_none_of KX G ?_,mg_none_of KX G ?_,mg_none_of KX G ?_,mg_none_of KX G ?_,mg_none_of KX G ?_,mg_none_of KX G ?_,mg_none_of KX G ?_,mg_none_of KX G ?_⟩ hmg
    all_goals try k_is

end