import PyProof.Rows.All
import Wide.All
import OpenK.AllK
import Wide.FinOn
import Lean
import PyProof.EqAt
import PyProof.EqKinds
import PyProof.TupleCall
import PyProof.P3In
import PyProof.NeData
import KE.KLam
import KE.KNestM
import KE.KSortKey
import KE.KListMore
import PySem.Challenge.RW_leafjudge_k94_whole_rows_told_otherwise
set_option Elab.async false
set_option linter.all false
set_option maxRecDepth 100000
noncomputable section
def L2.tabA : Option PySem.Addr := some 129
open List renaming getElem?_eq_getElem → aB, length_map → aC, getElem?_eq_some_iff → aD, getElem?_map → aJ, mem_cons_of_mem → aK, mem_cons_self → aM, mem_cons → aZ, length_append → bA, size_toArray → bB, mem_map → bC, map_map → bD, length_take → bF, length_cons → bI, mem_of_getElem? → bJ, getElem?_set_ne → bL, map_cons → bP, map_append → bQ, getElem?_set_self → bS, length_filter_le → bV, range → bX, getD_eq_getElem?_getD → cI, filter_cons → cM, length_drop → cO, take_add_one → cS, mem_filter → cU, idxOf_lt_length_iff → cZ, getElem?_append_left → dD, getElem?_of_mem → dI, getElem?_append_right → dJ, mem_append_right → dM, mem_singleton → dN, take_of_length_le → dQ, mem_of_mem_take → dS, take_length → dW, append_nil → dY, getElem_mem → eF, length_range → eG, getElem?_eq_none → eJ, getElem_idxOf → eR, mem_append → eT, sum_cons → eY, lookup_cons → fB, all_eq_true → fC, ext_getElem? → fG, map_congr_left → fJ, getElem?_eq_none_iff → fT, filter_append → gB, cons_append → gC, getElem?_range → gS, not_mem_nil → gX, mem_range → gY, take_append_drop → hE, length_singleton → hG, pairwise_iff_getElem → iB, mem_of_mem_drop → iF, getElem?_replicate → iS, getElem?_drop → jB, flatten_cons → jK, filter_congr → jL, replicate → jQ, nodup_cons → kD, find?_cons → kE, pairwise_cons → kG, getElem?_take → kH, length_eq_zero_iff → kZ, length → lA, append_assoc → lC, map_take → lY, mem_append_left → mD, filter_map → mI, replicate_succ → mP, getElem_of_mem → mQ, filterMap_cons → mR, map_nil → mT, getElem?_zip_eq_some → nN, extract_eq_take_drop → nO, reverse_cons → oI, map_drop → oO, getElem?_cons_succ → pK, drop_eq_nil_of_le → pN, nil_append → qG, foldl_cons → qH, countP_map → qI, take_nil → sS, drop_nil → sT, any_cons → sU, getElem_range → sW, take_sublist → uO, length_eq_countP_add_countP → uP, getElem_drop → uQ, countP_congr → uR, getElem_map → vM, range_succ → xJ, of_mem_zip → xK, merge → zL, mem_merge → zM, drop_zero → zN, drop_drop → zO, drop_eq_getElem_cons → A7, mem_of_mem_eraseIdx → BD, getElem?_take_of_lt → BE, singleton_append → E4, perm_append_comm → E5, countP_le_length → E6, mem_iff_getElem → G6, map_id → G7, mem_map_of_mem → JL, mem_filterMap → J2, filterMap_map → J4, countP_append → J5, length_merge → NJ, getElem_take → NK, foldl_append → NL, flatMap_cons → NM, map_flatten → NT, getElem_inj → NU, any_eq_true → NV, take_range → Q1, sum_append → Q2, length_nil → Q3, forIn_cons → Q4, Pairwise → XU, range' → aBk
open PySem.W renaming Frag → aE, keepIn → eX, emptyDict → gK, fnOf → kX, findIn → kY, instObj → lW, codeIn → mN, envX → pD, methodObj → sR, codeHdIn → uC, kla_obj → uY, cellsFrom_some → A6, plainGet → JJ, CodeHd → NG, mroIn → NP, WalkO → NQ
open Nat renaming le_of_ble_eq_true → aH, le_refl → aL, le_trans → bO, zero_le → cC, lt_of_lt_of_le → cG, ne_of_lt → dR, zero_add → gH, lt_irrefl → gI, lt_trichotomy → iI, le_of_lt → iJ, mul_assoc → iP, pow_le_pow_right → jR, mul_pos → jS, mul_le_mul → jT, mul_comm → jW, gcd_pos_of_pos_right → kC, min_eq_left → kF, le_of_eq → lI, lt_succ_self → lX, div_le_self → mO, ne_of_gt → mV, lt_of_le_of_lt → nL, lt_succ_of_lt → oM, gcd_dvd_right → oN, lt_asymm → qF, mul_le_mul_right → rQ, add_sub_cancel → uD, min_eq_right → xG, add_mul → xI, not_lt_zero → yD, mul_div_cancel_left → DL, sub_zero → EZ, lt_trans → E3, div_pos → JK, mul_div_cancel' → J1, not_lt → NH, div_mul_cancel → NI, mul_left_comm → NR, le_succ_of_le → NS, le_max_right → QY, gcd_le_right → QZ, gcd_dvd_left → Q0, le_max_left → UK, le_of_dvd → X3, dvd_trans → X4, sub_self → aBi, gcd_comm → aBj, one_mul → aB5, log2_lt → aB6
open PySem.Heap renaming get?_push_of_some → aP, lt_size → bE, get?_push_size → bW, SameBut → iH, size_push → iU, size_update → NX
open PySem.PyData renaming str → aR, int → aX, eqv → dZ, canLayAll0 → eE, depthAll → eN, tuple → gA, hasDictAll → jG, bulkAll → xH, leavesShortAll → DG, none → DJ, list → DK, showableAll → G4, strOk → UJ, bool → XT
open PySem renaming wpAny_bind → aV, sizeLine → bG, wpAny_pure → bM, starEach → bT, Program → bY, FuncData → dF, wpAny_mono → fS, mainGlobals → fZ, wpAny_newObj_type → lV, swapsWith → qU, wpAny_call_entry → aBh
open PySem.F renaming plainAttrs_list → bR, type_list_append → cW, slot_list_append → cX, type_tuple_index → fW, slot_tuple_index → fX, plainAttrs_tuple → fY, args_tuple_add_2 → nK, type_list_index → oF, slot_list_index → oG, entry_tuple_add → oH, slot_tuple_add → pE, type_list_extend → yA, slot_list_insert → yB, slot_list_extend → yC
open Int renaming natCast_mul → cA, emod_lt_of_pos → cN, emod_nonneg → cV, mul_assoc → dE, mul_comm → fA, natCast_add → iG, le_trans → iK, toNat_of_nonneg → iT, mul_le_mul_of_nonneg_left → jC, le_refl → jU, lt_of_lt_of_le → nM, natCast_ediv → pM, add_zero → qJ, mul_add → rR, lt_of_le_of_lt → uE, mul_zero → uZ, mul_lt_mul_of_pos_right → zP, mul_nonneg → A8, lt_of_mul_lt_mul_right → A9, fdiv_eq_ediv_of_nonneg → BA, toNat_natCast → NW, zero_mul → aBl, sub_mul → aB7, one_mul → aB8, mul_one → aB9, add_mul → aCa, not_lt → aD7
open Bool renaming false_ne_true → cE, false_eq_true → cL, and_eq_true → dB, eq_iff_iff → mJ, not_eq_true' → oJ, not_true → sV, not_eq_false' → sX, or_eq_true → xL, not_false → UL, true_and → XV, or_false → XW
open Array renaming toList_append → dG, length_toList → eO, getElem?_toList → fU, toList_reverse → lZ, toList_push → nQ, toList_extract → qV, size_setIfInBounds → BB, getElem?_eq_none → DH, size_extract → JM, forIn_toList → JN, append_assoc → JO, size_append → J6, modifyM → UM, toList → XX, modify → XY
open Option renaming map_eq_some_iff → iX, isSome_some → G5, getD_none → J0, map → X2
namespace L2
open PySem PySem.Spec PyProof.Rows

abbrev lH:=Sum Int Str
def zB:lH->Value->Bool
 | .inl k,v=>Value.isInt k v
 | .inr x,v=>Value.isStrOf x v
def aC9 (w:World):lH->Int
 | .inl k=>hashInt k
 | .inr x=>hashStr w x
theorem hX:∀ {k:lH} {v:Value},zB k v=true->(∃ i t,k=Sum.inl i/\v=Value.int i t)\/(∃ x t,k=Sum.inr x/\v=Value.str x t)
 | .inl i,v,h=>by
  obtain ⟨t,e⟩:=Value.isInt_shape (k:=i) (v:=v) h
  exact .inl ⟨i,t,rfl,e⟩
 | .inr x,v,h=>by
  obtain ⟨t,e⟩:=Value.isStrOf_shape (x:=x) (v:=v) h
  exact .inr ⟨x,t,rfl,e⟩
theorem IL (i:Int) (t:Tok):zB (.inl i) (.int i t)=true:=by simp [zB,Value.isInt]
theorem IK (x:Str) (t:Tok):zB (.inr x) (.str x t)=true:=by simp [zB,Value.isStrOf]
theorem WE (a b:Int):decide ((Sum.inl a:lH)=Sum.inl b)=(a == b):=by
 by_cases e:a=b
 ·subst e;simp
 ·have h:¬ (Sum.inl a:lH)=Sum.inl b:=λq=>e (Sum.inl.inj q)
  rw [decide_eq_false h]
  exact (beq_eq_false_iff_ne.mpr e).symm
theorem WA (a b:Str):decide ((Sum.inr a:lH)=Sum.inr b)=decide (a=b):=by
 by_cases e:a=b
 ·subst e;simp
 ·have h:¬ (Sum.inr a:lH)=Sum.inr b:=λq=>e (Sum.inr.inj q)
  rw [decide_eq_false h,decide_eq_false e]
theorem WD (a:Int) (b:Str):decide ((Sum.inl a:lH)=Sum.inr b)=false:=decide_eq_false (λq=>nomatch q)
theorem WB (a:Str) (b:Int):decide ((Sum.inr a:lH)=Sum.inl b)=false:=decide_eq_false (λq=>nomatch q)

def mX (prog:bY) (w:World):PySem.KeyKind prog w lH where
 is:=zB
 hash:=aC9 w
 inj:=λv a b ha hb=>by
  rcases hX ha with ⟨i,t,rfl,rfl⟩ | ⟨x,t,rfl,rfl⟩
  ·rcases hX hb with ⟨j,u,rfl,e⟩ | ⟨y,u,rfl,e⟩
   ·injection e with e1 _;rw [e1]
   ·exact nomatch e
  ·rcases hX hb with ⟨j,u,rfl,e⟩ | ⟨y,u,rfl,e⟩
   ·exact nomatch e
   ·injection e with e1 _;rw [e1]
 byValue:=λk v h=>by
  rcases hX h with ⟨i,t,rfl,rfl⟩ | ⟨x,t,rfl,rfl⟩<;>rfl
 pyHash:=λhv h=>by
  rcases hX hv with ⟨i,t,rfl,rfl⟩ | ⟨x,t,rfl,rfl⟩
  ·exact wpAny_pyHash_int h
  ·exact wpAny_pyHash_str h
 eqBool:=λhu hv h=>by
  rcases hX hu with ⟨i,t,rfl,rfl⟩ | ⟨x,t,rfl,rfl⟩
  ·rcases hX hv with ⟨j,u,rfl,rfl⟩ | ⟨y,u,rfl,rfl⟩
   ·rw [WE] at h;exact wpAny_eqBool_int h
   ·rw [WD] at h;exact SeqAt.EqAt.int_str i t y u _ _ _ _ h
  ·rcases hX hv with ⟨j,u,rfl,rfl⟩ | ⟨y,u,rfl,rfl⟩
   ·rw [WB] at h;exact SeqAt.EqAt.str_int x t j u _ _ _ _ h
   ·rw [WA] at h;exact wpAny_eqBool_str h
 «strs»:=λk x t v h=>by
  rcases hX h with ⟨i,u,rfl,e⟩ | ⟨y,u,rfl,e⟩
  ·exact nomatch e
  ·injection e with e1 _
   subst e1
   cases v<;>rfl

theorem CD (prog:bY) (w:World) (i:Int) (t:Tok):(mX prog w).is (.inl i) (.int i t)=true:=IL i t
theorem CC (prog:bY) (w:World) (x:Str) (t:Tok):(mX prog w).is (.inr x) (.str x t)=true:=IK x t

inductive V where
 | non | bl (b:Bool) | int (i:Int) | str (x:Str) | byt (b:Array UInt8) | flt (b:UInt64) | ref (a:Addr) | ty (n:String)
 deriving DecidableEq

def gO:V->Value->Prop
 | .non,u=>u=Value.none
 | .bl b,u=>u=Value.bool b
 | .int i,u=>∃ t,u=Value.int i t
 | .str x,u=>∃ t,u=Value.str x t
 | .byt b,u=>∃ t,u=Value.bytes b t
 | .flt b,u=>∃ t,u=Value.float b t
 | .ref a,u=>u=Value.ref a
 | .ty n,u=>u=Value.type n

abbrev eI:List V->List Value->Prop:=Paired gO
theorem eI.length {xs:List V} {us:List Value} (r:eI xs us):xs.length=us.length:=Paired.length r
theorem eI.get:∀ {xs:List V} {us:List Value} {i:Nat} {x:V},eI xs us->xs[i]?=some x->∃ u,us[i]?=some u/\gO x u
 | _,_,_,_,.nil,e=>by simp at e
 | _,_,0,_,.cons r _,e=>by simp at e;subst e;exact ⟨_,rfl,r⟩
 | _,_,i+1,x,.cons _ t,e=>by
  obtain ⟨u,h1,h2⟩:=eI.get (i:=i) (x:=x) t (by simpa using e)
  exact ⟨u,by simpa using h1,h2⟩
theorem eI.set {x:V} {u:Value} (r:gO x u):∀ {xs:List V} {us:List Value} (i:Nat),eI xs us->eI (xs.set i x) (us.set i u)
 | _,_,_,.nil=>.nil
 | _,_,0,.cons _ t=>.cons r t
 | _,_,i+1,.cons q t=>.cons q (eI.set r i t)
theorem eI.append:∀ {xs ys:List V} {us ws:List Value},eI xs us->eI ys ws->eI (xs++ys) (us++ws)
 | _,_,_,_,.nil,s=>s
 | _,_,_,_,.cons r t,s=>.cons r (eI.append t s)
theorem eI.take:∀ {xs:List V} {us:List Value} (n:Nat),eI xs us->eI (xs.take n) (us.take n)
 | _,_,0,_=>.nil
 | _,_,_+1,.nil=>.nil
 | _,_,n+1,.cons r t=>.cons r (eI.take n t)
theorem eI.drop:∀ {xs:List V} {us:List Value} (n:Nat),eI xs us->eI (xs.drop n) (us.drop n)
 | _,_,0,r=>r
 | _,_,_+1,.nil=>.nil
 | _,_,n+1,.cons _ t=>eI.drop n t
def DA:Option V->Option Value->Prop
 | some v,some u=>gO v u
 | none,none=>True
 | _,_=>False
def KV {κ:Type}:List (κ×V)->List (κ×Value)->Prop:=Paired λ(p:κ×V) (q:κ×Value)=>p.1=q.1/\gO p.2 q.2

def kV:lH->V
 | .inl i=>.int i
 | .inr x=>.str x

inductive HO where
 /-- a list -/
 | lst (xs:List V)
 /-- a tuple (never changes) -/
 | tup (xs:List V)
 /-- a dict whose keys are ints and texts;one whose keys are tuples of ints and texts (the empty one is both) -/
 | dK (kvs:List (lH×V)) | dT (kvs:List (List lH×V))
 /-- a set of ints: its members,its size -/
 | set (S:Int->Bool) (n:Nat)
 /-- an instance of the class at C,its dict at dx,its attributes -/
 | ins (C dx:Addr) (fs:List (Str×V))
 /-- the dict of the instance at x -/
 | own (x:Addr)
 /-- the dict of an exception -/
 | xd (fs:List (Str×V))
 /-- a bound method,f of x -/
 | met (f x:Addr)
 /-- a range object lo,lo+1,.. below hi -/
 | rng (lo hi:Int)
 /-- a thing that is known to the object (the script;a dict while a loop walks it): read,never written while it is so -/
 | frz (o:Obj) (u:HO)
 /-- a code object's table -/
 | tbl (ps:Array Value)
 /-- any other thing,by what is true of its one object (a def of one's own: SetO a S n:=HO.ext λh=>..) -/
 | ext (φ:Heap->Prop)

abbrev Hp:=Addr->Option HO
def iM (H:Hp) (a:Addr) (o:HO):Hp:=λb=>if b=a then some o else H b
theorem eM {H:Hp} {a:Addr} {o:HO}:iM H a o a=some o:=by unfold iM;rw [if_pos rfl]
theorem cT {H:Hp} {a b:Addr} {o:HO} (h:b≠a):iM H a o b=H b:=by unfold iM;rw [if_neg h]
theorem fQ {H:Hp} {a b:Addr} {o:HO} (h:H a=some o) (h':H b=none):a≠b:=by
 intro e;subst e;rw [h] at h';cases h'

section
variable (P:bY) (w:World)
def xU (h:Heap) (a:Addr) (items:Array Value):Prop:=∃ o,h.get? a=some o/\o.cls=.type "tuple"/\∃ n,o.data=.seq items n/\o.dict=none
theorem xU.tup {h:Heap} {a:Addr} {items:Array Value} (x:xU h a items):IsTup h a items:=let ⟨o,e,c,n,d,_⟩:=x;⟨o,e,c,n,d⟩
theorem xU.lt {h:Heap} {a:Addr} {items:Array Value} (x:xU h a items):a<h.objs.size:=x.tup.lt
theorem xU.new (h:Heap) (items:Array Value):xU (h.push { cls:=.type "tuple",data:=.seq items }) h.objs.size items:=⟨_,bW _ rfl,rfl,_,rfl,rfl⟩
def NF (oc:Obj):Prop:=∃ (vs:Array Value) (q:Str) (t:Tok),oc.data=.fields vs/\vs[1]?=some (.str q t)
def mC (H:Hp) (h:Heap) (a:Addr):HO->Prop
 | .lst xs=>xs.length<=bG/\∃ (its:List Value) (n:Nat),eI xs its/\h.get? a=some { cls:=.type "list",data:=.seq its.toArray n }
 | .tup xs=>xs.length<=bG/\∃ its:List Value,eI xs its/\xU h a its.toArray
 | .dK kvs=>kvs.length<=bG/\(a == sysModules)=false/\∃ vs,KV kvs vs/\h.DictOf (mX P w) a vs
 | .dT kvs=>kvs.length<=bG/\(a == sysModules)=false/\∃ xs:List (List lH×Addr×Value),
   Paired (λ(p:List lH×V) (q:List lH×Addr×Value)=>p.1=q.1/\H q.2.1=some (.tup (p.1.map kV))/\gO p.2 q.2.2) kvs xs /\
   ∃ o es ep,h.get? a=some o/\o.ExactDict/\o.data=.dict es ep/\es.toList=xs.map (entryOfKey (tupleKind (mX P w)))/\(xs.map (·.1)).Nodup
 | .set S n=>h.SetOf (intKind P w) a S n
 | .ins C dx fs=>H dx=some (.own a)/\fs.length<=1000/\dx≠a/\h.get? a=some (lW C dx) /\
   ∃ mA,h.Ns1 dx mA/\(∀ f,DA (fs.lookup f) (mA f))/\PySem.Within mA (fs.map (·.1))
 | .own _=>∃ o,h.get? a=some o
 | .xd fs=>∃ mA,h.Ns1 a mA/\∀ f,DA (fs.lookup f) (mA f)
 | .rng lo hi=>∃ t u v,h.get? a=some { cls:=.type "range",data:=.fields #[.int lo t,.int hi u,.int 1 v] }
 | .frz o u=>h.get? a=some o/\mC H h a u
 | .tbl _=>∃ qs:Array Value,h.get? a=some { cls:=.none,data:=.fields qs }/\TriplesOk qs.toList/\∀ (p:Pos) (c:Value),codeAmong p qs.toList=some c->∃ c' oc,c=.ref c'/\H c'=some (.frz oc (.own a))/\NF oc
 | .met f x=>h.get? a=some (sR (.ref f) (.ref x))
 | .ext φ=>φ h/\(∃ o,h.get? a=some o)/\∀ h1 h2:Heap,φ h1->(∀ o,h1.get? a=some o->h2.get? a=some o)->φ h2
def rC (H:Hp) (h:Heap):Prop:=∀ a o,H a=some o->mC P w H h a o
end

section
variable {P:bY} {w:World} {H H':Hp} {h h':Heap} {a:Addr} {o:HO}
theorem mC.lt (x:mC P w H h a o):a<h.objs.size:=by
 cases o with
 | lst xs=>obtain ⟨_,_,_,_,e⟩:=x;exact bE e
 | tup xs=>obtain ⟨_,_,_,p⟩:=x;exact p.lt
 | dK kvs=>obtain ⟨_,_,_,_,o,_,_,e,_⟩:=x;exact bE e
 | dT kvs=>obtain ⟨_,_,_,_,o,_,_,e,_⟩:=x;exact bE e
 | set S n=>obtain ⟨o,_,_,_,e,_⟩:=x;exact bE e
 | ins C dx fs=>obtain ⟨_,_,_,e,_⟩:=x;exact bE e
 | own y=>obtain ⟨_,e⟩:=x;exact bE e
 | xd fs=>obtain ⟨_,⟨_,_,_,e,_⟩,_⟩:=x;exact bE e
 | rng lo hi=>obtain ⟨_,_,_,e⟩:=x;exact bE e
 | frz ob u=>obtain ⟨e,_⟩:=x;exact bE e
 | tbl ps=>obtain ⟨_,e,_⟩:=x;exact bE e
 | met f y=>exact bE (show h.get? a=some _ from x)
 | ext φ=>obtain ⟨_,⟨_,e⟩,_⟩:=x;exact bE e
theorem Paired.mapP {α β:Type} {F G:α->β->Prop}:∀ {l₁:List α} {l₂:List β},Paired F l₁ l₂->(∀ a b,F a b->G a b)->Paired G l₁ l₂
 | _,_,.nil,_=>.nil
 | _,_,.cons r t,f=>.cons (f _ _ r) (Paired.mapP t f)
theorem mC.stay (x:mC P w H h a o) (k:∀ b u,(b=a\/H b=some (.own a))->h.get? b=some u->h'.get? b=some u)
  (ho:∀ b,H b=some (.own a)->H' b=some (.own a)) (ht:∀ b xs,H b=some (.tup xs)->H' b=some (.tup xs)) (hf:∀ b ob u,H b=some (.frz ob u)->H' b=some (.frz ob u):=by exact λ_ _ _ q=>q):mC P w H' h' a o:=by
 induction o with
 | lst xs=>obtain ⟨z,its,n,r,e⟩:=x;exact ⟨z,its,n,r,k _ _ (.inl rfl) e⟩
 | tup xs=>obtain ⟨z,its,r,ob,e,c⟩:=x;exact ⟨z,its,r,ob,k _ _ (.inl rfl) e,c⟩
 | dK kvs=>obtain ⟨z,y,vs,r,ob,es,ep,e,c⟩:=x;exact ⟨z,y,vs,r,ob,es,ep,k _ _ (.inl rfl) e,c⟩
 | dT kvs =>
  obtain ⟨z,y,xs,r,ob,es,ep,e,c⟩:=x
  exact ⟨z,y,xs,Paired.mapP r λp q z=>⟨z.1,ht _ _ z.2.1,z.2.2⟩,ob,es,ep,k _ _ (.inl rfl) e,c⟩
 | set S n=>obtain ⟨ob,es,ep,t,e,c⟩:=x;exact ⟨ob,es,ep,t,k _ _ (.inl rfl) e,c⟩
 | ins C dx fs =>
  obtain ⟨d,z,ne,e,mA,⟨od,es,ep,e2,c⟩,r⟩:=x
  exact ⟨ho _ d,z,ne,k _ _ (.inl rfl) e,mA,⟨od,es,ep,k _ _ (.inr d) e2,c⟩,r⟩
 | own y=>obtain ⟨ob,e⟩:=x;exact ⟨ob,k _ _ (.inl rfl) e⟩
 | xd fs=>obtain ⟨mA,⟨od,es,ep,e,c⟩,r⟩:=x;exact ⟨mA,⟨od,es,ep,k _ _ (.inl rfl) e,c⟩,r⟩
 | rng lo hi=>obtain ⟨t,u,v,e⟩:=x;exact ⟨t,u,v,k _ _ (.inl rfl) e⟩
 | frz ob u ih=>obtain ⟨e,q⟩:=x;exact ⟨k _ _ (.inl rfl) e,ih q⟩
 | tbl ps =>
  obtain ⟨qs,e,t,z⟩:=x
  exact ⟨qs,k a _ (.inl rfl) e,t,λp c q=>let ⟨c',oc,h1,h2,h3⟩:=z p c q;⟨c',oc,h1,hf _ _ _ h2,h3⟩⟩
 | met f y =>
  have e:h.get? a=some (sR (.ref f) (.ref y)):=x
  show h'.get? a=some (sR (.ref f) (.ref y))
  exact k a _ (.inl rfl) e
 | ext φ=>obtain ⟨p,⟨o,e⟩,st⟩:=x;exact ⟨st _ _ p λo q=>k _ _ (.inl rfl) q,⟨o,k _ _ (.inl rfl) e⟩,st⟩
theorem rC.lt (x:rC P w H h) (e:H a=some o):a<h.objs.size:=(x a o e).lt
theorem rC.fresh (x:rC P w H h) (e:h.objs.size<=a):H a=none:=by
 cases q:H a with
 | none=>rfl
 | some u=>exact absurd (cG (x.lt q) e) (gI _)
theorem rC.kept (x:rC P w H h) (k:∀ b u,h.get? b=some u->h'.get? b=some u):rC P w H h':=λa o e =>
 (x a o e).stay (λb u _ q=>k b u q) (λ_ q=>q) λ_ _ q=>q
theorem rC.laid (x:rC P w H h) (k:∀ b u,h.get? b=some u->h'.get? b=some u) (hp:h.objs.size<=a) (new:mC P w (iM H a o) h' a o):rC P w (iM H a o) h':=λb u e=>by
 have hn:=x.fresh hp
 by_cases hb:b=a
 ·subst hb;rw [eM] at e;cases e;exact new
 ·rw [cT hb] at e
  exact (x b u e).stay (λc v _ q=>k c v q) (λc q=>by rw [cT (fQ q hn)];exact q) (λc xs q=>by rw [cT (fQ q hn)];exact q) λc ob v q=>by rw [cT (fQ q hn)];exact q
end

def Rd (H:Hp) (a:Addr) (u:HO):Prop:=H a=some u\/∃ o,H a=some (.frz o u)
theorem Rd.of {H:Hp} {a:Addr} {u:HO} (h:H a=some u):Rd H a u:=.inl h
theorem Rd.ok {P:bY} {w:World} {H:Hp} {h:Heap} {a:Addr} {u:HO} (r:Rd H a u) (x:rC P w H h):mC P w H h a u:=by
 rcases r with r | ⟨o,r⟩
 ·exact x a u r
 ·obtain ⟨_,q⟩:=x a _ r
  exact q
def Mut:Option HO->Prop
 | some (.lst _)=>True
 | some (.dK _)=>True
 | some (.dT _)=>True
 | some (.set _ _)=>True
 | some (.ins _ _ _)=>True
 | some (.ext _)=>True
 | _=>False
section
variable {P:bY} {w:World} {H:Hp} {h h':Heap} {x e:Addr} {o':HO}
theorem rC.write (ok:rC P w H h) (mu:Mut (H x)) (he:e=x\/H e=some (.own x)) (k:∀ b u,b≠e->h.get? b=some u->h'.get? b=some u) (heo:∃ u,h'.get? e=some u)
  (new:mC P w (iM H x o') h' x o'):rC P w (iM H x o') h':=λb u q=>by
 have nown:∀ c y,H c=some (.own y)->c≠x:=λc y r z=>by subst z;rw [r] at mu;exact mu
 have ntup:∀ c xs,H c=some (.tup xs)->c≠x:=λc xs r z=>by subst z;rw [r] at mu;exact mu
 by_cases hb:b=x
 ·subst hb;rw [eM] at q;cases q;exact new
 ·rw [cT hb] at q
  by_cases hbe:b=e
  ·have q':H b=some (.own x):=by
    rcases he with z | z
    ·exact absurd (hbe.trans z) hb
    ·rw [hbe];exact z
   rw [q] at q';cases q'
   obtain ⟨v,hv⟩:=heo
   exact ⟨v,by rw [hbe];exact hv⟩
  ·refine (ok b u q).stay (λc v hc r=>k c v ?_ r) (λc r=>by rw [cT (nown c b r)];exact r) (λc xs r=>by rw [cT (ntup c xs r)];exact r) λc ob v r=>by rw [cT (λz=>by subst z;rw [r] at mu;exact mu)];exact r
   rcases hc with rfl | hc
   ·exact hbe
   ·rintro rfl
    rcases he with z | z
    ·exact nown c b hc z
    ·rw [hc] at z;cases z;exact hb rfl
end

structure Un (fs ex:List Addr) (H H':Hp) (h h':Heap):Prop where
 keep:∀ b o,h.get? b=some o->H b=none->b∉fs->b∉ex->h'.get? b=some o
 slot:∀ b o,h.get? b=some o->H b=none->b∈fs->b∉ex->∃ sl,h'.get? b=some { o with slots:=sl }
 free:∀ b o,h.get? b=some o->H b=none->b∉ex->H' b=none
 there:∀ b o,h.get? b=some o->b∉ex->∃ o',h'.get? b=some o'
 tups:∀ b xs,H b=some (.tup xs)->H' b=some (.tup xs)
 frzs:∀ b o u,H b=some (.frz o u)->H' b=some (.frz o u)
 tbls:∀ b ps,H b=some (.tbl ps)->∃ more,H' b=some (.tbl (ps++more))
section
variable {fs fs' ex ex':List Addr} {H H1 H2:Hp} {h h1 h2 h':Heap} {a x e:Addr} {o:HO}
theorem Un.any (u:Un fs ex H H1 h h1) {b:Addr} {ob:Obj} (q:h.get? b=some ob) (n:H b=none) (hx:b∉ex):∃ sl,h1.get? b=some { ob with slots:=sl }:=by
 by_cases hb:b∈fs
 ·exact u.slot b ob q n hb hx
 ·exact ⟨ob.slots,u.keep b ob q n hb hx⟩
theorem Un.trans (a:Un fs ex H H1 h h1) (b:Un fs ex H1 H2 h1 h2):Un fs ex H H2 h h2 where
 keep:=λc ob q n hc hx=>b.keep c ob (a.keep c ob q n hc hx) (a.free c ob q n hx) hc hx
 slot:=λc ob q n hc hx=>by
  obtain ⟨sl,e1⟩:=a.slot c ob q n hc hx
  obtain ⟨sl',e2⟩:=b.slot c _ e1 (a.free c ob q n hx) hc hx
  exact ⟨sl',e2⟩
 free:=λc ob q n hx=>by
  obtain ⟨o',e1⟩:=a.there c ob q hx
  exact b.free c o' e1 (a.free c ob q n hx) hx
 there:=λc ob q hx=>by
  obtain ⟨o',e1⟩:=a.there c ob q hx
  exact b.there c o' e1 hx
 tups:=λc xs q=>b.tups c xs (a.tups c xs q)
 frzs:=λc ob xs q=>b.frzs c ob xs (a.frzs c ob xs q)
 tbls:=λc ps q=>by
  obtain ⟨m1,e1⟩:=a.tbls c ps q
  obtain ⟨m2,e2⟩:=b.tbls c _ e1
  exact ⟨m1++m2,by rw [e2,JO]⟩
theorem Un.kept (k:∀ b u,h.get? b=some u->h'.get? b=some u):Un fs ex H H h h' :=
 ⟨λb ob q _ _ _=>k b ob q,λb ob q _ _ _=>⟨ob.slots,k b ob q⟩,λ_ _ _ n _=>n,λb ob q _=>⟨ob,k b ob q⟩,λ_ _ q=>q,λ_ _ _ q=>q,λ_ ps q=>⟨#[],by rw [q];simp⟩⟩
theorem Un.refl:Un fs ex H H h h:=Un.kept λ_ _ q=>q
theorem Un.laid (k:∀ b u,h.get? b=some u->h'.get? b=some u) (hp:h.objs.size<=a) (hn:H a=none):Un fs ex H (iM H a o) h h' where
 keep:=λb u q _ _ _=>k b u q
 slot:=λb u q _ _ _=>⟨u.slots,k b u q⟩
 free:=λb u q n _=>by rw [cT (dR (cG (bE q) hp))];exact n
 there:=λb u q _=>⟨u,k b u q⟩
 tups:=λb xs q=>by rw [cT (fQ q hn)];exact q
 frzs:=λb u xs q=>by rw [cT (fQ q hn)];exact q
 tbls:=λb ps q=>⟨#[],by rw [cT (fQ q hn),q];simp⟩
theorem Un.write (mu:Mut (H x)) (he:e=x\/H e=some (.own x)) (k:∀ b u,b≠e->h.get? b=some u->h'.get? b=some u) (heo:∃ u,h'.get? e=some u):Un fs ex H (iM H x o) h h':=by
 have hx:∀ b,H b=none->b≠x:=λb n z=>by subst z;rw [n] at mu;exact mu
 have hb:∀ b,H b=none->b≠e:=λb n z=>by
  subst z
  rcases he with r | r
  ·exact hx b n r
  ·rw [n] at r;cases r
 have hm:∀ b u,H b=some u->¬ Mut (some u)->b≠x:=λb u q nm z=>by subst z;rw [q] at mu;exact nm mu
 refine ⟨λb u q n _ _=>k b u (hb b n) q,λb u q n _ _=>⟨u.slots,k b u (hb b n) q⟩,λb u q n _=>by rw [cT (hx b n)];exact n,λb u q _=>?_,
  λb xs q=>by rw [cT (hm b _ q λz=>z)];exact q,λb u xs q=>by rw [cT (hm b _ q λz=>z)];exact q,λb ps q=>⟨#[],by rw [cT (hm b _ q λz=>z),q];simp⟩⟩
 by_cases hbe:b=e
 ·subst hbe;exact heo
 ·exact ⟨u,k b u hbe q⟩
theorem Un.mono (u:Un fs ex H H1 h h1) (hs:∀ b∈fs,b∈fs') (hx:∀ b∈ex,b∈ex'):Un fs' ex' H H1 h h1 :=
 ⟨λb ob q n hb he=>u.keep b ob q n (λz=>hb (hs b z)) λz=>he (hx b z),λ_ _ q n _ he=>u.any q n λz=>he (hx _ z),λb ob q n he=>u.free b ob q n λz=>he (hx b z),λb ob q he=>u.there b ob q λz=>he (hx b z),u.tups,u.frzs,u.tbls⟩
end

def trk (h:Heap) (H:Hp):List Addr:=(bX h.objs.size).filter λa=>(H a).isSome
def AS (h:Heap) (H:Hp):Heap:=PySem.W.hideAll h (trk h H)
theorem IN (h:Heap) (H:Hp):(AS h H).objs.size=h.objs.size:=PySem.W.hideAll_size _ _
theorem MP {h:Heap} {H:Hp} {b:Addr} {o:Obj} (e:h.get? b=some o) (n:H b=none):(AS h H).get? b=some o :=
 PySem.W.hideAll_get _ e λhm=>by
  have q:(H b).isSome=true:=(cU.mp hm).2
  rw [n] at q;simp at q
theorem PK {h:Heap} {H:Hp} {b:Addr} {o:Obj} (e:(AS h H).get? b=some o):h.get? b=some o/\H b=none:=by
 have e':h.get? b=some o:=PySem.W.of_hideAll (trk h H) e
 refine ⟨e',?_⟩
 cases q:H b with
 | none=>rfl
 | some x =>
  have hm:b∈trk h H:=cU.mpr ⟨gY.mpr (bE e'),by simp [q]⟩
  have z:(AS h H).get? b=none:=PySem.W.hideAll_none (trk h H) hm
  rw [z] at e;cases e

def QS (g h:Heap) (L:Addr):List (Addr×Obj):=(bX h.objs.size).filterMap λa=>if a=L\/(g.get? a).isSome=true then none else (h.get? a).map λo=>(a,o)
def lS (g h:Heap) (L d:Addr):List (Addr×Obj):=(QS g h L).filter λp=>decide (p.1≠d)
end L2

namespace L2
open PySem PySem.Spec PyProof.Rows

structure Mod (K:aE) (mg:Str->Option Value) (base:Heap):Prop where
 kin:K.In base
 glob:base.Ns fZ mg
 blt:∃ mb,base.Ns builtinsNs mb/\∀ x:Str,x≠"__name__"->mb x=bootBuiltins x
 nolimit:base.NoLimit
 bmod:∃ bm o,mg "__builtins__"=some (.ref bm)/\bm≠builtinsNs/\base.get? bm=some o/\o.cls=.type "module"/\o.dict=some builtinsNs/\o.data=.plain

structure Cx where
 prog:bY
 w:World
 K:aE
 mg:Str->Option Value
 base:Heap
 A:Around
 N:List Str
 s₀:Shared
 H₀:Hp
 env:Env
 outer:List Env
 stack:List Env
 ex:List Addr
 fn:Str->Bool
 calm:Bool
 pn:List (Addr×Obj)
 xe:Value->Shared->Prop
def CT (l:List Env):List Addr:=l.filterMap (·.frame)
abbrev Cx.fs (X:Cx):List Addr:=CT X.outer

def Vis (sc:Scope) (x:Str):Prop:=sc.names.lookup x=some .local\/sc.names.lookup x=some .cell\/sc.names.lookup x=some .free
def ND (sc:Scope) (x:Str):Prop:=sc.names.lookup x=some .local\/sc.names.lookup x=some .cell
def aD1 (env:Env) (h:Heap) (m:Str->Option Value) (x:Str) (u:Value):Prop :=
 (env.kindOf x=some .local/\m x=some u)\/((env.kindOf x=some .cell\/env.kindOf x=some .free)/\∃ c,env.cells.lookup x=some c/\h.IsCell c (some u))

def Tb (H:Hp):Prop:=∀ P,tabA=some P->∃ ps,H P=some (.tbl ps)
structure Cx.Ok (X:Cx):Prop where
 mod:Mod X.K X.mg X.base
 kind:X.env.scope.kind=.function
 glob:X.env.globals=fZ
 blt:X.env.builtins=builtinsNs
 above:X.s₀.heap.objs.size<=X.env.locals
 inj:∀ x y c,X.env.cells.lookup x=some c->X.env.cells.lookup y=some c->x=y
 has:∀ x,(X.env.kindOf x=some .cell\/X.env.kindOf x=some .free)->∃ c,X.env.cells.lookup x=some c
 cab:∀ x c,X.fn x=true->X.env.cells.lookup x=some c->X.s₀.heap.objs.size<=c
 hd:X.calm=true->X.A.handled=none
 frames:X.A.frames=some X.stack
 stk:X.stack=X.outer\/(X.stack=X.env::X.outer/\X.env.frame=some X.env.locals)
 exf:∀ b∈X.ex,b≠X.env.locals/\∀ x c,X.env.cells.lookup x=some c->c≠b
 bs:∀ b o,X.base.get? b=some o->X.s₀.heap.get? b=some o/\X.H₀ b=none
 bsz:X.base.objs.size<=X.s₀.heap.objs.size
 noex:∀ b o,X.base.get? b=some o->b∉X.ex
 exfs:∀ b∈X.ex,b∉X.fs
 funs:X.s₀.heap.FunFrames X.base X.outer
 frf:∀ b∈X.fs,X.H₀ b=none
 tab:Tb X.H₀

structure dU (X:Cx) (pins:List (Addr×Obj)) (σ:List (Option V)) (H:Hp) (s:Shared):Prop where
 ok:X.Ok
 os:s.os=X.s₀.os
 bare:AllBare s.gens
 base:Un X.fs X.ex X.H₀ H X.s₀.heap s.heap
 loc:∃ m,s.heap.Ns X.env.locals m/\∀ (i:Nat) (x:Str) (v:V),X.N[i]?=some x->σ[i]?=some (some v)->Vis X.env.scope x->∃ u,gO v u/\aD1 X.env s.heap m x u
 cell:∀ x c,X.env.cells.lookup x=some c->∃ v,s.heap.IsCell c v
 free:H X.env.locals=none
 freeC:∀ x c,X.env.cells.lookup x=some c->H c=none
 pin:∀ p∈X.pn++pins,s.heap.get? p.1=some p.2/\H p.1=none/\p.1≠X.env.locals/\p.1∉X.fs/\∀ v,p.2.data≠.cell v
 hok:rC X.prog X.w H s.heap
 len:σ.length=X.N.length

section
variable {X:Cx} {pins:List (Addr×Obj)} {σ:List (Option V)} {H H':Hp} {s:Shared} {h':Heap}

theorem Cx.Ok.nofr (ok:X.Ok) {b:Addr} {o:Obj} (e:X.base.get? b=some o):b∉X.fs:=λhb=>by
 have:=(ok.funs.mem hb).1
 rw [e] at this;cases this
theorem dU.bs (I:dU X pins σ H s):∀ b o,X.base.get? b=some o->s.heap.get? b=some o/\H b=none:=λb o e =>
 ⟨I.base.keep b o (I.ok.bs b o e).1 (I.ok.bs b o e).2 (I.ok.nofr e) (I.ok.noex b o e),I.base.free b o (I.ok.bs b o e).1 (I.ok.bs b o e).2 (I.ok.noex b o e)⟩
theorem dU.bk (I:dU X pins σ H s):∀ b o,X.base.get? b=some o->s.heap.get? b=some o:=λb o e=>(I.bs b o e).1
theorem dU.mod (I:dU X pins σ H s):Mod X.K X.mg X.base:=I.ok.mod
theorem dU.kIn (I:dU X pins σ H s):X.K.In s.heap:=I.ok.mod.kin.keeps I.bk
theorem dU.nolimit (I:dU X pins σ H s):s.heap.NoLimit:=I.ok.mod.nolimit.keeps I.bk
theorem dU.fr (I:dU X pins σ H s):∃ m,Fr X.base X.env.locals s.heap m :=
 let ⟨m,hn,_⟩:=I.loc
 ⟨m,hn,I.bk,bO I.ok.bsz I.ok.above⟩
theorem dU.lt (I:dU X pins σ H s):X.env.locals<s.heap.objs.size:=let ⟨_,hn,_⟩:=I.loc;hn.lt
theorem dU.sz (I:dU X pins σ H s):X.s₀.heap.objs.size<=s.heap.objs.size:=bO I.ok.above (iJ I.lt)
theorem dU.nofs (I:dU X pins σ H s) {a:Addr} (h:s.heap.objs.size<=a):a∉X.fs:=λhb=>by
 obtain ⟨_,o,ho,_⟩:=I.ok.funs.mem hb
 exact absurd (cG (bE ho) (bO I.sz h)) (gI _)
theorem dU.cne (I:dU X pins σ H s):∀ x c,X.env.cells.lookup x=some c->c≠X.env.locals:=λx c e z=>by
 obtain ⟨v,o,ho,hd⟩:=I.cell x c e
 obtain ⟨m,⟨o',es,ep,ho',hd',_⟩,_⟩:=I.loc
 rw [z,ho'] at ho;cases ho;rw [hd'] at hd;cases hd
theorem dU.funs (I:dU X pins σ H s):s.heap.FunFrames X.base X.outer:=by
 have all:∀ (l:List Env),(∀ b∈CT l,b∈X.fs)->X.s₀.heap.FunFrames X.base l->s.heap.FunFrames X.base l:=by
  intro l
  induction l with
  | nil=>intro _ _;trivial
  | cons env r ih =>
   intro hs hl
   obtain ⟨hk,⟨L,o,hf,hn,ho,hd⟩,hr⟩:=hl
   have hL:L∈X.fs:=hs L (by unfold CT;rw [mR,hf];exact aM)
   obtain ⟨sl,e⟩:=I.base.slot L o ho (I.ok.frf L hL) hL λz=>I.ok.exfs L z hL
   exact ⟨hk,⟨L,_,hf,hn,e,hd⟩,ih (λb hb=>hs b (by unfold CT;rw [mR,hf];exact aK _ hb)) hr⟩
 exact all X.outer (λ_ hb=>hb) I.ok.funs

theorem dU.stack (I:dU X pins σ H s):s.heap.FunFrames X.base X.stack:=by
 rcases I.ok.stk with e | ⟨e,hf⟩
 ·rw [e];exact I.funs
 ·rw [e]
  obtain ⟨m,hn,_⟩:=I.loc
  refine .cons (by rw [I.ok.kind];decide) hf hn ?_ I.funs
  exact Heap.get?_none_of_le (bO I.ok.bsz I.ok.above)
theorem dU.stkSub (I:dU X pins σ H s):∀ b∈CT X.stack,b∈X.env.locals::X.fs:=λb hb=>by
 rcases I.ok.stk with e | ⟨e,hf⟩
 ·rw [e] at hb;exact aK _ hb
 ·rw [e] at hb
  unfold CT at hb
  rw [mR,hf] at hb
  exact hb
theorem dU.stkFree (I:dU X pins σ H s):∀ b∈CT X.stack,H b=none:=λb hb=>by
 rcases aZ.mp (I.stkSub b hb) with e | hb
 ·rw [e];exact I.free
 ·obtain ⟨_,o,ho,_⟩:=I.ok.funs.mem hb
  exact I.base.free b o ho (I.ok.frf b hb) λz=>I.ok.exfs b z hb

theorem dU.step {g':Array GenState} {t':Nat} {d':Drawn} {ch:List Addr} (I:dU X pins σ H s)
  (hch:∀ b∈ch,(b∈X.ex\/X.s₀.heap.objs.size<=b)/\b≠X.env.locals/\(∀ x c,X.env.cells.lookup x=some c->c≠b)/\∀ p∈X.pn++pins,p.1≠b)
  (keep:∀ b o,b≠X.env.locals->b∉X.fs->b∉ch->s.heap.get? b=some o->H b=none->h'.get? b=some o)
  (slot:∀ b o,b≠X.env.locals->b∈X.fs->b∉ch->s.heap.get? b=some o->H b=none->∃ sl,h'.get? b=some { o with slots:=sl }) (free:∀ b o,b∉ch->s.heap.get? b=some o->H b=none->H' b=none)
  (there:∀ b o,b∉ch->s.heap.get? b=some o->∃ o',h'.get? b=some o')
  (tups:∀ b xs,H b=some (.tup xs)->H' b=some (.tup xs)) (frzs:∀ b o u,H b=some (.frz o u)->H' b=some (.frz o u)) (tbls:∀ b ps,H b=some (.tbl ps)->∃ more,H' b=some (.tbl (ps++more)))
  (ns:∀ m,s.heap.Ns X.env.locals m->h'.Ns X.env.locals m) (hok:rC X.prog X.w H' h') (hg:AllBare g') :
  dU X pins σ H' { s with heap:=h',gens:=g',drawn:=d',toks:=t' }:=by
 have neL:∀ b o,X.s₀.heap.get? b=some o->b≠X.env.locals:=λb o e=>dR (cG (bE e) I.ok.above)
 have neC:∀ b o,X.s₀.heap.get? b=some o->b∉X.ex->b∉ch:=λb o e hx hb=>by
  rcases (hch b hb).1 with z | z
  ·exact hx z
  ·exact absurd (cG (bE e) z) (gI _)
 have cellK:∀ x c,X.env.cells.lookup x=some c->∀ v,s.heap.IsCell c v->h'.IsCell c v:=λx c e v ⟨o,ho,hd⟩=>by
  have nch:c∉ch:=λz=>(hch c z).2.2.1 x c e rfl
  by_cases hc:c∈X.fs
  ·obtain ⟨sl,q⟩:=slot c o (I.cne x c e) hc nch ho (I.freeC x c e)
   exact ⟨_,q,hd⟩
  ·exact ⟨o,keep c o (I.cne x c e) hc nch ho (I.freeC x c e),hd⟩
 refine ⟨I.ok,I.os,hg,⟨λb o e n hb hx=>?_,λb o e n hb hx=>?_,λb o e n hx=>?_,λb o e hx=>?_,λb xs e=>tups b xs (I.base.tups b xs e),λb o xs e=>frzs b o xs (I.base.frzs b o xs e),λb ps e=>?_⟩,?_,λx c e=>?_,?_,λx c e=>?_,λp hp=>?_,hok,I.len⟩
 ·exact keep b o (neL b o e) hb (neC b o e hx) (I.base.keep b o e n hb hx) (I.base.free b o e n hx)
 ·obtain ⟨sl,e1⟩:=I.base.slot b o e n hb hx
  obtain ⟨sl',e2⟩:=slot b _ (neL b o e) hb (neC b o e hx) e1 (I.base.free b o e n hx)
  exact ⟨sl',e2⟩
 ·obtain ⟨o',e1⟩:=I.base.there b o e hx
  exact free b o' (neC b o e hx) e1 (I.base.free b o e n hx)
 ·obtain ⟨o',e1⟩:=I.base.there b o e hx
  exact there b o' (neC b o e hx) e1
 ·obtain ⟨m1,e1⟩:=I.base.tbls b ps e
  obtain ⟨m2,e2⟩:=tbls b _ e1
  exact ⟨m1++m2,by rw [e2,JO]⟩
 ·obtain ⟨m,hn,hl⟩:=I.loc
  refine ⟨m,ns m hn,λi x v e1 e2 e3=>?_⟩
  obtain ⟨u,r,l⟩:=hl i x v e1 e2 e3
  refine ⟨u,r,?_⟩
  rcases l with l | ⟨k,c,e,z⟩
  ·exact .inl l
  ·exact .inr ⟨k,c,e,cellK x c e _ z⟩
 ·obtain ⟨v,z⟩:=I.cell x c e
  exact ⟨v,cellK x c e v z⟩
 ·obtain ⟨m,⟨o,_,_,ho,_⟩,_⟩:=I.loc
  exact free _ o (λz=>(hch _ z).2.1 rfl) ho I.free
 ·obtain ⟨v,o,ho,hd⟩:=I.cell x c e
  exact free c o (λz=>(hch c z).2.2.1 x c e rfl) ho (I.freeC x c e)
 ·obtain ⟨e,n,ne,nf,d⟩:=I.pin p hp
  have nch:p.1∉ch:=λz=>(hch p.1 z).2.2.2 p hp rfl
  exact ⟨keep p.1 p.2 ne nf nch e n,free p.1 p.2 nch e n,ne,nf,d⟩
theorem dU.un {t':Nat} (I:dU X pins σ H s) (u:Un X.fs [] H H' s.heap h') (hok:rC X.prog X.w H' h'):dU X pins σ H' { s with heap:=h',toks:=t' }:=by
 obtain ⟨m,⟨o,es,ep,ho,r⟩,_⟩:=id I.loc
 obtain ⟨sl,hL⟩:=u.any ho I.free (by simp)
 exact I.step (g':=s.gens) (d':=s.drawn) (ch:=[]) (λ_ z=>nomatch z) (λb o _ hb _ e n=>u.keep b o e n hb (by simp)) (λb o _ hb _ e n=>u.slot b o e n hb (by simp)) (λb o _ e n=>u.free b o e n (by simp)) (λb o _ e=>u.there b o e (by simp)) u.tups u.frzs u.tbls (λm' hm=>by
  obtain ⟨o',es',ep',ho',r'⟩:=hm
  rw [ho] at ho';cases ho'
  exact ⟨_,es',ep',hL,r'⟩) hok I.bare
theorem dU.call {g':Array GenState} {t':Nat} {d':Drawn} {ch:List Addr} (I:dU X pins σ H s) (u:Un (CT X.stack) ch H H' s.heap h') (hok:rC X.prog X.w H' h') (hg:AllBare g')
  (hch:∀ b∈ch,(b∈X.ex\/X.s₀.heap.objs.size<=b)/\b≠X.env.locals/\(∀ x c,X.env.cells.lookup x=some c->c≠b)/\∀ p∈X.pn++pins,p.1≠b) :
  dU X pins σ H' { s with heap:=h',gens:=g',drawn:=d',toks:=t' }:=by
 obtain ⟨m,⟨o,es,ep,ho,r⟩,_⟩:=id I.loc
 obtain ⟨sl,hL⟩:=u.any ho I.free λz=>(hch _ z).2.1 rfl
 exact I.step (ch:=ch) hch (λb o hL hb hc e n=>u.keep b o e n (λz=>(aZ.mp (I.stkSub b z)).elim hL hb) hc) (λb o _ _ hc e n=>u.any e n hc) (λb o hc e n=>u.free b o e n hc) (λb o hc e=>u.there b o e hc) u.tups u.frzs u.tbls (λm' hm=>by
  obtain ⟨o',es',ep',ho',r'⟩:=hm
  rw [ho] at ho';cases ho'
  exact ⟨_,es',ep',hL,r'⟩) hok hg
theorem dU.turned {t':Nat} {it:Addr} (I:dU X pins σ H s) (k:∀ b o,b≠it->s.heap.get? b=some o->h'.get? b=some o) (hn:H it=none) (hL:it≠X.env.locals)
  (h1:it∈X.ex\/X.s₀.heap.objs.size<=it) (h2:∀ x c,X.env.cells.lookup x=some c->c≠it) (h3:∀ p∈X.pn++pins,p.1≠it):dU X pins σ H { s with heap:=h',toks:=t' }:=by
 have nit:∀ b u,H b=some u->b≠it:=λb u e z=>by rw [z,hn] at e;cases e
 refine I.step (g':=s.gens) (d':=s.drawn) (ch:=[it]) (λb hb=>?_) (λb o _ _ hc e _=>k b o (λz=>hc (by simp [z])) e) (λb o _ _ hc e _=>⟨o.slots,k b o (λz=>hc (by simp [z])) e⟩) (λ_ _ _ _ n=>n)
  (λb o hc e=>⟨o,k b o (λz=>hc (by simp [z])) e⟩) (λ_ _ e=>e) (λ_ _ _ e=>e) (λb ps e=>⟨#[],by rw [e];simp⟩) (λm hm=>?_) (λb u e=>?_) I.bare
 ·have e:b=it:=by simpa using hb
  subst e
  exact ⟨h1,hL,h2,h3⟩
 ·obtain ⟨o,es,ep,ho,r⟩:=hm
  exact ⟨o,es,ep,k _ o (Ne.symm hL) ho,r⟩
 ·refine (I.hok b u e).stay (λc v hc q=>k c v ?_ q) (λ_ q=>q) λ_ _ q=>q
  rcases hc with z | z
  ·rw [z];exact nit b u e
  ·exact nit c _ z
theorem dU.tok (I:dU X pins σ H s) (t:Nat):dU X pins σ H { s with toks:=t }:=I.un (h':=s.heap) (t':=t) Un.refl I.hok
theorem dU.kept {t':Nat} (I:dU X pins σ H s) (k:∀ b u,s.heap.get? b=some u->h'.get? b=some u):dU X pins σ H { s with heap:=h',toks:=t' }:=I.un (Un.kept k) (I.hok.kept k)
theorem dU.laid {a:Addr} {o:HO} {t':Nat} (I:dU X pins σ H s) (k:∀ b u,s.heap.get? b=some u->h'.get? b=some u) (hp:s.heap.objs.size<=a) (new:mC X.prog X.w (iM H a o) h' a o) :
  dU X pins σ (iM H a o) { s with heap:=h',toks:=t' }:=I.un (Un.laid k hp (I.hok.fresh hp)) (I.hok.laid k hp new)
theorem dU.write {x e:Addr} {o:HO} {t':Nat} (I:dU X pins σ H s) (mu:Mut (H x)) (he:e=x\/H e=some (.own x)) (k:∀ b u,b≠e->s.heap.get? b=some u->h'.get? b=some u) (heo:∃ u,h'.get? e=some u)
  (new:mC X.prog X.w (iM H x o) h' x o):dU X pins σ (iM H x o) { s with heap:=h',toks:=t' }:=I.un (Un.write mu he k heo) (I.hok.write mu he k heo new)
theorem dU.pins_of {pins':List (Addr×Obj)} (I:dU X pins σ H s) (h:∀ p∈pins',s.heap.get? p.1=some p.2/\H p.1=none/\p.1≠X.env.locals/\p.1∉X.fs/\∀ v,p.2.data≠.cell v):dU X pins' σ H s :=
 ⟨I.ok,I.os,I.bare,I.base,I.loc,I.cell,I.free,I.freeC,λp hp=>(eT.mp hp).elim (λz=>I.pin p (mD _ z)) (h p),I.hok,I.len⟩

theorem CA {N:List Str} (hN:N.Nodup) {i j:Nat} {x:Str} (a:N[i]?=some x) (b:N[j]?=some x):i=j:=by
 obtain ⟨h1,e1⟩:=aD.mp a
 obtain ⟨h2,e2⟩:=aD.mp b
 exact (NU hN).mp (e1.trans e2.symm)

theorem yN {M:Model} {A:Around} {E:Value->Shared->Prop} {i:Nat} {x:Str} {v:V} {u:Value} {Q:Unit->Shared->Prop} (I:dU X pins σ H s) (hN:X.N.Nodup) (hi:X.N[i]?=some x) (hx:ND X.env.scope x) (r:gO v u)
  (h:∀ s',dU X pins (σ.set i (some v)) H s'->(∃ a,iH a s.heap s'.heap/\(a=X.env.locals\/X.env.cells.lookup x=some a))->Q () s') (hf:X.fn x=true\/X.env.scope.names.lookup x=some .local:=by first | exact .inl rfl | exact .inr rfl | assumption):wpAny M A (storeName X.env x u) Q E s:=by
 obtain ⟨m,hn,hl⟩:=id I.loc
 have hcls:(X.env.scope.kind == .class || (X.env.scope.kind == .module && X.env.locals != X.env.globals))=false:=by rw [I.ok.kind];rfl
 have hiσ:i<σ.length:=by rw [I.len];exact (aD.mp hi).1
 have cne:=I.cne
 have tracked:∀ {a:Addr} {h':Heap},(∃ o,s.heap.get? a=some o/\H a=none)->iH a s.heap h'->rC X.prog X.w H h':=λ{a h'} ha hs b ob e=>by
  obtain ⟨_,_,hfree⟩:=ha
  refine (I.hok b ob e).stay (λc w' hc q=>(hs.2 c ?_).trans q) (λ_ q=>q) λ_ _ q=>q
  rintro rfl
  rcases hc with rfl | hc
  ·rw [hfree] at e;cases e
  ·rw [hfree] at hc;cases hc
 rcases hx with hk | hk
 ·refine wpAny_storeName_local hk hn (λh' hn' hs=>?_) hcls
  obtain ⟨oL,_,_,hoL,_⟩:=id hn
  refine h _ ⟨I.ok,I.os,I.bare,⟨λb o e n hb hx=>?_,λb o e n hb hx=>?_,I.base.free,λb o e hx=>?_,I.base.tups,I.base.frzs,I.base.tbls⟩,⟨_,hn',λj y v' e1 e2 e3=>?_⟩,λy c e=>?_,I.free,I.freeC,λp hp=>?_,tracked ⟨oL,hoL,I.free⟩ hs,by simpa using I.len⟩ ⟨_,hs,.inl rfl⟩
  ·exact (hs.2 b (dR (cG (bE e) I.ok.above))).trans (I.base.keep b o e n hb hx)
  ·obtain ⟨sl,e1⟩:=I.base.slot b o e n hb hx
   exact ⟨sl,(hs.2 b (dR (cG (bE e) I.ok.above))).trans e1⟩
  ·obtain ⟨o',e1⟩:=I.base.there b o e hx
   exact ⟨o',(hs.2 b (dR (cG (bE e) I.ok.above))).trans e1⟩
  ·by_cases hj:j=i
   ·subst hj
    rw [hi] at e1;cases e1
    rw [bS hiσ] at e2
    cases e2
    exact ⟨u,r,.inl ⟨hk,by simp⟩⟩
   ·rw [bL (Ne.symm hj)] at e2
    obtain ⟨u',r',q⟩:=hl j y v' e1 e2 e3
    refine ⟨u',r',?_⟩
    rcases q with ⟨k,e⟩ | ⟨k,c,e,z⟩
    ·refine .inl ⟨k,?_⟩
     have:y≠x:=λe=>hj (CA hN e1 (e▸hi))
     simp [this,e]
    ·exact .inr ⟨k,c,e,z.sameBut hs (cne y c e)⟩
  ·obtain ⟨w',z⟩:=I.cell y c e
   exact ⟨w',z.sameBut hs (cne y c e)⟩
  ·obtain ⟨e,n,ne,nf,d⟩:=I.pin p hp
   exact ⟨(hs.2 p.1 ne).trans e,n,ne,nf,d⟩
 ·have hfn:X.fn x=true:=by
   rcases hf with z | z
   ·exact z
   ·rw [z] at hk;cases hk
  obtain ⟨c,hc⟩:=I.ok.has x (.inl hk)
  obtain ⟨w',z⟩:=I.cell x c hc
  refine wpAny_storeName_cell I.ok.kind hk hc z (λh' hc' hs=>?_)
  obtain ⟨oc,hoc,hocd⟩:=id z
  refine h { s with heap:=h' } ⟨I.ok,I.os,I.bare,⟨λb o e n hb hx=>?_,λb o e n hb hx=>?_,I.base.free,λb o e hx=>?_,I.base.tups,I.base.frzs,I.base.tbls⟩,⟨m,hn.sameBut hs (Ne.symm (cne x c hc)),λj y v' e1 e2 e3=>?_⟩,λy c' e=>?_,I.free,I.freeC,λp hp=>?_,tracked ⟨oc,hoc,I.freeC x c hc⟩ hs,by simpa using I.len⟩ ⟨c,hs,.inr hc⟩
  ·exact (hs.2 b (dR (cG (bE e) (I.ok.cab x c hfn hc)))).trans (I.base.keep b o e n hb hx)
  ·obtain ⟨sl,e1⟩:=I.base.slot b o e n hb hx
   exact ⟨sl,(hs.2 b (dR (cG (bE e) (I.ok.cab x c hfn hc)))).trans e1⟩
  ·obtain ⟨o',e1⟩:=I.base.there b o e hx
   exact ⟨o',(hs.2 b (dR (cG (bE e) (I.ok.cab x c hfn hc)))).trans e1⟩
  ·by_cases hj:j=i
   ·subst hj
    rw [hi] at e1;cases e1
    rw [bS hiσ] at e2
    cases e2
    exact ⟨u,r,.inr ⟨.inl hk,c,hc,hc'⟩⟩
   ·rw [bL (Ne.symm hj)] at e2
    obtain ⟨u',r',q⟩:=hl j y v' e1 e2 e3
    refine ⟨u',r',?_⟩
    rcases q with q | ⟨k,c',e,z'⟩
    ·exact .inl q
    ·refine .inr ⟨k,c',e,z'.sameBut hs ?_⟩
     rintro rfl
     exact hj (CA hN e1 (I.ok.inj _ _ _ e hc▸hi))
  ·by_cases hcc:c'=c
   ·subst hcc;exact ⟨_,hc'⟩
   ·obtain ⟨w2,z2⟩:=I.cell y c' e
    exact ⟨w2,z2.sameBut hs hcc⟩
  ·obtain ⟨e,n,ne,nf,d⟩:=I.pin p hp
   refine ⟨(hs.2 p.1 ?_).trans e,n,ne,nf,d⟩
   intro q
   rw [q,hoc] at e
   have q':oc=p.2:=Option.some.inj e
   exact d w' (by rw [<- q'];exact hocd)
theorem BR {M:Model} {A:Around} {E:Value->Shared->Prop} {i:Nat} {x:Str} {v:V} {u:Value} {Q:Unit->Shared->Prop} (I:dU X pins σ H s) (hN:X.N.Nodup) (hi:X.N[i]?=some x) (hx:ND X.env.scope x) (r:gO v u)
  (h:∀ s',dU X pins (σ.set i (some v)) H s'->Q () s') (hf:X.fn x=true\/X.env.scope.names.lookup x=some .local:=by first | exact .inl rfl | exact .inr rfl | assumption):wpAny M A (storeName X.env x u) Q E s :=
 yN I hN hi hx r (λs' I' _=>h s' I') hf
theorem dU.call' {s':Shared} {ch:List Addr} (I:dU X pins σ H s) (ho:s'.os=s.os) (u:Un (CT X.stack) ch H H' s.heap s'.heap) (hok:rC X.prog X.w H' s'.heap) (hg:AllBare s'.gens)
  (hch:∀ b∈ch,(b∈X.ex\/X.s₀.heap.objs.size<=b)/\b≠X.env.locals/\(∀ x c,X.env.cells.lookup x=some c->c≠b)/\∀ p∈X.pn++pins,p.1≠b):dU X pins σ H' s':=by
 obtain ⟨h',g',d',t',o'⟩:=s'
 have e:o'=s.os:=ho
 subst e
 exact I.call (g':=g') (t':=t') (d':=d') u hok hg hch
end

abbrev XK:=Value->Option Addr->Hp->Prop
abbrev St:=List (Option V)
abbrev VK:=V->Hp->Prop
abbrev TE:=St->Hp->VK->Prop
abbrev TT:=St->Hp->(Bool->Hp->Prop)->Prop
abbrev TA:=St->Hp->(List V->Hp->Prop)->Prop
structure uX where
 nx:St->Hp->Prop
 rt:VK
 bk:St->Hp->Prop:=λ_ _=>False
 ct:St->Hp->Prop:=λ_ _=>False
abbrev TS:=uX->St->Hp->Prop

def EP (X:Cx) (pins:List (Addr×Obj)) (σ:St) (Q:VK) (u:Value) (s':Shared):Prop:=∃ v H',dU X pins σ H' s'/\gO v u/\Q v H'
def TP (X:Cx) (pins:List (Addr×Obj)) (σ:St) (Q:Bool->Hp->Prop) (b:Bool) (s':Shared):Prop:=∃ H',dU X pins σ H' s'/\Q b H'
def AP (X:Cx) (pins:List (Addr×Obj)) (σ:St) (Q:List V->Hp->Prop) (us:List Value) (s':Shared):Prop:=∃ vs H',dU X pins σ H' s'/\eI vs us/\Q vs H'
def SP (X:Cx) (pins:List (Addr×Obj)) (D:uX) (f:Flow) (s':Shared):Prop :=
 match f with
 | .next=>∃ σ' H',dU X pins σ' H' s'/\D.nx σ' H'
 | .brk=>∃ σ' H',dU X pins σ' H' s'/\D.bk σ' H'
 | .cont=>∃ σ' H',dU X pins σ' H' s'/\D.ct σ' H'
 | .ret u=>∃ v σ' H',dU X pins σ' H' s'/\gO v u/\D.rt v H'

def PE (X:Cx) (e:Expr) (t:TE):Prop :=
 ∀ (pins:List (Addr×Obj)) (s:Shared) (σ:St) (H:Hp) (Q:VK),dU X pins σ H s->t σ H Q->wpAny (model X.prog X.w) X.A (eval e X.env) (EP X pins σ Q) X.xe s
def PT (X:Cx) (e:Expr) (t:TT):Prop :=
 ∀ (pins:List (Addr×Obj)) (s:Shared) (σ:St) (H:Hp) (Q:Bool->Hp->Prop),dU X pins σ H s->t σ H Q->wpAny (model X.prog X.w) X.A (isTrue e X.env (eval e X.env)) (TP X pins σ Q) X.xe s
def PW (X:Cx) (e:Expr) (t:TT):Prop :=
 ∀ (whole:Sem Value) (pins:List (Addr×Obj)) (s:Shared) (σ:St) (H:Hp) (Q:Bool->Hp->Prop),dU X pins σ H s->t σ H Q->wpAny (model X.prog X.w) X.A (isTrue e X.env whole) (TP X pins σ Q) X.xe s
theorem PW.pt {X:Cx} {e:Expr} {t:TT} (h:PW X e t):PT X e t:=h _
def PA (X:Cx) (es:List Expr) (t:TA):Prop :=
 ∀ (pos:Pos) (pins:List (Addr×Obj)) (s:Shared) (σ:St) (H:Hp) (Q:List V->Hp->Prop),dU X pins σ H s->t σ H Q->wpAny (model X.prog X.w) X.A (spliced (backTo pos (bT es X.env))) (AP X pins σ Q) X.xe s
def PS (X:Cx) (st:Stmt) (t:TS):Prop :=
 ∀ (pins:List (Addr×Obj)) (s:Shared) (σ:St) (H:Hp) (D:uX),dU X pins σ H s->t D σ H->wpAny (model X.prog X.w) X.A (exec st X.env) (SP X pins D) X.xe s
def DB (X:Cx) (st:List Stmt) (t:TS):Prop :=
 ∀ (pins:List (Addr×Obj)) (s:Shared) (σ:St) (H:Hp) (D:uX),dU X pins σ H s->t D σ H->wpAny (model X.prog X.w) X.A (execs st X.env) (SP X pins D) X.xe s
theorem lB {α:Type} {t:Sem α} {Q Q':α->Shared->Prop} {M:Model} {A:Around} {E:Value->Shared->Prop} {s:Shared} (h:wpAny M A t Q E s) (hQ:∀ a s,Q a s->Q' a s):wpAny M A t Q' E s:=fS h hQ λ_ _ x=>x
section
variable {X:Cx}

def BN (i:Nat):TE:=λσ H Q=>∃ v,σ[i]?=some (some v)/\Q v H
def tC (v:V):TE:=λ_ H Q=>Q v H
theorem K9 {i:Nat} {x:Str} {pos:Pos} (hN:X.N[i]?=some x) (hv:Vis X.env.scope x) (hd:(x == ("__debug__":Str))=false:=by decide) (hcd:(x == ("__classdict__":Str))=false:=by decide):PE X (.Name x pos) (BN i):=by
 intro pins s σ H Q I h
 obtain ⟨v,e,h⟩:=h
 obtain ⟨m,hn,hl⟩:=I.loc
 obtain ⟨u,r,l⟩:=hl i x v hN e hv
 have fin:EP X pins σ Q u s:=⟨v,H,I,r,h⟩
 rcases l with ⟨hk,hm⟩ | ⟨hk,c,hc,hcell⟩
 ·exact wpAny_Name (wpAny_loadName_local I.ok.kind hk hn hm fin) hd
 ·rcases hk with hk | hk
  ·exact wpAny_Name (wpAny_loadName_cell I.ok.kind hk hc hcell fin) hd
  ·exact wpAny_Name (wpAny_loadName_free I.ok.kind hk hc hcell fin hcd) hd
theorem wE {i j pos}:PE X (.Constant (.int i) j pos) (tC (.int i)):=λ_ _ _ H _ I h=>wpAny_Constant_int ⟨.int i,H,I.tok _,⟨_,rfl⟩,h⟩
theorem Y4 {b j pos}:PE X (.Constant (.bool b) j pos) (tC (.bl b)):=λ_ _ _ H _ I h=>Constant_bool ⟨.bl b,H,I,rfl,h⟩
theorem VR {j pos}:PE X (.Constant .none j pos) (tC .non):=λ_ _ _ H _ I h=>Constant_none ⟨.non,H,I,rfl,h⟩
theorem VP {x j pos}:PE X (.Constant (.str x) j pos) (tC (.str x)):=λ_ _ _ H _ I h=>Calls.Constant_str ⟨.str x,H,I.tok _,⟨_,rfl⟩,h⟩

def Gl (X:Cx) (x:Str):Prop:=X.env.kindOf x=some .globalImplicit
theorem GC {E:Value->Shared->Prop} {pins:List (Addr×Obj)} {s:Shared} {σ:St} {H:Hp} {x:Str} {u:Value} {pos:Pos} {Q:Value->Shared->Prop} (I:dU X pins σ H s) (hg:Gl X x) (hm:X.mg x=some u) (h:Q u s)
  (hd:(x == ("__debug__":Str))=false:=by decide):wpAny (model X.prog X.w) X.A (eval (.Name x pos) X.env) Q E s :=
 Calls.Name_function_global I.ok.kind hg (Calls.loadGlobal_global (by rw [I.ok.glob];exact I.mod.glob.keeps I.bk) hm h) hd
theorem wL {E:Value->Shared->Prop} {pins:List (Addr×Obj)} {s:Shared} {σ:St} {H:Hp} {x:Str} {u:Value} {pos:Pos} {Q:Value->Shared->Prop} (I:dU X pins σ H s) (hg:Gl X x) (hm:X.mg x=none) (hv:bootBuiltins x=some u) (h:Q u s)
  (hn:x≠"__name__":=by decide) (hd:(x == ("__debug__":Str))=false:=by decide):wpAny (model X.prog X.w) X.A (eval (.Name x pos) X.env) Q E s:=by
 obtain ⟨mb,h1,h2⟩:=I.mod.blt
 exact Calls.Name_function_global I.ok.kind hg (Calls.loadGlobal_builtin (by rw [I.ok.glob];exact I.mod.glob.keeps I.bk) hm (by rw [I.ok.blt];exact h1.keeps I.bk) ((h2 x hn).trans hv) h) hd
theorem PB {x:Str} {v:V} {u:Value} {pos:Pos} (hg:Gl X x) (hm:X.mg x=some u) (r:gO v u) (hd:(x == ("__debug__":Str))=false:=by decide):PE X (.Name x pos) (tC v) :=
 λ_ _ _ H _ I h=>GC I hg hm ⟨v,H,I,r,h⟩ hd
variable {a b:Expr} {ta tb:TE} {pos:Pos}
def tB (t:TE):TT:=λσ H Q=>t σ H λx H1=>∃ c,x=.bl c/\Q c H1
theorem VJ {e:Expr} {t:TE} (h:PE X e t) (he:∀ whole,isTrue e X.env whole=(do let v <- whole;standAt e.pos;holding [v] (truthy v)):=by intro _;rfl):PT X e (tB t):=by
 intro pins s σ H Q I hw
 refine isTrue_plain (lB (h pins s σ H _ I hw) λv s1 ⟨x,H1,I1,r1,q1⟩=>?_) (he _)
 obtain ⟨d,rfl,q⟩:=q1
 cases r1
 exact wpAny_truthy_bool ⟨H1,I1,q⟩

variable {tA tB':TT} {lS:List Expr}
def aCl (t u:TT):TT:=λσ H Q=>t σ H λc H1=>if c=true then u σ H1 Q else Q false H1
def tOr (t u:TT):TT:=λσ H Q=>t σ H λc H1=>if c=true then Q true H1 else u σ H1 Q
def aCg (t:TT):TT:=λσ H Q=>t σ H λc H1=>Q (!c) H1
theorem OY (ha:PT X a tA):PW X (.BoolOp .And [a] pos) tA:=by
 intro wh pins s σ H Q I h
 refine isTrue_and (lB (ha pins s σ H Q I h) λc s1 e=>?_)
 cases c with
 | true=>exact isTrue_and_nil e
 | false=>exact e
theorem VH (ha:PT X a tA):PW X (.BoolOp .Or [a] pos) tA:=by
 intro wh pins s σ H Q I h
 refine isTrue_or (lB (ha pins s σ H Q I h) λc s1 e=>?_)
 cases c with
 | false=>exact isTrue_or_nil e
 | true=>exact e
theorem VI (ha:PT X a tA) (hb:PW X (.BoolOp .And (b::lS) pos) tB'):PW X (.BoolOp .And (a::b::lS) pos) (aCl tA tB'):=by
 intro wh pins s σ H Q I h
 refine isTrue_and (lB (ha pins s σ H _ I h) λc s1 ⟨H1,I1,q1⟩=>?_)
 cases c with
 | true=>exact hb wh pins s1 σ H1 Q I1 q1
 | false=>exact ⟨H1,I1,q1⟩
theorem Y0 (ha:PT X a tA) (hb:PW X (.BoolOp .Or (b::lS) pos) tB'):PW X (.BoolOp .Or (a::b::lS) pos) (tOr tA tB'):=by
 intro wh pins s σ H Q I h
 refine isTrue_or (lB (ha pins s σ H _ I h) λc s1 ⟨H1,I1,q1⟩=>?_)
 cases c with
 | true=>exact ⟨H1,I1,q1⟩
 | false=>exact hb wh pins s1 σ H1 Q I1 q1
theorem VL (ha:PT X a tA):PT X (.UnaryOp .Not a pos) (aCg tA):=by
 intro pins s σ H Q I h
 exact isTrue_not (ha pins s σ H (λc H1=>Q (!c) H1) I h)
def YB (ta tb:TE):TE:=λσ H Q=>ta σ H λx H1=>∃ c,x=.bl c/\if c=true then tb σ H1 Q else Q (.bl false) H1
theorem VQ {op} {t:TE} (h:PE X a t):PE X (.BoolOp op [a] pos) t:=λpins s σ H Q I hw=>BoolOp_one (h pins s σ H Q I hw)
theorem VT (ha:PE X a ta) (hb:PE X (.BoolOp .And (b::lS) pos) tb):PE X (.BoolOp .And (a::b::lS) pos) (YB ta tb):=by
 intro pins s σ H Q I h
 refine BoolOp_and (lB (ha pins s σ H _ I h) λv s1 ⟨x,H1,I1,r1,q1⟩=>?_)
 obtain ⟨c,rfl,q1⟩:=q1
 cases r1
 refine wpAny_truthy_bool ?_
 cases c with
 | true=>exact hb pins s1 σ H1 Q I1 q1
 | false=>exact ⟨.bl false,H1,I1,rfl,q1⟩
def tIf (t:TT) (ta tb:TE):TE:=λσ H Q=>t σ H λc H1=>if c=true then ta σ H1 Q else tb σ H1 Q
theorem LF {c:Expr} (hc:PT X c tA) (ha:PE X a ta) (hb:PE X b tb):PE X (.IfExp c a b pos) (tIf tA ta tb):=by
 intro pins s σ H Q I h
 refine wpAny_IfExp (lB (hc pins s σ H _ I h) λd s1 ⟨H1,I1,q1⟩=>?_)
 cases d with
 | true=>exact ha pins s1 σ H1 Q I1 q1
 | false=>exact hb pins s1 σ H1 Q I1 q1
end
end L2

namespace L2
open PySem PySem.Spec PyProof.Rows

def lP (K:aE) (H:Hp) (a:Addr) (xs:List V):Prop :=
 Rd H a (.lst xs) \/
  ∃ (o:Obj) (its:Array Value) (n:Nat),K.lookup a=some o/\o.cls=.type "list"/\o.dict=none/\o.data=.seq its n/\its.size<=bG/\eI xs its.toList
def qP (K:aE) (H:Hp) (a:Addr) (xs:List V):Prop :=
 Rd H a (.tup xs) \/
  ∃ (o:Obj) (its:Array Value) (n:Nat),K.lookup a=some o/\o.cls=.type "tuple"/\o.dict=none/\o.data=.seq its n/\its.size<=bG/\eI xs its.toList
def aDt:Value->Option V
 | .none=>some .non
 | .bool b=>some (.bl b)
 | .int i _=>some (.int i)
 | .str x _=>some (.str x)
 | .bytes b _=>some (.byt b)
 | .float b _=>some (.flt b)
 | .ref a=>some (.ref a)
 | .type n=>some (.ty n)
 | _=>none
theorem gO.abs {x:V} {u:Value} (r:gO x u):aDt u=some x:=by
 cases x with
 | non=>cases r;rfl
 | bl _=>cases r;rfl
 | int _=>obtain ⟨t,rfl⟩:=r;rfl
 | str _=>obtain ⟨t,rfl⟩:=r;rfl
 | byt _=>obtain ⟨t,rfl⟩:=r;rfl
 | flt _=>obtain ⟨t,rfl⟩:=r;rfl
 | ref _=>cases r;rfl
 | ty _=>cases r;rfl
theorem gO.inj {x y:V} {u:Value} (r:gO x u) (q:gO y u):x=y:=Option.some.inj (r.abs.symm.trans q.abs)
theorem eI.inj:∀ {xs ys:List V} {us:List Value},eI xs us->eI ys us->xs=ys
 | _,_,_,.nil,.nil=>rfl
 | _,_,_,.cons r t,.cons r' t'=>by rw [r.inj r',eI.inj t t']
section
variable {X:Cx} {pins:List (Addr×Obj)} {σ:St} {H:Hp} {s:Shared} {a:Addr} {xs ys:List V}
theorem lP.of {K:aE} (h:H a=some (.lst xs)):lP K H a xs:=.inl (.inl h)
theorem qP.of {K:aE} (h:H a=some (.tup xs)):qP K H a xs:=.inl (.inl h)
theorem dU.list (I:dU X pins σ H s) (h:lP X.K H a xs):∃ its:List Value,eI xs its/\PlainL s.heap a its.toArray/\xs.length<=bG:=by
 rcases h with h | ⟨o,its,n,hk,hc,hd,hs,hz,r⟩
 ·obtain ⟨z,its,n,r,e⟩:=h.ok I.hok
  exact ⟨its,r,⟨_,n,e,rfl,rfl,rfl⟩,z⟩
 ·refine ⟨its.toList,r,⟨o,n,I.kIn a o hk,hc,hd,by simpa using hs⟩,?_⟩
  have e:=r.length
  simp only [eO] at e
  omega
theorem dU.tuple (I:dU X pins σ H s) (h:qP X.K H a xs):∃ its:List Value,eI xs its/\IsTup s.heap a its.toArray/\xs.length<=bG:=by
 rcases h with h | ⟨o,its,n,hk,hc,_,hs,hz,r⟩
 ·obtain ⟨z,its,r,p⟩:=h.ok I.hok
  exact ⟨its,r,p.tup,z⟩
 ·refine ⟨its.toList,r,⟨o,I.kIn a o hk,hc,n,by simpa using hs⟩,?_⟩
  have e:=r.length
  simp only [eO] at e
  omega
theorem dU.tupleN (I:dU X pins σ H s) (h:qP X.K H a xs):∃ o,s.heap.get? a=some o/\o.cls=.type "tuple"/\o.dict=none:=by
 rcases h with h | ⟨o,its,n,hk,hc,hd,_⟩
 ·obtain ⟨z,its,r,⟨o,e,c,n,_,d⟩⟩:=h.ok I.hok
  exact ⟨o,e,c,d⟩
 ·exact ⟨o,I.kIn a o hk,hc,hd⟩
theorem dU.list_inj (I:dU X pins σ H s) (h:lP X.K H a xs) (h':lP X.K H a ys):xs=ys:=by
 obtain ⟨its,r,⟨o,n,e,_,_,d⟩,_⟩:=I.list h
 obtain ⟨its',r',⟨o',n',e',_,_,d'⟩,_⟩:=I.list h'
 rw [e] at e';cases e'
 rw [d] at d'
 injection d' with d1 _
 have:its=its':=by simpa using congrArg XX d1
 subst this
 exact r.inj r'
theorem dU.tuple_inj (I:dU X pins σ H s) (h:qP X.K H a xs) (h':qP X.K H a ys):xs=ys:=by
 obtain ⟨its,r,⟨o,e,_,n,d⟩,_⟩:=I.tuple h
 obtain ⟨its',r',⟨o',e',_,n',d'⟩,_⟩:=I.tuple h'
 rw [e] at e';cases e'
 rw [d] at d'
 injection d' with d1 _
 have:its=its':=by simpa using congrArg XX d1
 subst this
 exact r.inj r'
end

abbrev Cx.wish (X:Cx) (E:Value->Shared->Prop):Cx:={ X with xe:=E }
abbrev Cx.nox (X:Cx):Cx:=X.wish λ_ _=>False
theorem Cx.Ok.wish {X:Cx} (ok:X.Ok) (E:Value->Shared->Prop):(X.wish E).Ok :=
 ⟨ok.mod,ok.kind,ok.glob,ok.blt,ok.above,ok.inj,ok.has,ok.cab,ok.hd,ok.frames,ok.stk,ok.exf,ok.bs,ok.bsz,ok.noex,ok.exfs,ok.funs,ok.frf,ok.tab⟩
theorem Cx.Ok.unwish {X:Cx} {E:Value->Shared->Prop} (ok:(X.wish E).Ok):X.Ok :=
 ⟨ok.mod,ok.kind,ok.glob,ok.blt,ok.above,ok.inj,ok.has,ok.cab,ok.hd,ok.frames,ok.stk,ok.exf,ok.bs,ok.bsz,ok.noex,ok.exfs,ok.funs,ok.frf,ok.tab⟩
section
variable {X:Cx} {pins:List (Addr×Obj)} {σ:St} {H:Hp} {s:Shared} {E:Value->Shared->Prop}
theorem dU.wish (I:dU X pins σ H s) (E:Value->Shared->Prop):dU (X.wish E) pins σ H s:=⟨I.ok.wish E,I.os,I.bare,I.base,I.loc,I.cell,I.free,I.freeC,I.pin,I.hok,I.len⟩
theorem dU.unwish (I:dU (X.wish E) pins σ H s):dU X pins σ H s:=⟨I.ok.unwish,I.os,I.bare,I.base,I.loc,I.cell,I.free,I.freeC,I.pin,I.hok,I.len⟩
theorem SP.unwish {D:uX} {f:Flow} {s':Shared} (h:SP (X.wish E) pins D f s'):SP X pins D f s':=by
 cases f with
 | next=>obtain ⟨σ',H',I,q⟩:=h;exact ⟨σ',H',I.unwish,q⟩
 | brk=>obtain ⟨σ',H',I,q⟩:=h;exact ⟨σ',H',I.unwish,q⟩
 | cont=>obtain ⟨σ',H',I,q⟩:=h;exact ⟨σ',H',I.unwish,q⟩
 | ret u=>obtain ⟨v,σ',H',I,r,q⟩:=h;exact ⟨v,σ',H',I.unwish,r,q⟩
theorem PE.nox {e:Expr} {t:TE} (h:PE X.nox e t):PE X e t:=λpins s σ H Q I hw =>
 fS (h pins s σ H Q (I.wish _) hw) (λ_ _ ⟨v,H',I',r,q⟩=>⟨v,H',I'.unwish,r,q⟩) λ_ _ z=>False.elim z
theorem PT.nox {e:Expr} {t:TT} (h:PT X.nox e t):PT X e t:=λpins s σ H Q I hw =>
 fS (h pins s σ H Q (I.wish _) hw) (λ_ _ ⟨H',I',q⟩=>⟨H',I'.unwish,q⟩) λ_ _ z=>False.elim z
theorem DB.nox {st:List Stmt} {t:TS} (h:DB X.nox st t):DB X st t:=λpins s σ H D I hw =>
 fS (h pins s σ H D (I.wish _) hw) (λ_ _ q=>q.unwish) λ_ _ z=>False.elim z
end

section
variable {X:Cx} {st:Stmt} {lS:List Stmt} {t u:TS} {e:Expr} {te:TE} {pos:Pos}
def X8:TS:=λD σ H=>D.nx σ H
def aCe (t u:TS):TS:=λD σ H=>t { D with nx:=u D } σ H
theorem O1:DB X [] X8:=λ_ _ σ H _ I h=>wpAny_execs_nil ⟨σ,H,I,h⟩
theorem K5 (h1:PS X st t) (h2:DB X lS u):DB X (st::lS) (aCe t u):=by
 intro pins s σ H D I h
 refine wpAny_execs_cons (lB (h1 pins s σ H { D with nx:=u D } I h) λf s1 q=>?_)
 cases f with
 | next =>
  obtain ⟨σ',H',I',q⟩:=q
  exact h2 pins s1 σ' H' D I' q
 | ret v=>exact q
 | brk=>exact q
 | cont=>exact q
theorem O0 (h1:PS X st t):DB X [st] t:=by
 intro pins s σ H D I h
 refine wpAny_execs_cons (lB (h1 pins s σ H D I h) λf s1 q=>?_)
 cases f with
 | next=>exact wpAny_execs_nil q
 | ret v=>exact q
 | brk=>exact q
 | cont=>exact q
theorem dU.quiet {pins:List (Addr×Obj)} {σ:St} {H:Hp} {s:Shared} (I:dU X pins σ H s):interactive X.env=false:=by simp [interactive,I.ok.kind]
def FE (te:TE):TS:=λD σ H=>te σ H λ_ H1=>D.nx σ H1
theorem iV (he:PE X e te) (hs:qU e none pos.line X.env=pure false:=by rfl):PS X (.Expr e pos) (FE te):=by
 intro pins s σ H D I h
 exact wpAny_Expr_any (lB (he pins s σ H _ I h) λv s1 ⟨x,H1,I1,r1,q1⟩=>⟨σ,H1,I1,q1⟩) I.quiet hs
def aCf (te:TE):TS:=λD σ H=>te σ H D.rt
theorem AD (he:PE X e te):PS X (.Return (some e) pos) (aCf te):=by
 intro pins s σ H D I h
 exact wpAny_Return_some (lB (he pins s σ H _ I h) λv s1 ⟨x,H1,I1,r1,q1⟩=>⟨x,σ,H1,I1,r1,q1⟩)
def aCj (c:TT) (t u:TS):TS:=λD σ H=>c σ H λb H1=>if b=true then t D σ H1 else u D σ H1
theorem Y1 {c:Expr} {a b:List Stmt} {tc:TT} (hc:PT X c tc) (ha:DB X a t) (hb:DB X b u):PS X (.If c a b pos) (aCj tc t u):=by
 intro pins s σ H D I h
 refine wpAny_If (lB (hc pins s σ H _ I h) λd s1 ⟨H1,I1,q1⟩=>?_)
 cases d with
 | true=>exact ha pins s1 σ H1 D I1 q1
 | false=>exact hb pins s1 σ H1 D I1 q1
end

abbrev TG:=V->St->Hp->(St->Hp->Prop)->Prop
abbrev XH:=List V->St->Hp->(St->Hp->Prop)->Prop
def PG (X:Cx) (target:Expr) (t:TG):Prop :=
 ∀ (pins:List (Addr×Obj)) (s:Shared) (σ:St) (H:Hp) (v:V) (u:Value) (Q:St->Hp->Prop),dU X pins σ H s->gO v u->t v σ H Q ->
  wpAny (model X.prog X.w) X.A (assign target X.env u) (λ_ s'=>∃ σ' H',dU X pins σ' H' s'/\Q σ' H') X.xe s
def PGs (X:Cx) (ts:List Expr) (t:XH):Prop :=
 ∀ (pins:List (Addr×Obj)) (s:Shared) (σ:St) (H:Hp) (vs:List V) (us:List Value) (Q:St->Hp->Prop),dU X pins σ H s->eI vs us->t vs σ H Q ->
  wpAny (model X.prog X.w) X.A (assignInOrder ((assignEach ts X.env).map (·.2)) us) (λ_ s'=>∃ σ' H',dU X pins σ' H' s'/\Q σ' H') X.xe s
section
variable {X:Cx} {pos:Pos}
def kT (i:Nat):TG:=λv σ H Q=>Q (σ.set i (some v)) H
theorem FZ {i:Nat} {x:Str} (hN:X.N.Nodup) (hi:X.N[i]?=some x) (hx:ND X.env.scope x) (hf:X.fn x=true\/X.env.scope.names.lookup x=some .local:=by first | exact .inl rfl | exact .inr rfl | assumption):PG X (.Name x pos) (kT i):=by
 intro pins s σ H v u Q I r h
 exact wpAny_assign_Name (BR I hN hi hx r (λs' I'=>⟨_,H,I',h⟩) hf)
def WN:XH:=λvs σ H Q=>vs=[]/\Q σ H
def zE (t:TG) (u:XH):XH:=λvs σ H Q=>∃ v r,vs=v::r/\t v σ H λσ' H'=>u r σ' H' Q
theorem vC:PGs X [] WN:=by
 intro pins s σ H vs us Q I r h
 obtain ⟨e,h⟩:=h
 subst e
 cases r
 exact assignInOrder_nil ⟨σ,H,I,h⟩
theorem kL {e:Expr} {es:List Expr} {t:TG} {u:XH} (h1:PG X e t) (h2:PGs X es u)
  (hs:(assignEach (e::es) X.env).map (·.2)=assign e X.env::(assignEach es X.env).map (·.2):=by rfl):PGs X (e::es) (zE t u):=by
 intro pins s σ H vs us Q I r h
 obtain ⟨v,vr,e1,h⟩:=h
 subst e1
 cases r with
 | cons r rr =>
  rw [hs]
  refine assignInOrder_cons (lB (h1 pins s σ H _ _ _ I r h) λ_ s1 ⟨σ1,H1,I1,q1⟩=>?_)
  exact h2 pins s1 σ1 H1 _ _ Q I1 rr q1
def WM (K:aE) (n:Nat) (t:XH):TG:=λv σ H Q=>∃ a xs,v=.ref a/\qP K H a xs/\xs.length=n/\t xs σ H Q
theorem AE {es:List Expr} {k:Nat} {t:XH} {n:Nat} (hc:X.calm=true) (h:PGs X es t)
  (hn:(assignEach es X.env).length=n:=by rfl) (hst:(assignEach es X.env).findIdx? (·.1)=none:=by rfl):PG X (.Tuple es k pos) (WM X.K n t):=by
 intro pins s σ H v u Q I r hw
 obtain ⟨a,xs,e1,hq,hl,hw⟩:=hw
 subst e1
 cases r
 obtain ⟨its,rv,ht,hz⟩:=I.tuple hq
 refine assign_Tuple_tuple (I.ok.hd hc) ht (by simp [hn,<- hl,rv.length]) hst λh' hx=>?_
 have I1:dU X pins σ H { s with heap:=h' }:=I.kept (t':=s.toks) λb o e=>hx b o (dR (bE e)) e
 exact h pins _ σ H xs _ Q I1 (by simpa using rv) hw
def zU (te:TE) (g:TG):TS:=λD σ H=>te σ H λx H1=>g x σ H1 D.nx
theorem DX {i:Nat} {x:Str} {e:Expr} {te:TE} {pos':Pos} (hN:X.N.Nodup) (hi:X.N[i]?=some x) (hx:ND X.env.scope x) (he:PE X e te) (hs:qU e (some (.Name x pos')) pos.line X.env=pure false:=by rfl) (hf:X.fn x=true\/X.env.scope.names.lookup x=some .local:=by first | exact .inl rfl | exact .inr rfl | assumption) :
  PS X (.Assign [.Name x pos'] e pos) (zU te (kT i)):=by
 intro pins s σ H D I h
 refine wpAny_Assign_Name (lB (he pins s σ H _ I h) λv s1 ⟨y,H1,I1,r1,q1⟩=>?_) hs
 exact BR I1 hN hi hx r1 (λs2 I2=>⟨_,H1,I2,q1⟩) hf
end

section
variable {X:Cx} {pos:Pos}
def KG (c:TT) (tb:TS):TS:=λD σ H=>∃ W:Nat->St->Hp->Prop,(∃ m,W m σ H)/\∀ m σ H,W m σ H ->
 c σ H λb H1=>if b=true then ∃ N:St->Hp->Prop,(∀ σ' H',N σ' H'->∃ m',m'<m/\W m' σ' H')/\tb { D with nx:=N,ct:=N,bk:=D.nx } σ H1 else D.nx σ H1
theorem wC {c:Expr} {body:List Stmt} {tc:TT} {tb:TS} (hp:PassesOwn (model X.prog X.w) X.A X.env X.xe) (hc:PT X c tc) (hb:DB X body tb):PS X (.While c body [] pos) (KG tc tb):=by
 intro pins s σ H D I h
 obtain ⟨W,⟨m0,w0⟩,turn⟩:=h
 refine wpAny_While (codeAny_whileLoop (λn s'=>∃ σ' H',dU X pins σ' H' s'/\W n σ' H') ?_ m0 ⟨σ,H,I,w0⟩)
 rintro n s1 ⟨σ1,H1,I1,w1⟩
 refine wpAny_passesOwn hp (lB (hc pins s1 σ1 H1 _ I1 (turn n σ1 H1 w1)) λb s2 ⟨H2,I2,q2⟩=>?_)
 cases b with
 | true =>
  obtain ⟨N,hN,q2⟩:=q2
  rw [if_pos rfl]
  refine wpAny_passesOwn hp (lB (hb pins s2 σ1 H2 _ I2 q2) λf s3 q3=>?_)
  cases f with
  | next =>
   obtain ⟨σ3,H3,I3,n3⟩:=q3
   obtain ⟨m',hm,w3⟩:=hN σ3 H3 n3
   exact ⟨m',hm,σ3,H3,I3,w3⟩
  | cont =>
   obtain ⟨σ3,H3,I3,n3⟩:=q3
   obtain ⟨m',hm,w3⟩:=hN σ3 H3 n3
   exact ⟨m',hm,σ3,H3,I3,w3⟩
  | brk=>exact q3
  | ret v=>exact q3
 | false =>
  rw [if_neg cE]
  exact wpAny_execs_nil ⟨σ1,H2,I2,q2⟩
end

structure It where
 go:Nat->Hp->Prop
 yld:Nat->Hp->V->Hp->Prop
 stop:Nat->Hp->Prop
def uW (X:Cx) (pins:List (Addr×Obj)) (H:Hp) (b:Addr):Prop :=
 H b=none/\b≠X.env.locals/\b∉X.fs/\(b∈X.ex\/X.s₀.heap.objs.size<=b)/\(∀ x c,X.env.cells.lookup x=some c->c≠b)/\∀ p∈X.pn++pins,p.1≠b
theorem dU.fpOk {X:Cx} {pins:List (Addr×Obj)} {σ:St} {H H':Hp} {s:Shared} {b:Addr} (I:dU X pins σ H s) (hb:s.heap.objs.size<=b) (hn:H' b=none):uW X pins H' b:=by
 refine ⟨hn,mV (cG I.lt hb),I.nofs hb,.inr (bO I.sz hb),λx c e z=>?_,λp hp z=>?_⟩
 ·obtain ⟨v,q⟩:=I.cell x c e
  exact absurd (cG q.lt (by rw [z];exact hb)) (gI _)
 ·exact absurd (cG (bE (I.pin p hp).1) (by rw [z];exact hb)) (gI _)
structure EU (P:bY) (w:World) (K:aE) (tg:Expr) (J:It) (fp:List Addr) (it:Addr) (tn:Nat->Heap->Prop):Prop where
 mem:it∈fp
 obj:∀ i h,tn i h->∀ b∈fp,∃ o,h.get? b=some o/\∀ v,o.data≠.cell v
 keep:∀ i h h',tn i h->(∀ b∈fp,∀ o,h.get? b=some o->h'.get? b=some o)->tn i h'
 item:∀ (X:Cx),X.prog=P->X.w=w->X.K=K->X.calm=true->∀ (i:Nat) (pins:List (Addr×Obj)) (s:Shared) (σ:St) (H:Hp) (E:Value->Shared->Prop),dU X pins σ H s->(∀ b∈fp,uW X pins H b)->tn i s.heap->J.go i H ->
  wpAny (model P w) X.A (pyNext (.ref it)) (λr s1=>∃ u,r=some u /\
   wpAny (model P w) X.A (letOwnedTupleGo tg (.ref it) u) (λ_ s2=>∃ x H',dU X pins σ H' s2/\gO x u/\J.yld i H x H'/\tn (i+1) s2.heap/\∀ b∈fp,H' b=none) E s1) E s
 done:∀ (X:Cx),X.prog=P->X.w=w->X.K=K->X.calm=true->∀ (i:Nat) (pins:List (Addr×Obj)) (s:Shared) (σ:St) (H:Hp) (E:Value->Shared->Prop),dU X pins σ H s->(∀ b∈fp,uW X pins H b)->tn i s.heap->J.stop i H ->
  wpAny (model P w) X.A (pyNext (.ref it)) (λr s1=>r=none/\dU X pins σ H s1) E s
 self:∀ (A:Around) (i:Nat) (s:Shared) (Q:Value->Shared->Prop) (E:Value->Shared->Prop),tn i s.heap->Q (.ref it) s->wpAny (model P w) A (pyIter (.ref it)) Q E s
abbrev TI:=St->Hp->(It->Hp->Prop)->Prop
def PIE (X:Cx) (pins:List (Addr×Obj)) (σ:St) (tg:Expr) (R:It->Hp->Prop) (itv:Value) (s2:Shared):Prop :=
 ∃ (it:Addr) (fp:List Addr) (tn:Nat->Heap->Prop) (J:It) (H':Hp),itv=.ref it/\dU X pins σ H' s2/\EU X.prog X.w X.K tg J fp it tn/\tn 0 s2.heap/\(∀ b∈fp,uW X pins H' b)/\R J H'
def PI (X:Cx) (tg iter:Expr) (wi:TI):Prop :=
 ∀ (pins:List (Addr×Obj)) (s:Shared) (σ:St) (H:Hp) (R:It->Hp->Prop),dU X pins σ H s->wi σ H R ->
  wpAny (model X.prog X.w) X.A (eval iter X.env) (λv s1=>wpAny (model X.prog X.w) X.A (pyIter v) (PIE X pins σ tg R) X.xe s1) X.xe s

theorem MR {M:Model} {A:Around} {E:Value->Shared->Prop} {s:Shared} {tg:Expr} {it:Addr} {u:Value} {o:Obj} {n:String} {vs:Array Value} {Q:Unit->Shared->Prop} (ho:s.heap.get? it=some o) (hc:o.cls=.type n) (hd:o.data=.fields vs)
  (hn:["enumerate","zip","dict_itemiterator","dict_reverseitemiterator","odict_iterator","itertools.zip_longest","itertools.pairwise"].contains n=false) (hQ:Q () s):wpAny M A (letOwnedTupleGo tg (.ref it) u) Q E s:=by
 unfold letOwnedTupleGo
 cases tg<;>first
  | exact bM hQ
  | (cases u<;>first
    | exact bM hQ
    | (refine aV (wpAny_load ho ?_)
       rw [hc,hd]
       show wpAny M A (if (["enumerate","zip","dict_itemiterator","dict_reverseitemiterator","odict_iterator","itertools.zip_longest","itertools.pairwise"].contains n && vs[0]? == some (rawInt _))=true then _ else _) Q E s
       rw [if_neg (by intro h;rw [hn,Bool.false_and] at h;cases h)]
       exact bM hQ))

def Itl (K:aE) (a:Addr):It :=
 ⟨λi H=>∃ xs x,lP K H a xs/\xs[i]?=some x,λi H x H'=>H'=H/\∀ xs,lP K H a xs->xs[i]?=some x,λi H=>∃ xs,lP K H a xs/\xs.length<=i⟩
def Itt (K:aE) (a:Addr):It :=
 ⟨λi H=>∃ xs x,qP K H a xs/\xs[i]?=some x,λi H x H'=>H'=H/\∀ xs,qP K H a xs->xs[i]?=some x,λi H=>∃ xs,qP K H a xs/\xs.length<=i⟩
def Itr (lo:Int) (n:Nat):It:=⟨λi _=>i<n,λi H x H'=>H'=H/\x=.int (lo+i),λi _=>n<=i⟩
theorem HA {P:bY} {w:World} {K:aE} {tg:Expr} (a it:Addr):EU P w K tg (Itl K a) [it] it (λi h=>h.IsListIter it a i) where
 mem:=by simp
 obj:=λi h st b hb=>by
  have e:b=it:=by simpa using hb
  subst e
  obtain ⟨o,e,c,d⟩:=st
  exact ⟨o,e,λv z=>by rw [d] at z;cases z⟩
 keep:=λi h h' st k=>st.at λo e=>k it (by simp) o e
 item:=by
  intro X hP hw hK hc i pins s σ H E I hf st hg
  subst hP hw hK
  obtain ⟨xs,x,hq,hx⟩:=hg
  obtain ⟨its,rv,p,hz⟩:=I.list hq
  obtain ⟨u,hu,ru⟩:=rv.get hx
  obtain ⟨f0,f1,f2,f3,f4,f5⟩:=hf it (by simp)
  refine wpAny_pyNext_list_item st p.isList (x:=u) (by simpa using hu) λh' st' sb=>?_
  have I1:dU X pins σ H { s with heap:=h' }:=I.turned (t':=s.toks) (λb o hb e=>(sb.2 b hb).trans e) f0 f1 f3 f4 f5
  obtain ⟨o,e,c,d⟩:=id st'
  exact ⟨u,rfl,MR (s:={ s with heap:=h' }) e c d (by decide) ⟨x,H,I1,ru,⟨rfl,λys hy=>by rw [I.list_inj hy hq];exact hx⟩,st',λb hb=>(hf b hb).1⟩⟩
 done:=by
  intro X hP hw hK hc i pins s σ H E I hf st hg
  subst hP hw hK
  obtain ⟨xs,hq,hx⟩:=hg
  obtain ⟨its,rv,p,hz⟩:=I.list hq
  obtain ⟨f0,f1,f2,f3,f4,f5⟩:=hf it (by simp)
  have hl:=rv.length
  exact wpAny_pyNext_list_end (I.ok.hd hc) st p.isList (by simp;omega) λh' eb=>⟨rfl,I.turned (t':=s.toks) (λb o hb e=>eb b o hb e) f0 f1 f3 f4 f5⟩
 self:=λ_ _ _ _ _ st h=>wpAny_pyIter_listiter st h
theorem DN {P:bY} {w:World} {K:aE} {tg:Expr} (a it:Addr):EU P w K tg (Itt K a) [it] it (λi h=>h.IsTupleIter it a i) where
 mem:=by simp
 obj:=λi h st b hb=>by
  have e:b=it:=by simpa using hb
  subst e
  obtain ⟨o,e,c,d⟩:=st
  exact ⟨o,e,λv z=>by rw [d] at z;cases z⟩
 keep:=λi h h' st k=>st.at λo e=>k it (by simp) o e
 item:=by
  intro X hP hw hK hc i pins s σ H E I hf st hg
  subst hP hw hK
  obtain ⟨xs,x,hq,hx⟩:=hg
  obtain ⟨its,rv,p,hz⟩:=I.tuple hq
  obtain ⟨u,hu,ru⟩:=rv.get hx
  obtain ⟨f0,f1,f2,f3,f4,f5⟩:=hf it (by simp)
  refine wpAny_pyNext_tuple_item st (show s.heap.IsTuple a its.toArray from p) (x:=u) (by simpa using hu) λh' st' sb=>?_
  have I1:dU X pins σ H { s with heap:=h' }:=I.turned (t':=s.toks) (λb o hb e=>(sb.2 b hb).trans e) f0 f1 f3 f4 f5
  obtain ⟨o,e,c,d⟩:=id st'
  exact ⟨u,rfl,MR (s:={ s with heap:=h' }) e c d (by decide) ⟨x,H,I1,ru,⟨rfl,λys hy=>by rw [I.tuple_inj hy hq];exact hx⟩,st',λb hb=>(hf b hb).1⟩⟩
 done:=by
  intro X hP hw hK hc i pins s σ H E I hf st hg
  subst hP hw hK
  obtain ⟨xs,hq,hx⟩:=hg
  obtain ⟨its,rv,p,hz⟩:=I.tuple hq
  obtain ⟨f0,f1,f2,f3,f4,f5⟩:=hf it (by simp)
  have hl:=rv.length
  exact wpAny_pyNext_tuple_end (I.ok.hd hc) st (show s.heap.IsTuple a its.toArray from p) (by simp;omega) λh' eb=>⟨rfl,I.turned (t':=s.toks) (λb o hb e=>eb b o hb e) f0 f1 f3 f4 f5⟩
 self:=λ_ _ _ _ _ st h=>wpAny_pyIter_tupleiter st h
theorem DO {P:bY} {w:World} {K:aE} {tg:Expr} (it:Addr) (lo:Int) (n:Nat):EU P w K tg (Itr lo n) [it] it (λi h=>IsRangeIter h it (lo+(i:Nat)*1) ((n:Int)-(i:Nat)) 1) where
 mem:=by simp
 obj:=λi h st b hb=>by
  have e:b=it:=by simpa using hb
  subst e
  exact ⟨_,st,λv z=>by
   have z':Data.fields _=Data.cell v:=z
   cases z'⟩
 keep:=λi h h' st k=>k it (by simp) _ st
 item:=by
  intro X hP hw hK hc i pins s σ H E I hf st hg
  subst hP hw hK
  obtain ⟨f0,f1,f2,f3,f4,f5⟩:=hf it (by simp)
  have W:=Walks.range (prog:=X.prog) (w:=X.w) (I.ok.hd hc) it lo 1 n
  refine W.item i s _ _ hg st λv h' tk hv st' kk=>?_
  obtain ⟨t,rfl⟩:=hv
  have I1:dU X pins σ H { s with heap:=h',toks:=tk }:=I.turned (λb o hb e=>kk b o (by simpa using hb) e) f0 f1 f3 f4 f5
  refine ⟨_,rfl,MR (s:={ s with heap:=h',toks:=tk }) (n:="range_iterator") st' rfl rfl (by decide) ⟨.int (lo+i),H,I1,⟨t,?_⟩,⟨rfl,rfl⟩,st',λb hb=>(hf b hb).1⟩⟩
  rw [aB9]
 done:=by
  intro X hP hw hK hc i pins s σ H E I hf st hg
  subst hP hw hK
  obtain ⟨f0,f1,f2,f3,f4,f5⟩:=hf it (by simp)
  exact wpAny_pyNext_range_end (I.ok.hd hc) st (by have:n<=i:=hg;omega) λh' eb=>⟨rfl,I.turned (t':=s.toks) (λb o hb e=>eb b o hb e) f0 f1 f3 f4 f5⟩
 self:=λ_ _ _ _ _ st h=>wpAny_pyIter_rangeiter st h
section
variable {X:Cx} {tg:Expr}
theorem K0 {pins:List (Addr×Obj)} {σ:St} {H:Hp} {s:Shared} {R:It->Hp->Prop} {E:Value->Shared->Prop} {lo hi:Int} {t u v:Tok} {tk:Nat} (I:dU X pins σ H s) (h1:-(2 ^ 62)<=lo) (h2:lo<2 ^ 62) (h3:-(2 ^ 62)<=hi) (h4:hi<2 ^ 62)
  (q:R (Itr lo (hi-lo).toNat) H):wpAny (model X.prog X.w) X.A (pyIter (.ref s.heap.objs.size)) (PIE X pins σ tg R) E { s with heap:=s.heap.push { cls:=.type "range",data:=.fields #[.int lo t,.int hi u,.int 1 v] },toks:=tk }:=by
 refine wpAny_pyIter_range (IsRange.new ..) (small_one h1 h2 h3 h4) ?_
 have I1:dU X pins σ H { s with heap:=s.heap.push { cls:=.type "range",data:=.fields #[.int lo t,.int hi u,.int 1 v] },toks:=tk }:=I.kept λb o e=>aP _ e
 refine ⟨(s.heap.push { cls:=.type "range",data:=.fields #[.int lo t,.int hi u,.int 1 v] }).objs.size,[(s.heap.push { cls:=.type "range",data:=.fields #[.int lo t,.int hi u,.int 1 v] }).objs.size],_,_,H,rfl,
  I1.kept (t':=tk) λb o e=>aP _ e,DO _ lo (hi-lo).toNat,?_,λb hb=>?_,q⟩
 ·have e1:lo+((0:Nat):Int)*1=lo:=by simp
  have e2:(((hi-lo).toNat:Nat):Int)-((0:Nat):Int)=Builtin.Range.rangeSize lo hi 1:=by rw [rangeSize_one];split<;>omega
  show IsRangeIter _ _ (lo+((0:Nat):Int)*1) ((((hi-lo).toNat:Nat):Int)-((0:Nat):Int)) 1
  rw [e1,e2]
  exact bW _ rfl
 ·have e:b=(s.heap.push { cls:=.type "range",data:=.fields #[.int lo t,.int hi u,.int 1 v] }).objs.size:=by simpa using hb
  subst e
  exact I1.fpOk (aL _) (I1.hok.fresh (aL _))
def T4 (ta:TA):TI:=λσ H R=>ta σ H λvs H1=>∃ j:Int,vs=[.int j]/\-(2 ^ 62)<=j/\j<2 ^ 62/\R (Itr 0 j.toNat) H1
theorem gJ {a:Expr} {ta:TA} {p pos:Pos} (hg:Gl X "range") (hm:X.mg "range"=none) (ha:PA X [a] ta) (hs:bT [a] X.env=[(false,eval a X.env)]:=by rfl):PI X tg (.Call (.Name "range" p) [a] [] pos) (T4 ta):=by
 intro pins s σ H R I h
 refine Call_ (wL I hg hm boot_range (PyProof.Rows.callWith_type1 (lB (ha pos pins s σ H _ I h) λus s1 ⟨vs,H1,I1,r1,q1⟩=>?_) hs rfl))
 obtain ⟨j,e,q1,q2,q⟩:=q1
 subst e
 cases r1 with
 | cons r rr =>
  cases rr
  obtain ⟨t,rfl⟩:=r
  exact call_range_1 (K0 I1 (by omega) (by omega) q1 q2 (by simpa using q))
def X9 (wi:TI) (g:TG) (tb:TS):TS:=λD σ H=>wi σ H λJ H1=>∃ W:Nat->Nat->St->Hp->Prop,(∃ m,W 0 m σ H1)/\∀ i m σ H,W i m σ H ->
 (J.stop i H/\D.nx σ H)\/(J.go i H/\∃ N:St->Hp->Prop,(∀ σ' H',N σ' H'->∃ m',m'<m/\W (i+1) m' σ' H')/\∀ x H',J.yld i H x H'->g x σ H' λσ2 H2=>tb { D with nx:=N,ct:=N,bk:=D.nx } σ2 H2)
def wD (fp:List Addr) (h:Heap):List (Addr×Obj):=fp.filterMap λb=>(h.get? b).map λo=>(b,o)
theorem oX {fp:List Addr} {h:Heap} {b:Addr} {o:Obj} (hb:b∈fp) (e:h.get? b=some o):(b,o)∈wD fp h:=J2.mpr ⟨b,hb,by rw [e];rfl⟩
theorem H0 {fp:List Addr} {h:Heap} {p:Addr×Obj} (hp:p∈wD fp h):p.1∈fp/\h.get? p.1=some p.2:=by
 obtain ⟨b,hb,e⟩:=J2.mp hp
 cases q:h.get? b with
 | none=>rw [q] at e;cases e
 | some o =>
  rw [q] at e
  have e':(b,o)=p:=Option.some.inj e
  subst e'
  exact ⟨hb,q⟩
theorem dU.pinned {pins:List (Addr×Obj)} {σ:St} {H:Hp} {s:Shared} {fp:List Addr} (I:dU X pins σ H s) (hf:∀ b∈fp,uW X pins H b) (ho:∀ b∈fp,∃ o,s.heap.get? b=some o/\∀ v,o.data≠.cell v):dU X (pins++wD fp s.heap) σ H s :=
 I.pins_of λp hp=>(eT.mp hp).elim (λz=>I.pin p (dM _ z)) λz=>by
  obtain ⟨hb,e⟩:=H0 z
  obtain ⟨f0,f1,f2,_⟩:=hf p.1 hb
  obtain ⟨o,e',d⟩:=ho p.1 hb
  rw [e] at e';cases e'
  exact ⟨e,f0,f1,f2,d⟩
theorem dU.unpinned {pins pl:List (Addr×Obj)} {σ:St} {H:Hp} {s:Shared} (I:dU X (pins++pl) σ H s):dU X pins σ H s:=I.pins_of λp hp=>I.pin p (dM _ (mD _ hp))
theorem VM {iter:Expr} {body:List Stmt} {wi:TI} {g:TG} {tb:TS} {pos:Pos} (hp:PassesOwn (model X.prog X.w) X.A X.env X.xe) (hc:X.calm=true) (hi:PI X tg iter wi) (hg:PG X tg g) (hb:DB X body tb)
  (hs:∀ x,foldedSetIterable iter X.env x=pure x:=by intro _;rfl):PS X (.For tg iter body [] pos) (X9 wi g tb):=by
 intro pins s σ H D I h
 refine wpAny_For (lB (hi pins s σ H _ I h) λv s1 h1=>lB h1 λitv s2 h2=>?_) hs
 obtain ⟨it,fp,tn,J,H2,e,I2,T,st2,f2,W,⟨m0,w0⟩,turn⟩:=h2
 subst e
 -- what stays true of the iterator's objects through the loop
 have stat:∀ {H':Hp},(∀ b∈fp,H' b=none)->∀ b∈fp,uW X pins H' b:=λhn b hb=>⟨hn b hb,(f2 b hb).2⟩
 refine codeAny_forLoop_any (λn s'=>∃ i σ' H',dU X pins σ' H' s'/\tn i s'.heap/\(∀ b∈fp,H' b=none)/\W i n σ' H') ?_ m0 ⟨0,σ,H2,I2,st2,λb hb=>(f2 b hb).1,w0⟩
 rintro n s3 ⟨i,σ3,H3,I3,st3,fr3,w3⟩
 rcases turn i n σ3 H3 w3 with ⟨stop,qn⟩ | ⟨go,N,hN,step⟩
 ·refine wpAny_passesOwn hp (lB (T.done X rfl rfl rfl hc i pins s3 σ3 H3 X.xe I3 (stat fr3) st3 stop) λr s4 ⟨hr,I4⟩=>?_)
  subst hr
  exact wpAny_execs_nil ⟨σ3,H3,I4,qn⟩
 ·refine wpAny_passesOwn hp (lB (T.item X rfl rfl rfl hc i pins s3 σ3 H3 X.xe I3 (stat fr3) st3 go) λr s4 ⟨u,hr,h4⟩=>?_)
  subst hr
  refine wpAny_passesOwn hp (lB h4 λ_ s5 ⟨x,H5,I5,r5,y5,st5,fr5⟩=>?_)
  have I5':=I5.pinned (stat fr5) (T.obj _ _ st5)
  refine wpAny_passesOwn hp (lB (hg _ s5 σ3 H5 x u _ I5' r5 (step x H5 y5)) λ_ s6 ⟨σ6,H6,I6,q6⟩=>?_)
  refine wpAny_passesOwn hp (lB (hb _ s6 σ6 H6 _ I6 q6) λf s7 q7=>?_)
  have again:∀ {σ7:St} {H7:Hp},dU X (pins++wD fp s5.heap) σ7 H7 s7->N σ7 H7->∃ m,m<n/\∃ i σ' H',dU X pins σ' H' s7/\tn i s7.heap/\(∀ b∈fp,H' b=none)/\W i m σ' H':=λ{σ7 H7} I7 n7=>by
   obtain ⟨m',hm,w7⟩:=hN σ7 H7 n7
   refine ⟨m',hm,i+1,σ7,H7,I7.unpinned,T.keep _ _ _ st5 λb hb o e=>(I7.pin (b,o) (dM _ (dM _ (oX hb e)))).1,λb hb=>?_,w7⟩
   obtain ⟨o,e,d⟩:=T.obj _ _ st5 b hb
   exact (I7.pin (b,o) (dM _ (dM _ (oX hb e)))).2.1
  cases f with
  | next=>obtain ⟨σ7,H7,I7,n7⟩:=q7;exact again I7 n7
  | cont=>obtain ⟨σ7,H7,I7,n7⟩:=q7;exact again I7 n7
  | brk=>obtain ⟨σ7,H7,I7,q7⟩:=q7;exact ⟨σ7,H7,I7.unpinned,q7⟩
  | ret v=>obtain ⟨x7,σ7,H7,I7,r7,q7⟩:=q7;exact ⟨x7,σ7,H7,I7.unpinned,r7,q7⟩
end

end L2

namespace L2
open PySem PySem.Spec PyProof.Rows

abbrev R2:=V->V->Hp->VK->Prop
def nJ (X:Cx) (f:Value->Value->Sem Value) (r:R2):Prop :=
 ∀ (pins:List (Addr×Obj)) (s:Shared) (σ:St) (H:Hp) (x y:V) (v u:Value) (Q:VK),dU X pins σ H s->gO x v->gO y u->r x y H Q ->
  wpAny (model X.prog X.w) X.A (f v u) (EP X pins σ Q) X.xe s
def UnR (X:Cx) (f:Value->Sem Value) (r:V->Hp->VK->Prop):Prop :=
 ∀ (pins:List (Addr×Obj)) (s:Shared) (σ:St) (H:Hp) (x:V) (v:Value) (Q:VK),dU X pins σ H s->gO x v->r x H Q ->
  wpAny (model X.prog X.w) X.A (f v) (EP X pins σ Q) X.xe s
def nF (X:Cx) (f:Value) (r:List V->Hp->VK->Prop):Prop :=
 ∀ (pins:List (Addr×Obj)) (s:Shared) (σ:St) (H:Hp) (xs:List V) (us:List Value) (Q:VK),dU X pins σ H s->eI xs us->r xs H Q ->
  wpAny (model X.prog X.w) X.A (call f us) (EP X pins σ Q) X.xe s
def aDw (X:Cx) (r:V->Hp->(Bool->Hp->Prop)->Prop):Prop :=
 ∀ (pins:List (Addr×Obj)) (s:Shared) (σ:St) (H:Hp) (x:V) (v:Value) (Q:Bool->Hp->Prop),dU X pins σ H s->gO x v->r x H Q ->
  wpAny (model X.prog X.w) X.A (truthy v) (TP X pins σ Q) X.xe s

def X7 (r:R2) (ta tb:TE):TE:=λσ H Q=>ta σ H λx H1=>tb σ H1 λy H2=>r x y H2 Q
def tUn (r:V->Hp->VK->Prop) (ta:TE):TE:=λσ H Q=>ta σ H λx H1=>r x H1 Q
def rI (C:Int->Int->Prop) (g:Int->Int->V):R2:=λx y H Q=>∃ i j,x=.int i/\y=.int j/\C i j/\Q (g i j) H
def K2 (g:Int->Int->V):R2:=λx y H Q=>∃ i j,x=.int i/\y=.int j/\Q (g i j) H
def rU (g:Int->V):V->Hp->VK->Prop:=λx H Q=>∃ i,x=.int i/\Q (g i) H

section
variable {X:Cx} {a b c:Expr} {ta tb tc:TE} {pos:Pos}

theorem XC (ha:PE X a ta) (hb:PE X b tb) {pins:List (Addr×Obj)} {s:Shared} {σ:St} {H:Hp} {R:V->V->Hp->Prop} (I:dU X pins σ H s)
  (h:ta σ H λx H1=>tb σ H1 λy H2=>R x y H2) {Q:Value->Shared->Prop} {f:Value->Value->Sem Value}
  (hf:∀ v u s2 x y H2,dU X pins σ H2 s2->gO x v->gO y u->R x y H2->wpAny (model X.prog X.w) X.A (f v u) Q X.xe s2) :
  wpAny (model X.prog X.w) X.A (eval a X.env) (λv s₁=>wpAny (model X.prog X.w) X.A (eval b X.env) (λu s₂=>wpAny (model X.prog X.w) X.A (f v u) Q X.xe s₂) X.xe s₁) X.xe s:=by
 refine lB (ha pins s σ H _ I h) λv s1 ⟨x,H1,I1,r1,q1⟩=>?_
 refine lB (hb pins s1 σ H1 _ I1 q1) λu s2 ⟨y,H2,I2,r2,q2⟩=>?_
 exact hf v u s2 x y H2 I2 r1 r2 q2

theorem F0 {op:Operator} {r:R2} (ho:nJ X (binaryOp op) r) (ha:PE X a ta) (hb:PE X b tb):PE X (.BinOp a op b pos) (X7 r ta tb):=by
 intro pins s σ H Q I h
 exact wpAny_BinOp (XC ha hb I h λv u s2 x y H2 I2 rx ry q=>ho pins s2 σ H2 x y v u Q I2 rx ry q)
theorem Y2 {op:UnaryOp} {r:V->Hp->VK->Prop} (ho:UnR X (unaryOp op) r) (ha:PE X a ta):PE X (.UnaryOp op a pos) (tUn r ta):=by
 intro pins s σ H Q I h
 exact UnaryOp_ (lB (ha pins s σ H _ I h) λv s1 ⟨x,H1,I1,r1,q1⟩=>ho pins s1 σ H1 x v Q I1 r1 q1)
theorem opI {f:Value->Value->Sem Value} {C:Int->Int->Prop} {g:Int->Int->Int}
  (rule:∀ (i j:Int) (t u:Tok) (s:Shared) (Q:Value->Shared->Prop) (E:Value->Shared->Prop),C i j->Q (.int (g i j) s.toks) { s with toks:=s.toks+1 }->wpAny (model X.prog X.w) X.A (f (.int i t) (.int j u)) Q E s) :
  nJ X f (rI C λi j=>.int (g i j)):=by
 intro pins s σ H x y v u Q I rx ry h
 obtain ⟨i,j,rfl,rfl,hc,q⟩:=h
 obtain ⟨t,rfl⟩:=rx
 obtain ⟨t',rfl⟩:=ry
 exact rule i j t t' s _ _ hc ⟨.int (g i j),H,I.tok _,⟨_,rfl⟩,q⟩
theorem Y7 {f:Value->Value->Sem Value} {g:Int->Int->Int}
  (rule:∀ (i j:Int) (t u:Tok) (s:Shared) (Q:Value->Shared->Prop) (E:Value->Shared->Prop),Q (.int (g i j) s.toks) { s with toks:=s.toks+1 }->wpAny (model X.prog X.w) X.A (f (.int i t) (.int j u)) Q E s) :
  nJ X f (K2 λi j=>.int (g i j)):=by
 intro pins s σ H x y v u Q I rx ry h
 obtain ⟨i,j,rfl,rfl,q⟩:=h
 obtain ⟨t,rfl⟩:=rx
 obtain ⟨t',rfl⟩:=ry
 exact rule i j t t' s _ _ ⟨.int (g i j),H,I.tok _,⟨_,rfl⟩,q⟩
theorem PH {f:Value->Value->Sem Value} {g:Int->Int->Bool}
  (rule:∀ (i j:Int) (t u:Tok) (s:Shared) (Q:Value->Shared->Prop) (E:Value->Shared->Prop),Q (.bool (g i j)) s->wpAny (model X.prog X.w) X.A (f (.int i t) (.int j u)) Q E s) :
  nJ X f (K2 λi j=>.bl (g i j)):=by
 intro pins s σ H x y v u Q I rx ry h
 obtain ⟨i,j,rfl,rfl,q⟩:=h
 obtain ⟨t,rfl⟩:=rx
 obtain ⟨t',rfl⟩:=ry
 exact rule i j t t' s _ _ ⟨.bl (g i j),H,I,rfl,q⟩

def XS (i j:Int):Prop:=0<j/\j<1073741824
def EY (i j:Int):Prop:=(-(2 ^ 64)<i/\i<2 ^ 64)\/(-(2 ^ 64)<j/\j<2 ^ 64)
theorem EY.ok {i j:Int} (h:EY i j):IntMulOk i j:=by
 rcases h with ⟨h1,h2⟩ | ⟨h1,h2⟩
 ·exact .of_left (intBits_le_64 h1 h2)
 ·exact .of_right (intBits_le_64 h1 h2)
theorem VY:nJ X (binaryOp .Add) (K2 λi j=>.int (i+j)):=Y7 λ_ _ _ _ _ _ _ q=>add_int q
theorem D1:nJ X (binaryOp .Sub) (K2 λi j=>.int (i-j)):=Y7 λ_ _ _ _ _ _ _ q=>sub_int q
theorem LK:nJ X (binaryOp .Mult) (rI EY λi j=>.int (i*j)):=opI λ_ _ _ _ _ _ _ hc q=>mul_int q hc.ok
theorem mE:nJ X (binaryOp .FloorDiv) (rI XS λi j=>.int (i / j)):=opI λi j _ _ _ _ _ hc q=>by
 have h1:(0:Int)<j:=hc.1
 have h2:j<1073741824:=hc.2
 exact floordiv_int (by omega) (by rw [BA i (by omega)];exact q) (.inl (PyProof.noPylong_small (by omega)))
theorem fD:nJ X (binaryOp .Mod) (rI (λ_ j=>0<j) λi j=>.int (i % j)):=opI λi j _ _ _ _ _ hc q=>by
 have h1:(0:Int)<j:=hc
 exact mod_int' (by omega) (by rw [Int.fmod_eq_emod_of_nonneg i (by omega)];exact q)
theorem unI {f:Value->Sem Value} {g:Int->Int}
  (rule:∀ (i:Int) (t:Tok) (s:Shared) (Q:Value->Shared->Prop) (E:Value->Shared->Prop),Q (.int (g i) s.toks) { s with toks:=s.toks+1 }->wpAny (model X.prog X.w) X.A (f (.int i t)) Q E s) :
  UnR X f (rU λi=>.int (g i)):=by
 intro pins s σ H x v Q I rx h
 obtain ⟨i,rfl,q⟩:=h
 obtain ⟨t,rfl⟩:=rx
 exact rule i t s _ _ ⟨.int (g i),H,I.tok _,⟨_,rfl⟩,q⟩
theorem UO:UnR X (unaryOp .USub) (rU λi=>.int (-i)):=unI λ_ _ _ _ _ q=>neg_int q
end

def VD:V->V->Bool
 | .non,.non=>true | .non,.int _=>true | .int _,.non=>true | .non,.bl _=>true | .bl _,.non=>true | .non,.str _=>true | .str _,.non=>true
 | .int _,.int _=>true | .bl _,.bl _=>true | .str _,.str _=>true | .byt _,.byt _=>true
 | .int _,.str _=>true | .str _,.int _=>true | .bl _,.str _=>true | .str _,.bl _=>true
 | _,_=>false
def rEq:R2:=λx y H Q=>VD x y=true/\Q (.bl (decide (x=y))) H
def rNe:R2:=λx y H Q=>VD x y=true/\Q (.bl (!decide (x=y))) H

theorem GQ {i j:Int}:decide (V.int i=V.int j)=(i == j):=by
 rw [mJ]
 simp
theorem M3 {i j:Bool}:decide (V.bl i=V.bl j)=(i == j):=by
 rw [mJ]
 simp
theorem GP {i j:Str}:decide (V.str i=V.str j)=(i == j):=by
 rw [mJ]
 simp
theorem GR {i j:Array UInt8}:decide (V.byt i=V.byt j)=(i.toList == j.toList):=by
 rw [mJ]
 cases i
 cases j
 simp

section
variable {X:Cx} {a b c:Expr} {ta tb tc:TE} {pos:Pos}
theorem eU {pins:List (Addr×Obj)} {σ:St} {H:Hp} {s:Shared} {Q:VK} {k k':Bool} (I:dU X pins σ H s) (q:Q (.bl k) H) (e:k=k'):EP X pins σ Q (.bool k') s:=by
 subst e
 exact ⟨.bl k,H,I,rfl,q⟩
theorem nV:nJ X (compareOp .Eq) rEq:=by
 intro pins s σ H x y v u Q I rx ry h
 obtain ⟨hs,q⟩:=h
 cases x with
 | non =>
  cases rx
  cases y with
  | non=>cases ry;exact PySem.EqNone.eq_none_none (eU I q (by simp))
  | bl j=>cases ry;exact PySem.EqNone.eq_none_bool (eU I q (by simp))
  | int j=>obtain ⟨t',rfl⟩:=ry;exact PySem.EqNone.eq_none_int (eU I q (by simp))
  | str j=>obtain ⟨t',rfl⟩:=ry;exact PySem.EqNone.eq_none_str (eU I q (by simp))
  | _=>exact absurd (show false=true from hs) cE
 | bl i =>
  cases rx
  cases y with
  | non=>cases ry;exact PySem.EqNone.eq_bool_none (eU I q (by simp))
  | bl j=>cases ry;exact eq_bool (eU I q M3)
  | str j=>obtain ⟨t',rfl⟩:=ry;exact PySem.EqMixed.eq_bool_str (eU I q (by simp))
  | _=>exact absurd (show false=true from hs) cE
 | int i =>
  obtain ⟨t,rfl⟩:=rx
  cases y with
  | non=>cases ry;exact PySem.EqNone.eq_int_none (eU I q (by simp))
  | int j=>obtain ⟨t',rfl⟩:=ry;exact eq_int (eU I q GQ)
  | str j=>obtain ⟨t',rfl⟩:=ry;exact PySem.EqMixed.eq_int_str (eU I q (by simp))
  | _=>exact absurd (show false=true from hs) cE
 | str i =>
  obtain ⟨t,rfl⟩:=rx
  cases y with
  | non=>cases ry;exact PySem.EqNone.eq_str_none (eU I q (by simp))
  | bl j=>cases ry;exact PySem.EqMixed.eq_str_bool (eU I q (by simp))
  | int j=>obtain ⟨t',rfl⟩:=ry;exact PySem.EqMixed.eq_str_int (eU I q (by simp))
  | str j=>obtain ⟨t',rfl⟩:=ry;exact eq_str (eU I q GP)
  | _=>exact absurd (show false=true from hs) cE
 | byt i =>
  obtain ⟨t,rfl⟩:=rx
  cases y with
  | byt j=>obtain ⟨t',rfl⟩:=ry;exact PySem.W.eq_bytes (eU I q GR)
  | _=>exact absurd (show false=true from hs) cE
 | _=>cases y<;>exact absurd (show false=true from hs) cE
theorem Y5:nJ X (compareOp .NotEq) rNe:=by
 intro pins s σ H x y v u Q I rx ry h
 obtain ⟨hs,q⟩:=h
 cases x with
 | non =>
  cases rx
  cases y with
  | non=>cases ry;exact PySem.EqNone.ne_none_none (eU I q (by simp))
  | bl j=>cases ry;exact PySem.EqNone.ne_none_bool (eU I q (by simp))
  | int j=>obtain ⟨t',rfl⟩:=ry;exact PySem.EqNone.ne_none_int (eU I q (by simp))
  | str j=>obtain ⟨t',rfl⟩:=ry;exact PySem.EqNone.ne_none_str (eU I q (by simp))
  | _=>exact absurd (show false=true from hs) cE
 | bl i =>
  cases rx
  cases y with
  | non=>cases ry;exact PySem.EqNone.ne_bool_none (eU I q (by simp))
  | bl j=>cases ry;exact ne_bool (eU I q (congrArg not M3))
  | str j=>obtain ⟨t',rfl⟩:=ry;exact PySem.EqMixed.ne_bool_str (eU I q (by simp))
  | _=>exact absurd (show false=true from hs) cE
 | int i =>
  obtain ⟨t,rfl⟩:=rx
  cases y with
  | non=>cases ry;exact PySem.EqNone.ne_int_none (eU I q (by simp))
  | int j=>obtain ⟨t',rfl⟩:=ry;exact ne_int (eU I q (congrArg not GQ))
  | str j=>obtain ⟨t',rfl⟩:=ry;exact PySem.EqMixed.ne_int_str (eU I q (by simp))
  | _=>exact absurd (show false=true from hs) cE
 | str i =>
  obtain ⟨t,rfl⟩:=rx
  cases y with
  | non=>cases ry;exact PySem.EqNone.ne_str_none (eU I q (by simp))
  | bl j=>cases ry;exact PySem.EqMixed.ne_str_bool (eU I q (by simp))
  | int j=>obtain ⟨t',rfl⟩:=ry;exact PySem.EqMixed.ne_str_int (eU I q (by simp))
  | str j=>obtain ⟨t',rfl⟩:=ry;exact ne_str (eU I q (congrArg not GP))
  | _=>exact absurd (show false=true from hs) cE
 | byt i =>
  obtain ⟨t,rfl⟩:=rx
  cases y with
  | byt j=>obtain ⟨t',rfl⟩:=ry;exact PySem.W.ne_bytes (eU I q (congrArg not GR))
  | _=>exact absurd (show false=true from hs) cE
 | _=>cases y<;>exact absurd (show false=true from hs) cE

theorem TY:nJ X (compareOp .Lt) (K2 λi j=>.bl (decide (i<j))):=PH λ_ _ _ _ _ _ _ q=>lt_int q
theorem Y6:nJ X (compareOp .LtE) (K2 λi j=>.bl (decide (i<=j))):=PH λ_ _ _ _ _ _ _ q=>le_int q
theorem F3:nJ X (compareOp .Gt) (K2 λi j=>.bl (decide (j<i))):=PH λ_ _ _ _ _ _ _ q=>gt_int q
theorem TZ:nJ X (compareOp .GtE) (K2 λi j=>.bl (decide (j<=i))):=PH λ_ _ _ _ _ _ _ q=>ge_int q
theorem HV:nJ X (compareOp .In) (λx y H Q=>∃ i j,x=.str i/\y=.str j/\Q (.bl (!(Builtin.Str.occurrences j i 0 j.length 1).isEmpty)) H):=by
 intro pins s σ H x y v u Q I rx ry h
 obtain ⟨i,j,rfl,rfl,q⟩:=h
 obtain ⟨t,rfl⟩:=rx
 obtain ⟨t',rfl⟩:=ry
 exact in_str (eU I q rfl)

theorem VV:nJ X (compareOp .Is) (λx y H Q=>y=.non/\Q (.bl (decide (x=.non))) H):=by
 intro pins s σ H x y v u Q I rx ry h
 obtain ⟨rfl,q⟩:=h
 cases ry
 refine is_none_gen (eU I q ?_)
 cases x<;>first
  | (cases rx;rfl)
  | (obtain ⟨t,rfl⟩:=rx;rfl)
theorem PD:nJ X (compareOp .IsNot) (λx y H Q=>y=.non/\Q (.bl (!decide (x=.non))) H):=by
 intro pins s σ H x y v u Q I rx ry h
 obtain ⟨rfl,q⟩:=h
 cases ry
 refine isnot_none_gen (eU I q ?_)
 cases x<;>first
  | (cases rx;rfl)
  | (obtain ⟨t,rfl⟩:=rx;rfl)

theorem nJ.or {f:Value->Value->Sem Value} {r r':R2} (h:nJ X f r) (h':nJ X f r'):nJ X f (λx y H Q=>r x y H Q\/r' x y H Q):=by
 intro pins s σ H x y v u Q I rx ry q
 rcases q with q | q
 ·exact h pins s σ H x y v u Q I rx ry q
 ·exact h' pins s σ H x y v u Q I rx ry q

theorem LO (b:Expr) {op:CmpOp} (h:op≠.In:=by decide) (h2:op≠.NotIn:=by decide):behindInMarks op b=false:=by
 have e1:(op == CmpOp.In)=false:=by cases op<;>first | rfl | exact absurd rfl h
 have e2:(op == CmpOp.NotIn)=false:=by cases op<;>first | rfl | exact absurd rfl h2
 cases b<;>simp [behindInMarks,e1,e2]
theorem PC {op:CmpOp} {r:R2} (ho:nJ X (compareOp op) r) (ha:PE X a ta) (hb:PE X b tb) (hm:behindInMarks op b=false):PE X (.Compare a [op] [b] pos) (X7 r ta tb):=by
 intro pins s σ H Q I h
 exact wpAny_Compare1 (XC ha hb I h λv u s2 x y H2 I2 rx ry q=>ho pins s2 σ H2 x y v u Q I2 rx ry q) hm
def X5 (t:TE):TT:=λσ H Q=>t σ H λx H'=>∃ k,x=.bl k/\Q k H'
theorem OZ {op:CmpOp} {r:R2} (ho:nJ X (compareOp op) r) (ha:PE X a ta) (hb:PE X b tb) (hm:behindInMarks op b=false):PT X (.Compare a [op] [b] pos) (X5 (X7 r ta tb)):=by
 intro pins s σ H Q I h
 refine wpAny_isTrue_Compare1 (lB (ha pins s σ H _ I h) λv s1 ⟨x,H1,I1,r1,q1⟩=>lB (hb pins s1 σ H1 _ I1 q1) λu s2 ⟨y,H2,I2,r2,q2⟩ =>
  lB (ho pins s2 σ H2 x y v u _ I2 r1 r2 q2) λc s3 ⟨z,H3,I3,r3,k,e,q3⟩=>?_) hm
 subst e
 cases r3
 exact wpAny_truthy_bool ⟨H3,I3,q3⟩
def XG (K:aE) (x:V) (H:Hp) (k:Bool):Prop :=
 match x with
 | .non=>k=false
 | .bl b=>k=b
 | .int i=>k=(i != 0)
 | .str y=>y.length<=bG/\k=((y.length:Int) != 0)
 | .byt y=>y.size<=bG/\k=((y.size:Int) != 0)
 | .ref p=>(∃ xs,lP K H p xs/\k=!xs.isEmpty)\/(∃ xs,qP K H p xs/\k=!xs.isEmpty)\/∃ kvs,H p=some (.dK kvs)/\k=!kvs.isEmpty
 | _=>False
theorem EH {κ:Type} {kvs:List (κ×V)} {vs:List (κ×Value)} (r:KV kvs vs):(!vs.isEmpty)=!kvs.isEmpty:=by
 cases r<;>rfl
theorem wP {xs:List V} {its:List Value} (r:eI xs its):(!its.toArray.isEmpty)=!xs.isEmpty:=by
 cases r<;>simp
theorem tR:(bG:Nat)<2 ^ 63:=by rw [sizeLine_eq];decide
theorem UT:aDw X (λx H Q=>∃ k,XG X.K x H k/\Q k H):=by
 intro pins s σ H x v Q I rx h
 obtain ⟨k,e,q⟩:=h
 have hl:=tR
 have hs:bG=16777216:=sizeLine_eq
 cases x with
 | non =>
  cases rx
  have e':k=false:=e
  subst e'
  exact truthy_none ⟨H,I,q⟩
 | bl b =>
  cases rx
  have e':k=b:=e
  subst e'
  exact wpAny_truthy_bool ⟨H,I,q⟩
 | int i =>
  obtain ⟨t,rfl⟩:=rx
  have e':k=(i != 0):=e
  subst e'
  exact PySem.P.truthy_int ⟨H,I,q⟩
 | str y =>
  obtain ⟨t,rfl⟩:=rx
  obtain ⟨hy,e'⟩:y.length<=bG/\k=((y.length:Int) != 0):=e
  subst e'
  exact PySem.P.truthy_str (by omega) ⟨H,I.tok _,q⟩
 | byt y =>
  obtain ⟨t,rfl⟩:=rx
  obtain ⟨hy,e'⟩:y.size<=bG/\k=((y.size:Int) != 0):=e
  subst e'
  exact PySem.W.truthy_bytes (by omega) ⟨H,I.tok _,q⟩
 | ref p =>
  cases rx
  have e':(∃ xs,lP X.K H p xs/\k=!xs.isEmpty)\/(∃ xs,qP X.K H p xs/\k=!xs.isEmpty)\/∃ kvs,H p=some (.dK kvs)/\k=!kvs.isEmpty:=e
  rcases e' with ⟨xs,hx,e'⟩ | ⟨xs,hx,e'⟩ | ⟨kvs,hx,e'⟩
  ·subst e'
   obtain ⟨its,r,pl,hz⟩:=I.list hx
   have hlen:=r.length
   exact wpAny_truthy_list pl.isList (by simp only [bB];omega) ⟨H,I.tok _,by rw [wP r];exact q⟩
  ·subst e'
   obtain ⟨its,r,pl,hz⟩:=I.tuple hx
   have hlen:=r.length
   exact truthy_tuple pl (by simp only [bB];omega) ⟨H,I.tok _,by rw [wP r];exact q⟩
  ·subst e'
   obtain ⟨hz,hS,vs,r,m⟩:kvs.length<=bG/\(p == sysModules)=false/\∃ vs,KV kvs vs/\s.heap.DictOf (mX X.prog X.w) p vs:=I.hok p _ hx
   have hlen:kvs.length=vs.length:=Paired.length r
   exact wpAny_truthy_dict hS m (by omega) ⟨H,I.tok _,by rw [EH r];exact q⟩
 | _=>exact (show False from e).elim
theorem K4 (ha:PE X a ta) (he:∀ whole,isTrue a X.env whole=(do let v <- whole;standAt a.pos;holding [v] (truthy v))) :
  PT X a (λσ H Q=>ta σ H λx H'=>∃ k,XG X.K x H' k/\Q k H'):=by
 intro pins s σ H Q I h
 exact isTrue_plain (lB (ha pins s σ H _ I h) λv s1 ⟨x,H1,I1,r1,q1⟩=>UT pins s1 σ H1 x v Q I1 r1 q1) (he _)

theorem D3:nJ X (binaryOp .Add) (λx y H Q=>∃ i j,x=.str i/\y=.str j/\i.length+j.length<=bG/\Q (.str (i++j)) H):=by
 intro pins s σ H x y v u Q I rx ry h
 obtain ⟨i,j,rfl,rfl,hz,q⟩:=h
 obtain ⟨t,rfl⟩:=rx
 obtain ⟨t',rfl⟩:=ry
 exact add_str (λt' tk=>⟨.str (i++j),H,I.tok _,⟨_,rfl⟩,q⟩) hz
theorem vP {x:V} {us:List Value} (r:eI [x] us):∃ u,us=[u]/\gO x u:=by
 cases r with
 | cons r1 r2=>cases r2;exact ⟨_,rfl,r1⟩
end

section
variable {prog:bY} {w:World} {A:Around} {E:Value->Shared->Prop} {s:Shared} {K:aE} {x dx C f:Addr} {mA:Str->Option Value} {name:Str} {v:Value}

end

section
variable {P:bY} {w:World} {H H':Hp} {h h':Heap} {a C dx:Addr} {fs fs':List (Str×V)}
end

structure Cls (K:aE) (C:Addr):Prop where
 pg:JJ K C Str.empty=true
 hd:PySem.W.hasDictIn K C=true
 po:PySem.W.plainOver K C=true
 sa:kY K (.ref C) "__setattr__"=some (some (.builtin "object.__setattr__"))
theorem Cls.get {K:aE} {C:Addr} (c:Cls K C) (f:Str):JJ K C f=true:=c.pg
def XN (K:aE) (C:Addr) (f:Str):Prop:=kY K (.ref C) f=some none
section
variable {X:Cx} {pins:List (Addr×Obj)} {σ:St} {H:Hp} {s:Shared} {a C dx:Addr} {fs:List (Str×V)} {f:Str} {v:V} {A:Around} {E:Value->Shared->Prop}

theorem dU.made (I:dU X pins σ H s):dU X pins σ (iM (iM H s.heap.objs.size (.own (s.heap.objs.size+1))) (s.heap.objs.size+1) (.ins C s.heap.objs.size []))
  { s with heap:=(s.heap.push gK).push (lW C s.heap.objs.size) }:=by
 have e1:(s.heap.push gK).get? s.heap.objs.size=some gK:=bW s.heap rfl
 have e2:((s.heap.push gK).push (lW C s.heap.objs.size)).get? (s.heap.objs.size+1)=some (lW C s.heap.objs.size):=by
  have:=bW (s.heap.push gK) (o:=lW C s.heap.objs.size) rfl
  rwa [iU] at this
 have e3:(s.heap.push gK).Ns s.heap.objs.size (λ_=>none):=⟨gK,#[],_,e1,rfl,(λe he=>absurd he (by simp)),λ_=>rfl⟩
 have I1:=I.laid (a:=s.heap.objs.size) (o:=.own (s.heap.objs.size+1)) (h':=s.heap.push gK) (t':=s.toks) (λb u q=>aP _ q) (aL _) ⟨_,e1⟩
 refine I1.laid (a:=s.heap.objs.size+1) (o:=.ins C s.heap.objs.size []) (t':=s.toks) (λb u q=>aP _ q) (lI (iU _ _)) ?_
 have ne:s.heap.objs.size≠s.heap.objs.size+1:=dR (lX _)
 refine ⟨by rw [cT ne,eM],cC _,ne,e2,λ_=>none,(Heap.Ns1.of_empty e3).at λo q=>aP _ q,λ_=>True.intro,λy hy=>absurd rfl hy⟩

end

section
variable {X:Cx} {o e value:Expr} {f:Str} {pos pos' tpos:Pos} {ta tv:TE}
end

section
variable {X:Cx} {pins:List (Addr×Obj)} {σ:St} {H:Hp} {s:Shared} {A:Around} {E:Value->Shared->Prop} {Q:Value->Shared->Prop} {c:Value} {b:Bool}
end
end L2

namespace L2
open PySem PySem.Spec PyProof.Rows

structure gG (k:Nat) (A:Around):Prop where
 hd:A.handled=none
 dp:A.depth+3*k+5<recursionLimit
 un:A.units+16*k+200<cLine
 gd:A.guards=some []
theorem gG.mono {j k:Nat} {A:Around} (r:gG k A) (h:j<=k):gG j A:=⟨r.hd,by have:=r.dp;omega,by have:=r.un;omega,r.gd⟩
theorem gG.deeper {k:Nat} {A:Around} (r:gG (k+1) A) (env:Env):gG k (A.deeper env) :=
 ⟨r.hd,by have:=r.dp;show A.depth+1+3*k+5<_;omega,by have:=r.un;show A.units+3+16*k+200<_;omega,r.gd⟩
theorem gG.in1 {k:Nat} {A:Around} (r:gG (k+1) A):gG k A.in1 :=
 ⟨r.hd,by have:=r.dp;show A.depth+3*k+5<_;omega,by have:=r.un;show A.units+1+16*k+200<_;omega,r.gd⟩
theorem EE {A:Around} {C:Addr} {us:List Value} {kw:List (Str×Value)}:(A.under (.builtin "type.__call__" ⟨.ref C::us,kw⟩)).depth=A.depth+1:=by
 first | rfl | simp [Around.under,Code.weight,Code.isCreation,Code.isGuard,Code.isCaller,Code.frames,Code.isFrame,guardIds]
theorem ED {A:Around} {C:Addr} {us:List Value} {kw:List (Str×Value)}:(A.under (.builtin "type.__call__" ⟨.ref C::us,kw⟩)).units=A.units+1:=by
 first | rfl | simp [Around.under,Code.cUnits,Code.frames,Code.isFrame]
theorem gG.make {k:Nat} {A:Around} (r:gG (k+1) A) (C:Addr) (us:List Value) (kw:List (Str×Value)):gG k (A.under (.builtin "type.__call__" ⟨.ref C::us,kw⟩)) :=
 ⟨r.hd,by have:=r.dp;rw [EE];omega,by have:=r.un;rw [ED];omega,by first | exact r.gd | (simp [Around.under,Code.isGuard,guardIds];exact r.gd)⟩
theorem gG.depth {k:Nat} {A:Around} (r:gG k A):A.depth<recursionLimit:=by have:=r.dp;omega
theorem gG.units {k:Nat} {A:Around} (r:gG k A):A.units+64<cLine:=by have:=r.un;omega
def aCh:TA:=λ_ H Q=>Q [] H
def YA (ta:TE) (tr:TA):TA:=λσ H Q=>ta σ H λx H1=>tr σ H1 λxs H2=>Q (x::xs) H2
section
variable {X:Cx} {e:Expr} {es:List Expr} {te:TE} {t:TA} {pos:Pos}
theorem wF:PA X [] aCh:=λ_ _ _ _ H Q I h=>Calls.spliced_nil ⟨[],H,I,.nil,h⟩
theorem oT (ha:PE X e te) (hr:PA X es t) (hs:bT (e::es) X.env=(false,eval e X.env)::bT es X.env:=by rfl):PA X (e::es) (YA te t):=by
 intro pos pins s σ H Q I h
 rw [hs]
 show wpAny _ _ (spliced ((false,eval e X.env)::backTo pos (bT es X.env))) _ _ s
 refine Calls.spliced_cons (lB (ha pins s σ H _ I h) λu s1 ⟨x,H1,I1,r1,q1⟩=>?_)
 exact lB (hr pos pins s1 σ H1 _ I1 q1) λus s2 ⟨xs,H2,I2,r2,q2⟩=>⟨x::xs,H2,I2,.cons r1 r2,q2⟩

def aCd (t:TA):TE:=λσ H Q=>t σ H λxs H1=>xs.length<=bG/\∀ p,H1 p=none->Q (.ref p) (iM H1 p (.tup xs))
def aCi (t:TA):TE:=λσ H Q=>t σ H λxs H1=>xs.length<=bG/\∀ p,H1 p=none->Q (.ref p) (iM H1 p (.lst xs))
theorem LA {x1} (h:PA X es t):PE X (.Tuple es x1 pos) (aCd t):=by
 intro pins s σ H Q I hq
 refine wpAny_Tuple_spliced (lB (h pos pins s σ H _ I hq) λus s1 ⟨xs,H1,I1,r,z,q⟩=>⟨by rw [<- r.length];exact z,?_⟩)
 have hf:H1 s1.heap.objs.size=none:=I1.hok.fresh (aL _)
 refine ⟨.ref s1.heap.objs.size,iM H1 s1.heap.objs.size (.tup xs),I1.laid (t':=s1.toks) (λb u e=>aP _ e) (aL _) ?_,rfl,q _ hf⟩
 exact ⟨z,us,r,⟨_,bW _ rfl,rfl,_,rfl,rfl⟩⟩
theorem LD (h:PA X es t):PE X (.List es pos) (aCi t):=by
 intro pins s σ H Q I hq
 refine wpAny_List_spliced (lB (h pos pins s σ H _ I hq) λus s1 ⟨xs,H1,I1,r,z,q⟩=>⟨by rw [<- r.length];exact z,?_⟩)
 have hf:H1 s1.heap.objs.size=none:=I1.hok.fresh (aL _)
 refine ⟨.ref s1.heap.objs.size,iM H1 s1.heap.objs.size (.lst xs),I1.laid (t':=s1.toks) (λb u e=>aP _ e) (aL _) ?_,rfl,q _ hf⟩
 exact ⟨z,us,0,r,bW _ rfl⟩
end

abbrev Sp:=List V->Hp->VK->XK->Prop
abbrev G3:=List Env->Hp->Shared->XK->Value->Shared->Prop

structure xY (P:bY) (w:World) (K:aE) (mg:Str->Option Value) (base:Heap) (A:Around) (outer:List Env) (s:Shared) (H:Hp):Prop where
 frames:A.frames=some outer
 mod:Mod K mg base
 bs:∀ b o,base.get? b=some o->s.heap.get? b=some o/\H b=none
 bsz:base.objs.size<=s.heap.objs.size
 funs:s.heap.FunFrames base outer
 frf:∀ b∈CT outer,H b=none
 hok:rC P w H s.heap
 bare:AllBare s.gens
 tab:Tb H
def CE (outer:List Env) (P:bY) (w:World) (H:Hp) (s:Shared) (Q:VK) (u:Value) (s':Shared):Prop :=
 ∃ v H',s'.os=s.os/\AllBare s'.gens/\Un (CT outer) [] H H' s.heap s'.heap/\rC P w H' s'.heap/\gO v u/\Q v H'
def CR (CX:G3) (outer:List Env) (P:bY) (w:World) (H:Hp) (s:Shared) (Q:VK) (E:XK) (r:Result) (s':Shared):Prop :=
 match r with
 | .ok (.ret u)=>CE outer P w H s Q u s'
 | .ok _=>False
 | .error e=>CX outer H s E e s'
structure bN (P:bY) (w:World) (K:aE) (mg:Str->Option Value) (base:Heap) (CX:G3) (k:Nat) (f:Addr) (fd:dF) (ps:List Str) (sp:Sp):Prop where
 len:∀ vs H Q E,sp vs H Q E->vs.length=ps.length
 run:∀ (A:Around) (outer:List Env) (s:Shared) (H:Hp) (args:Args) (us:List Value) (vs:List V) (Q:VK) (E:XK),gG k A->xY P w K mg base A outer s H->BindsTo s fd args (ps.zip us)->eI vs us->sp vs H Q E ->
  codeAny (model P w) A (.call (.ref f) args) (CR CX outer P w H s Q E) s
theorem bN.mono {P:bY} {w:World} {K:aE} {mg:Str->Option Value} {base:Heap} {CX:G3} {j k:Nat} {f:Addr} {fd:dF} {ps:List Str} {sp:Sp} (F:bN P w K mg base CX j f fd ps sp) (h:j<=k) :
  bN P w K mg base CX k f fd ps sp:=⟨F.len,λA outer s H args us vs Q E hr=>F.run A outer s H args us vs Q E (hr.mono h)⟩
theorem bN.imp {P:bY} {w:World} {K:aE} {mg:Str->Option Value} {base:Heap} {CX:G3} {k:Nat} {f:Addr} {fd:dF} {ps:List Str} {sp sp':Sp} (F:bN P w K mg base CX k f fd ps sp)
  (h:∀ vs H Q E,sp' vs H Q E->sp vs H Q E):bN P w K mg base CX k f fd ps sp' :=
 ⟨λvs H Q E q=>F.len vs H Q E (h _ _ _ _ q),λA outer s H args us vs Q E hr he hb hv hs=>F.run A outer s H args us vs Q E hr he hb hv (h _ _ _ _ hs)⟩

theorem xY.make {P:bY} {w:World} {K:aE} {mg:Str->Option Value} {base:Heap} {A:Around} {outer:List Env} {s:Shared} {H:Hp} (e:xY P w K mg base A outer s H) (C:Addr) (us:List Value) (kw:List (Str×Value)) :
  xY P w K mg base (A.under (.builtin "type.__call__" ⟨.ref C::us,kw⟩)) outer s H:=⟨by first | exact e.frames | (simpa [Around.under,Code.envs,Code.isFrame,pushEnvs] using e.frames),e.mod,e.bs,e.bsz,e.funs,e.frf,e.hok,e.bare,e.tab⟩
theorem xY.in1 {P:bY} {w:World} {K:aE} {mg:Str->Option Value} {base:Heap} {A:Around} {outer:List Env} {s:Shared} {H:Hp} (e:xY P w K mg base A outer s H) :
  xY P w K mg base A.in1 outer s H:=⟨e.frames,e.mod,e.bs,e.bsz,e.funs,e.frf,e.hok,e.bare,e.tab⟩

section
variable {X:Cx} {pins:List (Addr×Obj)} {σ:St} {H:Hp} {s s':Shared}
theorem dU.env0 (I:dU X pins σ H s):xY X.prog X.w X.K X.mg X.base X.A X.stack s H :=
 ⟨I.ok.frames,I.ok.mod,I.bs,bO I.ok.bsz I.sz,I.stack,I.stkFree,I.hok,I.bare,λP e=>let ⟨ps,h⟩:=I.ok.tab P e;let ⟨m,h'⟩:=I.base.tbls P ps h;⟨_,h'⟩⟩
theorem dU.after {Q:VK} {u:Value} (I:dU X pins σ H s) (h:CE X.stack X.prog X.w H s Q u s'):EP X pins σ Q u s':=by
 obtain ⟨v,H',os,bare,un,hok,r,q⟩:=h
 obtain ⟨hh,g,d,t,os'⟩:=s'
 obtain rfl:os'=s.os:=os
 exact ⟨v,H',I.call (h':=hh) (g':=g) (d':=d) (t':=t) (ch:=[]) un hok bare (λb z=>absurd z (by simp)),r,q⟩
end

def yL (sp:Sp) (dvs:List V) (E:XK) (t:TA):TE:=λσ H Q=>t σ H λvs H1=>sp (vs++dvs) H1 Q E
def pJ (K:aE) (fd:dF) (ps:List Str) (ds:List Value):Prop :=
 ∀ (s:Shared) (us:List Value),K.In s.heap->(us++ds).length=ps.length->BindsTo s fd ⟨us,[]⟩ (ps.zip (us++ds))
theorem pJ.all {K:aE} {fd:dF} {ps:List Str} (h:∀ us:List Value,us.length=ps.length->bindArgs fd ⟨us,[]⟩=pure (ps.zip us)):pJ K fd ps []:=λs us _ hl=>by
 rw [dY] at hl |-
 exact .of_eq (h us hl)

def EV (CX:G3) (X:Cx) (E:XK):Prop:=∀ (pins:List (Addr×Obj)) (σ:St) (H:Hp) (s:Shared) (e:Value) (s':Shared),dU X pins σ H s->CX X.stack H s E e s'->X.xe e s'

section
variable {X:Cx} {CX:G3} {k:Nat} {f C:Addr} {fd:dF} {ps:List Str} {sp:Sp} {dvs:List V} {ds:List Value} {E:XK} {x m:Str} {p pos apos:Pos} {e o:Expr} {es:List Expr} {ta:TE} {t:TA}

theorem VF {pins:List (Addr×Obj)} {σ:St} {H:Hp} {s:Shared} {Q:VK} {us:List Value} {vs:List V} (F:bN X.prog X.w X.K X.mg X.base CX k f fd ps sp) (hr:gG k X.A) (hb:pJ X.K fd ps ds) (hd:eI dvs ds) (hx:EV CX X E)
  (I:dU X pins σ H s) (r:eI vs us) (h:sp (vs++dvs) H Q E):wpAny (model X.prog X.w) X.A (call (.ref f) us) (EP X pins σ Q) X.xe s:=by
 have r2:eI (vs++dvs) (us++ds):=r.append hd
 have hl:(us++ds).length=ps.length:=by rw [<- r2.length];exact F.len _ _ _ _ h
 refine wpAny_call (codeAny_mono (F.run X.A X.stack s H ⟨us,[]⟩ (us++ds) (vs++dvs) Q E hr I.env0 (hb s us I.kIn hl) r2 h) λr s' hq=>?_)
 cases r with
 | error e=>exact hx pins σ H s e s' I hq
 | ok fl =>
  cases fl with
  | ret u=>exact I.after hq
  | next=>exact False.elim hq
  | brk=>exact False.elim hq
  | cont=>exact False.elim hq

theorem qM (F:bN X.prog X.w X.K X.mg X.base CX k f fd ps sp) (hr:gG k X.A) (hg:Gl X x) (hm:X.mg x=some (.ref f)) (hk:eX X.K (.ref f)=true) (hb:pJ X.K fd ps ds) (hd:eI dvs ds) (hx:EV CX X E)
  (ha:PA X (e::es) t) (hdb:(x == ("__debug__":Str))=false:=by decide) (he:bT (e::es) X.env=(false,eval e X.env)::bT es X.env:=by rfl) (hpl:(backTo pos (bT es X.env)).any (·.1)=false:=by rfl) :
  PE X (.Call (.Name x p) (e::es) [] pos) (yL sp dvs E t):=by
 intro pins s σ H Q I h
 refine wpAny_Call_Name_kw (GC I hg hm ?_ hdb)
 refine PySem.W.callWith_K (h₀:=X.base) I.ok.mod.kin hk (lB (ha pos pins s σ H _ I h) λus s1 ⟨vs,H1,I1,r,q⟩=>⟨I1.kIn,?_⟩) he hpl
 exact VF F hr hb hd hx I1 r q
end

section
variable {X:Cx} {CX:G3} {k:Nat} {f C:Addr} {fd:dF} {ps ks:List Str} {sp:Sp} {E:XK} {x m:Str} {p pos apos kpos:Pos} {e o:Expr} {es:List Expr} {kws:List Keyword} {te ta:TE} {t tk:TA} {nm:Option Str}
variable {g:List Value->List Value->List Value} {gV:List V->List V->List V}
end

structure cD (N P:List Str) (sc:Scope):Prop where
 kind:sc.kind=.function
 co:sc.isCoroutine=false
 gen:sc.isGenerator=false
 nd:N.Nodup
 pre:N.take P.length=P
 par:∀ x∈P,sc.names.lookup x=some .local\/sc.names.lookup x=some .cell
 nofree:∀ y∈sc.names,y.2≠.free

theorem zH {kindOf:Str->Option NameKind} {x:Str}:∀ {binds:List (Str×Value)} {m:Str->Option Value},(∀ v,(x,v)∉binds)->bindL kindOf binds m x=m x
 | [],_,_=>rfl
 | (n,v)::r,m,h=>by
  unfold bindL
  rw [zH λw hw=>h w (aK _ hw)]
  split
  ·have:x≠n:=by rintro rfl;exact h v aM
   simp [this]
  ·rfl
theorem zJ {kindOf:Str->Option NameKind} {x:Str}:∀ {binds:List (Str×Value)} {m:Str->Option Value},(∀ v,(x,v)∉binds)->bindC kindOf binds m x=m x
 | [],_,_=>rfl
 | (n,v)::r,m,h=>by
  unfold bindC
  rw [zJ λw hw=>h w (aK _ hw)]
  split
  ·rfl
  ·have:x≠n:=by rintro rfl;exact h v aM
   simp [this]
theorem zI {kindOf:Str->Option NameKind} {x:Str} {v:Value}:∀ {P:List Str} {vs:List Value} {i:Nat} {m:Str->Option Value},P.Nodup->P[i]?=some x->vs[i]?=some v->kindOf x=some .local ->
  bindL kindOf (P.zip vs) m x=some v
 | [],_,_,_,_,h,_,_=>by simp at h
 | _::_,[],_,_,_,_,h,_=>by simp at h
 | p::P,w::vs,0,m,nd,h1,h2,hk=>by
  simp at h1 h2;subst h1;subst h2
  show bindL kindOf ((p,w)::P.zip vs) m p=_
  unfold bindL
  rw [zH λv hv=>(kD.mp nd).1 (xK hv).1,if_pos hk]
  simp
 | p::P,w::vs,i+1,m,nd,h1,h2,hk=>by
  show bindL kindOf ((p,w)::P.zip vs) m x=_
  unfold bindL
  exact zI (i:=i) (kD.mp nd).2 (by simpa using h1) (by simpa using h2) hk
theorem zK {kindOf:Str->Option NameKind} {x:Str} {v:Value}:∀ {P:List Str} {vs:List Value} {i:Nat} {m:Str->Option Value},P.Nodup->P[i]?=some x->vs[i]?=some v->kindOf x≠some .local ->
  bindC kindOf (P.zip vs) m x=some v
 | [],_,_,_,_,h,_,_=>by simp at h
 | _::_,[],_,_,_,_,h,_=>by simp at h
 | p::P,w::vs,0,m,nd,h1,h2,hk=>by
  simp at h1 h2;subst h1;subst h2
  show bindC kindOf ((p,w)::P.zip vs) m p=_
  unfold bindC
  rw [zJ λv hv=>(kD.mp nd).1 (xK hv).1,if_neg hk]
  simp
 | p::P,w::vs,i+1,m,nd,h1,h2,hk=>by
  show bindC kindOf ((p,w)::P.zip vs) m x=_
  unfold bindC
  exact zK (i:=i) (kD.mp nd).2 (by simpa using h1) (by simpa using h2) hk

def start (N:List Str) (vs:List V):St:=vs.map some++jQ (N.length-vs.length) none

def wX (CX:G3) (P:bY) (w:World) (K:aE) (mg:Str->Option Value) (base:Heap) (N:List Str) (qual:Str) (scope:Scope) (f:Addr) (cd:Value) (A:Around) (outer:List Env) (s:Shared) (H:Hp) (E:XK):Cx where
 prog:=P
 w:=w
 K:=K
 mg:=mg
 base:=base
 A:=A.deeper (envOfC qual scope s.heap.objs.size f cd)
 N:=N
 s₀:=s
 H₀:=H
 env:=envOfC qual scope s.heap.objs.size f cd
 outer:=outer
 stack:=envOfC qual scope s.heap.objs.size f cd::outer
 ex:=[]
 calm:=true
 fn:=λ_=>true
 pn:=[]
 xe:=λe s'=>wpAny (model P w) (A.deeper (envOfC qual scope s.heap.objs.size f cd)) (leaving (envOfC qual scope s.heap.objs.size f cd) e) (λ_ s''=>CX outer H s E e s'') (λe' s''=>CX outer H s E e' s'') s'

theorem C2 {sc:Scope} {n:Nat} {x:Str} (h:sc.names.lookup x=some .cell):∃ c,(cellsFrom n sc.names []).lookup x=some c:=by
 have q:=A6 sc.names n [] (.inl h)
 exact Option.isSome_iff_exists.mp q

theorem IM {CX:G3} {P:bY} {w:World} {K:aE} {mg:Str->Option Value} {base:Heap} {N ps:List Str} {qual:Str} {scope:Scope} {f:Addr} {cd:Value} {A:Around} {outer:List Env} {s s1:Shared} {H:Hp} {E:XK} {us:List Value} {vs:List V}
  (S:cD N ps scope) (hd:A.handled=none) (e0:xY P w K mg base A outer s H) (hl:vs.length=ps.length) (r:eI vs us)
  (x:InCallC s s.heap.objs.size (bindL (envOfC qual scope s.heap.objs.size f cd).kindOf (ps.zip us) λ_=>none) (cellsFrom (s.heap.objs.size+1) scope.names []) (bindC (envOfC qual scope s.heap.objs.size f cd).kindOf (ps.zip us) λ_=>none) s1) :
  dU (wX CX P w K mg base N qual scope f cd A outer s H E) [] (start N vs) H s1:=by
 have hpl:ps.length<=N.length:=by have:=congrArg lA S.pre;rw [bF] at this;omega
 obtain ⟨h1,tk,rfl,hk⟩:=x.done
 have noA:∀ b:Addr,b∉(wX CX P w K mg base N qual scope f cd A outer s H E).ex:=λb z=>absurd (show b∈([]:List Addr) from z) (by simp)
 refine ⟨⟨e0.mod,S.kind,rfl,rfl,aL _,λy z c h1 h2=>?_,λy hy=>?_,λy c _ h=>?_,λ_=>hd,Around.frames_deeper e0.frames,.inr ⟨rfl,rfl⟩,λb z=>absurd z (noA b),e0.bs,e0.bsz,λb _ _=>noA b,λb z=>absurd z (noA b),e0.funs,e0.frf,e0.tab⟩,
  rfl,e0.bare,Un.kept hk,⟨_,x.toInCall.ns,λi y v h1 h2 h3=>?_⟩,λy c h=>⟨_,x.cell y c h⟩,e0.hok.fresh (aL _),λy c h=>?_,λp hp=>absurd (show p∈([]:List (Addr×Obj)) from hp) (by simp),e0.hok.kept hk,?_⟩
 ·exact name_of_addr x.apart (PySem.mem_of_lookup h1) (PySem.mem_of_lookup h2)
 ·have hy:scope.names.lookup y=some .cell\/scope.names.lookup y=some .free:=hy
  rcases hy with hy | hy
  ·exact C2 hy
  ·exact absurd rfl (S.nofree _ (PySem.mem_of_lookup hy))
 ·exact iJ (x.above y c (PySem.mem_of_lookup h))
 ·have hi:i<vs.length:=by
   unfold start at h2
   by_cases hi:i<vs.length
   ·exact hi
   ·rw [dJ (by simpa using hi)] at h2
    rw [iS] at h2
    split at h2<;>cases h2
  have ha:vs[i]?=some v:=by
   unfold start at h2
   rw [dD (by simpa using hi),aJ] at h2
   cases e:vs[i]? with
   | none=>rw [e] at h2;cases h2
   | some a=>rw [e] at h2;cases h2;rfl
  obtain ⟨u,hu,rv⟩:=r.get ha
  have hp:ps[i]?=some y:=by
   rw [<- S.pre,BE (by omega)];exact h1
  have ndP:ps.Nodup:=by rw [<- S.pre];exact S.nd.sublist (uO _ _)
  refine ⟨u,rv,?_⟩
  rcases S.par y (bJ hp) with k | k
  ·exact .inl ⟨k,zI ndP hp hu k⟩
  ·obtain ⟨c,e⟩:=C2 (n:=s.heap.objs.size+1) k
   refine .inr ⟨.inl k,c,e,?_⟩
   have q:=x.cell y c e
   rw [zK ndP hp hu (by show scope.names.lookup y≠_;rw [k];decide)] at q
   exact q
 ·exact e0.hok.fresh (iJ (x.above y c (PySem.mem_of_lookup h)))
 ·unfold start
  show _=N.length
  rw [bA,aC,List.length_replicate]
  omega

theorem T8 {CX:G3} {P:bY} {w:World} {K:aE} {mg:Str->Option Value} {base:Heap} {k:Nat} {f:Addr} {name qual:Str} {params:Arguments} {body:List Stmt} {scope:Scope} {dV kV doc pm cdv ct oc:Value} {an od:Option Addr}
  {osl:Array (Option Value)} {N ps:List Str} {sp:Sp} (lk:K.lookup f=some ⟨oc,od,.func (kX name qual params body scope dV kV doc pm an cdv ct),osl⟩) (hcd:mN K cdv qual=true) (S:cD N ps scope)
  (len:∀ vs H Q E,sp vs H Q E->vs.length=ps.length)
  (hbody:∀ (A:Around) (outer:List Env) (s:Shared) (H:Hp) (vs:List V) (Q:VK) (E:XK),gG k (A.deeper (envOfC qual scope s.heap.objs.size f cdv))->sp vs H Q E ->
   ∃ t,DB (wX CX P w K mg base N qual scope f cdv A outer s H E) body t/\t { nx:=λ_ H'=>Q .non H',rt:=Q } (start N vs) H) :
  bN P w K mg base CX (k+1) f (kX name qual params body scope dV kV doc pm an cdv ct) ps sp:=by
 refine ⟨len,λA outer s H args us vs Q E hr e0 hb r hsp=>?_⟩
 have hl:=len _ _ _ _ hsp
 have KX:K.In s.heap:=e0.mod.kin.keeps λb o e=>(e0.bs b o e).1
 have lim:s.heap.NoLimit:=e0.mod.nolimit.keeps λb o e=>(e0.bs b o e).1
 have hkind:∀ y∈ps.zip us,scope.names.lookup y.1=some .local\/(scope.names.lookup y.1=some .cell/\((cellsFrom (s.heap.objs.size+1) scope.names []).lookup y.1).isSome=true):=λ⟨n,v⟩ hy=>by
  rcases S.par n (xK hy).1 with q | q
  ·exact .inl q
  ·exact .inr ⟨q,A6 _ _ _ (.inl q)⟩
 refine codeAny_call_function hr.depth (KX _ _ lk) rfl S.co S.gen rfl (PySem.W.codeRec_of KX hcd) (hb _ _ _ _ ?_)
 refine wpAny_newFunctionEnv_cells S.kind hkind λenv he s1 x=>?_
 subst he
 refine ⟨lim.keeps x.toInCall.keep,codeAny_func ?_⟩
 obtain ⟨t,ht,hq⟩:=hbody A outer s H vs Q E (hr.deeper _) hsp
 have I:dU (wX CX P w K mg base N qual scope f cdv A outer s H E) [] (start N vs) H s1:=IM S hr.hd e0 hl r x
 refine fS (ht [] s1 (start N vs) H _ I hq) (λfl s' hs=>?_) λe s' hs=>hs
 have fin:∀ {σ':St} {H':Hp} {v:V} {u:Value},dU (wX CX P w K mg base N qual scope f cdv A outer s H E) [] σ' H' s'->gO v u->Q v H'->CE outer P w H s Q u s' :=
  λ{σ' H' v u} J rv q=>⟨v,H',J.os,J.bare,J.base,J.hok,rv,q⟩
 cases fl with
 | ret u =>
  obtain ⟨v,σ',H',J,rv,q⟩:=hs
  exact fin J rv q
 | next =>
  obtain ⟨σ',H',J,q⟩:=hs
  exact fin (v:=V.non) (u:=Value.none) J rfl q
 | brk =>
  obtain ⟨_,_,_,q⟩:=hs
  exact False.elim q
 | cont =>
  obtain ⟨_,_,_,q⟩:=hs
  exact False.elim q
section
variable {X:Cx} {x:Str} {p pos:Pos} {e:Expr} {es:List Expr} {t:TA} {id T:String} {r:List V->Hp->VK->Prop}

def tCB (r:List V->Hp->VK->Prop) (t:TA):TE:=λσ H Q=>t σ H λvs H1=>r vs H1 Q
theorem LG (hc:nF X (.builtin id) r) (hg:Gl X x) (hm:X.mg x=none) (hv:bootBuiltins x=some (.builtin id)) (ha:PA X (e::es) t) (hn:x≠"__name__":=by decide) (hdb:(x == ("__debug__":Str))=false:=by decide)
  (he:bT (e::es) X.env=(false,eval e X.env)::bT es X.env:=by rfl) (hpl:(backTo pos (bT es X.env)).any (·.1)=false:=by rfl):PE X (.Call (.Name x p) (e::es) [] pos) (tCB r t):=by
 intro pins s σ H Q I h
 refine wpAny_Call_Name_kw (wL I hg hm hv ?_ hn hdb)
 exact PyProof.Rows.callWith_builtin1 (lB (ha pos pins s σ H _ I h) λus s1 ⟨vs,H1,I1,r1,q1⟩=>hc pins s1 σ H1 vs us Q I1 r1 q1) he hpl
theorem HR (hc:nF X (.type T) r) (hg:Gl X x) (hm:X.mg x=none) (hv:bootBuiltins x=some (.type T)) (ha:PA X (e::es) t) (hn:x≠"__name__":=by decide) (hdb:(x == ("__debug__":Str))=false:=by decide)
  (he:bT (e::es) X.env=(false,eval e X.env)::bT es X.env:=by rfl) (hpl:(backTo pos (bT es X.env)).any (·.1)=false:=by rfl):PE X (.Call (.Name x p) (e::es) [] pos) (tCB r t):=by
 intro pins s σ H Q I h
 refine wpAny_Call_Name_kw (wL I hg hm hv ?_ hn hdb)
 exact PyProof.Rows.callWith_type1 (lB (ha pos pins s σ H _ I h) λus s1 ⟨vs,H1,I1,r1,q1⟩=>hc pins s1 σ H1 vs us Q I1 r1 q1) he hpl
end
end L2

namespace HT
open PySem PyProof.Rows

section
open PySem.SeqAt
open PySem.AutoSeq1 (wpAny_loadPart')
open PySem.MeetsSeq PySem.MeetsSeq2 PySem.MeetsSeq3

end

section
variable {prog:bY} {w:World} {A:Around} {E:Value->Shared->Prop} {s:Shared}

theorem cat_tup {t b:Addr} {vs ws:List Value} {Q:Value->Shared->Prop} (ht:IsTup s.heap t vs.toArray) (hb:IsTup s.heap b ws.toArray) (hv:vs≠[])
  (h1:ws=[]->Q (.ref t) s) (h2:ws≠[]->Q (.ref s.heap.objs.size) { s with heap:=s.heap.push { cls:=.type "tuple",data:=.seq (vs++ws).toArray } })
  (hsz:vs.length+ws.length<=bG):wpAny (model prog w) A (binaryOp .Add (.ref t) (.ref b)) Q E s:=by
 obtain ⟨⟨cls,dd,data,sl⟩,ho,hc,n,hd⟩:=id ht
 obtain ⟨⟨cls2,dd2,data2,sl2⟩,ho2,hc2,n2,hd2⟩:=id hb
 simp only at hc hd hc2 hd2
 subst hc hd hc2 hd2
 have e:vs.toArray++ws.toArray=(vs++ws).toArray:=by simp
 by_cases hw:ws=[]
 ·exact concat_meets ⟨_,ho,rfl⟩ ⟨_,ho2,rfl⟩ noFill_tuple_add seq_tuple_add pE oH (nK _ _)
   (tuple_addW1 t b vs.toArray ws.toArray n n2 dd dd2 sl sl2 (by simpa using hv) (by simp [hw])) ⟨ho,ho2,h1 hw⟩
 ·refine concat_meets ⟨_,ho,rfl⟩ ⟨_,ho2,rfl⟩ noFill_tuple_add seq_tuple_add pE oH (nK _ _)
   (tuple_addW2 t b vs.toArray ws.toArray n n2 dd dd2 sl sl2 (by simpa using hv) (by simpa using hw) (by rw [bB,bB];exact hsz)) ⟨ho,ho2,?_⟩
  rw [e]
  exact h2 hw

def sIx (n d:Nat):Option Int->Nat
 | none=>d
 | some v=>if v<0 then (v+(n:Int)).toNat else min v.toNat n
theorem sIx_none (n d:Nat):sIx n d none=d:=rfl
theorem sIx_nat (n d k:Nat):sIx n d (some (k:Int))=min k n:=by
 show (if (k:Int)<0 then ((k:Int)+(n:Int)).toNat else min (k:Int).toNat n)=min k n
 rw [if_neg (by omega),NW]
theorem sIx_le (n d:Nat) (hd:d<=n) (o:Option Int):sIx n d o<=n:=by
 cases o with
 | none=>exact hd
 | some v =>
  show (if v<0 then (v+(n:Int)).toNat else min v.toNat n)<=n
  by_cases hv:v<0
  ·rw [if_pos hv];omega
  ·rw [if_neg hv];exact Nat.min_le_right _ _
theorem clip_eq (v:Int) (n d:Nat):(if v<0 then max (v+(n:Int)) 0 else min v (n:Int))=((sIx n d (some v):Nat):Int):=by
 show (if v<0 then max (v+(n:Int)) 0 else min v (n:Int))=(((if v<0 then (v+(n:Int)).toNat else min v.toNat n):Nat):Int)
 by_cases hv:v<0
 ·simp only [if_pos hv];omega
 ·simp only [if_neg hv];omega
theorem ES (lo hi:Option Int) (n:Nat):Builtin.Slice.sliceAdjust lo hi 1 (n:Int)=(((sIx n 0 lo:Nat):Int),((sIx n n hi:Nat):Int)):=by
 have h1:¬ ((1:Int)<0):=by omega
 unfold Builtin.Slice.sliceAdjust
 simp only [h1,if_false]
 refine Prod.ext ?_ ?_
 ·cases lo with
  | none=>rfl
  | some v=>exact clip_eq v n 0
 ·cases hi with
  | none=>rfl
  | some v=>exact clip_eq v n n
theorem DZ (i j:Nat):Builtin.Slice.slicePlaces (i:Int) (j:Int) 1=j-i:=by
 unfold Builtin.Slice.slicePlaces
 have h1:(1:Int) > 0:=by omega
 simp only [h1,if_true,Int.ediv_one]
 split<;>omega
theorem vY {v:Value} {o:Option Int} {Q:Option Int->Shared->Prop} (p:IsPart v o) (h:Q o s):wpAny (model prog w) A (Builtin.Slice.slicePartIndex v) Q E s:=by
 cases p with
 | none=>exact slicePart_none h
 | int i t=>exact slicePart_int h
theorem nU {sl:Addr} {vl vu:Value} {lo hi:Option Int} {n:Nat} {Q:Int×Int×Nat->Shared->Prop} (hs:s.heap.IsSliceOf sl vl vu .none) (pl:IsPart vl lo) (pu:IsPart vu hi)
  (h:Q (((sIx n 0 lo:Nat):Int),1,sIx n n hi-sIx n 0 lo) s):wpAny (model prog w) A (Builtin.Slice.sliceApplied (.ref sl) (pure (n:Int))) Q E s:=by
 obtain ⟨os,hos,hcs,hds⟩:=id hs
 unfold Builtin.Slice.sliceApplied Builtin.Slice.sliceFields
 refine aV (aV (wpAny_field hos hds (x:=vl) rfl (aV (wpAny_field hos hds (x:=vu) rfl (aV (wpAny_field hos hds (x:=.none) rfl (bM ?_)))))))
 refine aV (slicePart_none ?_)
 show wpAny _ _ (if ((1:Int) == 0)=true then _ else _) _ _ s
 rw [if_neg (by decide)]
 refine aV (vY pl (aV (vY pu (aV (bM ?_)))))
 show wpAny _ _ (match Builtin.Slice.sliceAdjust lo hi 1 (n:Int) with | (lo,hi)=>pure (lo,(1:Int),Builtin.Slice.slicePlaces lo hi 1)) _ _ s
 rw [ES lo hi n]
 show wpAny _ _ (pure (((sIx n 0 lo:Nat):Int),(1:Int),Builtin.Slice.slicePlaces ((sIx n 0 lo:Nat):Int) ((sIx n n hi:Nat):Int) 1)) _ _ s
 rw [DZ]
 exact bM h
theorem K8 (xs:Array Value) (i k:Nat):((bX k).filterMap λ(m:Nat)=>xs[((i:Int)+(m:Int)*1).toNat]?).toArray=((xs.toList.drop i).take k).toArray:=by
 have e:(λ(m:Nat)=>xs[((i:Int)+(m:Int)*1).toNat]?)=λm=>xs[i+m]?:=by
  funext m
  have:((i:Int)+(m:Int)*1).toNat=i+m:=by omega
  rw [this]
 rw [e]
 have:=pick_run xs i k
 rw [J4] at this
 have e2:((λx=>xs[x]?) ∘ λx=>i+x)=λm=>xs[i+m]?:=rfl
 rw [e2] at this
 rw [this]

theorem getItem_tuple_cut {t sl:Addr} {items:Array Value} {vl vu:Value} {lo hi:Option Int} {Q:Value->Shared->Prop} (ht:IsTup s.heap t items) (hs:s.heap.IsSliceOf sl vl vu .none) (pl:IsPart vl lo) (pu:IsPart vu hi)
  (hw:¬ (sIx items.size 0 lo=0/\sIx items.size items.size hi=items.size))
  (h:Q (.ref s.heap.objs.size) { s with heap:=s.heap.push { cls:=.type "tuple",data:=.seq ((items.toList.drop (sIx items.size 0 lo)).take (sIx items.size items.size hi-sIx items.size 0 lo)).toArray } })
  (hsz:items.size<=bG):wpAny (model prog w) A (getItem (.ref t) (.ref sl)) Q E s:=by
 have htake:sizeOk (.seq ((items.toList.drop (sIx items.size 0 lo)).take (sIx items.size items.size hi-sIx items.size 0 lo)).toArray):=by
  show ((items.toList.drop (sIx items.size 0 lo)).take (sIx items.size items.size hi-sIx items.size 0 lo)).toArray.size<=bG
  rw [bB,bF,cO,eO]
  omega
 have hj:sIx items.size items.size hi<=items.size:=sIx_le _ _ (aL _) hi
 obtain ⟨os,hos,hcs,hds⟩:=id hs
 have hTs:s.TypeIs (.ref sl) "slice":=⟨os,hos,hcs⟩
 unfold getItem
 try with_reducible refine wpAny_holding ?_
 first | refine aV (bM ?_) | skip
 refine aV (wpAny_sequenceKey ht.typeIs (by decide) ?_)
 refine aV (wpAny_callSpecial?_slot (name:=Str.ofString "__getitem__") ht.typeIs PyProof.Rows.slot_tuple_getitem
  (aBh PyProof.Rows.slot_tuple_getitem ht.typeIs entry_tuple_getitem ?_ (args_tuple_getitem _ _)))
 show wpAny _ _ (Builtin.Tuple.tupleItemsOf (.ref t) >>= _) _ _ s
 refine aV (tupleItemsOf_ ht ?_)
 refine aV (wpAny_typeOf hTs ?_)
 rw [if_pos (by decide)]
 refine aV (nU hs pl pu ?_)
 have hno:¬ ((((sIx items.size 0 lo:Nat):Int) == 0 && (1:Int) == 1 && (sIx items.size items.size hi-sIx items.size 0 lo) == items.size)=true):=by
  intro q
  rw [dB,dB] at q
  have q1:((sIx items.size 0 lo:Nat):Int)=0:=eq_of_beq q.1.1
  have q2:sIx items.size items.size hi-sIx items.size 0 lo=items.size:=eq_of_beq q.2
  exact hw ⟨by omega,by omega⟩
 show wpAny _ _ (if (((sIx items.size 0 lo:Nat):Int) == 0 && (1:Int) == 1 && (sIx items.size items.size hi-sIx items.size 0 lo) == items.size)=true then _ else _) _ _ s
 rw [if_neg hno,K8]
 first
  | exact aV (m:=Builtin.Tuple.tupleExact _) (lV (bM ⟨_,rfl,bM h⟩) htake)
  | exact aV (m:=Builtin.Tuple.tupleExact _) (lV (aV (bM (bM ⟨_,rfl,bM h⟩))) htake)
  | exact aV (aV (m:=Builtin.Tuple.tupleExact _) (lV (bM (bM ⟨_,rfl,bM h⟩)) htake))
  | exact aV (aV (m:=Builtin.Tuple.tupleExact _) (lV (bM ⟨_,rfl,bM h⟩) htake))
end
end HT

namespace L2
open PySem PySem.Spec PyProof.Rows

abbrev TO:=St->Hp->(Option Int->Hp->Prop)->Prop
def PO (X:Cx) (e:Option Expr) (t:TO):Prop :=
 ∀ (pins:List (Addr×Obj)) (s:Shared) (σ:St) (H:Hp) (Q:Option Int->Hp->Prop),dU X pins σ H s->t σ H Q ->
  wpAny (model X.prog X.w) X.A (evalPart e X.env) (λu s'=>∃ o H',dU X pins σ H' s'/\IsPart u o/\Q o H') X.xe s
def N4:TO:=λ_ H Q=>Q none H
def X6 (t:TE):TO:=λσ H Q=>t σ H λx H1=>∃ i,x=.int i/\Q (some i) H1

section
variable {X:Cx} {e:Expr} {te:TE} {lo hi:Option Expr} {tl th:TO} {pos p2:Pos}

theorem O4:PO X none N4:=by
 intro pins s σ H Q I h
 rw [evalPart_none]
 exact bM ⟨none,H,I,.none,h⟩
theorem O3 (h:PE X e te):PO X (some e) (X6 te):=by
 intro pins s σ H Q I hw
 rw [evalPart_some]
 refine lB (h pins s σ H _ I hw) λu s1 ⟨x,H1,I1,r1,q1⟩=>?_
 obtain ⟨i,rfl,q⟩:=q1
 obtain ⟨t,rfl⟩:=r1
 exact ⟨some i,H1,I1,.int i t,q⟩

def NC (X:Cx) (r:V->Option Int->Option Int->Hp->VK->Prop):Prop :=
 ∀ (pins:List (Addr×Obj)) (s:Shared) (σ:St) (H:Hp) (x:V) (v vl vu:Value) (lo hi:Option Int) (sl:Addr) (Q:VK),dU X pins σ H s->gO x v->s.heap.IsSliceOf sl vl vu .none->IsPart vl lo->IsPart vu hi->r x lo hi H Q ->
  ∃ T id,typeLookup (.type T) "__getitem__"=pure (some (.builtin id))/\s.TypeIs v T/\wpAny (model X.prog X.w) X.A (getItem v (.ref sl)) (EP X pins σ Q) X.xe s
theorem NC.or {r r':V->Option Int->Option Int->Hp->VK->Prop} (h:NC X r) (h':NC X r'):NC X (λx lo hi H Q=>r x lo hi H Q\/r' x lo hi H Q):=by
 intro pins s σ H x v vl vu lo hi sl Q I rx hs pl pu q
 rcases q with q | q
 ·exact h pins s σ H x v vl vu lo hi sl Q I rx hs pl pu q
 ·exact h' pins s σ H x v vl vu lo hi sl Q I rx hs pl pu q
def tSl (r:V->Option Int->Option Int->Hp->VK->Prop) (te:TE) (tl th:TO):TE:=λσ H Q=>te σ H λx H1=>tl σ H1 λl H2=>th σ H2 λu H3=>r x l u H3 Q
theorem LC {r:V->Option Int->Option Int->Hp->VK->Prop} (hr:NC X r) (he:PE X e te) (hl:PO X lo tl) (hu:PO X hi th):PE X (.Subscript e (.Slice lo hi none p2) pos) (tSl r te tl th):=by
 intro pins s σ H Q I h
 refine Subscript_ (lB (he pins s σ H _ I h) λv s1 ⟨x,H1,I1,r1,q1⟩=>?_)
 refine wpAny_Slice (lB (hl pins s1 σ H1 _ I1 q1) λvl s2 ⟨l,H2,I2,pl,q2⟩=>lB (hu pins s2 σ H2 _ I2 q2) λvu s3 ⟨u,H3,I3,pu,q3⟩=>?_)
 rw [evalPart_none]
 refine bM ?_
 have I4:dU X pins σ H3 { s3 with heap:=s3.heap.push { cls:=.type "slice",data:=.fields #[vl,vu,.none] } }:=I3.kept (t':=s3.toks) λb ob q=>aP _ q
 obtain ⟨T,id,hT,ht,hg⟩:=hr pins { s3 with heap:=s3.heap.push { cls:=.type "slice",data:=.fields #[vl,vu,.none] } } σ H3 x v vl vu l u s3.heap.objs.size Q I4 r1 (Heap.IsSliceOf.new ..) pl pu q3
 show wpAny (model X.prog X.w) X.A (subscriptTail e (.Slice lo hi none p2) v (.ref s3.heap.objs.size)) (EP X pins σ Q) X.xe { s3 with heap:=s3.heap.push { cls:=.type "slice",data:=.fields #[vl,vu,.none] } }
 exact tail_any (ops:=[.ref s3.heap.objs.size,v]) ht hT hg (by with_unfolding_all rfl)

def AZ (xs:List V) (lo hi:Option Int):List V:=(xs.drop (HT.sIx xs.length 0 lo)).take (HT.sIx xs.length xs.length hi-HT.sIx xs.length 0 lo)
theorem uM (xs:List V) (lo hi:Option Int):(AZ xs lo hi).length<=xs.length:=by
 unfold AZ
 rw [bF,cO]
 omega
def aCo (K:aE):V->Option Int->Option Int->Hp->VK->Prop:=λx lo hi H Q=>∃ a xs,x=.ref a/\qP K H a xs /\
 ¬ (HT.sIx xs.length 0 lo=0/\HT.sIx xs.length xs.length hi=xs.length)/\∀ p,H p=none->Q (.ref p) (iM H p (.tup (AZ xs lo hi)))
theorem VB:NC X (aCo X.K):=by
 intro pins s σ H x v vl vu lo hi sl Q I rx hs pl pu h
 obtain ⟨a,xs,rfl,hx,hw,q⟩:=h
 cases rx
 obtain ⟨its,r,ht,hz⟩:=I.tuple hx
 have hlen:its.toArray.size=xs.length:=by rw [bB];exact r.length.symm
 refine ⟨"tuple",_,PyProof.Rows.slot_tuple_getitem.lookup,ht.typeIs,?_⟩
 refine HT.getItem_tuple_cut ht hs pl pu (by rw [hlen];exact hw) ?_ (by rw [hlen];exact hz)
 rw [hlen]
 refine ⟨.ref s.heap.objs.size,_,I.laid (t':=s.toks) (o:=.tup (AZ xs lo hi)) (λb ob q=>aP _ q) (aL _) ?_,rfl,q _ (I.hok.fresh (aL _))⟩
 exact ⟨bO (uM xs lo hi) hz,_,(r.drop (HT.sIx xs.length 0 lo)).take (HT.sIx xs.length xs.length hi-HT.sIx xs.length 0 lo),xU.new _ _⟩

def YY (K:aE):R2:=λx y H Q=>∃ a b xs ys,x=.ref a/\y=.ref b/\qP K H a xs/\qP K H b ys/\xs≠[]/\xs.length+ys.length<=bG /\
 (ys=[]->Q (.ref a) H)/\(ys≠[]->∀ p,H p=none->Q (.ref p) (iM H p (.tup (xs++ys))))
theorem eI.nil_iff {xs:List V} {us:List Value} (r:eI xs us):us=[]↔xs=[]:=by
 cases r with
 | nil=>simp
 | cons _ _=>simp
theorem PF:nJ X (binaryOp .Add) (YY X.K):=by
 intro pins s σ H x y v u Q I rx ry h
 obtain ⟨a,b,xs,ys,rfl,rfl,ha,hb,hx,hz,q1,q2⟩:=h
 cases rx
 cases ry
 obtain ⟨its,r1,p1,_⟩:=I.tuple ha
 obtain ⟨its2,r2,p2,_⟩:=I.tuple hb
 refine HT.cat_tup p1 p2 (λz=>hx (r1.nil_iff.mp z)) (λz=>⟨.ref a,H,I,rfl,q1 (r2.nil_iff.mp z)⟩) (λz=>?_) (by rw [<- r1.length,<- r2.length];exact hz)
 refine ⟨.ref s.heap.objs.size,_,I.laid (t':=s.toks) (o:=.tup (xs++ys)) (λb ob q=>aP _ q) (aL _) ?_,rfl,q2 (λw=>z (r2.nil_iff.mpr w)) _ (I.hok.fresh (aL _))⟩
 exact ⟨by rw [bA];exact hz,_,r1.append r2,xU.new _ _⟩
end

def WH (n:Nat) (i:Int):Option Nat:=if 0<=i then (if i<n then some i.toNat else none) else if -(n:Int)<=i then some (i+n).toNat else none
def atI {α:Type} (xs:List α) (i:Int):Option α:=(WH xs.length i).bind λj=>xs[j]?
theorem P3 {n:Nat} {i:Int} {j:Nat} (h:WH n i=some j):seqIndex? i n=some j/\j<n/\-(n:Int)<=i/\i<n:=by
 unfold WH at h
 by_cases h0:0<=i
 ·rw [if_pos h0] at h
  by_cases h1:i<n
  ·rw [if_pos h1] at h
   have e:i.toNat=j:=Option.some.inj h
   exact ⟨by rw [seqIndex_of h0 h1,e],by omega,by omega,h1⟩
  ·rw [if_neg h1] at h;cases h
 ·rw [if_neg h0] at h
  by_cases h1:-(n:Int)<=i
  ·rw [if_pos h1] at h
   have e:(i+n).toNat=j:=Option.some.inj h
   exact ⟨by rw [seqIndex_neg (by omega) h1,e],by omega,h1,by omega⟩
  ·rw [if_neg h1] at h;cases h
theorem A3 {α:Type} {xs:List α} {i:Int} {v:α} (h:atI xs i=some v):∃ j,seqIndex? i xs.length=some j/\xs[j]?=some v/\j<xs.length/\-(xs.length:Int)<=i/\i<xs.length:=by
 unfold atI at h
 cases e:WH xs.length i with
 | none=>rw [e] at h;cases h
 | some j =>
  rw [e] at h
  obtain ⟨h1,h2,h3,h4⟩:=P3 e
  exact ⟨j,h1,h,h2,h3,h4⟩
theorem eK {α:Type} {xs:List α} {j:Nat} {v:α} (h:xs[j]?=some v):atI xs (j:Int)=some v:=by
 have hj:j<xs.length:=(aD.mp h).1
 have e:WH xs.length (j:Int)=some j:=by
  unfold WH
  rw [if_pos (by omega),if_pos (by omega)];simp
 unfold atI;rw [e];exact h
def G1 (b:Expr):Prop:=∀ o i,subscripted b false o i=operate [o,i] (getItem o i)
def NO (X:Cx) (r:R2):Prop :=
 ∀ (value slice:Expr) (pins:List (Addr×Obj)) (s:Shared) (σ:St) (H:Hp) (x y:V) (v u:Value) (Q:VK),dU X pins σ H s->gO x v->gO y u->r x y H Q ->
  subscripted slice false v u=operate [v,u] (getItem v u)->wpAny (model X.prog X.w) X.A (subscriptTail value slice v u) (EP X pins σ Q) X.xe s
def JY (X:Cx) (id:String) (r:V->List V->Hp->VK->Prop):Prop :=
 ∀ (pins:List (Addr×Obj)) (s:Shared) (σ:St) (H:Hp) (x:V) (xs:List V) (v:Value) (us:List Value) (Q:VK),dU X pins σ H s->gO x v->eI xs us->r x xs H Q ->
  wpAny (model X.prog X.w) X.A (call (.builtin id) (v::us)) (EP X pins σ Q) X.xe s
section
variable {X:Cx} {a b:Expr} {ta tb:TE} {pos:Pos}
theorem NO.or {r r':R2} (h:NO X r) (h':NO X r'):NO X (λx y H Q=>r x y H Q\/r' x y H Q):=by
 intro value slice pins s σ H x y v u Q I rx ry q hs
 rcases q with q | q
 ·exact h value slice pins s σ H x y v u Q I rx ry q hs
 ·exact h' value slice pins s σ H x y v u Q I rx ry q hs
theorem JY.or {id:String} {r r':V->List V->Hp->VK->Prop} (h:JY X id r) (h':JY X id r'):JY X id (λx xs H Q=>r x xs H Q\/r' x xs H Q):=by
 intro pins s σ H x xs v us Q I rx rs q
 rcases q with q | q
 ·exact h pins s σ H x xs v us Q I rx rs q
 ·exact h' pins s σ H x xs v us Q I rx rs q
theorem B4 {r:R2} (hr:NO X r) (ha:PE X a ta) (hb:PE X b tb) (hs:G1 b):PE X (.Subscript a b pos) (X7 r ta tb):=by
 intro pins s σ H Q I h
 exact Subscript_ (XC ha hb I h λv u s2 x y H2 I2 rx ry q=>hr a b pins s2 σ H2 x y v u Q I2 rx ry q (hs _ _))

def YX (K:aE):R2:=λx y H Q=>∃ p xs i v,x=.ref p/\y=.int i/\lP K H p xs/\atI xs i=some v/\Q v H
def YV (K:aE):R2:=λx y H Q=>∃ p xs i v,x=.ref p/\y=.int i/\qP K H p xs/\atI xs i=some v/\Q v H
def YW:R2:=λx y H Q=>∃ z i c,x=.str z/\y=.int i/\z.length<=bG/\atI z.cps.toList i=some c/\Q (.str ⟨#[c]⟩) H
theorem P2:NO X (YX X.K):=by
 intro value slice pins s σ H x y v u Q I rx ry h hs
 obtain ⟨p,xs,i,z,rfl,rfl,hq,he,q⟩:=h
 cases rx
 obtain ⟨t,rfl⟩:=ry
 obtain ⟨its,r,pl,hz⟩:=I.list hq
 obtain ⟨j,h1,h2,h3,h4,h5⟩:=A3 he
 obtain ⟨w,ew,rw'⟩:=r.get h2
 have hl:=r.length
 have hn:=tR
 have fin:EP X pins σ Q w s:=⟨z,H,I,rw',q⟩
 by_cases h0:0<=i
 ·have hj:i.toNat=j:=by
   rw [seqIndex_of h0 h5] at h1
   exact Option.some.inj h1
  exact item_listR pl.isList h0 (by omega) (by rw [hj];simpa using ew) fin hs
 ·have hj:(i+(its.toArray.size:Int)).toNat=j:=by
   rw [seqIndex_neg (by omega) h4] at h1
   rw [bB,<- hl]
   exact Option.some.inj h1
  exact subscriptTail_builtinR (x:=w) pl.isList.typeIs slot_list_getitem.lookup
   (wpAny_getItem_list_neg (Q:=λr s'=>r=w/\EP X pins σ Q r s') pl.isList (by omega) (by rw [bB]<;>omega) (by omega) (by rw [hj];simpa using ew) ⟨rfl,fin⟩) hs
theorem WF:NO X (YV X.K):=by
 intro value slice pins s σ H x y v u Q I rx ry h hs
 obtain ⟨p,xs,i,z,rfl,rfl,hq,he,q⟩:=h
 cases rx
 obtain ⟨t,rfl⟩:=ry
 obtain ⟨its,r,pl,hz⟩:=I.tuple hq
 obtain ⟨j,h1,h2,h3,h4,h5⟩:=A3 he
 obtain ⟨w,ew,rw'⟩:=r.get h2
 have hl:=r.length
 have hn:=tR
 have fin:EP X pins σ Q w s:=⟨z,H,I,rw',q⟩
 exact subscriptTail_builtinR (x:=w) pl.typeIs slot_tuple_getitem.lookup
  (getItem_tuple (j:=j) (Q:=λr s'=>r=w/\EP X pins σ Q r s') pl (by omega) (by omega) (by rw [bB,<- hl];exact h1) (by simpa using ew) ⟨rfl,fin⟩) hs
theorem WG:NO X YW:=by
 intro value slice pins s σ H x y v u Q I rx ry h hs
 obtain ⟨z,i,c,rfl,rfl,hz,he,q⟩:=h
 obtain ⟨t,rfl⟩:=rx
 obtain ⟨t',rfl⟩:=ry
 obtain ⟨j,h1,h2,h3,h4,h5⟩:=A3 he
 have hl:z.cps.toList.length=z.length:=by simp [Str.length]
 rw [hl] at h1 h4 h5
 have hn:=tR
 exact tail_any (typeIs_str s z t) slot_str_getitem.lookup (getItem_str (c:=c) (by
  have e1:decide (i < -(2 ^ 63:Int))=false:=decide_eq_false (by omega)
  have e2:decide (i >= 2 ^ 63)=false:=decide_eq_false (by omega)
  rw [e1,e2,XW]) (by rw [h1];simpa using h2) ⟨.str ⟨#[c]⟩,H,I.tok _,⟨_,rfl⟩,q⟩) hs
def rIx (K:aE):R2:=λx y H Q=>YX K x y H Q\/YV K x y H Q\/YW x y H Q
theorem aQ:NO X (rIx X.K):=P2.or (WF.or WG)

theorem dU.lst {pins:List (Addr×Obj)} {σ:St} {H:Hp} {s:Shared} {p:Addr} {xs:List V} (I:dU X pins σ H s) (h:H p=some (.lst xs)) :
  ∃ (its:List Value) (n:Nat),eI xs its/\s.heap.get? p=some { cls:=.type "list",data:=.seq its.toArray n }/\xs.length<=bG:=by
 obtain ⟨z,its,n,r,e⟩:=I.hok p _ h
 exact ⟨its,n,r,e,z⟩
theorem zV (lo hi:Option Int) (n:Nat):(sliceBounds lo hi none n).1=((HT.sIx n 0 lo:Nat):Int)/\(sliceBounds lo hi none n).2.1=((HT.sIx n n hi:Nat):Int)/\(sliceBounds lo hi none n).2.2=1:=by
 refine ⟨?_,?_,rfl⟩
 ·cases lo with
  | none=>simp [sliceBounds,HT.sIx]
  | some i =>
   simp only [sliceBounds,HT.sIx,J0,show (1:Int) > 0 by decide,if_true]
   by_cases h:i<0
   ·simp only [h,if_true]<;>omega
   ·simp only [h,if_false]<;>omega
 ·cases hi with
  | none=>simp [sliceBounds,HT.sIx]
  | some i =>
   simp only [sliceBounds,HT.sIx,J0,show (1:Int) > 0 by decide,if_true]
   by_cases h:i<0
   ·simp only [h,if_true]<;>omega
   ·simp only [h,if_false]<;>omega
theorem xN (its:List Value) (lo hi:Option Int):slicePick its.toArray lo hi none=((its.drop (HT.sIx its.length 0 lo)).take (HT.sIx its.length its.length hi-HT.sIx its.length 0 lo)).toArray:=by
 obtain ⟨h1,h2,h3⟩:=zV lo hi its.toArray.size
 unfold slicePick
 rw [h1,h2,h3]
 simp only [sliceRange_one,pick_run,bB]<;>rfl
def YU (K:aE):V->Option Int->Option Int->Hp->VK->Prop:=λx lo hi H Q=>∃ a xs,x=.ref a/\lP K H a xs/\∀ p,H p=none->Q (.ref p) (iM H p (.lst (AZ xs lo hi)))
theorem OP:NC X (YU X.K):=by
 intro pins s σ H x v vl vu lo hi sl Q I rx hs pl pu h
 obtain ⟨a,xs,rfl,hx,q⟩:=h
 cases rx
 obtain ⟨its,r,ht,hz⟩:=I.list hx
 have hlen:=r.length
 refine ⟨"list",_,slot_list_getitem.lookup,ht.isList.typeIs,?_⟩
 refine wpAny_getItem_list_slice ht.isList hs pl pu .none (by simp) ?_ (by rw [bB]<;>omega)
 rw [xN,<- hlen]
 refine ⟨.ref s.heap.objs.size,_,I.laid (t':=s.toks) (o:=.lst (AZ xs lo hi)) (λb ob q=>aP _ q) (aL _) ?_,rfl,q _ (I.hok.fresh (aL _))⟩
 exact ⟨bO (uM xs lo hi) hz,_,0,(r.drop (HT.sIx xs.length 0 lo)).take (HT.sIx xs.length xs.length hi-HT.sIx xs.length 0 lo),bW _ rfl⟩

theorem A1:nF X (.builtin "len") (λxs H Q=>∃ p ys,xs=[.ref p]/\(lP X.K H p ys\/qP X.K H p ys)/\Q (.int ys.length) H):=by
 intro pins s σ H xs us Q I r h
 obtain ⟨p,ys,rfl,hq,q⟩:=h
 obtain ⟨u,rfl,rx⟩:=vP r
 cases rx
 have hn:=tR
 rcases hq with hq | hq
 ·obtain ⟨its,r',pl,hz⟩:=I.list hq
  have hlen:=r'.length
  exact Calls.call_len_list pl.isList (by simp only [bB]<;>omega) ⟨.int ys.length,H,I.tok _,⟨s.toks+1,by rw [bB,hlen]⟩,q⟩
 ·obtain ⟨its,r',pl,hz⟩:=I.tuple hq
  have hlen:=r'.length
  exact len_tuple pl (by simp only [bB]<;>omega) ⟨.int ys.length,H,I.tok _,⟨s.toks+1,by rw [bB,hlen]⟩,q⟩
theorem A0:nF X (.builtin "len") (λxs H Q=>∃ z,xs=[.str z]/\z.length<=bG/\Q (.int z.length) H):=by
 intro pins s σ H xs us Q I r h
 obtain ⟨z,rfl,hz,q⟩:=h
 obtain ⟨u,rfl,t,rfl⟩:=vP r
 have hn:=tR
 exact len_str (by omega) ⟨.int z.length,H,I.tok _,⟨_,rfl⟩,q⟩
theorem nF.or {f:Value} {r r':List V->Hp->VK->Prop} (h:nF X f r) (h':nF X f r'):nF X f (λxs H Q=>r xs H Q\/r' xs H Q):=by
 intro pins s σ H xs us Q I rs q
 rcases q with q | q
 ·exact h pins s σ H xs us Q I rs q
 ·exact h' pins s σ H xs us Q I rs q
theorem gR:nF X (.type "tuple") (λxs H Q=>∃ p ys,xs=[.ref p]/\((lP X.K H p ys/\∀ l,H l=none->Q (.ref l) (iM H l (.tup ys)))\/(qP X.K H p ys/\Q (.ref p) H))):=by
 intro pins s σ H xs us Q I r h
 obtain ⟨p,ys,rfl,h⟩:=h
 obtain ⟨u,rfl,rx⟩:=vP r
 cases rx
 rcases h with ⟨hq,q⟩ | ⟨hq,q⟩
 ·obtain ⟨its,r',pl,hz⟩:=I.list hq
  have hlen:=r'.length
  refine call_tuple_list pl.isList (λh' kp=>?_) (by simp only [bB]<;>omega)
  have I1:dU X pins σ H { s with heap:=h' }:=I.kept (t':=s.toks) kp
  have I2:dU X pins σ (iM H h'.objs.size (.tup ys)) { s with heap:=h'.push { cls:=.type "tuple",data:=.seq its.toArray } } :=
   I1.laid (t':=s.toks) (λb o e=>aP _ e) (aL _) (show mC X.prog X.w _ _ _ (.tup ys) from ⟨hz,its,r',xU.new _ _⟩)
  exact ⟨.ref h'.objs.size,_,I2,rfl,q _ (I1.hok.fresh (aL _))⟩
 ·obtain ⟨its,r',pl,hz⟩:=I.tuple hq
  exact call_tuple_same pl ⟨.ref p,H,I,rfl,q⟩

def tyV (K:aE) (T:String) (x:V) (H:Hp):Prop:=match x with
 | .str _=>T="str"
 | .int _=>T="int"
 | .ref p=>(T="list"/\∃ xs,lP K H p xs)\/(T="tuple"/\((∃ o,K.lookup p=some o/\o.cls=.type "tuple"/\o.dict=none)\/∃ xs,qP K H p xs)) \/
   (T="dict"/\((∃ kvs,H p=some (.dK kvs))\/∃ kvs,H p=some (.dT kvs)))\/(T="set"/\∃ S n,H p=some (.set S n))
 | _=>False
theorem UP {pins:List (Addr×Obj)} {σ:St} {H:Hp} {s:Shared} {T:String} {x:V} {v:Value} (I:dU X pins σ H s) (r:gO x v) (ty:tyV X.K T x H) :
  s.TypeIs v T/\∀ a,v=.ref a->∃ ob,s.heap.get? a=some ob/\ob.dict=none:=by
 cases x with
 | str z =>
  obtain ⟨t,rfl⟩:=r
  cases (show T="str" from ty)
  exact ⟨typeIs_str s z t,λ_ e=>nomatch e⟩
 | int i =>
  obtain ⟨t,rfl⟩:=r
  cases (show T="int" from ty)
  exact ⟨typeIs_int s i t,λ_ e=>nomatch e⟩
 | ref p =>
  cases r
  rcases ty with ⟨rfl,xs,hq⟩ | ⟨rfl,⟨o,hk,hc,hd⟩ | ⟨xs,hq⟩⟩ | ⟨rfl,hk⟩ | ⟨rfl,S,n,hk⟩
  ·obtain ⟨its,_,pl,_⟩:=I.list hq
   refine ⟨pl.isList.typeIs,λa e=>?_⟩
   cases e
   obtain ⟨o,n,e,c,hd,_⟩:=pl
   exact ⟨o,e,hd⟩
  ·refine ⟨⟨o,I.kIn p o hk,hc⟩,λa e=>?_⟩
   cases e
   exact ⟨o,I.kIn _ o hk,hd⟩
  ·obtain ⟨o,e,hc,hd⟩:=I.tupleN hq
   refine ⟨⟨o,e,hc⟩,λa e2=>?_⟩
   cases e2
   exact ⟨o,e,hd⟩
  ·have z:∃ o,s.heap.get? p=some o/\o.ExactDict:=by
    rcases hk with ⟨kvs,hk⟩ | ⟨kvs,hk⟩
    ·obtain ⟨_,_,_,_,o,_,_,e,ex,_⟩:=I.hok p _ hk
     exact ⟨o,e,ex⟩
    ·obtain ⟨_,_,_,_,o,_,_,e,ex,_⟩:=I.hok p _ hk
     exact ⟨o,e,ex⟩
   obtain ⟨o,e,ex⟩:=z
   refine ⟨⟨o,e,ex.1⟩,λa e2=>?_⟩
   cases e2
   exact ⟨o,e,ex.2.1⟩
  ·obtain ⟨o,_,_,_,e,ex,_⟩:=I.hok p _ hk
   refine ⟨⟨o,e,ex.1⟩,λa e2=>?_⟩
   cases e2
   exact ⟨o,e,ex.2.1⟩
 | _=>exact False.elim ty
def N5 (K:aE) (T:String) (r:V->List V->Hp->VK->Prop) (to:TE) (t:TA):TE:=λσ H Q=>to σ H λx H1=>tyV K T x H1/\t σ H1 λxs H2=>r x xs H2 Q
variable {o e:Expr} {es:List Expr} {to:TE} {t:TA} {name:Str} {apos cpos:Pos} {T id:String} {r:V->List V->Hp->VK->Prop}
theorem iR (pa:PlainAttrs T) (slot:Slot T name id) (hty:typeOf (.builtin id)=pure (.type "method_descriptor")) (hm:JY X id r) (ho:PE X o to) (ha:PA X (e::es) t)
  (hbase:attributeBase o name X.env (eval o X.env)=eval o X.env:=by rfl)
  (hfew:((backTo cpos (bT (e::es) X.env)).all (λx=>!x.1) && (backToKw cpos (keywordEach [] X.env)).all (λx=>x.1.isSome)
   && decide ((e::es).length+([]:List Keyword).length+(if ([]:List Keyword).isEmpty then 0 else 1)<30))=true:=by rfl)
  (hline:(apos.endLine == cpos.line)=true:=by rfl) (hs:bT (e::es) X.env=(false,eval e X.env)::bT es X.env:=by rfl) (hplain:(backTo cpos (bT es X.env)).any (·.1)=false:=by rfl) :
  PE X (.Call (.Attribute o name apos) (e::es) [] cpos) (N5 X.K T r to t):=by
 intro pins s σ H Q I h
 refine wpAny_Call_method_late hbase hfew hline rfl (lB (ho pins s σ H _ I h) λv s1 ⟨x,H1,I1,r1,ty,q1⟩=>?_)
 obtain ⟨h1,h2⟩:=UP I1 r1 ty
 refine ⟨T,id,pa,slot,hty,h1,h2,?_⟩
 have hA:=ha cpos pins s1 σ H1 _ I1 q1
 rw [hs] at hA |-
 refine Calls.callWith_builtin (by show (false || (backTo cpos (bT es X.env)).any (·.1))=false;rw [hplain]<;>rfl) (Calls.evalArgs_plain ?_)
 exact lB hA λus s2 ⟨vs,H2,I2,r2,q2⟩=>hm pins s2 σ H2 x vs v us Q I2 r1 r2 q2
end
end L2

namespace L2
open PySem PySem.Spec PyProof.Rows

def MtM (X:Cx) (id:String) (r:V->List V->Hp->VK->Prop):Prop :=
 ∀ (pins:List (Addr×Obj)) (s:Shared) (σ:St) (H:Hp) (x:V) (xs:List V) (v:Value) (us:List Value) (Q:VK),dU X pins σ H s->gO x v->eI xs us->r x xs H Q ->
  wpAny (model X.prog X.w) X.A (call (.builtin id) (v::us)) (EP X pins σ Q) X.xe s

theorem eI.one:∀ {x:V} {us:List Value},eI [x] us->∃ u,us=[u]/\gO x u
 | _,_,.cons r .nil=>⟨_,rfl,r⟩
theorem eI.two:∀ {x y:V} {us:List Value},eI [x,y] us->∃ u v,us=[u,v]/\gO x u/\gO y v
 | _,_,_,.cons r (.cons q .nil)=>⟨_,_,rfl,r,q⟩
theorem eI.zero:∀ {us:List Value},eI [] us->us=[]
 | _,.nil=>rfl
theorem eI.dropLast {xs:List V} {us:List Value} (h:eI xs us):eI xs.dropLast us.dropLast:=by
 induction h with
 | nil=>exact .nil
 | cons r t ih =>
  cases t with
  | nil=>exact .nil
  | cons q t'=>exact .cons r ih
theorem eI.eraseIdx:∀ {xs:List V} {us:List Value} (i:Nat),eI xs us->eI (xs.eraseIdx i) (us.eraseIdx i)
 | _,_,_,.nil=>.nil
 | _,_,0,.cons _ t=>t
 | _,_,i+1,.cons r t=>.cons r (eI.eraseIdx i t)
theorem eI.reverse {xs:List V} {us:List Value} (h:eI xs us):eI xs.reverse us.reverse:=by
 induction h with
 | nil=>exact .nil
 | cons r t ih=>rw [oI,oI];exact eI.append ih (.cons r .nil)
theorem eI.rep {xs:List V} {us:List Value} (h:eI xs us):∀ k:Nat,eI (jQ k xs).flatten (jQ k us).flatten
 | 0=>.nil
 | k+1=>by
  rw [mP,mP,jK,jK]
  exact eI.append h (eI.rep h k)
section
variable {X:Cx} {pins:List (Addr×Obj)} {σ:St} {H:Hp} {s:Shared} {l b:Addr} {xs ys zs:List V}

theorem dU.lset {its its':List Value} {n:Nat} {f:Array Value->Array Value} {t':Nat} (I:dU X pins σ H s) (hH:H l=some (.lst xs))
  (e:s.heap.get? l=some { cls:=.type "list",data:=.seq its.toArray n }) (hf:f its.toArray=its'.toArray) (hv:eI ys its') (hz:ys.length<=bG) :
  dU X pins σ (iM H l (.lst ys)) { s with heap:=s.heap.update l (Obj.mapSeq f),toks:=t' }:=by
 have q:=PySem.IsL.update e f
 rw [hf] at q
 refine I.write (x:=l) (e:=l) (by rw [hH];exact trivial) (.inl rfl) (λb' u hb hu=>(Heap.get?_update_other s.heap (Obj.mapSeq f) (Ne.symm hb)).trans hu) ⟨_,q⟩ ?_
 exact ⟨hz,its',_,hv,q⟩
theorem dU.lnew {its:List Value} {t':Nat} (I:dU X pins σ H s) (hv:eI ys its) (hz:ys.length<=bG) :
  dU X pins σ (iM H s.heap.objs.size (.lst ys)) { s with heap:=s.heap.push { cls:=.type "list",data:=.seq its.toArray },toks:=t' } :=
 I.laid (λ_ _ q=>aP _ q) (aL _) ⟨hz,its,0,hv,bW _ rfl⟩
theorem dU.fresh (I:dU X pins σ H s):H s.heap.objs.size=none:=I.hok.fresh (aL _)
theorem dU.lstM (I:dU X pins σ H s) (hH:H l=some (.lst xs)):xs.length<=bG/\∃ (its:List Value) (n:Nat),eI xs its/\xs.length=its.length/\s.heap.get? l=some { cls:=.type "list",data:=.seq its.toArray n }:=by
 obtain ⟨z,its,n,r,e⟩:=I.hok l _ hH
 exact ⟨z,its,n,r,r.length,e⟩

theorem LN {n:Nat} (h:n<=bG):Builtin.List.listTooLong n=false:=by
 unfold Builtin.List.listTooLong
 exact decide_eq_false (by omega)
end

section
variable {X:Cx}

def FV:V->List V->Hp->VK->Prop:=λx vs H Q=>∃ l xs y,x=.ref l/\vs=[y]/\H l=some (.lst xs)/\xs.length<bG/\Q .non (iM H l (.lst (xs++[y])))
theorem gT:MtM X "list.append" FV:=by
 intro pins s σ H x vs v us Q I rx rv h
 obtain ⟨l,xs,y,rfl,rfl,hH,hz,q⟩:=h
 cases rx
 obtain ⟨u,rfl,ru⟩:=rv.one
 obtain ⟨z,its,n,r,hl,e⟩:=I.lstM hH
 refine call_meets F.slot_list_append ⟨_,e,rfl⟩ F.entry_list_append (F.args_list_append_2 _ _) (PySem.list_append l its.toArray n u (by rw [bB];omega)) ⟨e,?_⟩
 refine ⟨.non,_,I.lset (its':=its++[u]) hH e (by simp) (r.append (.cons ru .nil)) ?_,rfl,q⟩
 rw [bA,hG]
 omega

end

section
variable {prog:bY} {w:World} {A:Around} {E:Value->Shared->Prop} {s:Shared}
end

section
variable {X:Cx}
end
end L2

namespace Att
open PySem PySem.W PySem.Calls PyProof.Rows

theorem uT {P:Params} {h:Heap}:∀ (ns:List Int) (vs:List Value),WellAll P h vs (ns.map WData.int)->IntsAre vs ns:=by
 intro ns
 induction ns with
 | nil =>
  intro vs w
  rw [mT] at w
  cases w
  exact .nil
 | cons n ns ih =>
  intro vs w
  rw [bP] at w
  cases w with
  | cons a b =>
   cases a
   exact .cons _ _ (ih _ b)

theorem HM {l:OpenLaw} {n:Nat} (hn:l.most=some n) {P:Params} {h:Heap} {args:List WData} {vals:List Value}
  (hpre:l.row.toRowW.claim.pre args=true) (hwl:WellAll P h vals args) :
  ∃ a vs ns,vals=[Value.ref a]/\args=[WData.list (ns.map WData.int)]/\h.get? a=some { cls:=.type "list",data:=.seq vs.toArray }/\IntsAre vs ns/\ns.length<=n:=by
 have hsh:WShape.hasAll [] args [.list .int]=true:=(pre_splitW hpre).1
 have hc:l.pre.holds [] { args:=args }=true:=(pre_splitW hpre).2
 obtain ⟨d,r,rfl,h1,h2⟩:=hasAllW_cons hsh
 obtain rfl:=hasAllW_nil h2
 obtain ⟨xs,rfl,h3⟩:=hasW_list h1
 obtain ⟨ns,rfl⟩:=items_int h3
 have hlen:ns.length<=n:=by
  unfold OpenLaw.pre at hc
  have h4:(WTm.not (.lt (.lit (.int (n:Int))) (.len (.arg 0)))).holds [] { args:=[.list (ns.map .int)] }=true:=by
   have h4:=(holds_andW hc).1
   rw [hn] at h4
   exact h4
  have h5:=condW_of h4 (w_not (w_lt w_lit (w_len_list (w_arg rfl))))
  rw [aC] at h5
  refine Nat.le_of_not_lt λq=>?_
  have q':(n:Int)<((ns.length:Nat):Int):=by omega
  first
   | (rw [decide_eq_true q'] at h5;exact absurd h5 (by decide))
   | (simp at h5;omega)
 cases hwl with
 | cons w1 w2 =>
  cases w2
  cases w1 with
  | list ho hall=>exact ⟨_,_,ns,rfl,rfl,ho,uT ns _ hall,hlen⟩

theorem HQ (l:OpenLaw) (args:List WData):l.row.toRowW.claim.post args (.bool true) args=true :=
 postW_of (r:=l.row.toRowW) (X:=(true == true))
  (show WShape.has [] (.bool true) .bool=true by first | rfl | decide | simp [WShape.has,WShape.arms,WShape.armsAll])
  (show (WTm.eq .res (.lit (.bool true))).value [] { args:=args,res:=some (.bool true),after:=args }=some (.bool (true == true)) from w_eq_bool (w_res rfl) w_lit) rfl

theorem attach_call {l:OpenLaw} {n:Nat} {q:bY} {loose:List Str} {XP:(Str->Option Value)->Heap->Prop} {YP:World->Heap->Prop} {d:DefRec}
  (hn:l.most=some n) (hdf:d.params.defaults=[])
  (call:∀ (w:World) (s₀ s₁:Shared) (mg mb:Str->Option Value) (fa:Addr) (o:Obj) (pm cd doc:Value) (a:Addr) (vs:List Value) (ns:List Int),
   Ground q loose [] XP w s₀ mg mb s₁.heap->YP w s₁.heap ->
   s₁.heap.get? fa=some o->o.data=.func (docDef d.name d.params d.body d.scope pm cd doc)->s₁.heap.CodeRec cd d.name->mg d.name=some (.ref fa) ->
   s₁.heap.get? a=some { cls:=.type "list",data:=.seq vs.toArray }->IntsAre vs ns->ns.length<=n->s₁.gens=#[] ->
   codeAny (model l.prog w) callerA (.call (.ref fa) ⟨[.ref a],[]⟩) (λr s'=>r=.ok (.ret (.bool true))/\OldK s₁.heap s'.heap/\s'.os=s₁.os/\AllBare s'.gens) s₁) :
  WalkO q loose XP YP l.row.toRowW d [] (λf vs=>PySem.call f vs):=by
 intro w s₀ s₁ mg mb G Y fa o pm cd doc dV kV ho hd hcd hD hmg hg args vals as hpre hlay hrd hwl hlo
 obtain rfl:dV=.none:=Dflts.none hD hdf
 obtain rfl:kV=.none:=Dflts.noKw hD
 obtain ⟨a,vs,ns,rfl,rfl,hobj,hints,hlen⟩:=HM hn hpre hwl
 refine enter_call (codeAny_mono (call w s₀ s₁ mg mb fa o pm cd doc a vs ns G Y ho (fd_plain hd) hcd hmg hobj hints hlen hg) λr s' hq=>?_)
 obtain ⟨rfl,h2,h3,h4⟩:=hq
 exact ⟨.inl ⟨.bool true,.bool true,[],rfl,λ_=>rfl,.bool true,HQ l _,λ_=>⟨XU.nil,λ_ hm=>(nomatch hm)⟩⟩,h2,h3,h4⟩

section
variable {prog:bY} {w:World} {A:Around} {E:Value->Shared->Prop} {s:Shared} {K:Frag}

def aC8 (h:Heap) (L d:Addr):List (Addr×Obj):=(bX h.objs.size).filterMap λa=>if a=L\/a=d then none else (h.get? a).map λo=>(a,o)
end
end Att

namespace L2
open PySem PySem.Spec PyProof.Rows

theorem yH:∀ {vs:List Value} {ns:List Int},IntsAre vs ns->eI (ns.map V.int) vs
 | _,_,.nil=>.nil
 | _,_,.cons n t h=>.cons ⟨t,rfl⟩ (yH h)

def XL (H:Hp):Prop:=∀ b,H b=none\/(∃ o xs,H b=some (.frz o (.lst xs)))\/(tabA=some b/\∃ ps,H b=some (.tbl ps))

theorem MC {P:bY} {w:World} {K:aE} {mg mb:Str->Option Value} {CX:G3} {k:Nat} {fa a:Addr} {fd:dF} {x:Str} {sp:Sp} {s₁:Shared} {vs:List Value} {ns:List Int}
  (KX:K.In s₁.heap) (hns:s₁.heap.Ns fZ mg) (hb:s₁.heap.Ns builtinsNs mb) (hbb:∀ x:Str,x≠"__name__"->mb x=bootBuiltins x) (hlim:s₁.heap.NoLimit) (hg:s₁.gens=#[])
  (ha:s₁.heap.get? a=some { cls:=.type "list",data:=.seq vs.toArray }) (hi:IntsAre vs ns) (hl:ns.length<=bG) (hr:gG k callerA)
  (hbm:∃ bm o,mg "__builtins__"=some (.ref bm)/\bm≠builtinsNs/\s₁.heap.get? bm=some o/\o.cls=.type "module"/\o.dict=some builtinsNs/\o.data=.plain)
  (hT:∀ P,tabA=some P->s₁.heap.get? P=some { cls:=.none,data:=.fields #[] }/\K.lookup P=none/\isCodeTable s₁.heap P)
  (F:∀ base:Heap,K.In base->base.Ns fZ mg->bN P w K mg base CX k fa fd [x] sp) (hbind:∀ (s:Shared) (u:Value),BindsTo s fd ⟨[u],[]⟩ [(x,u)])
  (hsp:∀ H:Hp,XL H->lP K H a (ns.map V.int)->sp [.ref a] H (λv _=>v=.bl true) λ_ _ _=>False)
  (hCX:∀ H e s',CX [] H s₁ (λ_ _ _=>False) e s'->False) :
  codeAny (model P w) callerA (.call (.ref fa) ⟨[.ref a],[]⟩) (λr s'=>r=.ok (.ret (.bool true))/\OldK s₁.heap s'.heap/\s'.os=s₁.os/\AllBare s'.gens) s₁:=by
 have rv:=yH hi
 have lenV:=hi.length
 have aT:∀ P,tabA=some P->P≠a:=λP e z=>by
  have h1:=(hT P e).1
  rw [z,ha] at h1
  cases h1
 have core:∀ H:Hp,XL H->lP K H a (ns.map V.int)->rC P w H s₁.heap->(∀ b,H b≠none->b=a\/tabA=some b)->(H a≠none->K.lookup a=none)->Tb H ->
   codeAny (model P w) callerA (.call (.ref fa) ⟨[.ref a],[]⟩) (λr s'=>r=.ok (.ret (.bool true))/\OldK s₁.heap s'.heap/\s'.os=s₁.os/\AllBare s'.gens) s₁:=by
  intro H hO hS hok hA hK hTb
  have base_of:∀ {b:Addr} {o:Obj},s₁.heap.get? b=some o->H b=none->(AS s₁.heap H).get? b=some o:=λe n=>MP e n
  have noA:∀ {b:Addr} {o:Obj} {es:Array DictEntry} {ep:Nat},s₁.heap.get? b=some o->o.data=.dict es ep->H b=none:=λ{b o es ep} e d=>by
   cases q:H b with
   | none=>rfl
   | some u =>
    rcases hA b (by rw [q];simp) with e' | e'
    ·subst e'
     rw [ha] at e;cases e
     have d':Data.seq vs.toArray _=Data.dict es ep:=d
     cases d'
    ·rw [(hT b e').1] at e;cases e
     have d':Data.fields #[]=Data.dict es ep:=d
     cases d'
  have noP:∀ {b:Addr} {o:Obj},s₁.heap.get? b=some o->o.data=.plain->H b=none:=λ{b o} e d=>by
   cases q:H b with
   | none=>rfl
   | some u =>
    rcases hA b (by rw [q];simp) with e' | e'
    ·subst e'
     rw [ha] at e;cases e
     have d':Data.seq vs.toArray _=Data.plain:=d
     cases d'
    ·rw [(hT b e').1] at e;cases e
     have d':Data.fields #[]=Data.plain:=d
     cases d'
  have nsK:∀ {b:Addr} {m:Str->Option Value},s₁.heap.Ns b m->(AS s₁.heap H).Ns b m:=λ{b m} ⟨o,es,ep,e,d,r⟩=>⟨o,es,ep,base_of e (noA e d),d,r⟩
  have hKb:K.In (AS s₁.heap H):=λb o e=>base_of (KX b o e) (by
   cases q:H b with
   | none=>rfl
   | some u =>
    rcases hA b (by rw [q];simp) with e' | e'
    ·subst e'
     rw [hK (by rw [q];simp)] at e;cases e
    ·rw [(hT b e').2.1] at e;cases e)
  have hM:Mod K mg (AS s₁.heap H):=⟨hKb,nsK hns,⟨mb,nsK hb,hbb⟩,let ⟨mc,h1,h2⟩:=hlim;⟨mc,nsK h1,h2⟩,let ⟨bm,o,b1,b2,b3,b4,b5,b6⟩:=hbm;⟨bm,o,b1,b2,base_of b3 (noP b3 b6),b4,b5,b6⟩⟩
  have e0:xY P w K mg (AS s₁.heap H) callerA [] s₁ H:=⟨rfl,hM,λb o e=>PK e,lI (IN _ _),trivial,λb hb=>absurd (show b∈([]:List Addr) from hb) (by simp),hok,.of_eq hg,hTb⟩
  refine codeAny_mono ((F _ hKb (nsK hns)).run callerA [] s₁ H ⟨[.ref a],[]⟩ [.ref a] [.ref a] _ _ hr e0 (hbind s₁ (.ref a)) (.cons rfl .nil) (hsp H hO hS)) λr s' h=>?_
  cases r with
  | error e=>exact (hCX H e s' h).elim
  | ok fl =>
   cases fl with
   | next=>exact False.elim h
   | brk=>exact False.elim h
   | cont=>exact False.elim h
   | ret u =>
    obtain ⟨v,H',os,bare,un,hok',r',q⟩:=h
    have q':v=.bl true:=q
    subst q'
    obtain rfl:u=Value.bool true:=r'
    have old:∀ b o,s₁.heap.get? b=some o->s'.heap.get? b=some o\/(isCodeTable s₁.heap b/\o={ cls:=.none,data:=.fields #[] }/\∃ qs:Array Value,s'.heap.get? b=some { cls:=.none,data:=.fields qs }):=λb o e=>by
     cases q:H b with
     | none=>exact .inl (un.keep b o e q (by intro z;exact absurd (show b∈([]:List Addr) from z) (by simp)) (by simp))
     | some u =>
      rcases hO b with z | ⟨ob,xs,z⟩ | ⟨t,ps,z⟩
      ·rw [q] at z;cases z
      ·have z2:=un.frzs b ob _ z
       obtain ⟨e1,_⟩:=hok b _ z
       obtain ⟨e2,_⟩:=hok' b _ z2
       rw [e] at e1;cases e1
       exact .inl e2
      ·obtain ⟨h1,h2,h3⟩:=hT b t
       obtain ⟨m,z2⟩:=un.tbls b ps z
       obtain ⟨qs,e2,_⟩:=hok' b _ z2
       rw [e] at h1;cases h1
       exact .inr ⟨h3,rfl,qs,e2⟩
    refine ⟨rfl,⟨λb o e=>?_,λb o e=>?_⟩,os,bare⟩
    ·rcases old b o e with h1 | ⟨h1,rfl,qs,h2⟩
     ·exact .inl h1
     ·exact .inr (.inl ⟨h1,rfl,#[],qs,rfl,by rw [h2];simp⟩)
    ·rcases old b o e with h1 | ⟨h1,rfl,qs,h2⟩
     ·exact ⟨_,h1⟩
     ·exact ⟨_,h2⟩
 have dT:∀ b,Decidable (tabA=some b):=λb=>inferInstance
 cases hk:K.lookup a with
 | some o =>
  have e:=KX a o hk
  rw [ha] at e
  cases e
  refine core (λb=>if tabA=some b then some (.tbl #[]) else none) (λb=>?_) (.inr ⟨_,vs.toArray,_,hk,rfl,rfl,rfl,by rw [bB,lenV];exact hl,by simpa using rv⟩) (λb u z=>?_) (λb z=>?_) (λz=>?_) λP e=>⟨#[],if_pos e⟩
  ·by_cases hb:tabA=some b
   ·exact .inr (.inr ⟨hb,#[],if_pos hb⟩)
   ·exact .inl (if_neg hb)
  ·by_cases hb:tabA=some b
   ·have z':=(if_pos hb).symm.trans z
    cases z'
    exact ⟨#[],(hT b hb).1,trivial,λp c q=>by cases q⟩
   ·have z':=(if_neg hb).symm.trans z
    cases z'
  ·by_cases hb:tabA=some b
   ·exact .inr hb
   ·exact absurd (if_neg hb) z
  ·exact absurd (if_neg λe=>aT a e rfl) z
 | none =>
  refine core (λb=>if tabA=some b then some (.tbl #[]) else if b=a then some (.frz { cls:=.type "list",data:=.seq vs.toArray } (.lst (ns.map V.int))) else none) (λb=>?_) (.inl (.inr ⟨{ cls:=.type "list",data:=.seq vs.toArray },(if_neg λe=>aT a e rfl).trans (if_pos rfl)⟩)) (λb u z=>?_) (λb z=>?_) (λ_=>hk) λP e=>⟨#[],if_pos e⟩
  ·by_cases hT':tabA=some b
   ·exact .inr (.inr ⟨hT',#[],if_pos hT'⟩)
   ·by_cases hb:b=a
    ·exact .inr (.inl ⟨_,_,(if_neg hT').trans (if_pos hb)⟩)
    ·exact .inl ((if_neg hT').trans (if_neg hb))
  ·by_cases hT':tabA=some b
   ·have z':=(if_pos hT').symm.trans z
    cases z'
    exact ⟨#[],(hT b hT').1,trivial,λp c q=>by cases q⟩
   ·by_cases hb:b=a
    ·have z':=((if_neg hT').trans (if_pos hb)).symm.trans z
     cases z'
     subst hb
     exact ⟨ha,by rw [aC];exact hl,vs,_,rv,ha⟩
    ·have z':=((if_neg hT').trans (if_neg hb)).symm.trans z
     cases z'
  ·by_cases hT':tabA=some b
   ·exact .inr hT'
   ·by_cases hb:b=a
    ·exact .inl hb
    ·exact absurd ((if_neg hT').trans (if_neg hb)) z

abbrev KOf {K:aE} {h:Heap} (_:K.In h):aE:=K

theorem N2 {l:PySem.W.OpenLaw} {n k:Nat} {q:bY} {loose:List Str} {XP:(Str->Option Value)->Heap->Prop} {YP:World->Heap->Prop} {d:DefRec} {K:Params->aE} {CX:World->G3} {sp:World->Sp} {x:Str}
  (hn:l.most=some n) (hn2:n<=bG) (hdf:d.params.defaults=[]) (hr:gG k callerA)
  (hY:∀ (w:World) (h:Heap),YP w h->(K w.params).In h) (hT:∀ (w:World) (h:Heap),YP w h->∀ P,tabA=some P->h.get? P=some { cls:=.none,data:=.fields #[] }/\(K w.params).lookup P=none/\isCodeTable h P)
  (F:∀ (w:World) (mg:Str->Option Value) (fa:Addr) (h:Heap),(K w.params).In h->h.Ns fZ mg->mg d.name=some (.ref fa) ->
   ∃ fd:dF,(∀ (s:Shared) (u:Value),BindsTo s fd ⟨[u],[]⟩ [(x,u)]) /\
    ∀ base:Heap,(K w.params).In base->base.Ns fZ mg->bN l.prog w (K w.params) mg base (CX w) k fa fd [x] (sp w))
  (hsp:∀ (w:World) (H:Hp) (a:Addr) (ns:List Int),ns.length<=n->XL H->lP (K w.params) H a (ns.map V.int)->sp w [.ref a] H (λv _=>v=.bl true) λ_ _ _=>False)
  (hCX:∀ (w:World) (H:Hp) (s:Shared) (e:Value) (s':Shared),CX w [] H s (λ_ _ _=>False) e s'->False) :
  NQ q loose XP YP l.row.toRowW d [] (λf vs=>PySem.call f vs):=by
 refine Att.attach_call hn hdf λw s₀ s₁ mg mb fa o pm cd doc a vs ns G Y ho hd hcd hmg hobj hints hlen hg=>?_
 have KX:=hY w _ Y
 obtain ⟨fd,hb,hF⟩:=F w mg fa _ KX G.T.g hmg
 exact MC KX G.T.g G.T.b G.T.builtins G.T.nolimit hg hobj hints (bO hlen hn2) hr G.T.bmain (hT w _ Y) hF hb (λH hO hS=>hsp w H a ns hlen hO hS) λH e s'=>hCX w H s₁ e s'
end L2


namespace L2
open PySem PySem.Spec PyProof.Rows

def sN (s:Stmt):Arguments:=match s with
 | .FunctionDef _ a _ _ _ _ _ _ _ _=>a
 | _=>{ posonlyargs:=[],args:=[],vararg:=none,kwonlyargs:=[],kw_defaults:=[],kwarg:=none,defaults:=[] }
def kU (s:Stmt):List Stmt:=match s with
 | .FunctionDef _ _ b _ _ _ _ _ _ _=>b
 | _=>[]
def aY (s:Stmt):Scope:=match s with
 | .FunctionDef _ _ _ _ _ _ sc _ _ _=>sc
 | _=>{ kind:=.function,names:=[],isGenerator:=false,isCoroutine:=false }

abbrev dP:G3:=λ_ _ _ _ _ _=>False
abbrev E0:XK:=λ_ _ _=>False
theorem yV {X:Cx}:EV dP X E0:=λ_ _ _ _ _ _ _ h=>h.elim

structure JZ (K:aE) (x qual:Str) (st:Stmt) (f:Addr) (fd:dF):Prop where
 ex:∃ (oc:Value) (od:Option Addr) (kV doc pm:Value) (an:Option Addr) (cdv ct:Value) (osl:Array (Option Value)),
  fd=kX x qual (sN st) (kU st) (aY st) .none kV doc pm an cdv ct/\K.lookup f=some ⟨oc,od,.func fd,osl⟩/\mN K cdv qual=true
 kp:eX K (.ref f)=true
section
variable {P:bY} {w:World} {K:aE} {mg:Str->Option Value} {base:Heap}
theorem JZ.ok {x qual:Str} {st:Stmt} {f:Addr} {fd:dF} {N ps:List Str} {k:Nat} {sp:Sp} (F:JZ K x qual st f fd) (S:cD N ps (aY st)) (len:∀ vs H Q E,sp vs H Q E->vs.length=ps.length)
  (hbody:∀ (cdv:Value) (A:Around) (outer:List Env) (s:Shared) (H:Hp) (vs:List V) (Q:VK) (E:XK),gG k (A.deeper (envOfC qual (aY st) s.heap.objs.size f cdv))->sp vs H Q E ->
   ∃ t,DB (wX dP P w K mg base N qual (aY st) f cdv A outer s H E).nox (kU st) t/\t { nx:=λ_ H'=>Q .non H',rt:=Q } (start N vs) H):bN P w K mg base dP (k+1) f fd ps sp:=by
 obtain ⟨oc,od,kV,doc,pm,an,cdv,ct,osl,rfl,lk,hcd⟩:=F.ex
 refine T8 lk hcd S len λA outer s H vs Q E hr hsp=>?_
 obtain ⟨t,h,q⟩:=hbody cdv A outer s H vs Q E hr hsp
 exact ⟨t,h.nox,q⟩
theorem JZ.binds {x qual:Str} {st:Stmt} {f:Addr} {fd:dF} {ps:List Str} (F:JZ K x qual st f fd)
  (h:∀ (kV doc pm:Value) (an:Option Addr) (cdv ct:Value) (us:List Value),us.length=ps.length->bindArgs (kX x qual (sN st) (kU st) (aY st) .none kV doc pm an cdv ct) ⟨us,[]⟩=pure (ps.zip us)):pJ K fd ps []:=by
 obtain ⟨oc,od,kV,doc,pm,an,cdv,ct,osl,rfl,lk,hcd⟩:=F.ex
 exact .all (h kV doc pm an cdv ct)
theorem MT {x qual:Str} {st:Stmt} {f:Addr} {oc:Value} {od an:Option Addr} {osl:Array (Option Value)} {kV doc pm cdv ct:Value} (l:K.lookup f=some ⟨oc,od,.func (kX x qual (sN st) (kU st) (aY st) .none kV doc pm an cdv ct),osl⟩)
  (c:mN K cdv qual=true) (k:eX K (.ref f)=true):JZ K x qual st f (kX x qual (sN st) (kU st) (aY st) .none kV doc pm an cdv ct):=⟨⟨oc,od,kV,doc,pm,an,cdv,ct,osl,rfl,l,c⟩,k⟩
end
theorem HI {n:Nat} (h:n<=1000):n<bG:=nL h (by decide)

section
variable {X:Cx}
theorem pv (i:Nat) {x:Str} {pos:Pos} (hN:X.N[i]?=some x:=by rfl) (hv:Vis X.env.scope x:=by first | exact Or.inl rfl | exact Or.inr (Or.inl rfl) | exact Or.inr (Or.inr rfl)) (hd:(x == ("__debug__":Str))=false:=by decide)
  (hcd:(x == ("__classdict__":Str))=false:=by decide):PE X (.Name x pos) (BN i):=K9 hN hv hd hcd
end

def bH (H H':Hp):Prop:=∀ b o,H b=some o->H' b=some o
theorem bH.refl (H:Hp):bH H H:=λ_ _ h=>h
theorem bH.trans {H H1 H2:Hp} (a:bH H H1) (b:bH H1 H2):bH H H2:=λc o h=>b c o (a c o h)
theorem bH.free {H H':Hp} (e:bH H H') {l:Addr} (h:H' l=Option.none):H l=Option.none:=by
 cases q:H l with
 | none=>rfl
 | some o =>
  rw [e l o q] at h
  cases h
theorem bH.seq {K:aE} {H H':Hp} {a:Addr} {xs:List V} (e:bH H H') (h:lP K H a xs):lP K H' a xs:=by
 rcases h with (h | ⟨o,h⟩) | h
 ·exact .inl (.inl (e _ _ h))
 ·exact .inl (.inr ⟨o,e _ _ h⟩)
 ·exact .inr h


theorem P9 {M:Model} {A:Around} {E:Value->Shared->Prop} {s:Shared} {tg:Expr} {it:Value} {z:Str} {t:Tok} {Q:Unit->Shared->Prop} (hQ:Q () s) :
  wpAny M A (letOwnedTupleGo tg it (.str z t)) Q E s:=by
 unfold letOwnedTupleGo
 cases tg<;>first
  | exact bM hQ
  | (cases it<;>exact bM hQ)
def Its (z:Str):It:=⟨λi _=>i<z.cps.size,λi H x H'=>H'=H/\∃ c,z.cps[i]?=some c/\x=.str ⟨#[c]⟩,λi _=>z.cps.size<=i⟩
theorem G9 {P:bY} {w:World} {K:aE} {tg:Expr} {ty:String} (it:Addr) (z:Str) (t:Tok)
  (W:∀ A:Around,A.handled=none->Walks P w A it [it] [it] z.cps.size (SignAt z) (λi h=>h.IsStrIter it ty z t i))
  (S:∀ (A:Around) (i:Nat) (s:Shared) (Q:Value->Shared->Prop) (E:Value->Shared->Prop),s.heap.IsStrIter it ty z t i->Q (.ref it) s->wpAny (model P w) A (pyIter (.ref it)) Q E s) :
  EU P w K tg (Its z) [it] it (λi h=>i<=z.cps.size/\h.IsStrIter it ty z t i) where
 mem:=by simp
 obj:=λi h st b hb=>by
  obtain rfl:b=it:=by simpa using hb
  obtain ⟨_,o,e,c,d⟩:=st
  exact ⟨o,e,λv q=>by rw [d] at q;cases q⟩
 keep:=λi h h' st k=>by
  obtain ⟨l,o,e,r⟩:=st
  exact ⟨l,o,k it (by simp) o e,r⟩
 item:=by
  intro X hP hw hK hc i pins s σ H E I hf st hg
  subst hP hw hK
  obtain ⟨f0,f1,f2,f3,f4,f5⟩:=hf it (by simp)
  refine (W X.A (I.ok.hd hc)).item i s _ _ hg st.2 λv h' tk hv st' kk=>?_
  obtain ⟨c,u,hx,rfl⟩:=hv
  have I1:dU X pins σ H { s with heap:=h',toks:=tk }:=I.turned (λb o hb e=>kk b o (by simpa using hb) e) f0 f1 f3 f4 f5
  exact ⟨_,rfl,P9 ⟨.str ⟨#[c]⟩,H,I1,⟨u,rfl⟩,⟨rfl,c,hx,rfl⟩,⟨hg,st'⟩,λb hb=>(hf b hb).1⟩⟩
 done:=by
  intro X hP hw hK hc i pins s σ H E I hf st hg
  subst hP hw hK
  obtain ⟨f0,f1,f2,f3,f4,f5⟩:=hf it (by simp)
  have e:i=z.cps.size:=Nat.le_antisymm st.1 hg
  subst e
  exact (W X.A (I.ok.hd hc)).done s _ _ st.2 λh' tk kk=>⟨rfl,I.turned (λb o hb e=>kk b o (by simpa using hb) e) f0 f1 f3 f4 f5⟩
 self:=λA i s Q E st h=>S A i s Q E st.2 h

def aDd (K:aE) (tl:TE):TI:=λσ H R=>tl σ H λx H1=>(∃ a,x=.ref a/\(∃ xs,lP K H1 a xs)/\R (Itl K a) H1)\/(∃ a,x=.ref a/\(∃ xs,qP K H1 a xs)/\R (Itt K a) H1)\/∃ z,x=.str z/\R (Its z) H1
theorem VO {X:Cx} {tg l:Expr} {tl:TE} (hl:PE X l tl):PI X tg l (aDd X.K tl):=by
 intro pins s σ H R I h
 refine lB (hl pins s σ H _ I h) λv s1 ⟨x,H1,I1,r1,q1⟩=>?_
 rcases q1 with ⟨a,rfl,⟨xs,hq⟩,q⟩ | ⟨a,rfl,⟨xs,hq⟩,q⟩ | ⟨z,rfl,q⟩
 ·cases r1
  obtain ⟨its,rv,p,hz⟩:=I1.list hq
  refine wpAny_pyIter_list p.isList ⟨s1.heap.objs.size,[s1.heap.objs.size],_,_,H1,rfl,I1.kept (t':=s1.toks) λb o e=>aP _ e,HA a _,⟨_,bW _ rfl,rfl,rfl⟩,λb hb=>?_,q⟩
  obtain rfl:b=s1.heap.objs.size:=by simpa using hb
  exact I1.fpOk (aL _) (I1.hok.fresh (aL _))
 ·cases r1
  obtain ⟨its,rv,p,hz⟩:=I1.tuple hq
  refine wpAny_pyIter_tuple (show s1.heap.IsTuple a its.toArray from p) ⟨s1.heap.objs.size,[s1.heap.objs.size],_,_,H1,rfl,I1.kept (t':=s1.toks) λb o e=>aP _ e,DN a _,⟨_,bW _ rfl,rfl,rfl⟩,λb hb=>?_,q⟩
  obtain rfl:b=s1.heap.objs.size:=by simpa using hb
  exact I1.fpOk (aL _) (I1.hok.fresh (aL _))
 ·obtain ⟨t,rfl⟩:=r1
  have fin:∀ (o:Obj) (ty:String),(∀ A:Around,A.handled=none->Walks X.prog X.w A s1.heap.objs.size [s1.heap.objs.size] [s1.heap.objs.size] z.cps.size (SignAt z) (λi h=>h.IsStrIter s1.heap.objs.size ty z t i)) ->
    (∀ (A:Around) (i:Nat) (s:Shared) (Q:Value->Shared->Prop) (E:Value->Shared->Prop),s.heap.IsStrIter s1.heap.objs.size ty z t i->Q (.ref s1.heap.objs.size) s->wpAny (model X.prog X.w) A (pyIter (.ref s1.heap.objs.size)) Q E s) ->
    (s1.heap.push o).IsStrIter s1.heap.objs.size ty z t 0->PIE X pins σ tg R (.ref s1.heap.objs.size) { s1 with heap:=s1.heap.push o }:=λo ty W S st=>by
   refine ⟨s1.heap.objs.size,[s1.heap.objs.size],_,Its z,H1,rfl,I1.kept (t':=s1.toks) λb o e=>aP _ e,G9 _ z t W S,⟨cC _,st⟩,λb hb=>?_,q⟩
   obtain rfl:b=s1.heap.objs.size:=by simpa using hb
   exact I1.fpOk (aL _) (I1.hok.fresh (aL _))
  cases ha:z.cps.all (·<128)
  ·exact wpAny_pyIter_wide ha (fin _ "str_iterator" (λA hA=>Walks.strWide hA _ z t) (λ_ _ _ _ _ st h=>wpAny_pyIter_striter_wide st h) ⟨_,bW _ rfl,rfl,rfl⟩)
  ·exact wpAny_pyIter_ascii ha (fin _ "str_ascii_iterator" (λA hA=>Walks.strAscii hA _ z t) (λ_ _ _ _ _ st h=>wpAny_pyIter_striter_ascii st h) ⟨_,bW _ rfl,rfl,rfl⟩)

structure BP where
 cl:List (Str×Addr)
 C:Addr
 s3:Shared
 H3:Hp
 ex:List Addr
 pn:List (Addr×Obj)
def blk (X:Cx) (scope:Scope) (N':List Str) (b:BP):Cx where
 prog:=X.prog
 w:=X.w
 K:=X.K
 mg:=X.mg
 base:=X.base
 A:=X.A
 N:=N'
 s₀:=b.s3
 H₀:=b.H3
 env:=compEnvC scope b.cl b.C X.env
 outer:=X.stack
 stack:=X.stack
 ex:=b.ex
 fn:=λx=>scope.names.lookup x == some .cell
 calm:=X.calm
 pn:=b.pn
 xe:=λ_ _=>False

theorem rL {env:Env}:∀ (names:List (Str×NameKind)) (acc:List (Str×Addr)),(∀ x∈names,x.2=.free->∃ c,env.cells.lookup x.1=some c) ->
  (∀ n c,acc.lookup n=some c->env.cells.lookup n=some c) ->
  ∃ cl:List (Str×Addr),(forIn names acc (λx cs=>match x with | (name,kind)=>if kind == .free then do let a <- cellOf env name;pure (ForInStep.yield ((name,a)::cs)) else pure (ForInStep.yield cs)):Sem (List (Str×Addr)))=pure cl /\
   (∀ n c,cl.lookup n=some c->env.cells.lookup n=some c)/\(∀ n,((∃ c,acc.lookup n=some c)\/(n,NameKind.free)∈names)->∃ c,cl.lookup n=some c)
 | [],acc,_,ha=>⟨acc,rfl,ha,λn h=>h.elim id λz=>absurd z (by simp)⟩
 | (n,k)::r,acc,h,ha=>by
  by_cases hk:k=.free
  ·subst hk
   obtain ⟨c,hc⟩:=h (n,.free) (aM ..) rfl
   obtain ⟨cl,e,h1,h2⟩:=rL r ((n,c)::acc) (λx hx=>h x (aK _ hx)) (λm d hm=>by
    rw [fB] at hm
    cases hb:m == n with
    | true =>
     rw [hb] at hm
     obtain rfl:m=n:=by simpa using hb
     cases hm;exact hc
    | false=>rw [hb] at hm;exact ha m d hm)
   refine ⟨cl,?_,h1,λm hm=>h2 m ?_⟩
   ·rw [Q4]
    have ec:cellOf env n=pure c:=by unfold cellOf;rw [hc]
    simp only [beq_self_eq_true,if_true,ec]
    exact e
   ·rcases hm with ⟨d,hd⟩ | hm
    ·left
     rw [fB]
     cases hb:m == n with
     | true=>exact ⟨c,rfl⟩
     | false=>exact ⟨d,hd⟩
    ·rcases aZ.mp hm with z | z
     ·left
      cases z
      exact ⟨c,by simp [fB]⟩
     ·exact .inr z
  ·obtain ⟨cl,e,h1,h2⟩:=rL r acc (λx hx=>h x (aK _ hx)) ha
   refine ⟨cl,?_,h1,λm hm=>h2 m (hm.imp id λz=>?_)⟩
   ·rw [Q4]
    have eb:(k == NameKind.free)=false:=by simpa using hk
    simp only [eb,cL,if_false]
    exact e
   ·rcases aZ.mp z with z | z
    ·cases z;exact absurd rfl hk
    ·exact z
theorem rK {env:Env} {scope:Scope} (h:∀ x∈scope.names,x.2=.free->∃ c,env.cells.lookup x.1=some c) :
  ∃ cl,closureFor scope env=pure cl/\(∀ n c,cl.lookup n=some c->env.cells.lookup n=some c)/\∀ n,(n,NameKind.free)∈scope.names->∃ c,cl.lookup n=some c:=by
 obtain ⟨cl,e,h1,h2⟩:=rL (env:=env) scope.names [] h (λn c z=>by simp at z)
 refine ⟨cl,?_,h1,λn z=>h2 n (.inr z)⟩
 unfold closureFor
 refine Eq.trans ?_ (congrArg (λm=>m >>= λr=>(pure r:Sem (List (Str×Addr)))) e)
 rfl

theorem oS {env:Env} {x:Str} {k:NameKind}:∀ {names:List (Str×NameKind)},
  (names.map λ(n,k)=>if (k == NameKind.free && env.scope.kind == .function && env.kindOf n == some .cell) then (n,NameKind.cell) else (n,k)).lookup x=some k ->
  ∃ k0,(x,k0)∈names/\(k0=k\/(k0=.free/\k=.cell))
 | [],h=>by simp at h
 | (n,j)::r,h=>by
  rw [bP,fB] at h
  dsimp only at h
  by_cases hc:(j == NameKind.free && env.scope.kind == .function && env.kindOf n == some .cell)=true
  ·rw [if_pos hc] at h
   dsimp only at h
   cases hb:x == n with
   | true =>
    rw [hb] at h
    obtain rfl:x=n:=by simpa using hb
    cases h
    have hj:j=.free:=by simp only [dB,beq_iff_eq] at hc;exact hc.1.1
    exact ⟨j,aM ..,.inr ⟨hj,rfl⟩⟩
   | false =>
    rw [hb] at h
    obtain ⟨k0,h1,h2⟩:=oS (names:=r) h
    exact ⟨k0,aK _ h1,h2⟩
  ·rw [if_neg hc] at h
   dsimp only at h
   cases hb:x == n with
   | true =>
    rw [hb] at h
    obtain rfl:x=n:=by simpa using hb
    cases h
    exact ⟨_,aM ..,.inl rfl⟩
   | false =>
    rw [hb] at h
    obtain ⟨k0,h1,h2⟩:=oS (names:=r) h
    exact ⟨k0,aK _ h1,h2⟩
theorem sD {env:Env} {x:Str}:∀ {names:List (Str×NameKind)},names.lookup x=some .free ->
  (names.map λ(n,k)=>if (k == NameKind.free && env.scope.kind == .function && env.kindOf n == some .cell) then (n,NameKind.cell) else (n,k)).lookup x=some .cell \/
  (names.map λ(n,k)=>if (k == NameKind.free && env.scope.kind == .function && env.kindOf n == some .cell) then (n,NameKind.cell) else (n,k)).lookup x=some .free
 | [],h=>by simp at h
 | (n,j)::r,h=>by
  rw [fB] at h
  rw [bP,fB]
  dsimp only
  cases hb:x == n with
  | true =>
   rw [hb] at h
   cases h
   by_cases hc:(NameKind.free == NameKind.free && env.scope.kind == .function && env.kindOf n == some .cell)=true
   ·rw [if_pos hc];dsimp only;rw [hb];exact .inl rfl
   ·rw [if_neg hc];dsimp only;rw [hb];exact .inr rfl
  | false =>
   rw [hb] at h
   have ih:=sD (env:=env) (names:=r) h
   by_cases hc:(j == NameKind.free && env.scope.kind == .function && env.kindOf n == some .cell)=true
   ·rw [if_pos hc];dsimp only;rw [hb];exact ih
   ·rw [if_neg hc];dsimp only;rw [hb];exact ih

def pX (names outer:List (Str×NameKind)) (Nx:List Str):List Str->List (Option Nat)->Bool
 | [],[]=>true
 | x::r,none::f=>pX names outer Nx r f
 | x::r,some j::f=>(names.lookup x == some .free) && (Nx[j]? == some x) && (outer.lookup x == some .cell) && pX names outer Nx r f
 | _,_=>false
theorem tT {names outer:List (Str×NameKind)} {Nx:List Str}:∀ {N':List Str} {fr:List (Option Nat)},pX names outer Nx N' fr=true ->
  N'.length=fr.length/\∀ (i:Nat) (x:Str) (j:Nat),N'[i]?=some x->fr[i]?=some (some j)->names.lookup x=some .free/\Nx[j]?=some x/\outer.lookup x=some .cell
 | [],[],_=>⟨rfl,λi x j h=>by simp at h⟩
 | x::r,none::f,h=>by
  obtain ⟨h1,h2⟩:=tT (N':=r) (fr:=f) h
  refine ⟨by simp [h1],λi y j e1 e2=>?_⟩
  cases i with
  | zero=>simp at e2
  | succ i=>exact h2 i y j (by simpa using e1) (by simpa using e2)
 | x::r,some k::f,h=>by
  simp only [pX,dB,beq_iff_eq] at h
  obtain ⟨⟨⟨a1,a2⟩,a3⟩,h⟩:=h
  obtain ⟨h1,h2⟩:=tT (N':=r) (fr:=f) h
  refine ⟨by simp [h1],λi y j e1 e2=>?_⟩
  cases i with
  | zero =>
   simp at e1 e2
   subst e1;subst e2
   exact ⟨a1,a2,a3⟩
  | succ i=>exact h2 i y j (by simpa using e1) (by simpa using e2)
 | [],_::_,h=>by simp [pX] at h
 | _::_,[],h=>by simp [pX] at h
def qZ (fr:List (Option Nat)) (σ:St):St:=fr.map λo=>o.bind λj=>(σ[j]?).join

theorem rC.but {P:bY} {w:World} {H:Hp} {h h':Heap} {a:Addr} (ok:rC P w H h) (n:H a=none) (sb:iH a h h'):rC P w H h':=λb ob e=>by
 refine (ok b ob e).stay (λc u hc q=>(sb.2 c ?_).trans q) (λ_ q=>q) λ_ _ q=>q
 rintro rfl
 rcases hc with rfl | hc
 ·rw [n] at e;cases e
 ·rw [n] at hc;cases hc

def JH (X:Cx) (ifs:List Expr) (tt:TT):Prop :=
 ∀ (pins:List (Addr×Obj)) (s:Shared) (σ:St) (H:Hp) (Q:Bool->Hp->Prop),dU X pins σ H s->tt σ H Q ->
  wpAny (model X.prog X.w) X.A (forIn ifs true λc r=>if r=true then do let ok <- isTrue c X.env (eval c X.env);pure (ForInStep.yield ok) else pure (ForInStep.yield r)) (TP X pins σ Q) X.xe s
def N6:TT:=λ_ H Q=>Q true H
theorem O8 {X:Cx}:JH X [] N6:=λ_ _ _ H _ I h=>wpAny_tests_nil ⟨H,I,h⟩
theorem O7 {X:Cx} {c:Expr} {tt:TT} (h:PT X c tt):JH X [c] tt:=λpins s σ H Q I q=>wpAny_tests_one (h pins s σ H Q I q)

def KH (fr:List (Option Nat)) (wi:TI) (g:BP->TG) (tt:BP->TT) (te:BP->TE):TE:=λσ H Q=>wi σ H λJ H1=>∀ (bp:BP) (acc:Addr),H1 acc=none->∃ W:Nat->Nat->St->Hp->Prop,
 (∃ m,W 0 m (qZ fr σ) (iM H1 acc (.lst [])))/\∀ i m σ' H',W i m σ' H' ->
  (J.stop i H'/\Q (.ref acc) H')\/(J.go i H'/\∀ x H2,J.yld i H' x H2->g bp x σ' H2 λσ2 H3=>tt bp σ2 H3 λb H4 =>
   if b=true then te bp σ2 H4 λy H5=>∃ ys,H5 acc=some (.lst ys)/\ys.length<bG/\∃ m',m'<m/\W (i+1) m' σ2 (iM H5 acc (.lst (ys++[y])))
   else ∃ m',m'<m/\W (i+1) m' σ2 H4)

theorem pC:∀ {names:List (Str×NameKind)},names.filter (λy=>y.2 == NameKind.cell)=[]->∀ (n:Nat) (acc:List (Str×Addr)) (h:Heap),cellsFrom n names acc=acc/\pushCells h names=h
 | [],_,_,_,_=>⟨rfl,rfl⟩
 | (x,k)::r,e,n,acc,h=>by
  rw [cM] at e
  cases hk:(k == NameKind.cell) with
  | true=>dsimp only at e;rw [hk,if_pos rfl] at e;cases e
  | false =>
   dsimp only at e
   rw [hk,if_neg cE] at e
   unfold cellsFrom pushCells
   rw [hk,if_neg cE,if_neg cE]
   exact pC e n acc h
theorem uA {z:Str}:∀ {names:List (Str×NameKind)},names.filter (λy=>y.2 == NameKind.cell)=[(z,.cell)]->∀ (n:Nat) (acc:List (Str×Addr)) (h:Heap),cellsFrom n names acc=(z,n)::acc/\pushCells h names=h.push { cls:=.type "cell",data:=.cell none }
 | [],e,_,_,_=>by cases e
 | (x,k)::r,e,n,acc,h=>by
  rw [cM] at e
  cases hk:(k == NameKind.cell) with
  | true =>
   dsimp only at e
   rw [hk,if_pos rfl] at e
   injection e with e1 e2
   injection e1 with e1 _
   subst e1
   unfold cellsFrom pushCells
   rw [hk,if_pos rfl,if_pos rfl]
   exact pC e2 (n+1) ((x,n)::acc) _
  | false =>
   dsimp only at e
   rw [hk,if_neg cE] at e
   unfold cellsFrom pushCells
   rw [hk,if_neg cE,if_neg cE]
   exact uA e n acc h
def qR (names:List (Str×NameKind)):Prop:=names.filter (λy=>y.2 == NameKind.cell)=[]\/∃ z,names.filter (λy=>y.2 == NameKind.cell)=[(z,.cell)]/\names.lookup z=some .cell
structure aDz (names:List (Str×NameKind)) (cl cl':List (Str×Addr)) (h:Heap) (C:Addr):Prop where
 get:∀ x c,cl'.lookup x=some c->(C<c/\(x,NameKind.cell)∈names/\h.IsCell c none)\/(cl.lookup x=some c/\(x,NameKind.cell)∉names)
 old:∀ x c,names.lookup x=some .free->cl.lookup x=some c->cl'.lookup x=some c
 has:∀ x,(x,NameKind.cell)∈names->∃ c,cl'.lookup x=some c
 keep:∀ x c,cl.lookup x=some c->∃ c',cl'.lookup x=some c'
 inj:∀ x y c,cl'.lookup x=some c->cl'.lookup y=some c->C<c->x=y
theorem PQ {M:Model} {A:Around} {E:Value->Shared->Prop} {s:Shared} {scope:Scope} {globals:Addr} {closure:List (Str×Addr)} {qual:Str} {outer:Env} {Q:Env->Shared->Prop} (hz:qR scope.names) (hlt:∀ x c,closure.lookup x=some c->c<s.heap.objs.size)
  (hQ:∀ h' cl',h'.Ns s.heap.objs.size (λ_=>none)->(∀ b o,s.heap.get? b=some o->h'.get? b=some o)->aDz scope.names closure cl' h' s.heap.objs.size->Q (newEnv scope s.heap.objs.size globals cl' qual none .none (some outer) builtinsNs) { s with heap:=h' }) :
  wpAny M A (newFunctionEnv scope globals closure [] qual none .none (some outer)) Q E s:=by
 simp only [newFunctionEnv,G5,if_true]
 refine aV (wpAny_alloc ?_)
 refine aV (wpAny_layCells _ (λname kind cells=>by cases hkc:kind == NameKind.cell<;>simp [hkc]) _ _ _ _ ?_)
 have mem:∀ x,(x,NameKind.cell)∈scope.names->(x,NameKind.cell)∈scope.names.filter (λy=>y.2 == NameKind.cell):=λx hx=>cU.mpr ⟨hx,rfl⟩
 rcases hz with hz | ⟨z,hz,hzl⟩
 ·rw [(pC hz _ _ s.heap).1,(pC hz 0 [] _).2]
  have no:∀ x,(x,NameKind.cell)∉scope.names:=λx hx=>by
   have:=mem x hx
   rw [hz] at this;cases this
  exact aV (bM (bM (hQ _ _ (Heap.Ns.new s.heap (.type "dict")) (λb o e=>aP _ e) ⟨λx c h=>.inr ⟨h,no x⟩,λx c _ h=>h,λx h=>absurd h (no x),λx c h=>⟨c,h⟩,λx y c h _ l=>absurd (hlt x c h) (qF l)⟩)))
 ·rw [(uA hz _ _ s.heap).1,(uA hz 0 [] _).2,show ({ s with heap:=s.heap.push { cls:=.type "dict",data:=.dict #[] } }:Shared).heap.objs.size=s.heap.objs.size+1 from iU ..]
  have isz:∀ x,(x,NameKind.cell)∈scope.names->x=z:=λx hx=>by
   have:=mem x hx
   rw [hz] at this
   exact congrArg Prod.fst (dN.mp this)
  have lk:∀ x c,((z,s.heap.objs.size+1)::closure).lookup x=some c->(x=z/\c=s.heap.objs.size+1)\/(x≠z/\closure.lookup x=some c):=λx c h=>by
   rw [fB] at h
   cases hb:x == z with
   | true=>rw [hb] at h;cases h;exact .inl ⟨eq_of_beq hb,rfl⟩
   | false=>rw [hb] at h;exact .inr ⟨ne_of_beq_false hb,h⟩
  have lko:∀ x c,x≠z->closure.lookup x=some c->((z,s.heap.objs.size+1)::closure).lookup x=some c:=λx c hx h=>by
   rw [fB,beq_eq_false_iff_ne.mpr hx];exact h
  have g:((s.heap.push { cls:=.type "dict",data:=.dict #[] }).push { cls:=.type "cell",data:=.cell none }).get? (s.heap.objs.size+1)=some { cls:=.type "cell",data:=.cell none }:=by
   have:=bW (s.heap.push { cls:=.type "dict",data:=.dict #[] }) (o:={ cls:=.type "cell",data:=.cell none }) rfl
   rwa [iU] at this
  refine aV (bM (bM (hQ _ _ ((Heap.Ns.new s.heap (.type "dict")).keeps λb o e=>aP _ e) (λb o e=>aP _ (aP _ e)) ⟨λx c h=>?_,λx c hx h=>lko x c (λe=>by rw [e,hzl] at hx;cases hx) h,λx hx=>⟨s.heap.objs.size+1,by rw [isz x hx];simp⟩,λx c h=>?_,λx y c h1 h2 l=>?_⟩)))
  ·rcases lk x c h with ⟨rfl,rfl⟩ | ⟨n,h⟩
   ·exact .inl ⟨lX _,PySem.mem_of_lookup hzl,_,g,rfl⟩
   ·exact .inr ⟨h,λhx=>n (isz x hx)⟩
  ·by_cases e:x=z
   ·exact ⟨s.heap.objs.size+1,by rw [e];simp⟩
   ·exact ⟨c,lko x c e h⟩
  ·rcases lk x c h1 with ⟨e1,_⟩ | ⟨_,g1⟩
   ·rcases lk y c h2 with ⟨e2,_⟩ | ⟨_,g2⟩
    ·exact e1.trans e2.symm
    ·exact absurd (hlt y c g2) (qF l)
   ·exact absurd (hlt x c g1) (qF l)
section
variable {X:Cx}
theorem IW {prog:bY} {w:World} {A:Around} {R:Result->Shared->Prop} {s:Shared} {elt target iter:Expr} {ifs:List Expr} {scope:Scope} {pos:Pos} {it acc:Value} {env:Env} (I:Nat->Shared->Prop)
  (turn:∀ n s,I n s->wpAny (model prog w) A (pyNext it) (λr s₁=>match r with
   | none=>R (.ok .next) s₁
   | some v=>wpAny (model prog w) A (letOwnedTupleGo target it v) (λ_ s1=>wpAny (model prog w) A (assign target env v) (λ_ s₂ =>
     wpAny (model prog w) A (forIn ifs true λc r=>if r=true then do let ok <- isTrue c env (eval c env);pure (ForInStep.yield ok) else pure (ForInStep.yield r)) (λok s₃ =>
      if ok=true then wpAny (model prog w) A (eval elt env) (λx s₄=>wpAny (model prog w) A (call (.builtin "list.append") [acc,x]) (λ_ s₅=>∃ m,m<n/\I m s₅) (λ_ _=>False) s₄) (λ_ _=>False) s₃
      else ∃ m,m<n/\I m s₃) (λ_ _=>False) s₂) (λ_ _=>False) s1) (λ_ _=>False) s₁) (λ_ _=>False) s)
  (n:Nat) (h:I n s):codeAny (model prog w) A (.compLoop (.ListComp elt [⟨target,iter,ifs,0⟩] scope pos) 0 it acc env) R s:=by
 refine codeAny_loop rfl I (λn s hI=>?_) n h
 show wpAny _ A ((compTurn (.ListComp elt [⟨target,iter,ifs,0⟩] scope pos) 0 it acc env).onRaise (λx=>do noteFrame x env;theTreesLotGoes x)) _ _ s
 refine wpAny_noted ?_
 rw [compTurn_list]
 have no:∀ {E:Value->Shared->Prop} (e:Value) (s:Shared),False->E e s:=λ_ _ z=>z.elim
 refine aV (wpAny_standAt (aV (fS (turn n s hI) (λr s₁ h₁=>?_) no)))
 cases r with
 | none=>exact bM h₁
 | some v =>
  refine aV (fS h₁ (λ_ s1 h1=>aV (fS h1 (λ_ s₂ h₂=>aV (fS h₂ (λok s₃ h₃=>?_) no)) no)) no)
  cases ok with
  | false=>exact bM ⟨rfl,h₃⟩
  | true=>exact aV (aV (fS h₃ (λx s₄ h₄=>aV (fS h₄ (λ_ s₅ h₅=>bM (bM ⟨rfl,h₅⟩)) no)) no))

variable {elt iter tg:Expr} {ifs:List Expr} {scope:Scope} {pos:Pos} {N':List Str} {fr:List (Option Nat)} {wi:TI} {g:BP->TG} {tt:BP->TT} {te:BP->TE}
theorem CM {pins:List (Addr×Obj)} {σ:St} {H2:Hp} {s2:Shared} {it:Addr} {fp:List Addr} {tn:Nat->Heap->Prop} {J:It} {Q:VK} {RR:Value->Addr->Result->Shared->Prop} {cl:List (Str×Addr)} {E:Value->Shared->Prop}
  (hcalm:X.calm=true) (hkind:scope.kind=.function) (hz:qR scope.names) (hfr:pX scope.names X.env.scope.names X.N N' fr=true)
  (hcl1:∀ n c,cl.lookup n=some c->X.env.cells.lookup n=some c) (hcl2:∀ n,(n,NameKind.free)∈scope.names->∃ c,cl.lookup n=some c)
  (hY:∀ b:BP,PG (blk X scope N' b) tg (g b)/\JH (blk X scope N' b) ifs (tt b)/\PE (blk X scope N' b) elt (te b))
  (I2:dU X pins σ H2 s2) (T:EU X.prog X.w X.K tg J fp it tn) (st2:tn 0 s2.heap) (f2:∀ b∈fp,uW X pins H2 b)
  (q:∀ (bp:BP) (acc:Addr),H2 acc=none->∃ W:Nat->Nat->St->Hp->Prop,(∃ m,W 0 m (qZ fr σ) (iM H2 acc (.lst [])))/\∀ i m σ' H',W i m σ' H' ->
   (J.stop i H'/\Q (.ref acc) H')\/(J.go i H'/\∀ x H2,J.yld i H' x H2->g bp x σ' H2 λσ2 H3=>tt bp σ2 H3 λb H4 =>
    if b=true then te bp σ2 H4 λy H5=>∃ ys,H5 acc=some (.lst ys)/\ys.length<bG/\∃ m',m'<m/\W (i+1) m' σ2 (iM H5 acc (.lst (ys++[y])))
    else ∃ m',m'<m/\W (i+1) m' σ2 H4))
  (hRR:∀ acc C s' HY m,dU X pins σ HY s'->uW X pins HY C->s'.heap.Ns C m->Q (.ref acc) HY->RR (.ref acc) C (.ok .next) s') :
  wpAny (model X.prog X.w) X.A (newList []) (λacc s₃=>wpAny (model X.prog X.w) X.A (newFunctionEnv scope X.env.globals cl [] X.env.qual none .none (some X.env)) (λcenv s₄ =>
   codeAny (model X.prog X.w) X.A (.compStart (.ListComp elt [⟨tg,iter,ifs,0⟩] scope pos) 0 (.ref it) acc { cenv with scope:=relabel scope X.env }) (RR acc cenv.locals) s₄) E s₃) E s2:=by
 obtain ⟨hfl,hfg⟩:=tT hfr
 have hacc:H2 s2.heap.objs.size=none:=I2.hok.fresh (aL _)
 refine lV ?_ (by show 0<=bG;exact cC _)
 generalize hs3:({ s2 with heap:=s2.heap.push { cls:=.type "list",dict:=none,data:=.seq ([]:List Value).toArray } }:Shared)=s3
 have I3:dU X pins σ (iM H2 s2.heap.objs.size (.lst [])) s3:=by
  rw [<- hs3]
  exact I2.laid (t':=s2.toks) (λb u e=>aP _ e) (aL _) ⟨cC _,[],0,.nil,bW _ rfl⟩
 have hfp:∀ b∈fp,b<s3.heap.objs.size:=λb hb=>by
  obtain ⟨o,e,_⟩:=T.obj 0 _ st2 b hb
  rw [<- hs3]
  exact bE (aP _ e)
 have st3:tn 0 s3.heap:=T.keep 0 _ _ st2 λb _ o e=>by rw [<- hs3];exact aP _ e
 have f3:∀ b∈fp,uW X pins (iM H2 s2.heap.objs.size (.lst [])) b:=λb hb=>⟨by
  obtain ⟨o,e,_⟩:=T.obj 0 _ st2 b hb
  rw [cT (dR (bE e))]
  exact (f2 b hb).1,(f2 b hb).2⟩
 refine PQ hz (λx c e=>by obtain ⟨v,o,ho,_⟩:=I3.cell x c (hcl1 x c e);exact bE ho) λh₁ cl' hns keep hnw=>?_
 generalize hH3:iM H2 s2.heap.objs.size (.lst [])=H3 at *
 generalize hac:s2.heap.objs.size=ac at *
 generalize hC:s3.heap.objs.size=C at *
 obtain ⟨W,⟨m0,w0⟩,turn⟩:=q ⟨cl',C,s3,H3,fp,X.pn++pins⟩ ac hacc
 rw [hH3] at w0
 have cellLt:∀ x c,X.env.cells.lookup x=some c->c<C:=λx c e=>by
  obtain ⟨v,o,ho,_⟩:=I3.cell x c e
  rw [<- hC];exact bE ho
 have hCfp:∀ b∈fp,b≠C:=λb hb=>by exact dR (hfp b hb)
 have hCl:X.env.locals<C:=by rw [<- hC];exact I3.lt
 have hstk:∀ b∈CT X.stack,b≠C/\H3 b=none:=λb hb=>⟨by
  rintro rfl
  rcases aZ.mp (I3.stkSub b hb) with z | z
  ·rw [z] at hCl;exact absurd hCl (gI _)
  ·exact I3.nofs (by rw [hC];exact aL _) z,I3.stkFree b hb⟩
 have cellNe:∀ x c,X.env.cells.lookup x=some c->c≠C:=λx c e z=>by
  obtain ⟨v,o,ho,_⟩:=I3.cell x c e
  have:=bE ho
  rw [z,hC] at this
  exact absurd this (gI _)
 -- the block's context
 have okY:(blk X scope N' ⟨cl',C,s3,H3,fp,X.pn++pins⟩).Ok:=by
  refine ⟨I3.ok.mod,hkind,I3.ok.glob,I3.ok.blt,lI hC,λx y c h1 h2=>by
   rcases hnw.get x c h1 with ⟨l1,_⟩ | ⟨g1,_⟩<;>rcases hnw.get y c h2 with ⟨l2,_⟩ | ⟨g2,_⟩
   ·exact hnw.inj x y c h1 h2 l1
   ·exact absurd (cellLt y _ (hcl1 y _ g2)) (qF l1)
   ·exact absurd (cellLt x _ (hcl1 x _ g1)) (qF l2)
   ·exact I3.ok.inj x y c (hcl1 x c g1) (hcl1 y c g2),λx hx=>?_,λx c hf h=>by
   rcases hnw.get x c h with ⟨l,_⟩ | ⟨_,n⟩
   ·exact bO (lI hC) (iJ l)
   ·exact absurd (PySem.mem_of_lookup (beq_iff_eq.mp hf)) n,λ_=>I3.ok.hd hcalm,I3.ok.frames,.inl rfl,
   λb hb=>⟨hCfp b hb,λx c h=>by
    rcases hnw.get x c h with ⟨l,_⟩ | ⟨h,_⟩
    ·exact mV (E3 (hfp b hb) l)
    ·exact (f3 b hb).2.2.2.2.1 x c (hcl1 x c h)⟩,λb o e=>I3.bs b o e,?_,λb o e hb=>?_,λb hb hs=>?_,I3.stack,λb hb=>(hstk b hb).2,I3.env0.tab⟩
  ·have back:∀ k,(relabel scope X.env).names.lookup x=some k->(k=.cell\/k=.free)->∃ c,(cl').lookup x=some c:=λk h hk=>by
    obtain ⟨k0,h1,h2⟩:=oS h
    rcases (show k0=.cell\/k0=.free from h2.elim (λe=>by rw [e];exact hk) λe=>.inr e.1) with rfl | rfl
    ·exact hnw.has x h1
    ·obtain ⟨c,hc⟩:=hcl2 x h1
     exact hnw.keep x c hc
   rcases hx with hx | hx
   ·exact back _ hx (.inl rfl)
   ·exact back _ hx (.inr rfl)
  ·exact bO I3.ok.bsz (bO I3.sz (aL _))
  ·rcases (f3 b hb).2.2.2.1 with z | z
   ·exact I3.ok.noex b o e z
   ·exact absurd (cG (bE (I3.ok.bs b o e).1) z) (gI _)
  ·rcases aZ.mp (I3.stkSub b hs) with z | z
   ·exact (f3 b hb).2.1 z
   ·exact (f3 b hb).2.2.1 z
 have hH3C:H3 C=none:=I3.hok.fresh (lI hC)
 have IY:dU (blk X scope N' ⟨cl',C,s3,H3,fp,X.pn++pins⟩) [] (qZ fr σ) H3 { s3 with heap:=h₁ }:=by
  refine ⟨okY,rfl,I3.bare,Un.kept keep,⟨_,hns,λi x v h1 h2 _=>?_⟩,λx c e=>?_,hH3C,λx c e=>(by
   rcases hnw.get x c e with ⟨l,_⟩ | ⟨e,_⟩
   ·exact I3.hok.fresh (by rw [hC];exact iJ l)
   ·exact I3.freeC x c (hcl1 x c e)),λp hp=>?_,I3.hok.kept keep,?_⟩
  ·have e:∃ j,fr[i]?=some (some j)/\σ[j]?=some (some v):=by
    unfold qZ at h2
    rw [aJ] at h2
    cases hf:fr[i]? with
    | none=>rw [hf] at h2;cases h2
    | some o =>
     rw [hf] at h2
     cases o with
     | none=>cases h2
     | some j =>
      refine ⟨j,rfl,?_⟩
      have h2':(σ[j]?).join=some v:=by simpa using h2
      cases hj:σ[j]? with
      | none=>rw [hj] at h2';cases h2'
      | some o=>rw [hj] at h2';rw [show o=some v from h2']
   obtain ⟨j,e1,e2⟩:=e
   obtain ⟨a1,a2,a3⟩:=hfg i x j h1 e1
   obtain ⟨m,hn,hl⟩:=I3.loc
   obtain ⟨u,r,l⟩:=hl j x v a2 e2 (.inr (.inl a3))
   refine ⟨u,r,.inr ⟨sD a1,?_⟩⟩
   rcases l with ⟨k,_⟩ | ⟨_,c,hc,o,ho,hd⟩
   ·have k':X.env.scope.names.lookup x=some .local:=k
    rw [a3] at k';cases k'
   ·obtain ⟨c',hc'⟩:=hcl2 x (PySem.mem_of_lookup a1)
    have z:=hcl1 x c' hc'
    rw [hc] at z;cases z
    exact ⟨c,hnw.old x c a1 hc',o,keep c o ho,hd⟩
  ·rcases hnw.get x c e with ⟨_,_,hnc⟩ | ⟨e,_⟩
   ·exact ⟨none,hnc⟩
   ·obtain ⟨v,o,ho,hd⟩:=I3.cell x c (hcl1 x c e)
    exact ⟨v,o,keep c o ho,hd⟩
  ·obtain ⟨e,n,ne,nf,d⟩:=I3.pin p (by have hp':p∈(X.pn++pins)++[]:=hp;simpa using hp')
   refine ⟨keep _ _ e,n,?_,λz=>?_,d⟩
   ·have:=bE e
    rw [hC] at this
    exact dR this
   ·rcases aZ.mp (I3.stkSub p.1 z) with z | z
    ·exact ne z
    ·exact nf z
  ·unfold qZ
   rw [aC]
   exact hfl.symm
 have stat:∀ {H':Hp},(∀ b∈fp,H' b=none)->∀ b∈fp,uW (blk X scope N' ⟨cl',C,s3,H3,fp,X.pn++pins⟩) [] H' b:=λ{H'} hn b hb =>
  ⟨hn b hb,hCfp b hb,λz=>by
   rcases aZ.mp (I3.stkSub b z) with z | z
   ·exact (f3 b hb).2.1 z
   ·exact (f3 b hb).2.2.1 z,  .inl hb,λx c e=>(by
   rcases hnw.get x c e with ⟨l,_⟩ | ⟨e,_⟩
   ·exact mV (E3 (hfp b hb) l)
   ·exact (f3 b hb).2.2.2.2.1 x c (hcl1 x c e)),λp hp=>(f3 b hb).2.2.2.2.2 p (by have hp':p∈(X.pn++pins)++[]:=hp;simpa using hp')⟩
 obtain ⟨hg,ht,he⟩:=hY ⟨cl',C,s3,H3,fp,X.pn++pins⟩
 have loop:codeAny (model X.prog X.w) X.A (.compLoop (.ListComp elt [⟨tg,iter,ifs,0⟩] scope pos) 0 (.ref it) (.ref ac) (compEnvC scope cl' C X.env)) (RR (.ref ac) C) { s3 with heap:=h₁ }:=by
  refine IW (λn s'=>∃ i σ' H',dU (blk X scope N' ⟨cl',C,s3,H3,fp,X.pn++pins⟩) [] σ' H' s'/\tn i s'.heap/\(∀ b∈fp,H' b=none)/\W i n σ' H') ?_ m0
   ⟨0,qZ fr σ,H3,IY,T.keep 0 _ _ st3 λb _ o e=>keep b o e,λb hb=>(f3 b hb).1,w0⟩
  rintro n s4 ⟨i,σ4,H4,I4,st4,fr4,w4⟩
  rcases turn i n σ4 H4 w4 with ⟨stop,qn⟩ | ⟨go,step⟩
  ·refine lB (T.done (blk X scope N' ⟨cl',C,s3,H3,fp,X.pn++pins⟩) rfl rfl rfl hcalm i [] s4 σ4 H4 _ I4 (stat fr4) st4 stop) λr s5 ⟨hr,I5⟩=>?_
   subst hr
   obtain ⟨m,hn,_⟩:=I5.loc
   have IX:dU X pins σ H4 s5:=I3.call' I5.os I5.base I5.hok I5.bare λb hb=>⟨(f3 b hb).2.2.2.1,(f3 b hb).2.1,(f3 b hb).2.2.2.2.1,(f3 b hb).2.2.2.2.2⟩
   exact hRR ac C s5 H4 m IX (I3.fpOk (lI hC) I5.free) hn qn
  ·refine lB (T.item (blk X scope N' ⟨cl',C,s3,H3,fp,X.pn++pins⟩) rfl rfl rfl hcalm i [] s4 σ4 H4 (λ_ _=>False) I4 (stat fr4) st4 go) λr s5 ⟨u,hr,h5⟩=>?_
   subst hr
   refine lB h5 λ_ s6 ⟨x,H6,I6,r6,y6,st6,fr6⟩=>?_
   have I6':=I6.pinned (stat fr6) (T.obj _ _ st6)
   refine lB (hg _ s6 σ4 H6 x u _ I6' r6 (step x H6 y6)) λ_ s7 ⟨σ7,H7,I7,q7⟩=>?_
   refine lB (ht _ s7 σ7 H7 _ I7 q7) λok s8 ⟨H8,I8,q8⟩=>?_
   have again:∀ {s9:Shared} {σ9:St} {H9:Hp} {m':Nat},dU (blk X scope N' ⟨cl',C,s3,H3,fp,X.pn++pins⟩) ([]++wD fp s6.heap) σ9 H9 s9->m'<n->W (i+1) m' σ9 H9 ->
     ∃ m,m<n/\∃ i σ' H',dU (blk X scope N' ⟨cl',C,s3,H3,fp,X.pn++pins⟩) [] σ' H' s9/\tn i s9.heap/\(∀ b∈fp,H' b=none)/\W i m σ' H':=λ{s9 σ9 H9 m'} I9 hm w9=>by
    refine ⟨m',hm,i+1,σ9,H9,I9.unpinned,T.keep _ _ _ st6 λb hb o e=>(I9.pin (b,o) (dM _ (dM _ (oX hb e)))).1,λb hb=>?_,w9⟩
    obtain ⟨o,e,d⟩:=T.obj _ _ st6 b hb
    exact (I9.pin (b,o) (dM _ (dM _ (oX hb e)))).2.1
   cases ok with
   | false =>
    obtain ⟨m',hm,w8⟩:=q8
    exact again I8 hm w8
   | true =>
    refine lB (he _ s8 σ7 H8 _ I8 q8) λy s9 ⟨yv,H9,I9,r9,ys,hys,hz,m',hm,w9⟩=>?_
    refine lB (gT (X:=blk X scope N' ⟨cl',C,s3,H3,fp,X.pn++pins⟩) _ s9 σ7 H9 (.ref ac) [yv] (.ref ac) [y] (λ_ H'=>H'=iM H9 ac (.lst (ys++[yv]))) I9 rfl (.cons r9 .nil) ⟨ac,ys,yv,rfl,rfl,hys,hz,rfl⟩) λ_ s10 ⟨_,H10,I10,_,e10⟩=>?_
    subst e10
    exact again I10 hm w9
 exact codeAny_compStart_list loop (T.self _ 0 _ _ _ (T.keep 0 _ _ st3 λb _ o e=>keep b o e) loop)

theorem Y3 (hcalm:X.calm=true) (hkind:scope.kind=.function) (hz:qR scope.names) (hfr:pX scope.names X.env.scope.names X.N N' fr=true)
  (hfree:∀ y∈scope.names,y.2=.free->X.env.scope.names.lookup y.1=some .cell) (hnames:∀ x∈scope.names,x.2=.local->scope.names.lookup x.1=some .local) (hi:PI X tg iter wi)
  (hY:∀ b:BP,PG (blk X scope N' b) tg (g b)/\JH (blk X scope N' b) ifs (tt b)/\PE (blk X scope N' b) elt (te b))
  (hs:∀ x,foldedSetIterable iter X.env x=pure x:=by intro _;rfl):PE X (.ListComp elt [⟨tg,iter,ifs,0⟩] scope pos) (KH fr wi g tt te):=by
 intro pins s σ H Q I h
 obtain ⟨cl,hclos,hcl1,hcl2⟩:=rK (env:=X.env) (scope:=scope) λy hy hk=>I.ok.has y.1 (.inl (hfree y hy hk))
 rw [eval_ListComp]
 refine wpAny_comprehension_free (use:=none) rfl hs hclos hkind hnames (lB (hi pins s σ H _ I h) λv s1 h1=>lB h1 λitv s2 h2=>?_)
 obtain ⟨it,fp,tn,J,H2,rfl,I2,T,st2,f2,q⟩:=h2
 refine CM (RR:=λacc C=>compPost (model X.prog X.w) X.A X.xe none (EP X pins σ Q) acc C) hcalm hkind hz hfr hcl1 hcl2 hY I2 T st2 f2 q λacc C s' HY m I' f' hn q'=>?_
 exact ⟨m,hn,λh' sb=>⟨.ref acc,HY,I'.turned (t':=s'.toks) (λb o hb e=>(sb.2 b hb).trans e) f'.1 f'.2.1 f'.2.2.2.1 f'.2.2.2.2.1 f'.2.2.2.2.2,rfl,q'⟩⟩
theorem K6 {i:Nat} {x:Str} {px spos:Pos} (hN:X.N.Nodup) (hix:X.N[i]?=some x) (hx:ND X.env.scope x) (hcalm:X.calm=true) (hkind:scope.kind=.function) (hz:qR scope.names) (hfr:pX scope.names X.env.scope.names X.N N' fr=true)
  (hfree:∀ y∈scope.names,y.2=.free->X.env.scope.names.lookup y.1=some .cell) (hnames:∀ x∈scope.names,x.2=.local->scope.names.lookup x.1=some .local) (hi:PI X tg iter wi)
  (hY:∀ b:BP,PG (blk X scope N' b) tg (g b)/\JH (blk X scope N' b) ifs (tt b)/\PE (blk X scope N' b) elt (te b))
  (hsw:qU (.ListComp elt [⟨tg,iter,ifs,0⟩] scope pos) (some (.Name x px)) spos.line X.env=pure true)
  (hs:∀ x,foldedSetIterable iter X.env x=pure x:=by intro _;rfl) (hf:X.fn x=true\/X.env.scope.names.lookup x=some .local:=by first | exact .inl rfl | exact .inr rfl | assumption) :
  PS X (.Assign [.Name x px] (.ListComp elt [⟨tg,iter,ifs,0⟩] scope pos) spos) (zU (KH fr wi g tt te) (kT i)):=by
 intro pins s σ H D I h
 obtain ⟨cl,hclos,hcl1,hcl2⟩:=rK (env:=X.env) (scope:=scope) λy hy hk=>I.ok.has y.1 (.inl (hfree y hy hk))
 rw [exec_Assign_Name_used _ _ _ _ hsw]
 refine aV (wpAny_standAt (aV ?_))
 show wpAny _ _ (do let _ <- comprehension (.ListComp elt [⟨tg,iter,ifs,0⟩] scope pos) scope X.env _ (newList []) false (eval iter X.env) (some (assign (.Name x px) X.env))) _ _ s
 refine aV (fS (wpAny_comprehension_free (use:=some (assign (.Name x px) X.env)) (Q:=λ_ s'=>SP X pins D .next s') rfl hs hclos hkind hnames
  (lB (hi pins s σ H _ I h) λv s1 h1=>lB h1 λitv s2 h2=>?_)) (λ_ s' hq=>bM (bM hq)) λ_ _ e=>e)
 obtain ⟨it,fp,tn,J,H2,rfl,I2,T,st2,f2,q⟩:=h2
 refine CM (RR:=λacc C=>compPost (model X.prog X.w) X.A X.xe (some (assign (.Name x px) X.env)) (λ_ s'=>SP X pins D .next s') acc C) (Q:=λx H1=>kT i x σ H1 D.nx) hcalm hkind hz hfr hcl1 hcl2 hY I2 T st2 f2 q λacc C s' HY m I' f' hn q'=>?_
 show wpAny _ _ (assign (.Name x px) X.env (.ref acc)) _ _ _
 refine wpAny_assign_Name (yN I' hN hix hx (v:=.ref acc) rfl (λs2' I2' hch=>?_) hf)
 obtain ⟨a,sb,ha⟩:=hch
 have hCa:C≠a:=by
  rcases ha with z | z
  ·rw [z];exact f'.2.1
  ·exact λe=>f'.2.2.2.2.1 x a z e.symm
 exact ⟨m,hn.sameBut sb hCa,λh' sb'=>⟨_,HY,I2'.turned (t':=s2'.toks) (λb o hb e=>(sb'.2 b hb).trans e) f'.1 f'.2.1 f'.2.2.2.1 f'.2.2.2.2.1 f'.2.2.2.2.2,q'⟩⟩
end
end L2

namespace L2
open PySem PySem.Spec PyProof.Rows
section
variable {prog:bY} {w:World} {A:Around} {E:Value->Shared->Prop} {h:Heap} {g:Array GenState} {d:Drawn} {t:Nat} {os:OsState} {a C:Addr} {ox:Obj} {od:Option Obj} {K:aE}
structure aDu (K:aE) (C:Addr):Prop where
 ga:kY K (.ref C) "__getattribute__"=some (some (.builtin "BaseException.__getattribute__"))
 gt:kY K (.ref C) "__getattr__"=some none
 cl:kY K (.ref C) "__class__"=some (some (.builtin "object.__class__"))
 ob:NP K C (.type "object")=some true
 be:NP K C (.type "BaseException")=some true
def XOk (K:aE) (C:Addr):Prop:=aDu K C/\∀ T∈["int","str","list","tuple","bool"],PySem.W.kitOne K (.ref C) (.type T)=some false
end
structure sQ (k:Nat) (A:Around):Prop where
 dp:A.depth+3*k+5<recursionLimit
 un:A.units+16*k+200<cLine
 gd:A.guards=some []
theorem gG.h {k:Nat} {A:Around} (r:gG k A):sQ k A:=⟨r.dp,r.un,r.gd⟩
theorem sQ.mono {j k:Nat} {A:Around} (r:sQ k A) (h:j<=k):sQ j A:=⟨by have:=r.dp;omega,by have:=r.un;omega,r.gd⟩
theorem sQ.deeper {k:Nat} {A:Around} (r:sQ (k+1) A) (env:Env):sQ k (A.deeper env):=⟨by have:=r.dp;show A.depth+1+3*k+5<_;omega,by have:=r.un;show A.units+3+16*k+200<_;omega,r.gd⟩
theorem sQ.depth {k:Nat} {A:Around} (r:sQ k A):A.depth<recursionLimit:=by have:=r.dp;omega
section
variable {X:Cx} {CX:G3} {k:Nat} {f C:Addr} {fd:dF} {ps:List Str} {sp:Sp} {dvs:List V} {ds:List Value} {E:XK} {x m:Str} {p pos apos:Pos} {e o:Expr} {es:List Expr} {ta:TE} {t:TA}
end
section
variable {P:bY} {w:World} {K:aE} {mg:Str->Option Value} {base:Heap}
end
end L2

namespace TL
open PySem PySem.Spec PyProof.Rows L2
abbrev D:=PySem.PyData
def V3 (p:Addr) (h:Heap):Prop:=∃ (its:List Value) (n:Nat),h.get? p=some { cls:=.type "list",data:=.seq its.toArray n }/\its.length<=1000/\∀ v∈its,∃ (i:Int) (t:Tok),v=.int i t/\0<=i/\i<4096
def UC (p C:Addr) (dx:Option Addr) (h:Heap):Prop:=∃ o vs,h.get? p=some o/\o.cls=.ref C/\o.dict=dx/\o.data=.fields vs
def UZ (p q:Addr) (h:Heap):Prop:=∃ (a b c:Int) (ta tb tc:Tok) (n:Nat),h.get? p=some { cls:=.type "list",data:=.seq [Value.ref q,.int a ta,.int b tb,.int c tc].toArray n }/\0<=a/\(c=0\/c=1)
def aBd (e:Int×Addr×V) (x:DictEntry):Prop:=x.hash=e.1/\x.key=.ref e.2.1/\gO e.2.2 x.val
def aBe (p:Addr) (es:List (Int×Addr×V)) (h:Heap):Prop:=(p == sysModules)=false/\es.length<=bG/\∃ o xs ep,h.get? p=some o/\o.ExactDict/\o.data=.dict xs ep/\Paired aBd es xs.toList
def aDo (p:Addr) (es:List (Int×Addr×V)):HO:=.ext (aBe p es)
def XR (p:Addr) (es:List (Int×Addr×V)) (ep:Nat) (h:Heap):Prop:=(p == sysModules)=false/\es.length<=bG/\∃ o xs,h.get? p=some o/\o.ExactDict/\o.data=.dict xs ep/\Paired aBd es xs.toList
def aDp (p:Addr) (es:List (Int×Addr×V)) (ep:Nat):HO:=.ext (XR p es ep)
mutual
inductive iA (K:aE) (H:Hp):D->V->Prop
 | none:iA K H .none .non
 | bool (b:Bool):iA K H (.bool b) (.bl b)
 | int (i:Int):iA K H (.int i) (.int i)
 | str (x:Str):iA K H (.str x) (.str x)
 | list {p:Addr} {xs:List V} {ts:List D}:lP K H p xs->Reps K H ts xs->iA K H (.list ts) (.ref p)
 | tuple {p:Addr} {xs:List V} {ts:List D}:qP K H p xs->Reps K H ts xs->iA K H (.tuple ts) (.ref p)
 | wild {p:Addr}:H p=some (.ext (V3 p))->iA K H (.dict []) (.ref p)
 | exc {p C:Addr}:XOk K C->H p=some (.ext (UC p C Option.none))->iA K H (.dict [(.int (C:Nat),.none)]) (.ref p)
 | excA {p C dx:Addr} {n:Int}:XOk K C->H p=some (.ext (UC p C (some dx)))->H dx=some (.xd [("at",.int n)])->iA K H (.dict [(.int (C:Nat),.int n)]) (.ref p)
 | tape {p q:Addr} {ns:List Int}:H p=some (.ext (UZ p q))->lP K H q (ns.map V.int)->iA K H (.dict [(.none,.list (ns.map aX))]) (.ref p)
 | dct {p:Addr} {es:List (Int×Addr×V)} {ep:Nat} {kvs:List (D×D)}:H p=some (aDp p es ep)->(kvs.map (·.1)).Nodup->Reps K H (kvs.map (·.1)) (es.map λe=>.ref e.2.1)->Reps K H (kvs.map (·.2)) (es.map λe=>e.2.2)->iA K H (.dict ((.str "{}",.list ((es.map (·.1)).map aX))::kvs)) (.ref p)
 | addr {p:Addr} (z:List D):iA K H (.dict [(.str "@",.list (.int (p:Nat)::z))]) (.ref p)
 | ins {p C dx:Addr} {fs:List (Str×V)} {ds:List D}:H p=some (.ins C dx fs)->Reps K H ds (fs.map (·.2))->iA K H (.dict [(.str "obj",.tuple [.int (C:Nat),.list ((fs.map (·.1)).map aR),.list ds])]) (.ref p)
inductive Reps (K:aE) (H:Hp):List D->List V->Prop
 | nil:Reps K H [] []
 | cons {t:D} {ts:List D} {x:V} {xs:List V}:iA K H t x->Reps K H ts xs->Reps K H (t::ts) (x::xs)
end
variable {K:aE} {H H' H1 H2:Hp}
theorem bH.seqT {a:Addr} {xs:List V} (e:bH H H') (h:qP K H a xs):qP K H' a xs:=by
 rcases h with (h | ⟨o,h⟩) | h
 ·exact .inl (.inl (e _ _ h))
 ·exact .inl (.inr ⟨o,e _ _ h⟩)
 ·exact .inr h
mutual
theorem iA.same (e:bH H H'):∀ {d:D} {v:V},iA K H d v->iA K H' d v
 | _,_,.none=>.none
 | _,_,.bool b=>.bool b
 | _,_,.int i=>.int i
 | _,_,.str x=>.str x
 | _,_,.list q r=>.list (L2.bH.seq e q) (Reps.same e r)
 | _,_,.tuple q r=>.tuple (bH.seqT e q) (Reps.same e r)
 | _,_,.wild h=>.wild (e _ _ h)
 | _,_,.exc x h=>.exc x (e _ _ h)
 | _,_,.excA x h g=>.excA x (e _ _ h) (e _ _ g)
 | _,_,.tape h g=>.tape (e _ _ h) (L2.bH.seq e g)
 | _,_,.dct h n r t=>.dct (e _ _ h) n (Reps.same e r) (Reps.same e t)
 | _,_,.addr z=>.addr z
 | _,_,.ins h r=>.ins (e _ _ h) (Reps.same e r)
theorem Reps.same (e:bH H H'):∀ {ds:List D} {vs:List V},Reps K H ds vs->Reps K H' ds vs
 | _,_,.nil=>.nil
 | _,_,.cons r s=>.cons (iA.same e r) (Reps.same e s)
end
theorem Reps.length:∀ {ds:List D} {vs:List V},Reps K H ds vs->ds.length=vs.length
 | _,_,.nil=>rfl
 | _,_,.cons _ s=>by simp [Reps.length s]
theorem Reps.get:∀ {ds:List D} {vs:List V} {i:Nat} {d:D},Reps K H ds vs->ds[i]?=some d->∃ v,vs[i]?=some v/\iA K H d v
 | _,_,_,_,.nil,e=>by simp at e
 | _,_,0,_,.cons r _,e=>by simp at e;subst e;exact ⟨_,rfl,r⟩
 | _,_,i+1,d,.cons _ s,e=>by
  obtain ⟨v,h1,h2⟩:=Reps.get (i:=i) (d:=d) s (by simpa using e)
  exact ⟨v,by simpa using h1,h2⟩
theorem Reps.get':∀ {ds:List D} {vs:List V} {i:Nat} {v:V},Reps K H ds vs->vs[i]?=some v->∃ d,ds[i]?=some d/\iA K H d v
 | _,_,_,_,.nil,e=>by simp at e
 | _,_,0,_,.cons r _,e=>by simp at e;subst e;exact ⟨_,rfl,r⟩
 | _,_,i+1,d,.cons _ s,e=>by
  obtain ⟨v,h1,h2⟩:=Reps.get' (i:=i) (v:=d) s (by simpa using e)
  exact ⟨v,by simpa using h1,h2⟩
theorem Reps.append:∀ {ds es:List D} {vs us:List V},Reps K H ds vs->Reps K H es us->Reps K H (ds++es) (vs++us)
 | _,_,_,_,.nil,s=>s
 | _,_,_,_,.cons r t,s=>.cons r (Reps.append t s)
theorem Reps.take:∀ {ds:List D} {vs:List V} (n:Nat),Reps K H ds vs->Reps K H (ds.take n) (vs.take n)
 | _,_,0,_=>.nil
 | _,_,_+1,.nil=>.nil
 | _,_,n+1,.cons r t=>.cons r (Reps.take n t)
theorem Reps.drop:∀ {ds:List D} {vs:List V} (n:Nat),Reps K H ds vs->Reps K H (ds.drop n) (vs.drop n)
 | _,_,0,r=>r
 | _,_,_+1,.nil=>.nil
 | _,_,n+1,.cons _ t=>Reps.drop n t
theorem Reps.reverse {ds:List D} {vs:List V} (r:Reps K H ds vs):Reps K H ds.reverse vs.reverse:=by
 induction ds generalizing vs with
 | nil=>cases r;exact .nil
 | cons d ds ih =>
  cases r with
  | cons r s =>
   rw [oI,oI]
   exact (ih s).append (.cons r .nil)

def mask (H:Hp) (ps:List Addr):Hp:=λb=>if b∈ps then none else H b
theorem cJ {ps:List Addr} (e:bH H H'):bH (mask H ps) (mask H' ps):=λb o h=>by
 unfold mask at h |-
 by_cases hb:b∈ps
 ·rw [if_pos hb] at h;cases h
 ·rw [if_neg hb] at h |-;exact e b o h
theorem kQ {ps ps':List Addr} (h:∀ p∈ps',p∈ps):bH (mask H ps) (mask H ps'):=λb o e=>by
 unfold mask at e |-
 by_cases hb:b∈ps
 ·rw [if_pos hb] at e;cases e
 ·rw [if_neg hb] at e
  rw [if_neg λz=>hb (h b z)]
  exact e
theorem dA {ps:List Addr}:bH (mask H ps) H:=λb o e=>by
 unfold mask at e
 by_cases hb:b∈ps
 ·rw [if_pos hb] at e;cases e
 ·rw [if_neg hb] at e;exact e
theorem kR {ps:List Addr} {p:Addr} {o:HO} (h:H p=none):mask (iM H p o) (p::ps)=mask H ps:=by
 funext b
 unfold mask
 by_cases hb:b=p
 ·subst hb
  rw [if_pos (aM ..),h]
  by_cases z:b∈ps<;>simp [z]
 ·rw [cT hb]
  by_cases z:b∈ps
  ·rw [if_pos (aK _ z),if_pos z]
  ·rw [if_neg (λq=>(aZ.mp q).elim hb z),if_neg z]
theorem kP {ps:List Addr} {p:Addr} {o:HO} (h:p∈ps):mask (iM H p o) ps=mask H ps:=by
 funext b
 unfold mask
 by_cases hb:b=p
 ·subst hb;rw [if_pos h,if_pos h]
 ·rw [cT hb]
theorem fL {p:Addr} {o:HO} (h:H p=none):bH H (iM H p o):=λb u q=>by rw [cT (fQ q h)];exact q
theorem mY {ps:List Addr} {p:Addr} {o:HO} (h:p∉ps) (e:H p=some o):mask H ps p=some o:=by
 unfold mask;rw [if_neg h];exact e
theorem jI {ps:List Addr} {p:Addr} (live:∀ q∈ps,H q≠none) (h:H p=none):p∉ps:=λz=>live p z h

inductive Sl where
 | un | val (d:D) | own (ts:List D) | dic (hs:List Int) (kvs:List (D×D))
def oD (K:aE) (B:Hp) (p0:List Addr) (H:Hp) (ps:List Addr) (σT:List Sl) (σ:L2.St):Prop:=∀ (i:Nat) (hs:List Int) (kvs:List (D×D)),σT[i]?=some (.dic hs kvs) ->
 (∃ (p:Addr) (es:List (Int×Addr×V)),σ[i]?=some (some (.ref p))/\p∈ps/\B p=none/\p∉p0/\H p=some (aDo p es)/\hs=es.map (·.1)/\(kvs.map (·.1)).Nodup/\Reps K (mask H ps) (kvs.map (·.1)) (es.map λe=>.ref e.2.1)/\Reps K (mask H ps) (kvs.map (·.2)) (es.map λe=>e.2.2)) /\
 ∀ (j:Nat) (hs':List Int) (kws:List (D×D)),σT[j]?=some (.dic hs' kws)->i=j
theorem oD.to {B B':Hp} {p0 p0' ps ps':List Addr} {σT σT':List Sl} {σ σ':L2.St} (o:oD K B p0 H ps σT σ) (hσ:∀ (i:Nat) (hs:List Int) (kvs:List (D×D)),σT'[i]?=some (.dic hs kvs)->σT[i]?=some (.dic hs kvs)/\σ'[i]?=σ[i]?)
  (hp:∀ (p:Addr) (φ:Heap->Prop),p∈ps->H p=some (.ext φ)->p∉p0->p∈ps'/\H' p=H p) (hB:∀ (p:Addr) (φ:Heap->Prop),p∈ps->H p=some (.ext φ)->B p=none->p∉p0->B' p=none/\p∉p0') (hm:bH (mask H ps) (mask H' ps')):oD K B' p0' H' ps' σT' σ':=λi hs kvs h=>by
 obtain ⟨h1,h2⟩:=hσ i hs kvs h
 obtain ⟨⟨p,es,a1,a2,a3,a4,a5,a6,a7,a8,a9⟩,u⟩:=o i hs kvs h1
 obtain ⟨b1,b2⟩:=hp p _ a2 a5 a4
 obtain ⟨c1,c2⟩:=hB p _ a2 a5 a3 a4
 exact ⟨⟨p,es,h2.trans a1,b1,c1,c2,b2.trans a5,a6,a7,a8.same hm,a9.same hm⟩,λj hs' kws hj=>u j hs' kws (hσ j hs' kws hj).1⟩
theorem GN {σT:List Sl} {i j:Nat} {s:Sl} {hs:List Int} {kvs:List (D×D)} (hn:∀ hs kvs,s≠.dic hs kvs) (h:(σT.set i s)[j]?=some (.dic hs kvs)):i≠j/\σT[j]?=some (.dic hs kvs):=by
 by_cases e:i=j
 ·subst e
  have hi:i<σT.length:=by simpa using (aD.mp h).1
  rw [bS hi] at h
  exact absurd (Option.some.inj h) (hn hs kvs)
 ·rw [bL e] at h
  exact ⟨e,h⟩
theorem oD.setS {B:Hp} {p0 ps:List Addr} {σT:List Sl} {σ:L2.St} (o:oD K B p0 H ps σT σ) {i:Nat} {s:Sl} {v:Option V} (hn:∀ hs kvs,s≠.dic hs kvs):oD K B p0 H ps (σT.set i s) (σ.set i v) :=
 o.to (λj hs kvs h=>let ⟨e,h'⟩:=GN hn h;⟨h',bL e⟩) (λp φ a b _=>⟨a,rfl⟩) (λp φ _ _ a b=>⟨a,b⟩) (L2.bH.refl _)
theorem oD.setT {B:Hp} {p0 ps:List Addr} {σT:List Sl} {σ:L2.St} (o:oD K B p0 H ps σT σ) {i:Nat} {s:Sl} (hn:∀ hs kvs,s≠.dic hs kvs):oD K B p0 H ps (σT.set i s) σ :=
 o.to (λj hs kvs h=>⟨(GN hn h).2,rfl⟩) (λp φ a b _=>⟨a,rfl⟩) (λp φ _ _ a b=>⟨a,b⟩) (L2.bH.refl _)
theorem oD.grow {B:Hp} {p0 ps:List Addr} {σT:List Sl} {σ:L2.St} (o:oD K B p0 H ps σT σ) (e:bH H H'):oD K B p0 H' ps σT σ :=
 o.to (λj hs kvs h=>⟨h,rfl⟩) (λp φ a b _=>⟨a,(e p _ b).trans b.symm⟩) (λp φ _ _ a b=>⟨a,b⟩) (cJ e)
structure Ok (K:aE) (B:Hp) (p0:List Addr) (H:Hp) (ps:List Addr) (σT:List Sl) (σ:L2.St):Prop where
 base:bH B H
 sub:∀ p∈p0,p∈ps
 live:∀ p∈ps,H p≠none
 len:σT.length=σ.length
 val:∀ (i:Nat) (d:D),σT[i]?=some (.val d)->∃ v,σ[i]?=some (some v)/\iA K (mask H ps) d v
 own:∀ (i:Nat) (ts:List D),σT[i]?=some (.own ts)->∃ p xs,σ[i]?=some (some (.ref p))/\p∈ps/\B p=none/\p∉p0/\H p=some (.lst xs)/\Reps K (mask H ps) ts xs
 dis:∀ (i j:Nat) (ts us:List D) (p:Addr),σT[i]?=some (.own ts)->σT[j]?=some (.own us)->σ[i]?=some (some (.ref p))->σ[j]?=some (some (.ref p))->i=j
 dc:oD K B p0 H ps σT σ
variable {B:Hp} {p0 ps:List Addr} {σT:List Sl} {σ:L2.St}
theorem Ok.grow (o:Ok K B p0 H ps σT σ) (e:bH H H'):Ok K B p0 H' ps σT σ where
 base:=o.base.trans e
 sub:=o.sub
 live:=λp hp z=>by
  cases q:H p with
  | none=>exact o.live p hp q
  | some u=>rw [e p u q] at z;cases z
 len:=o.len
 val:=λi d h=>let ⟨v,h1,h2⟩:=o.val i d h;⟨v,h1,h2.same (cJ e)⟩
 own:=λi ts h=>let ⟨p,xs,h1,h2,h3,h4,h5,h6⟩:=o.own i ts h;⟨p,xs,h1,h2,h3,h4,e _ _ h5,h6.same (cJ e)⟩
 dis:=o.dis
 dc:=o.dc.grow e
theorem Ok.set (o:Ok K B p0 H ps σT σ) {i:Nat} {d:D} {v:V} (r:iA K (mask H ps) d v):Ok K B p0 H ps (σT.set i (.val d)) (σ.set i (some v)) where
 base:=o.base
 sub:=o.sub
 live:=o.live
 len:=by simpa using o.len
 val:=λj d' h=>by
  by_cases e:i=j
  ·subst e
   have hi:i<σT.length:=by
    have:=(aD.mp h).1
    simpa using this
   rw [bS hi] at h
   cases h
   exact ⟨v,by rw [bS (by rw [<- o.len];exact hi)],r⟩
  ·rw [bL e] at h |-
   exact o.val j d' h
 own:=λj ts h=>by
  by_cases e:i=j
  ·subst e
   have hi:i<σT.length:=by
    have:=(aD.mp h).1
    simpa using this
   rw [bS hi] at h
   cases h
  ·rw [bL e] at h |-
   exact o.own j ts h
 dis:=λj k ts us p h1 h2 h3 h4=>by
  have ne:∀ {l:Nat} {ts:List D},(σT.set i (.val d))[l]?=some (.own ts)->i≠l:=λ{l ts} h e=>by
   subst e
   have hi:i<σT.length:=by
    have:=(aD.mp h).1
    simpa using this
   rw [bS hi] at h
   cases h
  have e1:=ne h1
  have e2:=ne h2
  rw [bL e1] at h1 h3
  rw [bL e2] at h2 h4
  exact o.dis j k ts us p h1 h2 h3 h4
 dc:=o.dc.setS λ_ _ z=>nomatch z
theorem Ok.setOwn (o:Ok K B p0 H ps σT σ) {i:Nat} {ts:List D} {xs:List V} {p:Addr} (hp:H p=none) (r:Reps K (mask H ps) ts xs):Ok K B p0 (iM H p (.lst xs)) (p::ps) (σT.set i (.own ts)) (σ.set i (some (.ref p))):=by
 have hm:mask (iM H p (.lst xs)) (p::ps)=mask H ps:=kR hp
 have hps:p∉ps:=jI o.live hp
 have hn:∀ {l:Nat} {us:List D},i≠l->σT[l]?=some (.own us)->σ[l]?≠some (some (.ref p)):=λ{l us} _ h z=>by
  obtain ⟨q,_,h1,h2,_⟩:=o.own l us h
  rw [z] at h1
  cases h1
  exact hps h2
 refine ⟨o.base.trans (fL hp),λq hq=>aK _ (o.sub q hq),λq hq=>?_,by simpa using o.len,λj d h=>?_,λj us h=>?_,λj k us ws q h1 h2 h3 h4=>?_,?_⟩
 ·by_cases e:q=p
  ·subst e;rw [eM];simp
  ·rw [cT e]
   rcases aZ.mp hq with z | z
   ·exact absurd z e
   ·exact o.live q z
 ·rw [hm]
  by_cases e:i=j
  ·subst e
   have hi:i<σT.length:=by simpa using (aD.mp h).1
   rw [bS hi] at h
   cases h
  ·rw [bL e] at h |-
   exact o.val j d h
 ·rw [hm]
  by_cases e:i=j
  ·subst e
   have hi:i<σT.length:=by simpa using (aD.mp h).1
   rw [bS hi] at h
   cases h
   refine ⟨p,xs,by rw [bS (by rw [<- o.len];exact hi)],aM ..,?_,λz=>hps (o.sub p z),eM,r⟩
   cases q:B p with
   | none=>rfl
   | some u=>rw [o.base p u q] at hp;cases hp
  ·rw [bL e] at h |-
   obtain ⟨q,ys,h1,h2,h3,h4,h5,h6⟩:=o.own j us h
   refine ⟨q,ys,h1,aK _ h2,h3,h4,?_,h6⟩
   rw [cT (λz:q=p=>hps (z▸h2))]
   exact h5
 ·by_cases e1:i=j
  ·by_cases e2:i=k
   ·exact e1.symm.trans e2
   ·subst e1
    have hi:i<σT.length:=by simpa using (aD.mp h1).1
    rw [bS (by rw [<- o.len];exact hi)] at h3
    cases h3
    rw [bL e2] at h2 h4
    exact absurd h4 (hn e2 h2)
  ·by_cases e2:i=k
   ·subst e2
    have hi:i<σT.length:=by simpa using (aD.mp h2).1
    rw [bS (by rw [<- o.len];exact hi)] at h4
    cases h4
    rw [bL e1] at h1 h3
    exact absurd h3 (hn e1 h1)
   ·rw [bL e1] at h1 h3
    rw [bL e2] at h2 h4
    exact o.dis j k us ws q h1 h2 h3 h4
 ·exact (o.dc.setS (i:=i) (s:=.own ts) (v:=some (.ref p)) λ_ _ z=>nomatch z).to (λj hs kvs h=>⟨h,rfl⟩) (λq φ a b _=>⟨aK _ a,cT λz=>by rw [z,hp] at b;cases b⟩) (λq φ _ _ a b=>⟨a,b⟩) (by rw [hm];exact L2.bH.refl _)
theorem Ok.write (o:Ok K B p0 H ps σT σ) {i:Nat} {ts us:List D} {ys:List V} {p:Addr} (hi:σT[i]?=some (.own ts)) (hσ:σ[i]?=some (some (.ref p))) (r:Reps K (mask H ps) us ys) :
  Ok K B p0 (iM H p (.lst ys)) ps (σT.set i (.own us)) σ:=by
 obtain ⟨q,zs,h1,h2,h3,h4,h5,h6⟩:=o.own i ts hi
 rw [hσ] at h1
 cases h1
 have hm:mask (iM H p (.lst ys)) ps=mask H ps:=kP h2
 have hil:i<σT.length:=(aD.mp hi).1
 refine ⟨λb u e=>?_,o.sub,λq hq=>?_,by simpa using o.len,λj d h=>?_,λj ws h=>?_,λj k vs ws q k1 k2 k3 k4=>?_,?_⟩
 ·have ne:b≠p:=λz=>by rw [z,h3] at e;cases e
  rw [cT ne];exact o.base b u e
 ·by_cases e:q=p
  ·subst e;rw [eM];simp
  ·rw [cT e];exact o.live q hq
 ·rw [hm]
  by_cases e:i=j
  ·subst e
   rw [bS hil] at h
   cases h
  ·rw [bL e] at h
   exact o.val j d h
 ·rw [hm]
  by_cases e:i=j
  ·subst e
   rw [bS hil] at h
   cases h
   exact ⟨p,ys,hσ,h2,h3,h4,eM,r⟩
  ·rw [bL e] at h
   obtain ⟨q,vs,k1,k2,k3,k4,k5,k6⟩:=o.own j ws h
   refine ⟨q,vs,k1,k2,k3,k4,?_,k6⟩
   rw [cT (λz:q=p=>e (o.dis i j ts ws p hi h hσ (z▸k1)))]
   exact k5
 ·have back:∀ {l:Nat} {vs:List D},(σT.set i (.own us))[l]?=some (.own vs)->∃ vs',σT[l]?=some (.own vs'):=λ{l vs} h=>by
   by_cases e:i=l
   ·subst e;exact ⟨ts,hi⟩
   ·rw [bL e] at h;exact ⟨vs,h⟩
  obtain ⟨vs',k1⟩:=back k1
  obtain ⟨ws',k2⟩:=back k2
  exact o.dis j k vs' ws' q k1 k2 k3 k4
 ·exact (o.dc.setT (i:=i) (s:=.own us) λ_ _ z=>nomatch z).to (λj hs kvs h=>⟨h,rfl⟩) (λq φ a b _=>⟨a,cT λz=>by rw [z,h5] at b;cases b⟩) (λq φ _ _ a b=>⟨a,b⟩) (by rw [hm];exact L2.bH.refl _)
theorem Ok.share (o:Ok K B p0 H ps σT σ) {i:Nat} {ts:List D} (hi:σT[i]?=some (.own ts)):∃ ps',Ok K B p0 H ps' (σT.set i (.val (.list ts))) σ/\bH (mask H ps) (mask H ps'):=by
 obtain ⟨p,xs,h1,h2,h3,h4,h5,h6⟩:=o.own i ts hi
 have hil:i<σT.length:=(aD.mp hi).1
 have hsub:bH (mask H ps) (mask H (ps.filter λq=>decide (q≠p))):=kQ λq hq=>(cU.mp hq).1
 have hpn:p∉ps.filter λq=>decide (q≠p):=λz=>(of_decide_eq_true (cU.mp z).2) rfl
 refine ⟨ps.filter λq=>decide (q≠p),⟨o.base,λq hq=>cU.mpr ⟨o.sub q hq,decide_eq_true λz=>h4 (z▸hq)⟩,λq hq=>o.live q (cU.mp hq).1,by simpa using o.len,λj d h=>?_,λj us h=>?_,λj k us ws q k1 k2 k3 k4=>?_,?_⟩,hsub⟩
 ·by_cases e:i=j
  ·subst e
   rw [bS hil] at h
   cases h
   exact ⟨_,h1,.list (lP.of (mY hpn h5)) (h6.same hsub)⟩
  ·rw [bL e] at h
   obtain ⟨v,k1,k2⟩:=o.val j d h
   exact ⟨v,k1,k2.same hsub⟩
 ·by_cases e:i=j
  ·subst e
   rw [bS hil] at h
   cases h
  ·rw [bL e] at h
   obtain ⟨q,ys,k1,k2,k3,k4,k5,k6⟩:=o.own j us h
   exact ⟨q,ys,k1,cU.mpr ⟨k2,decide_eq_true λz=>e (o.dis i j ts us p hi h h1 (z▸k1))⟩,k3,k4,k5,k6.same hsub⟩
 ·have back:∀ {l:Nat} {vs:List D},(σT.set i (.val (.list ts)))[l]?=some (.own vs)->σT[l]?=some (.own vs):=λ{l vs} h=>by
   by_cases e:i=l
   ·subst e;rw [bS hil] at h;cases h
   ·rw [bL e] at h;exact h
  exact o.dis j k us ws q (back k1) (back k2) k3 k4
 ·exact (o.dc.setT (i:=i) (s:=.val (.list ts)) λ_ _ z=>nomatch z).to (λj hs kvs h=>⟨h,rfl⟩) (λq φ a b _=>⟨cU.mpr ⟨a,decide_eq_true λz=>by rw [z,h5] at b;cases b⟩,rfl⟩) (λq φ _ _ a b=>⟨a,b⟩) hsub

abbrev ET:=List Sl->(D->Prop)->Prop
abbrev oK:=List Sl->(Bool->Prop)->Prop
abbrev AT:=List Sl->(List D->Prop)->Prop
def jD (X:Cx) (e:Expr) (t:ET):Prop:=∃ te:TE,PE X e te/\∀ (B:Hp) (p0:List Addr) (H:Hp) (ps:List Addr) (σT:List Sl) (σ:L2.St) (Q:D->Prop) (QV:VK),Ok X.K B p0 H ps σT σ->t σT Q ->
 (∀ d v H',bH H H'->iA X.K (mask H' ps) d v->Q d->QV v H')->te σ H QV
def EW (X:Cx) (e:Expr) (t:oK):Prop:=∃ tt:TT,PT X e tt/\∀ (B:Hp) (p0:List Addr) (H:Hp) (ps:List Addr) (σT:List Sl) (σ:L2.St) (Q:Bool->Prop) (QV:Bool->Hp->Prop),Ok X.K B p0 H ps σT σ->t σT Q ->
 (∀ b H',bH H H'->Q b->QV b H')->tt σ H QV
def XJ (X:Cx) (e:Expr) (t:oK):Prop:=∃ tt:TT,PW X e tt/\∀ (B:Hp) (p0:List Addr) (H:Hp) (ps:List Addr) (σT:List Sl) (σ:L2.St) (Q:Bool->Prop) (QV:Bool->Hp->Prop),Ok X.K B p0 H ps σT σ->t σT Q ->
 (∀ b H',bH H H'->Q b->QV b H')->tt σ H QV
def uV (X:Cx) (es:List Expr) (t:AT):Prop:=∃ ta:TA,PA X es ta/\∀ (B:Hp) (p0:List Addr) (H:Hp) (ps:List Addr) (σT:List Sl) (σ:L2.St) (Q:List D->Prop) (QV:List V->Hp->Prop),Ok X.K B p0 H ps σT σ->t σT Q ->
 (∀ ds vs H',bH H H'->Reps X.K (mask H' ps) ds vs->Q ds->QV vs H')->ta σ H QV
structure qE where
 nx:List Sl->Prop
 rt:D->Prop
 bk:List Sl->Prop:=λ_=>False
 ct:List Sl->Prop:=λ_=>False
 ro:List D->Prop:=λ_=>False
 rp:List D->List D->Prop:=λ_ _=>False
 rq:D->List D->Prop:=λ_ _=>False
 xB:Hp->Prop:=λ_=>True
abbrev qQ:=qE->List Sl->Prop
structure DF (K:aE) (B:Hp) (p0:List Addr) (H:Hp) (ps:List Addr) (DT:qE) (DV:uX):Prop where
 nx:∀ H' ps' σT' σ',Ok K B p0 H' ps' σT' σ'->bH (mask H ps) (mask H' ps')->DT.nx σT'->DV.nx σ' H'
 bk:∀ H' ps' σT' σ',Ok K B p0 H' ps' σT' σ'->bH (mask H ps) (mask H' ps')->DT.bk σT'->DV.bk σ' H'
 ct:∀ H' ps' σT' σ',Ok K B p0 H' ps' σT' σ'->bH (mask H ps) (mask H' ps')->DT.ct σT'->DV.ct σ' H'
 rt:∀ d v H',bH B H'->iA K (mask H' p0) d v->DT.rt d->DV.rt v H'
 ro:∀ ts p xs H',bH B H'->B p=none->p∉p0->H' p=some (.lst xs)->Reps K (mask H' (p::p0)) ts xs->DT.ro ts->DV.rt (.ref p) H'
 rp:∀ as bs r p q xs ys H',bH B H'->B r=none->B p=none->B q=none->p≠q->H' r=some (.tup [.ref p,.ref q])->H' p=some (.lst xs)->H' q=some (.lst ys)->Reps K (mask H' (p::q::p0)) as xs->Reps K (mask H' (p::q::p0)) bs ys->DT.rp as bs->DV.rt (.ref r) H'
 rq:∀ a ts r p x xs H',bH B H'->B r=none->B p=none->H' r=some (.tup [x,.ref p])->H' p=some (.lst xs)->iA K (mask H' (p::p0)) a x->Reps K (mask H' (p::p0)) ts xs->DT.rq a ts->DV.rt (.ref r) H'
 xb:DT.xB B
theorem DF.later {DT:qE} {DV:uX} {ps':List Addr} (f:DF K B p0 H ps DT DV) (e:bH (mask H ps) (mask H' ps')):DF K B p0 H' ps' DT DV :=
 ⟨λ_ _ _ _ o s q=>f.nx _ _ _ _ o (e.trans s) q,λ_ _ _ _ o s q=>f.bk _ _ _ _ o (e.trans s) q,λ_ _ _ _ o s q=>f.ct _ _ _ _ o (e.trans s) q,f.rt,f.ro,f.rp,f.rq,f.xb⟩
def xX (X:Cx) (st:Stmt) (t:qQ):Prop:=∃ ts:TS,PS X st ts/\∀ (B:Hp) (p0:List Addr) (H:Hp) (ps:List Addr) (σT:List Sl) (σ:L2.St) (DT:qE) (DV:uX),Ok X.K B p0 H ps σT σ->t DT σT->DF X.K B p0 H ps DT DV->ts DV σ H
def rO (X:Cx) (st:List Stmt) (t:qQ):Prop:=∃ ts:TS,DB X st ts/\∀ (B:Hp) (p0:List Addr) (H:Hp) (ps:List Addr) (σT:List Sl) (σ:L2.St) (DT:qE) (DV:uX),Ok X.K B p0 H ps σT σ->t DT σT->DF X.K B p0 H ps DT DV->ts DV σ H
def DD (X:Cx) (r:R2) (f:D->D->(D->Prop)->Prop):Prop:=∀ (H:Hp) (ps:List Addr) (d1 d2:D) (x y:V) (Q:D->Prop) (QV:VK),(∀ p∈ps,H p≠none)->iA X.K (mask H ps) d1 x->iA X.K (mask H ps) d2 y->f d1 d2 Q ->
 (∀ d v H',bH H H'->iA X.K (mask H' ps) d v->Q d->QV v H')->r x y H QV
def uN (X:Cx) (r:List V->Hp->VK->Prop) (f:List D->(D->Prop)->Prop):Prop:=∀ (H:Hp) (ps:List Addr) (ds:List D) (xs:List V) (Q:D->Prop) (QV:VK),(∀ p∈ps,H p≠none)->Reps X.K (mask H ps) ds xs->f ds Q ->
 (∀ d v H',bH H H'->iA X.K (mask H' ps) d v->Q d->QV v H')->r xs H QV
section
variable {X:Cx} {a b e:Expr} {es:List Expr} {ta tb te:ET} {pos:Pos}

inductive NB (σ:List Sl) (i:Nat) (Q:D->Prop):Prop
 | mk (d:D) (h:σ[i]?=some (.val d)) (k:Q d):NB σ i Q
theorem JE {σ:List Sl} {i:Nat} {Q:D->Prop}:NB σ i Q↔∃ d,σ[i]?=some (.val d)/\Q d:=⟨λ⟨d,h,k⟩=>⟨d,h,k⟩,λ⟨d,h,k⟩=>⟨d,h,k⟩⟩
def wV (i:Nat):ET:=λσ Q=>NB σ i Q
def eC (d:D):ET:=λ_ Q=>Q d
theorem aG (i:Nat) {x:Str} {pos:Pos} (hN:X.N[i]?=some x:=by rfl) (hv:Vis X.env.scope x:=by first | exact Or.inl rfl | exact Or.inr (Or.inl rfl) | exact Or.inr (Or.inr rfl)) (hd:(x == ("__debug__":Str))=false:=by decide)
  (hcd:(x == ("__classdict__":Str))=false:=by decide):jD X (.Name x pos) (wV i) :=
 ⟨_,K9 hN hv hd hcd,λB p0 H ps σT σ Q QV o h k=>by
  obtain ⟨d,e,q⟩:=h
  obtain ⟨v,e1,r⟩:=o.val i d e
  exact ⟨v,e1,k d v H (L2.bH.refl H) r q⟩⟩
theorem aI {i j pos}:jD X (.Constant (.int i) j pos) (eC (.int i)):=⟨_,wE,λ_ _ H _ _ _ _ _ _ h k=>k _ _ H (L2.bH.refl H) (.int i) h⟩
theorem uK {b j pos}:jD X (.Constant (.bool b) j pos) (eC (.bool b)):=⟨_,Y4,λ_ _ H _ _ _ _ _ _ h k=>k _ _ H (L2.bH.refl H) (.bool b) h⟩
theorem lU {j pos}:jD X (.Constant .none j pos) (eC .none):=⟨_,VR,λ_ _ H _ _ _ _ _ _ h k=>k _ _ H (L2.bH.refl H) .none h⟩
theorem fH {x j pos}:jD X (.Constant (.str x) j pos) (eC (.str x)):=⟨_,VP,λ_ _ H _ _ _ _ _ _ h k=>k _ _ H (L2.bH.refl H) (.str x) h⟩
def M1 (f:D->D->(D->Prop)->Prop) (ta tb:ET):ET:=λσ Q=>ta σ λx=>tb σ λy=>f x y Q
theorem vD {r:R2} {f:D->D->(D->Prop)->Prop} (h2:DD X r f) {va vb:TE}
  (ha:∀ (B:Hp) (p0:List Addr) (H:Hp) (ps:List Addr) (σT:List Sl) (σ:L2.St) (Q:D->Prop) (QV:VK),Ok X.K B p0 H ps σT σ->ta σT Q->(∀ d v H',bH H H'->iA X.K (mask H' ps) d v->Q d->QV v H')->va σ H QV)
  (hb:∀ (B:Hp) (p0:List Addr) (H:Hp) (ps:List Addr) (σT:List Sl) (σ:L2.St) (Q:D->Prop) (QV:VK),Ok X.K B p0 H ps σT σ->tb σT Q->(∀ d v H',bH H H'->iA X.K (mask H' ps) d v->Q d->QV v H')->vb σ H QV)
  (B:Hp) (p0:List Addr) (H:Hp) (ps:List Addr) (σT:List Sl) (σ:L2.St) (Q:D->Prop) (QV:VK) (o:Ok X.K B p0 H ps σT σ) (h:M1 f ta tb σT Q) (k:∀ d v H',bH H H'->iA X.K (mask H' ps) d v->Q d->QV v H'):X7 r va vb σ H QV:=by
 refine ha B p0 H ps σT σ _ _ o h λd1 x H1 s1 r1 q1=>?_
 refine hb B p0 H1 ps σT σ _ _ (o.grow s1) q1 λd2 y H2 s2 r2 q2=>?_
 exact h2 H2 ps d1 d2 x y Q QV ((o.grow s1).grow s2).live (r1.same (cJ s2)) r2 q2 λd v H' s' r' q'=>k d v H' (s1.trans (s2.trans s')) r' q'
theorem bZ {op:Operator} {r:R2} {f:D->D->(D->Prop)->Prop} (ho:nJ X (binaryOp op) r) (h2:DD X r f) (ha:jD X a ta) (hb:jD X b tb):jD X (.BinOp a op b pos) (M1 f ta tb):=by
 obtain ⟨va,pa,ra⟩:=ha
 obtain ⟨vb,pb,rb⟩:=hb
 exact ⟨_,F0 ho pa pb,vD h2 ra rb⟩
theorem wS {op:CmpOp} {r:R2} {f:D->D->(D->Prop)->Prop} (ho:nJ X (compareOp op) r) (h2:DD X r f) (ha:jD X a ta) (hb:jD X b tb) (hm:behindInMarks op b=false:=by first | exact LO _ | rfl):jD X (.Compare a [op] [b] pos) (M1 f ta tb):=by
 obtain ⟨va,pa,ra⟩:=ha
 obtain ⟨vb,pb,rb⟩:=hb
 exact ⟨_,PC ho pa pb hm,vD h2 ra rb⟩
theorem aW {r:R2} {f:D->D->(D->Prop)->Prop} (ho:NO X r) (h2:DD X r f) (ha:jD X a ta) (hb:jD X b tb) (hs:G1 b:=by intro _ _;rfl):jD X (.Subscript a b pos) (M1 f ta tb):=by
 obtain ⟨va,pa,ra⟩:=ha
 obtain ⟨vb,pb,rb⟩:=hb
 exact ⟨_,B4 ho pa pb hs,vD h2 ra rb⟩
def aA1 (ta:ET):ET:=λσ Q=>ta σ λx=>match x with | .int i=>Q (.int (-i)) | _=>False
theorem WW (ha:jD X a ta):jD X (.UnaryOp .USub a pos) (aA1 ta):=by
 obtain ⟨va,pa,ra⟩:=ha
 refine ⟨_,Y2 UO pa,λB p0 H ps σT σ Q QV o h k=>ra B p0 H ps σT σ _ _ o h λd x H1 s1 r1 q1=>?_⟩
 cases r1 with
 | int i=>exact ⟨i,rfl,k _ _ H1 s1 (.int _) q1⟩
 | _=>exact q1.elim
def C8:AT:=λ_ Q=>Q []
def qB (t:ET) (r:AT):AT:=λσ Q=>t σ λx=>r σ λxs=>Q (x::xs)
theorem aO:uV X [] C8:=⟨_,wF,λ_ _ H _ _ _ _ _ _ h k=>k _ _ H (L2.bH.refl H) .nil h⟩
theorem aA {tr:AT} (ha:jD X e te) (hr:uV X es tr) (hs:bT (e::es) X.env=(false,eval e X.env)::bT es X.env:=by rfl):uV X (e::es) (qB te tr):=by
 obtain ⟨va,pa,ra⟩:=ha
 obtain ⟨vr,pr,rr⟩:=hr
 refine ⟨_,oT pa pr hs,λB p0 H ps σT σ Q QV o h k=>ra B p0 H ps σT σ _ _ o h λd x H1 s1 r1 q1=>?_⟩
 refine rr B p0 H1 ps σT σ _ _ (o.grow s1) q1 λds xs H2 s2 r2 q2=>?_
 exact k _ _ H2 (s1.trans s2) (.cons (r1.same (cJ s2)) r2) q2
def W0 (t:AT):ET:=λσ Q=>t σ λds=>ds.length<=1000/\Q (.tuple ds)
def aA2 (t:AT):ET:=λσ Q=>t σ λds=>ds.length<=1000/\Q (.list ds)
theorem sC {ps:List Addr} {p:Addr} {ds:List D} {xs:List V} (live:∀ q∈ps,H q≠none) (hp:H p=none) (r:Reps K (mask H ps) ds xs):iA K (mask (iM H p (.tup xs)) ps) (.tuple ds) (.ref p) :=
 .tuple (qP.of (mY (jI live hp) eM)) (r.same (cJ (fL hp)))
theorem zX {ps:List Addr} {p:Addr} {ds:List D} {xs:List V} (live:∀ q∈ps,H q≠none) (hp:H p=none) (r:Reps K (mask H ps) ds xs):iA K (mask (iM H p (.lst xs)) ps) (.list ds) (.ref p) :=
 .list (lP.of (mY (jI live hp) eM)) (r.same (cJ (fL hp)))
theorem AQ {n:Nat} (h:n<=1000):n<=bG:=iJ (HI h)
theorem eP {x1} {t:AT} (h:uV X es t):jD X (.Tuple es x1 pos) (W0 t):=by
 obtain ⟨v,p,r⟩:=h
 refine ⟨_,LA p,λB p0 H ps σT σ Q QV o h k=>r B p0 H ps σT σ _ _ o h λds xs H1 s1 r1 q1=>⟨AQ (by rw [<- r1.length];exact q1.1),λq hq=>?_⟩⟩
 exact k _ _ _ (s1.trans (fL hq)) (sC (o.grow s1).live hq r1) q1.2
theorem tV {t:AT} (h:uV X es t):jD X (.List es pos) (aA2 t):=by
 obtain ⟨v,p,r⟩:=h
 refine ⟨_,LD p,λB p0 H ps σT σ Q QV o h k=>r B p0 H ps σT σ _ _ o h λds xs H1 s1 r1 q1=>⟨AQ (by rw [<- r1.length];exact q1.1),λq hq=>?_⟩⟩
 exact k _ _ _ (s1.trans (fL hq)) (zX (o.grow s1).live hq r1) q1.2
def mB (f:List D->(D->Prop)->Prop) (t:AT):ET:=λσ Q=>t σ λds=>f ds Q
abbrev kW:=List D->(D->Prop)->Prop
def aS (K:aE) (sp:kW):Sp:=λvs H Q _=>∃ (ps:List Addr) (ds:List D) (QD:D->Prop),(∀ p∈ps,H p≠none)/\Reps K (mask H ps) ds vs/\sp ds QD/\∀ d v H',bH H H'->iA K (mask H' ps) d v->QD d->Q v H'
theorem GK {k:Nat} {f:Addr} {fd:dF} {pn:List Str} {sp:kW} {x:Str} {p:Pos} {t:AT} (F:bN X.prog X.w X.K X.mg X.base dP k f fd pn (aS X.K sp)) (hm:X.mg x=some (.ref f)) (hk:eX X.K (.ref f)=true) (hb:pJ X.K fd pn [])
  (hr:gG k X.A) (ha:uV X (e::es) t) (pc:∀ {ta:TA},PA X (e::es) ta->PE X (.Call (.Name x p) (e::es) [] pos) (yL (aS X.K sp) [] E0 ta)):jD X (.Call (.Name x p) (e::es) [] pos) (mB sp t):=by
 obtain ⟨v,pa,ra⟩:=ha
 refine ⟨_,pc pa,λB p0 H ps σT σ Q QV o h k=>ra B p0 H ps σT σ _ _ o h λds xs H1 s1 r1 q1=>?_⟩
 show aS X.K sp (xs++[]) H1 QV E0
 rw [dY]
 exact ⟨ps,ds,Q,(o.grow s1).live,r1,q1,λd v H' s' r' q'=>k d v H' (s1.trans s') r' q'⟩
def GX (t:ET):oK:=λσ Q=>t σ λx=>match x with | .bool b=>Q b | _=>False
theorem US (h:jD X e te) (pt:∀ {t:TE},PE X e t->PT X e (tB t)):EW X e (GX te):=by
 obtain ⟨v,p,r⟩:=h
 refine ⟨_,pt p,λB p0 H ps σT σ Q QV o h k=>r B p0 H ps σT σ _ _ o h λd x H1 s1 r1 q1=>?_⟩
 cases r1 with
 | bool c=>exact ⟨c,rfl,k c H1 s1 q1⟩
 | _=>exact q1.elim
theorem eS {op:CmpOp} {r:R2} {f:D->D->(D->Prop)->Prop} (ho:nJ X (compareOp op) r) (h2:DD X r f) (ha:jD X a ta) (hb:jD X b tb) (hm:behindInMarks op b=false:=by first | exact LO _ | rfl):EW X (.Compare a [op] [b] pos) (GX (M1 f ta tb)):=by
 obtain ⟨va,pa,ra⟩:=ha
 obtain ⟨vb,pb,rb⟩:=hb
 refine ⟨_,OZ ho pa pb hm,λB p0 H ps σT σ Q QV o h k=>?_⟩
 refine vD h2 ra rb B p0 H ps σT σ (λx=>match x with | .bool b=>Q b | _=>False) _ o h λd v H' s' r' q'=>?_
 cases r' with
 | bool c=>exact ⟨c,rfl,k c H' s' q'⟩
 | _=>exact q'.elim
def aA9 (t:oK):oK:=λσ Q=>t σ λb=>Q (!b)
def aBa (t u:oK):oK:=λσ Q=>t σ λb=>if b=true then u σ Q else Q false
def cOr (t u:oK):oK:=λσ Q=>t σ λb=>if b=true then Q true else u σ Q
variable {tA tB':oK} {lS:List Expr}
theorem zS (h:EW X a tA):EW X (.UnaryOp .Not a pos) (aA9 tA):=by
 obtain ⟨v,p,r⟩:=h
 exact ⟨_,VL p,λB p0 H ps σT σ Q QV o h k=>r B p0 H ps σT σ _ _ o h λb H' s' q'=>k _ H' s' q'⟩
theorem vS (h:XJ X e tA):EW X e tA:=by
 obtain ⟨v,p,r⟩:=h
 exact ⟨_,p.pt,r⟩
theorem N3 (h:EW X a tA):XJ X (.BoolOp .And [a] pos) tA:=by
 obtain ⟨v,p,r⟩:=h
 exact ⟨_,OY p,r⟩
theorem tD (h:EW X a tA):XJ X (.BoolOp .Or [a] pos) tA:=by
 obtain ⟨v,p,r⟩:=h
 exact ⟨_,VH p,r⟩
theorem UR (ha:EW X a tA) (hb:XJ X (.BoolOp .And (b::lS) pos) tB'):XJ X (.BoolOp .And (a::b::lS) pos) (aBa tA tB'):=by
 obtain ⟨va,pa,ra⟩:=ha
 obtain ⟨vb,pb,rb⟩:=hb
 refine ⟨_,VI pa pb,λB p0 H ps σT σ Q QV o h k=>ra B p0 H ps σT σ _ _ o h λc H1 s1 q1=>?_⟩
 cases c with
 | true=>exact rb B p0 H1 ps σT σ Q _ (o.grow s1) q1 λb H' s' q'=>k b H' (s1.trans s') q'
 | false=>exact k _ H1 s1 q1
theorem yJ (ha:EW X a tA) (hb:XJ X (.BoolOp .Or (b::lS) pos) tB'):XJ X (.BoolOp .Or (a::b::lS) pos) (cOr tA tB'):=by
 obtain ⟨va,pa,ra⟩:=ha
 obtain ⟨vb,pb,rb⟩:=hb
 refine ⟨_,Y0 pa pb,λB p0 H ps σT σ Q QV o h k=>ra B p0 H ps σT σ _ _ o h λc H1 s1 q1=>?_⟩
 cases c with
 | true=>exact k _ H1 s1 q1
 | false=>exact rb B p0 H1 ps σT σ Q _ (o.grow s1) q1 λb H' s' q'=>k b H' (s1.trans s') q'
def aA3 (ta tb:ET):ET:=λσ Q=>ta σ λx=>match x with | .bool c=>if c=true then tb σ Q else Q (.bool false) | _=>False
def eOr (ta tb:ET):ET:=λσ Q=>ta σ λx=>match x with | .bool c=>if c=true then Q (.bool true) else tb σ Q | _=>False
theorem WV {op} (h:jD X a ta):jD X (.BoolOp op [a] pos) ta:=by
 obtain ⟨v,p,r⟩:=h
 exact ⟨_,VQ p,r⟩
theorem WX (ha:jD X a ta) (hb:jD X (.BoolOp .And (b::lS) pos) tb):jD X (.BoolOp .And (a::b::lS) pos) (aA3 ta tb):=by
 obtain ⟨va,pa,ra⟩:=ha
 obtain ⟨vb,pb,rb⟩:=hb
 refine ⟨_,VT pa pb,λB p0 H ps σT σ Q QV o h k=>ra B p0 H ps σT σ _ _ o h λd x H1 s1 r1 q1=>?_⟩
 cases r1 with
 | bool c =>
  refine ⟨c,rfl,?_⟩
  cases c with
  | true=>exact rb B p0 H1 ps σT σ Q _ (o.grow s1) q1 λd v H' s' r' q'=>k d v H' (s1.trans s') r' q'
  | false=>exact k _ _ H1 s1 (.bool false) q1
 | _=>exact q1.elim
def W3 (f g:D->D->(D->Prop)->Prop) (ta tb tc:ET):ET:=λσ Q=>ta σ λx=>tb σ λy=>f x y λz=>match z with | .bool c=>if c=true then tc σ λw=>g y w Q else Q (.bool false) | _=>False
end
end TL

namespace TL
open PySem PySem.Spec PyProof.Rows L2
variable {K:aE} {H H' H1 H2:Hp} {B:Hp} {p0 ps:List Addr} {σT:List Sl} {σ:L2.St}
section
variable {X:Cx} {a b c e:Expr} {es:List Expr} {ta tb tc te:ET} {pos:Pos}
abbrev OT:=List Sl->(Option Int->Prop)->Prop
def POt (X:Cx) (e:Option Expr) (t:OT):Prop:=∃ to:TO,PO X e to/\∀ (B:Hp) (p0:List Addr) (H:Hp) (ps:List Addr) (σT:List Sl) (σ:L2.St) (Q:Option Int->Prop) (QV:Option Int->Hp->Prop),Ok X.K B p0 H ps σT σ->t σT Q ->
 (∀ i H',bH H H'->Q i->QV i H')->to σ H QV
def B9:OT:=λ_ Q=>Q none
def B8 (t:ET):OT:=λσ Q=>t σ λx=>match x with | .int i=>Q (some i) | _=>False
theorem kM:POt X none B9:=⟨_,O4,λ_ _ H _ _ _ _ _ _ h k=>k _ H (L2.bH.refl H) h⟩
theorem iW (h:jD X e te):POt X (some e) (B8 te):=by
 obtain ⟨v,p,r⟩:=h
 refine ⟨_,O3 p,λB p0 H ps σT σ Q QV o h k=>r B p0 H ps σT σ _ _ o h λd x H1 s1 r1 q1=>?_⟩
 cases r1 with
 | int i=>exact ⟨i,rfl,k _ H1 s1 q1⟩
 | _=>exact q1.elim
def SlT (X:Cx) (r:V->Option Int->Option Int->Hp->VK->Prop) (f:D->Option Int->Option Int->(D->Prop)->Prop):Prop:=∀ (H:Hp) (ps:List Addr) (d:D) (x:V) (lo hi:Option Int) (Q:D->Prop) (QV:VK),(∀ p∈ps,H p≠none)->iA X.K (mask H ps) d x->f d lo hi Q ->
 (∀ d v H',bH H H'->iA X.K (mask H' ps) d v->Q d->QV v H')->r x lo hi H QV
def eSl (f:D->Option Int->Option Int->(D->Prop)->Prop) (t:ET) (tl th:OT):ET:=λσ Q=>t σ λx=>tl σ λl=>th σ λu=>f x l u Q
theorem iO {r:V->Option Int->Option Int->Hp->VK->Prop} {f:D->Option Int->Option Int->(D->Prop)->Prop} {lo hi:Option Expr} {tl th:OT} {p2:Pos} (hr:NC X r) (h2:SlT X r f) (he:jD X e te) (hl:POt X lo tl) (hu:POt X hi th) :
  jD X (.Subscript e (.Slice lo hi none p2) pos) (eSl f te tl th):=by
 obtain ⟨ve,pe,re⟩:=he
 obtain ⟨vl,pl,rl⟩:=hl
 obtain ⟨vu,pu,ru⟩:=hu
 refine ⟨_,LC hr pe pl pu,λB p0 H ps σT σ Q QV o h k=>re B p0 H ps σT σ _ _ o h λd x H1 s1 r1 q1=>?_⟩
 refine rl B p0 H1 ps σT σ _ _ (o.grow s1) q1 λl H2 s2 q2=>?_
 refine ru B p0 H2 ps σT σ _ _ ((o.grow s1).grow s2) q2 λu H3 s3 q3=>?_
 exact h2 H3 ps d x l u Q QV (((o.grow s1).grow s2).grow s3).live ((r1.same (cJ s2)).same (cJ s3)) q3 λd v H' s' r' q'=>k d v H' (s1.trans (s2.trans (s3.trans s'))) r' q'

variable {st:Stmt} {lS:List Stmt} {t u:qQ}
def jZ:qQ:=λDT σ=>DT.nx σ
def gZ (t u:qQ):qQ:=λDT σ=>t { DT with nx:=u DT } σ
theorem gD:rO X [] jZ:=⟨_,O1,λB p0 H ps σT σ DT DV o h f=>f.nx H ps σT σ o (L2.bH.refl _) h⟩
theorem aU (h1:xX X st t) (h2:rO X lS u):rO X (st::lS) (gZ t u):=by
 obtain ⟨v1,p1,r1⟩:=h1
 obtain ⟨v2,p2,r2⟩:=h2
 refine ⟨_,K5 p1 p2,λB p0 H ps σT σ DT DV o h f=>r1 B p0 H ps σT σ { DT with nx:=u DT } { DV with nx:=v2 DV } o h ⟨λH' ps' σT' σ' o' s' q'=>?_,f.bk,f.ct,f.rt,f.ro,f.rp,f.rq,f.xb⟩⟩
 exact r2 B p0 H' ps' σT' σ' DT DV o' q' (f.later s')
theorem bK (h1:xX X st t):rO X [st] t:=by
 obtain ⟨v1,p1,r1⟩:=h1
 exact ⟨_,O0 p1,r1⟩
def KW (i:Nat) (t:qQ):qQ:=λDT σ=>∃ ts,σ[i]?=some (.own ts)/\t DT (σ.set i (.val (.list ts)))
theorem kJ {sts:List Stmt} (i:Nat) (h:rO X sts t):rO X sts (KW i t):=by
 obtain ⟨v,p,r⟩:=h
 refine ⟨_,p,λB p0 H ps σT σ DT DV o h f=>?_⟩
 obtain ⟨ts,e,h⟩:=h
 obtain ⟨ps',o',s'⟩:=o.share e
 exact r B p0 H ps' _ σ DT DV o' h (f.later s')
def sB (te:ET):qQ:=λDT σ=>te σ DT.rt
theorem cR (h:jD X e te):xX X (.Return (some e) pos) (sB te):=by
 obtain ⟨v,p,r⟩:=h
 refine ⟨_,AD p,λB p0 H ps σT σ DT DV o h f=>r B p0 H ps σT σ _ _ o h λd x H' s' r' q'=>?_⟩
 exact f.rt d x H' (o.base.trans s') (r'.same (kQ o.sub)) q'
def VE (c:oK) (t u:qQ):qQ:=λDT σ=>c σ λb=>if b=true then t DT σ else u DT σ
theorem hV {c:Expr} {a b:List Stmt} {tc:oK} (hc:EW X c tc) (ha:rO X a t) (hb:rO X b u):xX X (.If c a b pos) (VE tc t u):=by
 obtain ⟨vc,pc,rc⟩:=hc
 obtain ⟨va,pa,ra⟩:=ha
 obtain ⟨vb,pb,rb⟩:=hb
 refine ⟨_,Y1 pc pa pb,λB p0 H ps σT σ DT DV o h f=>rc B p0 H ps σT σ _ _ o h λd H1 s1 q1=>?_⟩
 cases d with
 | true=>exact ra B p0 H1 ps σT σ DT DV (o.grow s1) q1 (f.later (cJ s1))
 | false=>exact rb B p0 H1 ps σT σ DT DV (o.grow s1) q1 (f.later (cJ s1))
def DR (i:Nat) (te:ET):qQ:=λDT σ=>te σ λd=>DT.nx (σ.set i (.val d))
theorem U3 {i:Nat} {x:Str} {pos':Pos} (h:jD X e te) (ps':∀ {v:TE},PE X e v->PS X (.Assign [.Name x pos'] e pos) (zU v (kT i))):xX X (.Assign [.Name x pos'] e pos) (DR i te):=by
 obtain ⟨v,p,r⟩:=h
 refine ⟨_,ps' p,λB p0 H ps σT σ DT DV o h f=>r B p0 H ps σT σ _ _ o h λd x H' s' r' q'=>?_⟩
 exact f.nx H' ps _ _ ((o.grow s').set r') (cJ s') q'
def OU (i:Nat) (t:AT):qQ:=λDT σ=>t σ λds=>ds.length<=1000/\DT.nx (σ.set i (.own ds))
theorem U4 {i:Nat} {x:Str} {pos' p2:Pos} {t:AT} (h:uV X es t) (ps':∀ {v:TE},PE X (.List es p2) v->PS X (.Assign [.Name x pos'] (.List es p2) pos) (zU v (kT i))):xX X (.Assign [.Name x pos'] (.List es p2) pos) (OU i t):=by
 obtain ⟨v,p,r⟩:=h
 refine ⟨_,ps' (LD p),λB p0 H ps σT σ DT DV o h f=>r B p0 H ps σT σ _ _ o h λds xs H1 s1 r1 q1=>⟨AQ (by rw [<- r1.length];exact q1.1),λq hq=>?_⟩⟩
 exact f.nx _ (q::ps) _ _ ((o.grow s1).setOwn hq r1) ((cJ s1).trans (by rw [kR hq];exact L2.bH.refl _)) q1.2
def OW (i:Nat) (te:ET):qQ:=λDT σ=>∃ ts,σ[i]?=some (.own ts)/\te σ λd=>ts.length<=100000/\DT.nx (σ.set i (.own (ts++[d])))
theorem lR {i:Nat} {n e:Expr} {te:ET} {ap cp:Pos} (hn:PE X n (BN i)) (he:jD X e te) (hs:bT [e] X.env=(false,eval e X.env)::bT [] X.env:=by rfl)
  (pb:∀ {ta:TA},PA X [e] ta->PS X (.Expr (.Call (.Attribute n "append" ap) [e] [] cp) pos) (FE (N5 X.K "list" FV (BN i) ta))):xX X (.Expr (.Call (.Attribute n "append" ap) [e] [] cp) pos) (OW i te):=by
 obtain ⟨v,p,r⟩:=he
 refine ⟨_,pb (oT p wF hs),λB p0 H ps σT σ DT DV o h f=>?_⟩
 obtain ⟨ts,e,h⟩:=h
 obtain ⟨q,xs,h1,h2,h3,h4,h5,h6⟩:=o.own i ts e
 refine ⟨.ref q,h1,.inl ⟨rfl,xs,lP.of h5⟩,r B p0 H ps σT σ _ _ o h λd x H1 s1 r1 q1=>?_⟩
 refine ⟨q,xs,x,rfl,rfl,s1 _ _ h5,?_,?_⟩
 ·rw [<- h6.length]
  have:bG=2 ^ 24:=rfl
  omega
 ·have o1:=o.grow s1
  have hr:Reps X.K (mask H1 ps) (ts++[d]) (xs++[x]):=(h6.same (cJ s1)).append (.cons r1 .nil)
  exact f.nx _ ps _ σ (o1.write (ys:=xs++[x]) e h1 hr) ((cJ s1).trans (by rw [kP h2];exact L2.bH.refl _)) q1.2

def B1 (x:Str):List D:=x.cps.toList.map λc=>.str ⟨#[c]⟩
def GF:D->Option (List D)
 | .list ts=>some ts
 | .tuple ts=>some ts
 | .str x=>some (B1 x)
 | _=>none
def lM (σ:List Sl):Prop:=∀ (i:Nat) (s:Sl),(∀ d,s≠.val d)->s≠.un->σ[i]?≠some s
theorem mH {σ:List Sl} (h:lM σ) (i:Nat) (d:D):lM (σ.set i (.val d)):=λj s hv hu e=>by
 by_cases z:i=j
 ·subst z
  have hi:i<σ.length:=by simpa using (aD.mp e).1
  rw [bS hi] at e;exact hv d (Option.some.inj e).symm
 ·rw [bL z] at e;exact h j s hv hu e
theorem lM.own {σ:List Sl} (h:lM σ) (i:Nat) (ts:List D):σ[i]?≠some (.own ts):=h i _ (λ_ z=>nomatch z) λz=>nomatch z
theorem lM.dic {σ:List Sl} (h:lM σ) (i:Nat) (hs:List Int) (kvs:List (D×D)):σ[i]?≠some (.dic hs kvs):=h i _ (λ_ z=>nomatch z) λz=>nomatch z
abbrev GT:=D->List Sl->(List Sl->Prop)->Prop
def JW (X:Cx) (tg:Expr) (g:GT):Prop:=∃ gv:TG,PG X tg gv/\∀ (B:Hp) (p0:List Addr) (H:Hp) (ps:List Addr) (σT:List Sl) (σ:L2.St) (d:D) (v:V) (Q:List Sl->Prop) (QV:L2.St->Hp->Prop),Ok X.K B p0 H ps σT σ->iA X.K (mask H ps) d v->g d σT Q ->
 (∀ σT' σ',Ok X.K B p0 H ps σT' σ'->(lM σT->lM σT')->Q σT'->QV σ' H)->gv v σ H QV
def gN (i:Nat):GT:=λd σ Q=>Q (σ.set i (.val d))
theorem eH {i:Nat} {x:Str} {p:Pos} (h:PG X (.Name x p) (kT i)):JW X (.Name x p) (gN i) :=
 ⟨_,h,λB p0 H ps σT σ d v Q QV o r h k=>k _ _ (o.set r) (λn=>mH n _ _) h⟩
def gP (i j:Nat):GT:=λd σ Q=>∃ a b,d=.tuple [a,b]/\Q ((σ.set i (.val a)).set j (.val b))
theorem AU {i j:Nat} {t:Expr} (h:PG X t (WM X.K 2 (zE (kT i) (zE (kT j) WN)))):JW X t (gP i j) :=
 ⟨_,h,λB p0 H ps σT σ d v Q QV o r h k=>by
  obtain ⟨a,b,rfl,h⟩:=h
  cases r with
  | @tuple p xs _ hq r =>
   cases r with
   | cons ra r =>
    cases r with
    | cons rb r =>
     cases r
     exact ⟨_,_,rfl,bH.seqT dA hq,rfl,_,_,rfl,_,_,rfl,rfl,k _ _ ((o.set ra).set rb) (λn=>mH (mH n _ _) _ _) h⟩⟩
structure QU (K:aE) (Hs:Hp) (ts:List D) (J:It):Prop where
 stop:∀ (i:Nat) (H:Hp),bH Hs H->ts.length<=i->J.stop i H
 go:∀ (i:Nat) (H:Hp),bH Hs H->i<ts.length->J.go i H
 yld:∀ (i:Nat) (H:Hp) (ps:List Addr) (y:V) (H':Hp),(∀ p∈ps,H p≠none)->bH Hs (mask H ps)->i<ts.length->J.yld i H y H'->bH H H'/\∃ dx,ts[i]?=some dx/\iA K (mask H' ps) dx y
abbrev IT:=List Sl->(List D->Prop)->Prop
def JV (X:Cx) (tg iter:Expr) (t:IT):Prop:=∃ wi:TI,PI X tg iter wi/\∀ (B:Hp) (p0:List Addr) (H:Hp) (ps:List Addr) (σT:List Sl) (σ:L2.St) (Q:List D->Prop) (R:It->Hp->Prop),Ok X.K B p0 H ps σT σ->t σT Q ->
 (∀ ts J H',bH H H'->QU X.K (mask H' ps) ts J->Q ts->R J H')->wi σ H R
def aDc (te:ET):IT:=λσ Q=>te σ λd=>∃ ts,GF d=some ts/\Q ts
theorem OX {x:V} {d:D} {ts:List D} {Hs:Hp} (r:iA K Hs d x) (hi:GF d=some ts) {R:It->Hp->Prop} (hs:bH Hs H1) (h:∀ J:It,QU K Hs ts J->R J H1) :
  (∃ a,x=.ref a/\(∃ xs,lP K H1 a xs)/\R (Itl K a) H1)\/(∃ a,x=.ref a/\(∃ xs,qP K H1 a xs)/\R (Itt K a) H1)\/∃ z,x=.str z/\R (Its z) H1:=by
 cases r with
 | @list p xs us q rs =>
  obtain rfl:us=ts:=Option.some.inj hi
  refine .inl ⟨p,rfl,⟨xs,L2.bH.seq hs q⟩,h _ ⟨λi H e hl=>⟨xs,L2.bH.seq e q,by rw [<- rs.length];exact hl⟩,λi H e hl=>?_,λi H ps y H' _ e hl hy=>?_⟩⟩
  ·obtain ⟨v,hv,_⟩:=rs.get (aB hl)
   exact ⟨xs,v,L2.bH.seq e q,hv⟩
  ·obtain ⟨rfl,hy⟩:=hy
   obtain ⟨dx,h1,h2⟩:=rs.get' (hy xs (L2.bH.seq (e.trans dA) q))
   exact ⟨L2.bH.refl _,dx,h1,h2.same e⟩
 | @tuple p xs us q rs =>
  obtain rfl:us=ts:=Option.some.inj hi
  refine .inr (.inl ⟨p,rfl,⟨xs,bH.seqT hs q⟩,h _ ⟨λi H e hl=>⟨xs,bH.seqT e q,by rw [<- rs.length];exact hl⟩,λi H e hl=>?_,λi H ps y H' _ e hl hy=>?_⟩⟩)
  ·obtain ⟨v,hv,_⟩:=rs.get (aB hl)
   exact ⟨xs,v,bH.seqT e q,hv⟩
  ·obtain ⟨rfl,hy⟩:=hy
   obtain ⟨dx,h1,h2⟩:=rs.get' (hy xs (bH.seqT (e.trans dA) q))
   exact ⟨L2.bH.refl _,dx,h1,h2.same e⟩
 | str z =>
  obtain rfl:B1 z=ts:=Option.some.inj hi
  have hl:(B1 z).length=z.cps.size:=by unfold B1;simp
  refine .inr (.inr ⟨z,rfl,h _ ⟨λi H _ e=>by rw [hl] at e;exact e,λi H _ e=>by rw [hl] at e;exact e,λi H ps y H' _ _ e hy=>?_⟩⟩)
  obtain ⟨rfl,c,h2,rfl⟩:=hy
  refine ⟨L2.bH.refl _,.str ⟨#[c]⟩,?_,.str _⟩
  unfold B1
  rw [aJ]
  have:z.cps.toList[i]?=some c:=by simpa using h2
  rw [this];rfl
 | _=>cases hi
theorem gU {tg:Expr} (he:jD X e te):JV X tg e (aDc te):=by
 obtain ⟨ve,pe,re⟩:=he
 refine ⟨_,VO pe,λB p0 H ps σT σ Q R o h k=>re B p0 H ps σT σ _ _ o h λd x H1 s1 r1 q1=>?_⟩
 obtain ⟨ts,hi,q⟩:=q1
 exact OX r1 hi dA λJ rj=>k ts J H1 s1 rj q
def dX (n:Nat):List D:=(bX n).map λ(k:Nat)=>aX (k:Int)
def WI (t:AT):IT:=λσ Q=>t σ λds=>∃ n:Int,ds=[.int n]/\-(2 ^ 62)<=n/\n<2 ^ 62/\Q (dX n.toNat)
theorem hZ {tg e:Expr} {t:AT} {p p':Pos} (ha:uV X [e] t) (pr:∀ {ta:TA},PA X [e] ta->PI X tg (.Call (.Name "range" p) [e] [] p') (T4 ta)):JV X tg (.Call (.Name "range" p) [e] [] p') (WI t):=by
 obtain ⟨va,pa,ra⟩:=ha
 refine ⟨_,pr pa,λB p0 H ps σT σ Q R o h k=>ra B p0 H ps σT σ _ _ o h λds xs H1 s1 r1 q1=>?_⟩
 obtain ⟨n,rfl,h1,h2,q⟩:=q1
 cases r1 with
 | cons r1 r2 =>
  cases r2
  cases r1
  refine ⟨n,rfl,h1,h2,k (dX n.toNat) _ H1 s1 ?_ q⟩
  have hl:(dX n.toNat).length=n.toNat:=by unfold dX;simp
  refine ⟨λi H _ e=>by rw [hl] at e;exact e,λi H _ e=>by rw [hl] at e;exact e,λi H ps y H' _ _ e hy=>?_⟩
  obtain ⟨rfl,rfl⟩:=hy
  have ei:(0:Int)+(i:Int)=(i:Int):=by omega
  rw [ei]
  rw [hl] at e
  refine ⟨L2.bH.refl _,.int i,?_,.int _⟩
  unfold dX
  rw [aJ,gS e];rfl
def OV (ti:IT) (g:GT) (tb:qQ):qQ:=λDT σ=>ti σ λts=>∃ P:Nat->List Sl->Prop,P 0 σ /\
 (∀ (k:Nat) (x:D) (σ':List Sl),ts[k]?=some x->P k σ'->g x σ' λσ2=>tb { DT with nx:=P (k+1),ct:=P (k+1),bk:=DT.nx } σ2)/\∀ σ',P ts.length σ'->DT.nx σ'
theorem U5 {tg iter:Expr} {body:List Stmt} {g:GT} {tb:qQ} {ti:IT} (he:JV X tg iter ti) (hg:JW X tg g) (hb:rO X body tb)
  (pf:∀ {wi:TI} {gv:TG} {bv:TS},PI X tg iter wi->PG X tg gv->DB X body bv->PS X (.For tg iter body [] pos) (X9 wi gv bv)):xX X (.For tg iter body [] pos) (OV ti g tb):=by
 obtain ⟨ve,pe,re⟩:=he
 obtain ⟨gv,pg,rg⟩:=hg
 obtain ⟨vb,pb,rb⟩:=hb
 refine ⟨_,pf pe pg pb,λB p0 H ps σT σ DT DV o h f=>re B p0 H ps σT σ _ _ o h λts J H1 s1 rj q1=>?_⟩
 obtain ⟨P,h0,hs,hd⟩:=q1
 refine ⟨λi m σ' H'=>m=ts.length-i/\i<=ts.length/\∃ ps' σT',Ok X.K B p0 H' ps' σT' σ'/\bH (mask H1 ps) (mask H' ps')/\P i σT',⟨_,rfl,cC _,ps,σT,o.grow s1,L2.bH.refl _,h0⟩,?_⟩
 rintro i m σ' H' ⟨rfl,hle,ps',σT',o',s',p'⟩
 have sH:bH (mask H1 ps) H':=s'.trans dA
 have f':DF X.K B p0 H' ps' DT DV:=f.later ((cJ s1).trans s')
 by_cases hlt:i<ts.length
 ·refine .inr ⟨rj.go i H' sH hlt,λσ2 H2=>∃ ps2 σT2,Ok X.K B p0 H2 ps2 σT2 σ2/\bH (mask H1 ps) (mask H2 ps2)/\P (i+1) σT2,λσ2 H2 z=>⟨ts.length-(i+1),by omega,rfl,hlt,z⟩,λy H2 hy'=>?_⟩
  obtain ⟨s2,dx,hx,rx⟩:=rj.yld i H' ps' y H2 o'.live s' hlt hy'
  have f2:=f'.later (cJ (ps:=ps') s2)
  have s'':bH (mask H1 ps) (mask H2 ps'):=s'.trans (cJ s2)
  refine rg B p0 H2 ps' σT' σ' dx y _ _ (o'.grow s2) rx (hs i dx σT' hx p') λσT3 σ3 o3 _ q3=>?_
  exact rb B p0 H2 ps' σT3 σ3 _ _ o3 q3 ⟨λH4 ps4 σT4 σ4 o4 s4 q4=>⟨ps4,σT4,o4,s''.trans s4,q4⟩,λH4 ps4 σT4 σ4 o4 s4 q4=>f2.nx H4 ps4 σT4 σ4 o4 s4 q4,λH4 ps4 σT4 σ4 o4 s4 q4=>⟨ps4,σT4,o4,s''.trans s4,q4⟩,f2.rt,f2.ro,f2.rp,f2.rq,f2.xb⟩
 ·obtain rfl:i=ts.length:=by omega
  exact .inl ⟨rj.stop _ H' sH (aL _),f'.nx H' ps' σT' σ' o' (L2.bH.refl _) (hd σT' p')⟩

def C6 (σ:List Sl):Option Nat->Sl
 | none=>.un
 | some j=>match σ[j]? with | some (.val d)=>.val d | _=>.un
def iC (fr:List (Option Nat)) (σ:List Sl):List Sl:=fr.map (C6 σ)
theorem I0 {σ:List Sl} {q:Option Nat} {d:D} (h:C6 σ q=.val d):∃ j,q=some j/\σ[j]?=some (.val d):=by
 cases q with
 | none=>cases h
 | some j =>
  refine ⟨j,rfl,?_⟩
  unfold C6 at h
  dsimp only at h
  split at h
  ·next e=>cases h;exact e
  ·cases h
theorem JA {σ:List Sl} {q:Option Nat} {s:Sl} (hv:∀ d,s≠.val d) (hu:s≠.un):C6 σ q≠s:=λh=>by
 cases q with
 | none=>exact hu h.symm
 | some j =>
  unfold C6 at h
  dsimp only at h
  split at h
  ·exact hv _ h.symm
  ·exact hu h.symm
theorem nW (fr:List (Option Nat)) (σ:List Sl):lM (iC fr σ):=λi s hv hu h=>by
 unfold iC at h
 rw [aJ] at h
 cases hf:fr[i]? with
 | none=>rw [hf] at h;cases h
 | some q =>
  rw [hf] at h
  exact JA hv hu (Option.some.inj h)
theorem Ok.blk (o:Ok K B p0 H ps σT σ) (fr:List (Option Nat)):Ok K B p0 H ps (iC fr σT) (qZ fr σ) where
 base:=o.base
 sub:=o.sub
 live:=o.live
 len:=by unfold iC qZ;simp
 val:=λi d h=>by
  unfold iC at h
  rw [aJ] at h
  cases hf:fr[i]? with
  | none=>rw [hf] at h;cases h
  | some q =>
   rw [hf] at h
   obtain ⟨j,rfl,e⟩:=I0 (Option.some.inj h)
   obtain ⟨v,h1,h2⟩:=o.val j d e
   refine ⟨v,?_,h2⟩
   unfold qZ
   rw [aJ,hf]
   simp [h1]
 own:=λi ts h=>absurd h ((nW fr σT).own i ts)
 dis:=λi j ts us p h=>absurd h ((nW fr σT).own i ts)
 dc:=λi hs kvs h=>absurd h ((nW fr σT).dic i hs kvs)
theorem Ok.adopt (o:Ok K B p0 H ps σT σ) {p:Addr} {u:HO} (hp:H p=none):Ok K B p0 (iM H p u) (p::ps) σT σ:=by
 have hm:mask (iM H p u) (p::ps)=mask H ps:=kR hp
 refine ⟨o.base.trans (fL hp),λq hq=>aK _ (o.sub q hq),λq hq=>?_,o.len,λi d h=>by rw [hm];exact o.val i d h,λi ts h=>?_,o.dis,o.dc.to (λj hs kvs h=>⟨h,rfl⟩) (λq φ a b _=>⟨aK _ a,cT λz=>by rw [z,hp] at b;cases b⟩) (λq φ _ _ a b=>⟨a,b⟩) (by rw [hm];exact L2.bH.refl _)⟩
 ·by_cases e:q=p
  ·subst e;rw [eM];simp
  ·rw [cT e]
   rcases aZ.mp hq with z | z
   ·exact absurd z e
   ·exact o.live q z
 ·rw [hm]
  obtain ⟨q,xs,h1,h2,h3,h4,h5,h6⟩:=o.own i ts h
  exact ⟨q,xs,h1,aK _ h2,h3,h4,by rw [cT λz=>by rw [z,hp] at h5;cases h5];exact h5,h6⟩
theorem Ok.aside (o:Ok K B p0 H ps σT σ) {q:Addr} {u:HO} (hp:q∈ps) (hB:B q=none) (hn:lM σT):Ok K B p0 (iM H q u) ps σT σ where
 base:=λb w e=>by
  rw [cT λz=>by rw [z,hB] at e;cases e]
  exact o.base b w e
 sub:=o.sub
 live:=λp hp'=>by
  by_cases e:p=q
  ·subst e;rw [eM];simp
  ·rw [cT e];exact o.live p hp'
 len:=o.len
 val:=λi d h=>by rw [kP hp];exact o.val i d h
 own:=λi ts h=>absurd h (hn.own i ts)
 dis:=λi j ts us p h=>absurd h (hn.own i ts)
 dc:=λi hs kvs h=>absurd h (hn.dic i hs kvs)
def A4 (X:Cx) (ifs:List Expr) (t:oK):Prop:=∃ tt:TT,JH X ifs tt/\∀ (B:Hp) (p0:List Addr) (H:Hp) (ps:List Addr) (σT:List Sl) (σ:L2.St) (Q:Bool->Prop) (QV:Bool->Hp->Prop),Ok X.K B p0 H ps σT σ->t σT Q ->
 (∀ b H',bH H H'->Q b->QV b H')->tt σ H QV
def xD:oK:=λ_ Q=>Q true
theorem iD:A4 X [] xD:=⟨_,O8,λ_ _ H _ _ _ _ _ _ h k=>k _ H (L2.bH.refl H) h⟩
theorem MN {t:oK} (h:EW X e t):A4 X [e] t:=by
 obtain ⟨v,p,r⟩:=h
 exact ⟨_,O7 p,r⟩
def JR (fr:List (Option Nat)) (ti:IT) (g:GT) (tt:oK) (te:ET):ET:=λσ Q=>ti σ λts=>ts.length<=100000/\∃ P:Nat->List Sl->List D->Prop,P 0 (iC fr σ) [] /\
 (∀ (k:Nat) (x:D) (σ':List Sl) (ds:List D),ts[k]?=some x->P k σ' ds->g x σ' λσ2=>tt σ2 λb=>if b=true then te σ2 λy=>P (k+1) σ2 (ds++[y]) else P (k+1) σ2 ds)/\∀ σ' ds,P ts.length σ' ds->Q (.list ds)
theorem PY {fr:List (Option Nat)} {ti:IT} {g:GT} {tt:oK} {te:ET} {wi:TI} {gv:BP->TG} {vt:BP->TT} {ve:BP->TE}
  (ri:∀ (B:Hp) (p0:List Addr) (H:Hp) (ps:List Addr) (σT:List Sl) (σ:L2.St) (Q:List D->Prop) (R:It->Hp->Prop),Ok X.K B p0 H ps σT σ->ti σT Q->(∀ ts J H',bH H H'->QU X.K (mask H' ps) ts J->Q ts->R J H')->wi σ H R)
  (rg:∀ (bp:BP) (B:Hp) (p0:List Addr) (H:Hp) (ps:List Addr) (σT:List Sl) (σ:L2.St) (d:D) (v:V) (Q:List Sl->Prop) (QV:L2.St->Hp->Prop),Ok X.K B p0 H ps σT σ->iA X.K (mask H ps) d v->g d σT Q->(∀ σT' σ',Ok X.K B p0 H ps σT' σ'->(lM σT->lM σT')->Q σT'->QV σ' H)->gv bp v σ H QV)
  (rt:∀ (bp:BP) (B:Hp) (p0:List Addr) (H:Hp) (ps:List Addr) (σT:List Sl) (σ:L2.St) (Q:Bool->Prop) (QV:Bool->Hp->Prop),Ok X.K B p0 H ps σT σ->tt σT Q->(∀ b H',bH H H'->Q b->QV b H')->vt bp σ H QV)
  (re:∀ (bp:BP) (B:Hp) (p0:List Addr) (H:Hp) (ps:List Addr) (σT:List Sl) (σ:L2.St) (Q:D->Prop) (QV:VK),Ok X.K B p0 H ps σT σ->te σT Q->(∀ d v H',bH H H'->iA X.K (mask H' ps) d v->Q d->QV v H')->ve bp σ H QV)
  (B:Hp) (p0:List Addr) (H:Hp) (ps:List Addr) (σT:List Sl) (σ:L2.St) (Q:D->Prop) (QV:VK) (o:Ok X.K B p0 H ps σT σ) (h:JR fr ti g tt te σT Q) (k:∀ d v H',bH H H'->iA X.K (mask H' ps) d v->Q d->QV v H'):KH fr wi gv vt ve σ H QV:=by
 refine ri B p0 H ps σT σ _ _ o h λts J H1 s1 rj q1=>?_
 obtain ⟨hz,P,h0,hs,hd⟩:=q1
 intro bp acc hacc
 have hBacc:B acc=none:=by
  cases q:B acc with
  | none=>rfl
  | some u=>rw [(o.grow s1).base acc u q] at hacc;cases hacc
 have hnps:acc∉ps:=jI (o.grow s1).live hacc
 refine ⟨λi m σ' H'=>m=ts.length-i/\i<=ts.length/\∃ σT' ds ys,Ok X.K B p0 H' (acc::ps) σT' σ'/\lM σT'/\H' acc=some (.lst ys)/\ds.length<=i/\Reps X.K (mask H' (acc::ps)) ds ys/\bH (mask H1 ps) (mask H' (acc::ps))/\bH H1 H'/\P i σT' ds,
  ⟨_,rfl,cC _,iC fr σT,[],[],((o.grow s1).blk fr).adopt hacc,nW fr σT,eM,aL _,.nil,by rw [kR hacc];exact L2.bH.refl _,fL hacc,h0⟩,?_⟩
 rintro i m σ' H' ⟨rfl,hle,σT',ds,ys,o',n',ha,hl,hr,s',sF,p'⟩
 have hL:bG=2 ^ 24:=rfl
 by_cases hlt:i<ts.length
 ·refine .inr ⟨rj.go i H' (s'.trans dA) hlt,λy H2 hy=>?_⟩
  obtain ⟨s2,dx,hx,rx⟩:=rj.yld i H' (acc::ps) y H2 o'.live s' hlt hy
  refine rg bp B p0 H2 (acc::ps) σT' σ' dx y _ _ (o'.grow s2) rx (hs i dx σT' ds hx p') λσT3 σ3 o3 n3 q3=>?_
  refine rt bp B p0 H2 (acc::ps) σT3 σ3 _ _ o3 q3 λb H4 s4 q4=>?_
  have s24:=s2.trans s4
  cases b with
  | false =>
   exact ⟨ts.length-(i+1),by omega,rfl,hlt,σT3,ds,ys,o3.grow s4,n3 n',s24 _ _ ha,by omega,hr.same (cJ s24),s'.trans (cJ s24),sF.trans s24,q4⟩
  | true =>
   refine re bp B p0 H4 (acc::ps) σT3 σ3 _ _ (o3.grow s4) q4 λd v H5 s5 r5 q5=>?_
   have s25:=s24.trans s5
   have hm:mask (iM H5 acc (.lst (ys++[v]))) (acc::ps)=mask H5 (acc::ps):=kP (aM ..)
   refine ⟨ys,s25 _ _ ha,by rw [<- hr.length];omega,ts.length-(i+1),by omega,rfl,hlt,σT3,ds++[d],ys++[v],((o3.grow s4).grow s5).aside (aM ..) hBacc (n3 n'),n3 n',eM,by rw [bA,hG];omega,?_,?_,?_,q5⟩
   ·rw [hm];exact (hr.same (cJ s25)).append (.cons r5 .nil)
   ·rw [hm];exact s'.trans (cJ s25)
   ·intro b u e
    have ne:b≠acc:=λz=>by rw [z,hacc] at e;cases e
    rw [cT ne];exact (sF.trans s25) b u e
 ·obtain rfl:i=ts.length:=by omega
  refine .inl ⟨rj.stop _ H' (s'.trans dA) (aL _),k (.list ds) _ H' (s1.trans sF) (.list (lP.of (mY hnps ha)) (hr.same (kQ λp hp=>aK _ hp))) (hd σT' ds p')⟩
theorem MA {elt iter tg:Expr} {ifs:List Expr} {scope:Scope} {fr:List (Option Nat)} {N':List Str} {ti:IT} {g:GT} {tt:oK} {te:ET} (hi:JV X tg iter ti)
  (hY:∀ b:BP,JW (blk X scope N' b) tg g/\A4 (blk X scope N' b) ifs tt/\jD (blk X scope N' b) elt te) {M:(TE)->Prop}
  (fin:∀ {wi:TI} {gv:BP->TG} {vt:BP->TT} {ve:BP->TE},PI X tg iter wi->(∀ b:BP,PG (blk X scope N' b) tg (gv b)/\JH (blk X scope N' b) ifs (vt b)/\PE (blk X scope N' b) elt (ve b))->M (KH fr wi gv vt ve)) :
  ∃ v:TE,M v/\∀ (B:Hp) (p0:List Addr) (H:Hp) (ps:List Addr) (σT:List Sl) (σ:L2.St) (Q:D->Prop) (QV:VK),Ok X.K B p0 H ps σT σ->JR fr ti g tt te σT Q ->
   (∀ d v H',bH H H'->iA X.K (mask H' ps) d v->Q d->QV v H')->v σ H QV:=by
 obtain ⟨wi,pi,ri⟩:=hi
 refine ⟨_,fin (gv:=λb=>Classical.choose (hY b).1) (vt:=λb=>Classical.choose (hY b).2.1) (ve:=λb=>Classical.choose (hY b).2.2) pi λb=>⟨(Classical.choose_spec (hY b).1).1,(Classical.choose_spec (hY b).2.1).1,(Classical.choose_spec (hY b).2.2).1⟩,?_⟩
 exact PY ri (λb=>(Classical.choose_spec (hY b).1).2) (λb=>(Classical.choose_spec (hY b).2.1).2) λb=>(Classical.choose_spec (hY b).2.2).2
theorem aAz {elt iter tg:Expr} {ifs:List Expr} {scope:Scope} {fr:List (Option Nat)} {N':List Str} {ti:IT} {g:GT} {tt:oK} {te:ET} (hi:JV X tg iter ti)
  (hY:∀ b:BP,JW (blk X scope N' b) tg g/\A4 (blk X scope N' b) ifs tt/\jD (blk X scope N' b) elt te)
  (pl:∀ {wi:TI} {gv:BP->TG} {vt:BP->TT} {ve:BP->TE},PI X tg iter wi->(∀ b:BP,PG (blk X scope N' b) tg (gv b)/\JH (blk X scope N' b) ifs (vt b)/\PE (blk X scope N' b) elt (ve b))->PE X (.ListComp elt [⟨tg,iter,ifs,0⟩] scope pos) (KH fr wi gv vt ve)) :
  jD X (.ListComp elt [⟨tg,iter,ifs,0⟩] scope pos) (JR fr ti g tt te):=MA hi hY pl
theorem nT {i:Nat} {x:Str} {px spos:Pos} {elt iter tg:Expr} {ifs:List Expr} {scope:Scope} {fr:List (Option Nat)} {N':List Str} {ti:IT} {g:GT} {tt:oK} {te:ET} (hi:JV X tg iter ti)
  (hY:∀ b:BP,JW (blk X scope N' b) tg g/\A4 (blk X scope N' b) ifs tt/\jD (blk X scope N' b) elt te)
  (pl:∀ {wi:TI} {gv:BP->TG} {vt:BP->TT} {ve:BP->TE},PI X tg iter wi->(∀ b:BP,PG (blk X scope N' b) tg (gv b)/\JH (blk X scope N' b) ifs (vt b)/\PE (blk X scope N' b) elt (ve b)) ->
   PS X (.Assign [.Name x px] (.ListComp elt [⟨tg,iter,ifs,0⟩] scope pos) spos) (zU (KH fr wi gv vt ve) (kT i))) :
  xX X (.Assign [.Name x px] (.ListComp elt [⟨tg,iter,ifs,0⟩] scope pos) spos) (DR i (JR fr ti g tt te)):=by
 obtain ⟨v,p,r⟩:=MA (M:=λv=>PS X (.Assign [.Name x px] (.ListComp elt [⟨tg,iter,ifs,0⟩] scope pos) spos) (zU v (kT i))) (fr:=fr) hi hY pl
 refine ⟨_,p,λB p0 H ps σT σ DT DV o h f=>r B p0 H ps σT σ _ _ o h λd x H' s' r' q'=>?_⟩
 exact f.nx H' ps _ _ ((o.grow s').set r') (cJ s') q'

def mK (N:List Str) (ds:List D):List Sl:=ds.map Sl.val++jQ (N.length-ds.length) .un
theorem sE {N:List Str} {ds:List D} {vs:List V} (live:∀ p∈ps,H p≠none) (r:Reps K (mask H ps) ds vs):Ok K H ps H ps (mK N ds) (L2.start N vs):=by
 have hl:=r.length
 refine ⟨L2.bH.refl _,λ_ h=>h,live,?_,λi d h=>?_,λi ts h=>?_,λi j ts us p h=>?_,λi hs kvs h=>?_⟩
 ·unfold mK L2.start;simp [hl]
 ·unfold mK at h
  by_cases hi:i<ds.length
  ·rw [dD (by simpa using hi),aJ] at h
   cases hd:ds[i]? with
   | none=>rw [hd] at h;cases h
   | some d' =>
    rw [hd] at h
    cases h
    obtain ⟨v,h1,h2⟩:=r.get hd
    refine ⟨v,?_,h2⟩
    unfold L2.start
    rw [dD (by rw [aC,<- hl];exact hi),aJ,h1];rfl
  ·rw [dJ (by simpa using hi),iS] at h
   split at h<;>cases h
 ·unfold mK at h
  by_cases hi:i<ds.length
  ·rw [dD (by simpa using hi),aJ] at h
   cases hd:ds[i]? with
   | none=>rw [hd] at h;cases h
   | some d'=>rw [hd] at h;cases h
  ·rw [dJ (by simpa using hi),iS] at h
   split at h<;>cases h
 ·unfold mK at h
  by_cases hi:i<ds.length
  ·rw [dD (by simpa using hi),aJ] at h
   cases hd:ds[i]? with
   | none=>rw [hd] at h;cases h
   | some d'=>rw [hd] at h;cases h
  ·rw [dJ (by simpa using hi),iS] at h
   split at h<;>cases h
 ·unfold mK at h
  by_cases hi:i<ds.length
  ·rw [dD (by simpa using hi),aJ] at h
   cases hd:ds[i]? with
   | none=>rw [hd] at h;cases h
   | some d'=>rw [hd] at h;cases h
  ·rw [dJ (by simpa using hi),iS] at h
   split at h<;>cases h
theorem mS {P:bY} {w:World} {mg:Str->Option Value} {base:Heap} {x qual:Str} {st:Stmt} {f:Addr} {fd:dF} {N pn:List Str} {k:Nat} {sp:kW} (F:JZ K x qual st f fd) (S:cD N pn (aY st)) (len:∀ ds Q,sp ds Q->ds.length=pn.length)
  (hbody:∀ (cdv:Value) (A:Around) (outer:List Env) (s:Shared) (H:Hp) (E:XK),gG k (A.deeper (envOfC qual (aY st) s.heap.objs.size f cdv))->∀ (ds:List D) (Q:D->Prop),sp ds Q ->
   ∃ t,rO (wX dP P w K mg base N qual (aY st) f cdv A outer s H E).nox (kU st) t/\t { nx:=λ_=>Q .none,rt:=Q } (mK N ds)):bN P w K mg base dP (k+1) f fd pn (aS K sp):=by
 refine F.ok S (λvs H Q E h=>?_) λcdv A outer s H vs Q E hr h=>?_
 ·obtain ⟨ps,ds,QD,_,r,q,_⟩:=h
  rw [<- r.length];exact len ds QD q
 ·obtain ⟨ps,ds,QD,live,r,q,k⟩:=h
  obtain ⟨t,⟨ts,p,rd⟩,h⟩:=hbody cdv A outer s H E hr ds QD q
  refine ⟨ts,p,rd H ps H ps _ _ _ _ (sE live r) h ⟨λH' ps' σT' σ' o' s' q'=>?_,λ_ _ _ _ _ _ q'=>q'.elim,λ_ _ _ _ _ _ q'=>q'.elim,λd v H' s' r' q'=>k d v H' s' r' q',λ_ _ _ _ _ _ _ _ _ q'=>q'.elim,λ_ _ _ _ _ _ _ _ _ _ _ _ _ _ _ _ _ _ q'=>q'.elim,λ_ _ _ _ _ _ _ _ _ _ _ _ _ _ q'=>q'.elim,True.intro⟩⟩
  exact k _ _ H' o'.base .none q'
end
end TL

namespace HT
open PySem PySem.Spec PyProof.Rows
section
variable {prog:bY} {w:World} {A:Around} {E:Value->Shared->Prop} {s:Shared}
theorem getItem_tuple_all {t sl:Addr} {items:Array Value} {vl vu:Value} {lo hi:Option Int} {Q:Value->Shared->Prop} (ht:IsTup s.heap t items) (hs:s.heap.IsSliceOf sl vl vu .none) (pl:IsPart vl lo) (pu:IsPart vu hi)
  (hw:sIx items.size 0 lo=0/\sIx items.size items.size hi=items.size) (h:Q (.ref t) s):wpAny (model prog w) A (getItem (.ref t) (.ref sl)) Q E s:=by
 obtain ⟨os,hos,hcs,hds⟩:=id hs
 have hTs:s.TypeIs (.ref sl) "slice":=⟨os,hos,hcs⟩
 unfold getItem
 try with_reducible refine wpAny_holding ?_
 first | refine aV (bM ?_) | skip
 refine aV (wpAny_sequenceKey ht.typeIs (by decide) ?_)
 refine aV (wpAny_callSpecial?_slot (name:=Str.ofString "__getitem__") ht.typeIs PyProof.Rows.slot_tuple_getitem
  (aBh PyProof.Rows.slot_tuple_getitem ht.typeIs entry_tuple_getitem ?_ (args_tuple_getitem _ _)))
 show wpAny _ _ (Builtin.Tuple.tupleItemsOf (.ref t) >>= _) _ _ s
 refine aV (tupleItemsOf_ ht ?_)
 refine aV (wpAny_typeOf hTs ?_)
 rw [if_pos (by decide)]
 refine aV (nU hs pl pu ?_)
 have hyes:(((sIx items.size 0 lo:Nat):Int) == 0 && (1:Int) == 1 && (sIx items.size items.size hi-sIx items.size 0 lo) == items.size)=true:=by
  rw [hw.1,hw.2];simp
 show wpAny _ _ (if (((sIx items.size 0 lo:Nat):Int) == 0 && (1:Int) == 1 && (sIx items.size items.size hi-sIx items.size 0 lo) == items.size)=true then _ else _) _ _ s
 rw [if_pos hyes]
 unfold Builtin.Tuple.tupleIsExact
 refine aV (aV (wpAny_typeOf ht.typeIs (bM ?_)))
 rw [if_pos (by decide)]
 first
  | exact aV (wpAny_rule (aV (bM (bM ⟨_,rfl,bM h⟩))))
  | exact aV (wpAny_rule (bM ⟨_,rfl,bM h⟩))
  | exact aV (wpAny_rule (aV (bM ⟨_,rfl,bM h⟩)))
end
end HT

namespace L2
open PySem PySem.Spec PyProof.Rows
section
variable {X:Cx}
def YT:V->Option Int->Option Int->Hp->VK->Prop:=λx lo hi H Q=>∃ z,x=.str z/\z.length<=bG/\Q (.str (Txt.slice z lo hi)) H
theorem VC:NC X YT:=by
 intro pins s σ H x v vl vu lo hi sl Q I rx hs pl pu h
 obtain ⟨z,rfl,hz,q⟩:=h
 obtain ⟨t,rfl⟩:=rx
 refine ⟨"str",_,PySem.F.slot_str_getitem.lookup,typeIs_str _ _ _,?_⟩
 have fin:∀ lo hi:Option Int,Q (.str (Txt.slice z lo hi)) H->(Txt.slice z lo hi).length<=bG/\∀ (t':Tok) (k:Nat),EP X pins σ Q (.str (Txt.slice z lo hi) t') { s with toks:=k }:=λlo hi q =>
  ⟨bO (Txt.slice_le z _ _) hz,λt' k=>⟨.str _,H,I.tok k,⟨t',rfl⟩,q⟩⟩
 cases pl with
 | none =>
  cases pu with
  | none=>exact wpAny_getItem_str_slice (l:=none) (u:=none) (st:=none) hs rfl (post_val_or_str (fin none none q))
  | int j uj=>exact wpAny_getItem_str_slice (l:=none) (u:=some (j,uj)) (st:=none) hs rfl (post_val_or_str (fin none (some j) q))
 | int i ui =>
  cases pu with
  | none=>exact wpAny_getItem_str_slice (l:=some (i,ui)) (u:=none) (st:=none) hs rfl (post_val_or_str (fin (some i) none q))
  | int j uj=>exact wpAny_getItem_str_slice (l:=some (i,ui)) (u:=some (j,uj)) (st:=none) hs rfl (post_val_or_str (fin (some i) (some j) q))
def TR (K:aE):V->Option Int->Option Int->Hp->VK->Prop:=λx lo hi H Q=>∃ a xs,x=.ref a/\qP K H a xs /\
 ((HT.sIx xs.length 0 lo=0/\HT.sIx xs.length xs.length hi=xs.length)->Q (.ref a) H)/\(¬ (HT.sIx xs.length 0 lo=0/\HT.sIx xs.length xs.length hi=xs.length)->∀ p,H p=none->Q (.ref p) (iM H p (.tup (AZ xs lo hi))))
theorem OO:NC X (TR X.K):=by
 intro pins s σ H x v vl vu lo hi sl Q I rx hs pl pu h
 obtain ⟨a,xs,rfl,hx,q1,q2⟩:=h
 by_cases hw:HT.sIx xs.length 0 lo=0/\HT.sIx xs.length xs.length hi=xs.length
 ·cases rx
  obtain ⟨its,r,ht,hz⟩:=I.tuple hx
  have hlen:its.toArray.size=xs.length:=by rw [bB];exact r.length.symm
  exact ⟨"tuple",_,PyProof.Rows.slot_tuple_getitem.lookup,ht.typeIs,HT.getItem_tuple_all ht hs pl pu (by rw [hlen];exact hw) ⟨.ref a,H,I,rfl,q1 hw⟩⟩
 ·exact VB pins s σ H (.ref a) v vl vu lo hi sl Q I rx hs pl pu ⟨a,xs,rfl,hx,hw,q2 hw⟩
def K1 (K:aE):V->Option Int->Option Int->Hp->VK->Prop:=λx lo hi H Q=>YU K x lo hi H Q\/TR K x lo hi H Q\/YT x lo hi H Q
theorem lE:NC X (K1 X.K):=OP.or (OO.or VC)
def K3 (K:aE):R2:=λx y H Q=>∃ a b xs ys,x=.ref a/\y=.ref b/\qP K H a xs/\qP K H b ys/\xs.length+ys.length<=bG /\
 (xs=[]->Q (.ref b) H)/\(xs≠[]->ys=[]->Q (.ref a) H)/\(xs≠[]->ys≠[]->∀ p,H p=none->Q (.ref p) (iM H p (.tup (xs++ys))))
theorem LL:nJ X (binaryOp .Add) (K3 X.K):=by
 intro pins s σ H x y v u Q I rx ry h
 obtain ⟨a,b,xs,ys,rfl,rfl,ha,hb,hz,q0,q1,q2⟩:=h
 by_cases hx:xs=[]
 ·cases rx
  cases ry
  obtain ⟨its,r1,p1,_⟩:=I.tuple ha
  obtain ⟨its2,r2,p2,_⟩:=I.tuple hb
  obtain ⟨⟨cls,dd,data,sl⟩,ho,hc,n,hd⟩:=id p1
  obtain ⟨⟨cls2,dd2,data2,sl2⟩,ho2,hc2,n2,hd2⟩:=id p2
  simp only at hc hd hc2 hd2
  subst hc hd hc2 hd2
  have he:its=[]:=r1.nil_iff.mpr hx
  exact concat_meets ⟨_,ho,rfl⟩ ⟨_,ho2,rfl⟩ noFill_tuple_add seq_tuple_add pE oH (nK _ _) (tuple_addW0 a b its.toArray its2.toArray n n2 dd dd2 sl sl2 (by simp [he])) ⟨ho,ho2,⟨.ref b,H,I,rfl,q0 hx⟩⟩
 ·exact PF pins s σ H (.ref a) (.ref b) v u Q I rx ry ⟨a,b,xs,ys,rfl,rfl,ha,hb,hx,hz,q1 hx,q2 hx⟩
def TV (K:aE):R2:=λx y H Q=>∃ l b xs zs,x=.ref l/\y=.ref b/\lP K H l xs/\lP K H b zs/\xs.length+zs.length<=bG/\∀ p,H p=none->Q (.ref p) (iM H p (.lst (xs++zs)))
theorem F4:nJ X (binaryOp .Add) (TV X.K):=by
 intro pins s σ H x y v u Q I rx ry h
 obtain ⟨l,b,xs,zs,rfl,rfl,ha,hb,hz,q⟩:=h
 cases rx
 cases ry
 obtain ⟨its,r1,⟨⟨cls,dd,data,sl⟩,n,ho,hc,hdd,hd⟩,_⟩:=I.list ha
 obtain ⟨its2,r2,⟨⟨cls2,dd2,data2,sl2⟩,n2,ho2,hc2,hdd2,hd2⟩,_⟩:=I.list hb
 simp only at hc hd hc2 hd2
 subst hc hd hc2 hd2
 have hz':its.toArray.size+its2.toArray.size<=bG:=by rw [bB,bB,<- r1.length,<- r2.length];exact hz
 refine concat_meets ⟨_,ho,rfl⟩ ⟨_,ho2,rfl⟩ noFill_list_add seq_list_add PySem.F.slot_list_add PySem.F.entry_list_add (PySem.F.args_list_add_2 _ _) (list_addW l b its.toArray its2.toArray n n2 dd dd2 sl sl2 hz') ⟨ho,ho2,?_⟩
 have ea:its.toArray++its2.toArray=(its++its2).toArray:=by simp
 rw [ea]
 exact ⟨.ref _,_,I.lnew (t':=s.toks) (r1.append r2) (by rw [bA];exact hz),rfl,q _ I.fresh⟩
def FW (K:aE):R2:=λx y H Q=>(K2 λi j=>.int (i+j)) x y H Q\/(∃ i j,x=.str i/\y=.str j/\i.length+j.length<=bG/\Q (.str (i++j)) H)\/K3 K x y H Q\/TV K x y H Q
theorem cH:nJ X (binaryOp .Add) (FW X.K):=VY.or (D3.or (LL.or F4))
def FS:R2:=λx y H Q=>(rI EY λi j=>.int (i*j)) x y H Q\/∃ z n,x=.str z/\y=.int n/\z.length<=1000/\0<=n/\n<=1000/\Q (.str (Txt.mul z n)) H
theorem D2:nJ X (binaryOp .Mult) (λx y H Q=>∃ z n,x=.str z/\y=.int n/\z.length<=1000/\0<=n/\n<=1000/\Q (.str (Txt.mul z n)) H):=by
 intro pins s σ H x y v u Q I rx ry h
 obtain ⟨z,n,rfl,rfl,hz,h0,h1,q⟩:=h
 obtain ⟨t,rfl⟩:=rx
 obtain ⟨t',rfl⟩:=ry
 refine SB.mul ⟨by simp;omega,λa _=>?_,λ_ _=>?_⟩ λt'' k=>⟨.str _,H,I.tok k,⟨t'',rfl⟩,q⟩
 ·have hn:1<=n:=by omega
  have:(1000:Int)<=(2 ^ 63-1) / n:=by
   rw [Int.le_ediv_iff_mul_le (by omega)]
   omega
  omega
 ·have:z.length*n.toNat<=1000*1000:=jT hz (by omega)
  unfold Builtin.Str.tooLong
  have hL:bG=2 ^ 24:=rfl
  simp only [decide_eq_false_iff_not]
  omega
theorem eB:nJ X (binaryOp .Mult) FS:=LK.or D2
def VG:R2:=λx y H Q=>∃ b,y=.bl b/\Q (.bl (decide (x=.bl b))) H
def AA:R2:=λx y H Q=>∃ b,y=.bl b/\Q (.bl (!decide (x=.bl b))) H
theorem T2 {x:V} {v:Value} {b:Bool} (r:gO x v):plainIs v (.bool b)=true/\(v == Value.bool b)=decide (x=.bl b):=by
 cases x with
 | non=>cases r;exact ⟨rfl,rfl⟩
 | bl c=>cases r;cases b<;>cases c<;>exact ⟨rfl,rfl⟩
 | int _=>obtain ⟨t,rfl⟩:=r;exact ⟨rfl,rfl⟩
 | str _=>obtain ⟨t,rfl⟩:=r;exact ⟨rfl,rfl⟩
 | byt _=>obtain ⟨t,rfl⟩:=r;exact ⟨rfl,rfl⟩
 | flt _=>obtain ⟨t,rfl⟩:=r;exact ⟨rfl,rfl⟩
 | ref _=>cases r;exact ⟨rfl,rfl⟩
 | ty _=>cases r;exact ⟨rfl,rfl⟩
theorem HU:nJ X (compareOp .IsNot) AA:=by
 intro pins s σ H x y v u Q I rx ry h
 obtain ⟨b,rfl,q⟩:=h
 cases ry
 obtain ⟨h1,h2⟩:=T2 (b:=b) rx
 refine wpAny_isNot_plain h1 ?_
 rw [h2]
 exact ⟨.bl _,H,I,rfl,q⟩
theorem VW:nJ X (compareOp .Is) VG:=by
 intro pins s σ H x y v u Q I rx ry h
 obtain ⟨b,rfl,q⟩:=h
 cases ry
 obtain ⟨h1,h2⟩:=T2 (b:=b) rx
 refine wpAny_is_plain h1 ?_
 rw [h2]
 exact ⟨.bl _,H,I,rfl,q⟩
theorem FH:∀ {ys:List Str} {us:List Value},eI (ys.map V.str) us->StrsAre us ys
 | [],_,r=>by rw [mT] at r;cases r;exact .nil
 | y::ys,us,r=>by
  rw [bP] at r
  cases r with
  | cons r1 r2 =>
   obtain ⟨t,rfl⟩:=r1
   exact .cons y t (FH r2)
theorem PR:JY X "str.join" (λx xs H Q=>∃ z p ys,x=.str z/\xs=[.ref p]/\lP X.K H p (ys.map V.str)/\(ys.map (·.length)).sum+ys.length*z.length<=16777216/\Q (.str (Txt.join z ys)) H):=by
 intro pins s σ H x xs v us Q I rx r h
 obtain ⟨z,p,ys,rfl,rfl,hq,hz,q⟩:=h
 obtain ⟨t,rfl⟩:=rx
 obtain ⟨u,rfl,ru⟩:=vP r
 cases ru
 obtain ⟨its,rv,pl,_⟩:=I.list hq
 exact PyProof.Rows.join_list pl.isList (by simpa using FH rv) hz λt' k=>⟨.str _,H,I.tok k,⟨t',rfl⟩,q⟩
end
def aA4 (l:List Str) (y:Str):List Str:=if y∈l then l else l++[y]
def dd (ys:List Str):List Str:=ys.foldl aA4 []
section
variable {prog:bY} {w:World} {A:Around}
end
section
variable {X:Cx}
end
end L2

namespace TL
open PySem PySem.Spec PyProof.Rows L2
variable {K:aE} {H H' H1 H2:Hp} {B:Hp} {p0 ps:List Addr} {σT:List Sl} {σ:L2.St}
section
variable {X:Cx} {a b c e:Expr} {es:List Expr} {ta tb tc te:ET} {pos p:Pos}
def fI (C:Int->Int->Prop) (g:Int->Int->Int):D->D->(D->Prop)->Prop
 | .int i,.int j,Q=>C i j/\Q (.int (g i j))
 | _,_,_=>False
def fI0 (g:Int->Int->Int):D->D->(D->Prop)->Prop
 | .int i,.int j,Q=>Q (.int (g i j))
 | _,_,_=>False
def fB0 (g:Int->Int->Bool):D->D->(D->Prop)->Prop
 | .int i,.int j,Q=>Q (.bool (g i j))
 | _,_,_=>False
theorem oV {C:Int->Int->Prop} {g:Int->Int->Int}:DD X (rI C λi j=>.int (g i j)) (fI C g):=by
 intro H ps d1 d2 x y Q QV live r1 r2 h k
 cases r1 with
 | int i =>
  cases r2 with
  | int j=>exact ⟨i,j,rfl,rfl,h.1,k _ _ H (L2.bH.refl H) (.int _) h.2⟩
  | _=>exact h.elim
 | _=>exact h.elim
theorem V2 {g:Int->Int->Int}:DD X (K2 λi j=>.int (g i j)) (fI0 g):=by
 intro H ps d1 d2 x y Q QV live r1 r2 h k
 cases r1 with
 | int i =>
  cases r2 with
  | int j=>exact ⟨i,j,rfl,rfl,k _ _ H (L2.bH.refl H) (.int _) h⟩
  | _=>exact h.elim
 | _=>exact h.elim
theorem AJ {g:Int->Int->Bool}:DD X (K2 λi j=>.bl (g i j)) (fB0 g):=by
 intro H ps d1 d2 x y Q QV live r1 r2 h k
 cases r1 with
 | int i =>
  cases r2 with
  | int j=>exact ⟨i,j,rfl,rfl,k _ _ H (L2.bH.refl H) (.bool _) h⟩
  | _=>exact h.elim
 | _=>exact h.elim
def MY:D->D->(D->Prop)->Prop
 | .int i,.int j,Q=>Q (.int (i+j))
 | .str x,.str y,Q=>x.length+y.length<=100000/\Q (.str (x++y))
 | .tuple x,.tuple y,Q=>x.length+y.length<=100000/\Q (.tuple (x++y))
 | .list x,.list y,Q=>x.length+y.length<=100000/\Q (.list (x++y))
 | _,_,_=>False
theorem uI {n:Nat} (h:n<=100000):n<=bG:=by have:bG=2 ^ 24:=rfl;omega
theorem eV:DD X (FW X.K) MY:=by
 intro H ps d1 d2 x y Q QV live r1 r2 h k
 cases r1 with
 | int i =>
  cases r2 with
  | int j=>exact .inl ⟨i,j,rfl,rfl,k _ _ H (L2.bH.refl H) (.int _) h⟩
  | _=>exact h.elim
 | str i =>
  cases r2 with
  | str j=>exact .inr (.inl ⟨i,j,rfl,rfl,uI h.1,k _ _ H (L2.bH.refl H) (.str _) h.2⟩)
  | _=>exact h.elim
 | tuple q1 s1 =>
  cases r2 with
  | tuple q2 s2 =>
   refine .inr (.inr (.inl ⟨_,_,_,_,rfl,rfl,bH.seqT dA q1,bH.seqT dA q2,uI (by rw [<- s1.length,<- s2.length];exact h.1),λz=>?_,λz1 z2=>?_,λz1 z2 p hp=>?_⟩))
   ·subst z
    cases s1
    exact k _ _ H (L2.bH.refl H) (.tuple q2 s2) h.2
   ·subst z2
    cases s2
    have e:=h.2
    rw [dY] at e
    exact k _ _ H (L2.bH.refl H) (.tuple q1 s1) e
   ·exact k _ _ _ (fL hp) (sC live hp (s1.append s2)) h.2
  | _=>exact h.elim
 | list q1 s1 =>
  cases r2 with
  | list q2 s2 =>
   exact .inr (.inr (.inr ⟨_,_,_,_,rfl,rfl,L2.bH.seq dA q1,L2.bH.seq dA q2,uI (by rw [<- s1.length,<- s2.length];exact h.1),λp hp=>k _ _ _ (fL hp) (zX live hp (s1.append s2)) h.2⟩))
  | _=>exact h.elim
 | _=>exact h.elim
def WT:D->D->(D->Prop)->Prop
 | .int i,.int j,Q=>EY i j/\Q (.int (i*j))
 | .str z,.int n,Q=>z.length<=1000/\0<=n/\n<=1000/\Q (.str (Txt.mul z n))
 | _,_,_=>False
theorem iZ:DD X FS WT:=by
 intro H ps d1 d2 x y Q QV live r1 r2 h k
 cases r1 with
 | int i =>
  cases r2 with
  | int j=>exact .inl ⟨i,j,rfl,rfl,h.1,k _ _ H (L2.bH.refl H) (.int _) h.2⟩
  | _=>exact h.elim
 | str z =>
  cases r2 with
  | int n=>exact .inr ⟨z,n,rfl,rfl,h.1,h.2.1,h.2.2.1,k _ _ H (L2.bH.refl H) (.str _) h.2.2.2⟩
  | _=>exact h.elim
 | _=>exact h.elim
def WY:D->D->Option Bool
 | .none,.none=>some true
 | .bool x,.bool y=>some (decide (x=y))
 | .int x,.int y=>some (decide (x=y))
 | .str x,.str y=>some (decide (x=y))
 | .str _,.none | .none,.str _=>some false
 | _,_=>none
def fEq (x y:D) (Q:D->Prop):Prop:=match WY x y with | some c=>Q (.bool c) | none=>False
def fNe (x y:D) (Q:D->Prop):Prop:=match WY x y with | some c=>Q (.bool (!c)) | none=>False
theorem CY {x y:D} {u v:V} {c:Bool} (r1:iA K H x u) (r2:iA K H y v) (h:WY x y=some c):VD u v=true/\decide (u=v)=c:=by
 cases r1<;>cases r2<;>simp [WY] at h<;>subst h<;>exact ⟨rfl,by simp⟩
theorem tP:DD X rEq fEq:=by
 intro H ps d1 d2 x y Q QV live r1 r2 h k
 unfold fEq at h
 cases e:WY d1 d2 with
 | none=>rw [e] at h;exact h.elim
 | some c =>
  rw [e] at h
  obtain ⟨h1,h2⟩:=CY r1 r2 e
  refine ⟨h1,?_⟩
  rw [h2]
  exact k _ _ H (L2.bH.refl H) (.bool c) h
theorem aC0:DD X rNe fNe:=by
 intro H ps d1 d2 x y Q QV live r1 r2 h k
 unfold fNe at h
 cases e:WY d1 d2 with
 | none=>rw [e] at h;exact h.elim
 | some c =>
  rw [e] at h
  obtain ⟨h1,h2⟩:=CY r1 r2 e
  refine ⟨h1,?_⟩
  rw [h2]
  exact k _ _ H (L2.bH.refl H) (.bool (!c)) h
def oY (b:Bool):D->Bool
 | .bool c=>decide (c=b)
 | _=>false
def WU (x y:D) (Q:D->Prop):Prop:=match y with | .bool b=>Q (.bool (!oY b x)) | _=>False
theorem Reps.atI {ds:List D} {vs:List V} {i:Int} {d:D} (r:Reps K H ds vs) (h:atI ds i=some d):∃ v,atI vs i=some v/\iA K H d v:=by
 unfold L2.atI at h |-
 rw [<- r.length]
 cases e:WH ds.length i with
 | none=>rw [e] at h;cases h
 | some j =>
  rw [e] at h
  exact r.get h
inductive A5 (ts:List D) (i:Int) (Q:D->Prop):Prop
 | mk (d:D) (h:atI ts i=some d) (k:Q d):A5 ts i Q
theorem EX {ts:List D} {i:Int} {Q:D->Prop}:A5 ts i Q↔∃ d,atI ts i=some d/\Q d:=⟨λ⟨d,h,k⟩=>⟨d,h,k⟩,λ⟨d,h,k⟩=>⟨d,h,k⟩⟩
def fIx (x y:D) (Q:D->Prop):Prop:=match x,y with
 | .list ts,.int i=>A5 ts i Q
 | .tuple ts,.int i=>A5 ts i Q
 | .str z,.int i=>z.length<=100000/\∃ c,atI z.cps.toList i=some c/\Q (.str ⟨#[c]⟩)
 | _,_=>False
theorem bU:DD X (rIx X.K) fIx:=by
 intro H ps d1 d2 x y Q QV live r1 r2 h k
 cases r2 with
 | int i =>
  cases r1 with
  | list q s =>
   obtain ⟨d,e,h⟩:=h
   obtain ⟨v,e',r⟩:=s.atI e
   exact .inl ⟨_,_,i,v,rfl,rfl,L2.bH.seq dA q,e',k _ _ H (L2.bH.refl H) r h⟩
  | tuple q s =>
   obtain ⟨d,e,h⟩:=h
   obtain ⟨v,e',r⟩:=s.atI e
   exact .inr (.inl ⟨_,_,i,v,rfl,rfl,bH.seqT dA q,e',k _ _ H (L2.bH.refl H) r h⟩)
  | str z =>
   obtain ⟨hz,c,e,h⟩:=h
   exact .inr (.inr ⟨z,i,c,rfl,rfl,uI hz,e,k _ _ H (L2.bH.refl H) (.str _) h⟩)
  | _=>exact h.elim
 | _=>cases d1<;>exact h.elim
def jP {α:Type} (xs:List α) (lo hi:Option Int):List α:=(xs.drop (HT.sIx xs.length 0 lo)).take (HT.sIx xs.length xs.length hi-HT.sIx xs.length 0 lo)
def fSl (x:D) (lo hi:Option Int) (Q:D->Prop):Prop:=match x with
 | .list ts=>Q (.list (jP ts lo hi))
 | .tuple ts=>Q (.tuple (jP ts lo hi))
 | .str z=>z.length<=100000/\Q (.str (Txt.slice z lo hi))
 | _=>False
theorem Reps.cut {ds:List D} {vs:List V} (r:Reps K H ds vs) (lo hi:Option Int):Reps K H (jP ds lo hi) (AZ vs lo hi):=by
 unfold jP AZ
 rw [r.length]
 exact (r.drop _).take _
theorem tO:SlT X (K1 X.K) fSl:=by
 intro H ps d x lo hi Q QV live r h k
 cases r with
 | list q s=>exact .inl ⟨_,_,rfl,L2.bH.seq dA q,λp hp=>k _ _ _ (fL hp) (zX live hp (s.cut lo hi)) h⟩
 | @tuple p xs ts q s =>
  refine .inr (.inl ⟨_,_,rfl,bH.seqT dA q,λz=>?_,λ_ p hp=>k _ _ _ (fL hp) (sC live hp (s.cut lo hi)) h⟩)
  have e:jP ts lo hi=ts:=by
   unfold jP
   rw [s.length,z.1,z.2,EZ,zN,<- s.length,dW]
  have h':Q (.tuple (jP ts lo hi)):=h
  rw [e] at h'
  exact k _ _ H (L2.bH.refl H) (.tuple q s) h'
 | str z=>exact .inr (.inr ⟨z,rfl,uI h.1,k _ _ H (L2.bH.refl H) (.str _) h.2⟩)
 | _=>exact h.elim
def fIn (x y:D) (Q:D->Prop):Prop:=match x,y with
 | .str z,.str y=>Q (.bool (Txt.contains y z))
 | .str z,.list ts=>∃ ys:List Str,ts=ys.map .str/\Q (.bool (decide (z∈ys)))
 | .str z,.tuple ts=>∃ ys:List Str,ts=ys.map .str/\Q (.bool (decide (z∈ys)))
 | _,_=>False
theorem yT:∀ {ys:List Str} {vs:List V},Reps K H (ys.map aR) vs->vs=ys.map V.str
 | [],_,r=>by rw [mT] at r;cases r;rfl
 | y::ys,vs,r=>by
  rw [bP] at r
  cases r with
  | cons r1 r2 =>
   cases r1
   rw [bP,yT r2]
def WS (x y:D) (Q:D->Prop):Prop:=match x,y with
 | .str z,.list ts=>∃ ys:List Str,ts=ys.map .str/\Q (.bool (!decide (z∈ys)))
 | .str z,.tuple ts=>∃ ys:List Str,ts=ys.map .str/\Q (.bool (!decide (z∈ys)))
 | _,_=>False
theorem UD {r:List V->Hp->VK->Prop} {f:List D->(D->Prop)->Prop} {t:AT} {g:Expr} (hf:uN X r f) (ha:uV X (e::es) t) (pc:∀ {ta:TA},PA X (e::es) ta->PE X (.Call g (e::es) [] pos) (tCB r ta)):jD X (.Call g (e::es) [] pos) (mB f t):=by
 obtain ⟨v,pa,ra⟩:=ha
 refine ⟨_,pc pa,λB p0 H ps σT σ Q QV o h k=>ra B p0 H ps σT σ _ _ o h λds xs H1 s1 r1 q1=>?_⟩
 exact hf H1 ps ds xs Q QV (o.grow s1).live r1 q1 λd v H' s' r' q'=>k d v H' (s1.trans s') r' q'
def f1 (f:D->(D->Prop)->Prop):List D->(D->Prop)->Prop
 | [d],Q=>f d Q
 | _,_=>False
theorem c1 {r:List V->Hp->VK->Prop} {f:D->(D->Prop)->Prop} (h:∀ (H:Hp) (ps:List Addr) (d:D) (x:V) (Q:D->Prop) (QV:VK),(∀ p∈ps,H p≠none)->iA X.K (mask H ps) d x->f d Q ->
  (∀ d v H',bH H H'->iA X.K (mask H' ps) d v->Q d->QV v H')->r [x] H QV):uN X r (f1 f):=by
 intro H ps ds xs Q QV live rs hf k
 cases rs with
 | nil=>exact hf.elim
 | cons r1 r2 =>
  cases r2 with
  | nil=>exact h H ps _ _ Q QV live r1 hf k
  | cons _ _=>exact hf.elim
def WO (d:D) (Q:D->Prop):Prop:=match d with
 | .list ts=>Q (.int ts.length)
 | .tuple ts=>Q (.int ts.length)
 | .str z=>z.length<=100000/\Q (.int z.length)
 | _=>False
theorem dH:nF X (.builtin "len") (λxs H Q=>(∃ p ys,xs=[.ref p]/\(lP X.K H p ys\/qP X.K H p ys)/\Q (.int ys.length) H)\/∃ z,xs=[.str z]/\z.length<=bG/\Q (.int z.length) H):=A1.or A0
theorem jJ:uN X (λxs H Q=>(∃ p ys,xs=[.ref p]/\(lP X.K H p ys\/qP X.K H p ys)/\Q (.int ys.length) H)\/∃ z,xs=[.str z]/\z.length<=bG/\Q (.int z.length) H) (f1 WO):=c1 λH ps d x Q QV live r h k=>by
 cases r with
 | list q s =>
  refine .inl ⟨_,_,rfl,.inl (L2.bH.seq dA q),?_⟩
  rw [<- s.length]
  exact k _ _ H (L2.bH.refl H) (.int _) h
 | tuple q s =>
  refine .inl ⟨_,_,rfl,.inr (bH.seqT dA q),?_⟩
  rw [<- s.length]
  exact k _ _ H (L2.bH.refl H) (.int _) h
 | str z=>exact .inr ⟨z,rfl,uI h.1,k _ _ H (L2.bH.refl H) (.int _) h.2⟩
 | _=>exact h.elim
def AX (d:D) (Q:D->Prop):Prop:=match d with
 | .list ts=>Q (.tuple ts)
 | .tuple ts=>Q (.tuple ts)
 | _=>False
theorem nC:uN X (λxs H Q=>∃ p ys,xs=[.ref p]/\((lP X.K H p ys/\∀ l,H l=none->Q (.ref l) (iM H l (.tup ys)))\/(qP X.K H p ys/\Q (.ref p) H))) (f1 AX):=c1 λH ps d x Q QV live r h k=>by
 cases r with
 | list q s=>exact ⟨_,_,rfl,.inl ⟨L2.bH.seq dA q,λl hl=>k _ _ _ (fL hl) (sC live hl s) h⟩⟩
 | tuple q s=>exact ⟨_,_,rfl,.inr ⟨bH.seqT dA q,k _ _ H (L2.bH.refl H) (.tuple q s) h⟩⟩
 | _=>exact h.elim
def aAp (d:D) (Q:D->Prop):Prop:=match d with
 | .list ts=>Q (.list ts)
 | .tuple ts=>Q (.list ts)
 | _=>False
theorem tJ:∀ {ys:List Int} {vs:List V},Reps K H (ys.map aX) vs->vs=ys.map V.int
 | [],_,r=>by rw [mT] at r;cases r;rfl
 | y::ys,vs,r=>by
  rw [bP] at r
  cases r with
  | cons r1 r2 =>
   cases r1
   rw [bP,tJ r2]
def aDj (d:D) (Q:D->Prop):Prop:=∃ bs:List Bool,d=.list (bs.map XT)/\Q (.bool (bs.all id))
def aDh (d:D) (Q:D->Prop):Prop:=∃ ns:List Int,d=.list (ns.map aX)/\ns≠[]/\∀ m,m∈ns->(∀ n∈ns,m<=n)->Q (.int m)
def f2 (f:D->D->(D->Prop)->Prop):List D->(D->Prop)->Prop
 | [d,d'],Q=>f d d' Q
 | _,_=>False
def aAo (x y:D) (Q:D->Prop):Prop:=match x,y with | .int i,.int j=>Q (.int (if j<i then j else i)) | _,_=>False
def QH (te:ET):ET:=λσ Q=>te σ λd=>∃ ys:List Str,d=.tuple (ys.map aR)/\ys.length<=1000/\Q (.int (dd ys).length)
def tyD:D->String
 | .none=>"NoneType"
 | .bool _=>"bool"
 | .int _=>"int"
 | .str _=>"str"
 | .list _=>"list"
 | .tuple _=>"tuple"
 | .dict []=>"list"
 | .dict [(.none,_)]=>"list"
 | .dict _=>"dict"
def isT (T:String) (d:D):Bool:=(tyD d == T) || (T == "int" && tyD d == "bool")
def aDa (T:String) (d:D) (Q:D->Prop):Prop:=match d with | .dict ((.str _,_)::_)=>False | d=>Q (.bool (isT T d))
def aDn (T:String) (te:ET):ET:=λσ Q=>te σ λd=>aDa T d Q
def M2 (f:Str->List D->(D->Prop)->Prop) (te:ET) (t:AT):ET:=λσ Q=>te σ λd=>∃ z,d=.str z/\t σ λds=>f z ds Q
def aAq (z:Str) (ds:List D) (Q:D->Prop):Prop:=match ds with | [.str y]=>Q (.int (Txt.find z y)) | _=>False
def T7 (z:Str) (ds:List D) (Q:D->Prop):Prop:=match ds with | [.list ts]=>∃ ys:List Str,ts=ys.map aR/\(ys.map (·.length)).sum+ys.length*z.length<=16777216/\Q (.str (Txt.join z ys)) | _=>False
theorem IG {f:Str->List D->(D->Prop)->Prop} {r:V->List V->Hp->VK->Prop} {n g:Expr} {t:AT} (hn:jD X n te) (ha:uV X (e::es) t)
  (hf:∀ (H:Hp) (ps:List Addr) (z:Str) (ds:List D) (xs:List V) (Q:D->Prop) (QV:VK),Reps X.K (mask H ps) ds xs->f z ds Q->(∀ d v H',bH H H'->iA X.K (mask H' ps) d v->Q d->QV v H')->r (.str z) xs H QV)
  (pc:∀ {v:TE} {ta:TA},PE X n v->PA X (e::es) ta->PE X (.Call g (e::es) [] pos) (N5 X.K "str" r v ta)):jD X (.Call g (e::es) [] pos) (M2 f te t):=by
 obtain ⟨v,pe,re⟩:=hn
 obtain ⟨va,pa,ra⟩:=ha
 refine ⟨_,pc pe pa,λB p0 H ps σT σ Q QV o h k=>re B p0 H ps σT σ _ _ o h λd x H1 s1 r1 q1=>?_⟩
 obtain ⟨z,rfl,q1⟩:=q1
 cases r1
 refine ⟨rfl,ra B p0 H1 ps σT σ _ _ (o.grow s1) q1 λds xs H2 s2 r2 q2=>?_⟩
 exact hf H2 ps z ds xs Q QV r2 q2 λd v H' s' r' q'=>k d v H' (s1.trans (s2.trans s')) r' q'
theorem QF {n:Expr} {ap:Pos} {t:AT} (hn:jD X n te) (ha:uV X (e::es) t)
  (pc:∀ {v:TE} {ta:TA},PE X n v->PA X (e::es) ta->PE X (.Call (.Attribute n "join" ap) (e::es) [] pos) (N5 X.K "str" (λx xs H Q=>∃ z p ys,x=.str z/\xs=[.ref p]/\lP X.K H p (ys.map V.str)/\(ys.map (·.length)).sum+ys.length*z.length<=16777216/\Q (.str (Txt.join z ys)) H) v ta)):jD X (.Call (.Attribute n "join" ap) (e::es) [] pos) (M2 T7 te t) :=
 IG hn ha (λH ps z ds xs Q QV r h k=>by
  cases r with
  | nil=>exact h.elim
  | cons r1 r2 =>
   cases r2 with
   | cons _ _=>cases r1<;>exact h.elim
   | nil =>
    cases r1 with
    | list q s =>
     obtain ⟨ys,rfl,hz,h⟩:=h
     have e:=yT s
     subst e
     exact ⟨z,_,ys,rfl,rfl,L2.bH.seq dA q,hz,k _ _ H (L2.bH.refl H) (.str _) h⟩
    | _=>exact h.elim) pc
def WZ (te:ET):ET:=λσ Q=>te σ λd=>∃ z,d=.str z/\Builtin.Str.tooLong (Txt.upper z).length=false/\Q (.str (Txt.upper z))
def aCn (i j:Nat) (te:ET):qQ:=λDT σ=>te σ λd=>gP i j d σ DT.nx
mutual
theorem iA.reads {pins:List (Addr×Obj)} {s:Shared} {σ:L2.St} (I:dU X pins σ H s):∀ {d:D} {x:V} {u:Value},d.hasDict=false->iA X.K H d x->gO x u->∃ as,Reads s.heap u d as
 | _,_,_,_,.none,r=>by cases r;exact ⟨_,.none⟩
 | _,_,_,_,.bool b,r=>by cases r;exact ⟨_,.bool b⟩
 | _,_,_,_,.int i,r=>by obtain ⟨t,rfl⟩:=r;exact ⟨_,.int i t⟩
 | _,_,_,_,.str z,r=>by obtain ⟨t,rfl⟩:=r;exact ⟨_,.str z t⟩
 | _,_,_,hd,.list q rs,r=>by
  cases r
  obtain ⟨its,rv,⟨o,n,h1,h2,_,h3⟩,_⟩:=I.list q
  obtain ⟨as,h4⟩:=Reps.reads I hd rs rv
  exact ⟨_,.list h1 h2 h3 (by simpa using h4)⟩
 | _,_,_,hd,.tuple q rs,r=>by
  cases r
  obtain ⟨its,rv,⟨o,h1,h2,n,h3⟩,_⟩:=I.tuple q
  obtain ⟨as,h4⟩:=Reps.reads I hd rs rv
  exact ⟨_,.tuple h1 h2 h3 (by simpa using h4)⟩
 | _,_,_,hd,.wild _,_=>by cases hd
 | _,_,_,hd,.exc _ _,_=>by cases hd
 | _,_,_,hd,.excA _ _ _,_=>by cases hd
 | _,_,_,hd,.tape _ _,_=>by cases hd
 | _,_,_,hd,.addr _,_=>by cases hd
theorem Reps.reads {pins:List (Addr×Obj)} {s:Shared} {σ:L2.St} (I:dU X pins σ H s):∀ {ds:List D} {xs:List V} {us:List Value},jG ds=false->Reps X.K H ds xs->eI xs us->∃ as,ReadsAll s.heap us ds as
 | _,_,_,_,.nil,r=>by cases r;exact ⟨_,.nil⟩
 | d::ds,_,_,hd,.cons r1 r2,r=>by
  have hd':(d.hasDict || jG ds)=false:=hd
  rw [Bool.or_eq_false_iff] at hd'
  cases r with
  | cons v1 v2 =>
   obtain ⟨as,h1⟩:=iA.reads I hd'.1 r1 v1
   obtain ⟨bs,h2⟩:=Reps.reads I hd'.2 r2 v2
   exact ⟨_,.cons h1 h2⟩
end
def aAn (d:D) (Q:D->Prop):Prop:=d.showable=true/\d.hasDict=false/\d.depth<=60/\d.shown.length<=bG/\Q (.str d.shown)
def aDm (te:ET):ET:=λσ Q=>te σ λd=>match d with | .tuple ts=>Q (.tuple ts.reverse) | _=>False
end
end TL

namespace TL
open PySem PySem.Spec PyProof.Rows L2
def VZ (names:List (Str×NameKind)):Bool:=match names.filter (λy=>y.2 == NameKind.cell) with
 | []=>true
 | [x]=>names.lookup x.1 == some .cell
 | _=>false
theorem PJ {names:List (Str×NameKind)} (h:VZ names=true):qR names:=by
 unfold VZ at h
 split at h
 ·rename_i e
  exact .inl e
 ·rename_i x e
  have hx:x∈names.filter (λy=>y.2 == NameKind.cell):=by rw [e];exact dN.mpr rfl
  have hk:x.2=.cell:=eq_of_beq (cU.mp hx).2
  exact .inr ⟨x.1,by rw [e,<- hk],beq_iff_eq.mp h⟩
 ·cases h
def pH (sc out:Scope) (Nx N':List Str) (fr:List (Option Nat)):Bool :=
 decide (sc.kind=.function) && VZ sc.names && sc.names.all (λy=>decide (y.2≠.free) || decide (out.names.lookup y.1=some .cell)) && sc.names.all (λy=>decide (y.2≠.local) || decide (sc.names.lookup y.1=some .local)) && pX sc.names out.names Nx N' fr
section
variable {X:Cx} {elt iter tg a:Expr} {ifs:List Expr} {scope:Scope} {pos:Pos} {N':List Str} {fr:List (Option Nat)} {wi:TI} {g:BP->TG} {tt:BP->TT} {te:BP->TE}
theorem zA {out:Scope} {Nx:List Str} (h:pH scope out Nx N' fr=true):scope.kind=.function/\qR scope.names/\(∀ y∈scope.names,y.2=.free->out.names.lookup y.1=some .cell)/\(∀ y∈scope.names,y.2=.local->scope.names.lookup y.1=some .local)/\pX scope.names out.names Nx N' fr=true:=by
 unfold pH at h
 simp only [dB,fC,xL,decide_eq_true_eq] at h
 obtain ⟨⟨⟨⟨h1,h2⟩,h3⟩,h4⟩,h5⟩:=h
 exact ⟨h1,PJ h2,λy hy e=>(h3 y hy).elim (λz=>absurd e z) id,λy hy e=>(h4 y hy).elim (λz=>absurd e z) id,h5⟩
theorem LE (h:pH scope X.env.scope X.N N' fr=true) (hcalm:X.calm=true) (hi:PI X tg iter wi)
  (hY:∀ b:BP,PG (blk X scope N' b) tg (g b)/\JH (blk X scope N' b) ifs (tt b)/\PE (blk X scope N' b) elt (te b)) (hs:∀ x,foldedSetIterable iter X.env x=pure x:=by intro _;rfl):PE X (.ListComp elt [⟨tg,iter,ifs,0⟩] scope pos) (KH fr wi g tt te):=by
 obtain ⟨h1,h2,h3,h4,h5⟩:=zA h
 exact Y3 hcalm h1 h2 h5 h3 h4 hi hY hs
theorem mG {i:Nat} {x:Str} {px spos:Pos} (h:pH scope X.env.scope X.N N' fr=true) (hN:X.N.Nodup) (hix:X.N[i]?=some x) (hx:ND X.env.scope x) (hcalm:X.calm=true) (hi:PI X tg iter wi)
  (hY:∀ b:BP,PG (blk X scope N' b) tg (g b)/\JH (blk X scope N' b) ifs (tt b)/\PE (blk X scope N' b) elt (te b))
  (hsw:qU (.ListComp elt [⟨tg,iter,ifs,0⟩] scope pos) (some (.Name x px)) spos.line X.env=pure true) (hs:∀ x,foldedSetIterable iter X.env x=pure x:=by intro _;rfl) (hf:X.fn x=true\/X.env.scope.names.lookup x=some .local:=by first | exact .inl rfl | exact .inr rfl) :
  PS X (.Assign [.Name x px] (.ListComp elt [⟨tg,iter,ifs,0⟩] scope pos) spos) (zU (KH fr wi g tt te) (kT i)):=by
 obtain ⟨h1,h2,h3,h4,h5⟩:=zA h
 exact K6 hN hix hx hcalm h1 h2 h5 h3 h4 hi hY hsw hs hf
def W2 (i:Nat) (ta:ET):ET:=λσ Q=>ta σ λx=>∃ ts,σ[i]?=some (.own ts)/\fIn x (.list ts) Q
end
theorem XB:bootBuiltins "max"=some (.builtin "max"):=by decide +kernel
theorem gW:bootBuiltins "len"=some (.builtin "len"):=by decide +kernel
theorem lO:bootBuiltins "tuple"=some (.type "tuple"):=by decide +kernel
theorem zW {α:Type} (l:List α) (i:Nat) (a b:α):(l.set i a).set i b=l.set i b:=by
 apply fG
 intro j
 by_cases h:i=j
 ·subst h
  by_cases hl:i<l.length
  ·rw [bS (by simpa using hl),bS hl]
  ·rw [eJ (by simpa using hl),eJ (by simpa using hl)]
 ·rw [bL h,bL h,bL h]
theorem T0 {ts:List D} {σb:List Sl} {te:ET} {Q:D->Prop} (R:Nat->D->D->Prop) (hz:ts.length<=100000)
  (ht:∀ (k:Nat) (x:D) (q:D->Prop),ts[k]?=some x->(∀ y,R k x y->q y)->te (σb.set 0 (.val x)) q)
  (hq:∀ ys:List D,ys.length=ts.length->(∀ (k:Nat) (x y:D),ts[k]?=some x->ys[k]?=some y->R k x y)->Q (.list ys)) :
  ts.length<=100000/\∃ P:Nat->List Sl->List D->Prop,P 0 σb [] /\
   (∀ (k:Nat) (x:D) (σ':List Sl) (ds:List D),ts[k]?=some x->P k σ' ds->gN 0 x σ' λσ2=>xD σ2 λb=>if b=true then te σ2 λy=>P (k+1) σ2 (ds++[y]) else P (k+1) σ2 ds)/\∀ σ' ds,P ts.length σ' ds->Q (.list ds):=by
 refine ⟨hz,λk σ' ds=>(∀ x,σ'.set 0 (.val x)=σb.set 0 (.val x))/\ds.length=k/\∀ (j:Nat) (x y:D),ts[j]?=some x->ds[j]?=some y->R j x y,⟨λ_=>rfl,rfl,λj x y _ h=>by simp at h⟩,λk x σ' ds hx h=>?_,λσ' ds h=>hq ds h.2.1 h.2.2⟩
 obtain ⟨h1,h2,h3⟩:=h
 show te (σ'.set 0 (.val x)) _
 rw [h1 x]
 refine ht k x _ hx λy hy=>⟨λz=>zW _ _ _ _,by simp [h2],λj x' y' e1 e2=>?_⟩
 by_cases hj:j<k
 ·rw [dD (by omega)] at e2
  exact h3 j x' y' e1 e2
 ·rw [dJ (by omega)] at e2
  have:j=k:=by
   by_cases e:j=k
   ·exact e
   ·have:j-ds.length≠0:=by omega
    cases q:j-ds.length with
    | zero=>exact absurd q this
    | succ n=>rw [q] at e2;simp at e2
  subst this
  rw [hx] at e1
  cases e1
  simp [h2] at e2
  subst e2
  exact hy
theorem V8 {ts:List D} {σb:List Sl} {te:ET} {Q:D->Prop} (f:D->D) (hz:ts.length<=100000) (ht:∀ (x:D) (q:D->Prop),x∈ts->q (f x)->te (σb.set 0 (.val x)) q) (hq:Q (.list (ts.map f))) :
  ts.length<=100000/\∃ P:Nat->List Sl->List D->Prop,P 0 σb [] /\
   (∀ (k:Nat) (x:D) (σ':List Sl) (ds:List D),ts[k]?=some x->P k σ' ds->gN 0 x σ' λσ2=>xD σ2 λb=>if b=true then te σ2 λy=>P (k+1) σ2 (ds++[y]) else P (k+1) σ2 ds)/\∀ σ' ds,P ts.length σ' ds->Q (.list ds):=by
 refine T0 (λk x y=>y=f x) hz (λk x q hx h=>ht x q (bJ hx) (h _ rfl)) λys hl h=>?_
 have e:ys=ts.map f:=by
  apply fG
  intro i
  rw [aJ]
  cases hx:ts[i]? with
  | none =>
   rw [eJ (by rw [hl];exact fT.mp hx)];rfl
  | some x =>
   have hi:i<ys.length:=by rw [hl];exact (aD.mp hx).1
   have:=h i x ys[i] hx (aB hi)
   rw [aB hi,this];rfl
 rw [e];exact hq
theorem PZ {ts:List D} {σb:List Sl} {tt:oK} {te:ET} {Q:D->Prop} (p:D->Bool) (f:D->D) (hz:ts.length<=100000) (hp:∀ (x:D) (q:Bool->Prop),x∈ts->q (p x)->tt (σb.set 0 (.val x)) q)
  (ht:∀ (x:D) (q:D->Prop),x∈ts->q (f x)->te (σb.set 0 (.val x)) q) (hq:Q (.list ((ts.filter p).map f))) :
  ts.length<=100000/\∃ P:Nat->List Sl->List D->Prop,P 0 σb [] /\
   (∀ (k:Nat) (x:D) (σ':List Sl) (ds:List D),ts[k]?=some x->P k σ' ds->gN 0 x σ' λσ2=>tt σ2 λb=>if b=true then te σ2 λy=>P (k+1) σ2 (ds++[y]) else P (k+1) σ2 ds)/\∀ σ' ds,P ts.length σ' ds->Q (.list ds):=by
 refine ⟨hz,λk σ' ds=>(∀ x,σ'.set 0 (.val x)=σb.set 0 (.val x))/\ds=((ts.take k).filter p).map f,⟨λ_=>rfl,rfl⟩,λk x σ' ds hx h=>?_,λσ' ds h=>?_⟩
 ·obtain ⟨h1,rfl⟩:=h
  have hm:x∈ts:=bJ hx
  show tt (σ'.set 0 (.val x)) _
  rw [h1 x]
  refine hp x _ hm ?_
  have e:ts.take (k+1)=ts.take k++[x]:=by rw [cS,hx];rfl
  cases hb:p x with
  | true =>
   rw [if_pos rfl]
   refine ht x _ hm ⟨λz=>zW _ _ _ _,?_⟩
   rw [e,gB,bQ]
   simp [hb]
  | false =>
   rw [if_neg (by decide)]
   refine ⟨λz=>zW _ _ _ _,?_⟩
   rw [e,gB,bQ]
   simp [hb]
 ·obtain ⟨_,rfl⟩:=h
  rw [dW]
  exact hq

section
variable {fr:List (Option Nat)} {ti:IT} {tt:oK} {te:ET} {σ:List Sl} {Q:D->Prop} {ts:List D}
abbrev qC (ti:IT) (σ:List Sl) (ts:List D):Prop:=∀ R:List D->Prop,R ts->ti σ R
theorem jF (hti:qC ti σ ts) (f:D->D) (hz:ts.length<=100000) (ht:∀ (x:D) (q:D->Prop),x∈ts->q (f x)->te ((iC fr σ).set 0 (.val x)) q) (hq:Q (.list (ts.map f))):JR fr ti (gN 0) xD te σ Q :=
 hti _ (V8 (te:=te) (Q:=Q) f hz ht hq)
theorem wM (hti:qC ti σ ts) (R:Nat->D->D->Prop) (hz:ts.length<=100000)
  (ht:∀ (k:Nat) (x:D) (q:D->Prop),ts[k]?=some x->(∀ y,R k x y->q y)->te ((iC fr σ).set 0 (.val x)) q)
  (hq:∀ ys:List D,ys.length=ts.length->(∀ (k:Nat) (x y:D),ts[k]?=some x->ys[k]?=some y->R k x y)->Q (.list ys)):JR fr ti (gN 0) xD te σ Q :=
 hti _ (T0 (te:=te) (Q:=Q) R hz ht hq)
theorem L7 (hti:qC ti σ ts) (p:D->Bool) (f:D->D) (hz:ts.length<=100000) (hp:∀ (x:D) (q:Bool->Prop),x∈ts->q (p x)->tt ((iC fr σ).set 0 (.val x)) q)
  (ht:∀ (x:D) (q:D->Prop),x∈ts->q (f x)->te ((iC fr σ).set 0 (.val x)) q) (hq:Q (.list ((ts.filter p).map f))):JR fr ti (gN 0) tt te σ Q :=
 hti _ (PZ (tt:=tt) (te:=te) (Q:=Q) p f hz hp ht hq)
theorem WQ {g:GT} {tb:qQ} {DT:qE} (hti:qC ti σ ts) (P:Nat->List Sl->Prop) (h0:P 0 σ)
  (hs:∀ (k:Nat) (x:D) (σ':List Sl),ts[k]?=some x->P k σ'->g x σ' λσ2=>tb { DT with nx:=P (k+1),ct:=P (k+1),bk:=DT.nx } σ2) (hd:∀ σ',P ts.length σ'->DT.nx σ'):OV ti g tb DT σ:=hti _ ⟨P,h0,hs,hd⟩
end
theorem qO (x y:Str):(x++y).cps.toList=x.cps.toList++y.cps.toList:=by
 show (x.cps++y.cps).toList=_
 simp
theorem D0 (xs:Array Nat) (a k:Nat):(bX k).filterMap (λm=>xs[a+m]?)=(xs.toList.drop a).take k:=by
 induction k with
 | zero=>simp
 | succ k ih =>
  rw [xJ,List.filterMap_append,ih,cS,jB]
  congr 1
  simp only [mR,List.filterMap_nil]
  rw [fU]
  cases xs[a+k]?<;>rfl
theorem GU (v:Option Int) (n d:Nat) (hd:d<=n):(match v with | none=>(d:Int) | some i=>max 0 (min (if i<0 then i+(n:Int) else i) (n:Int)))=((HT.sIx n d v:Nat):Int):=by
 cases v with
 | none=>rfl
 | some i =>
  have:=HT.clip_eq i n d
  rw [<- this]
  dsimp only
  split<;>omega
theorem M4 (v:Option Int) (n:Nat):(match v with | none=>(0:Int) | some i=>max 0 (min (if i<0 then i+(n:Int) else i) (n:Int)))=((HT.sIx n 0 v:Nat):Int):=GU v n 0 (cC _)
theorem KL {a a' b b':Int} (h1:a=a') (h2:b=b'):sliceRange a b 1=sliceRange a' b' 1:=by rw [h1,h2]
theorem lL (z:Str) (lo hi:Option Int):(Txt.slice z lo hi).cps.toList=jP z.cps.toList lo hi:=by
 have hn:z.cps.toList.length=z.length:=by simp [Str.length]
 have ha:=HT.sIx_le z.length 0 (cC _) lo
 have hb:=HT.sIx_le z.length z.length (aL _) hi
 have hI:Builtin.Str.strSliceIndices lo hi 1 z.length=(bX (HT.sIx z.length z.length hi-HT.sIx z.length 0 lo)).map (λk=>HT.sIx z.length 0 lo+k):=by
  unfold Builtin.Str.strSliceIndices
  simp only [show (1:Int) > 0 by decide,if_true]
  refine (KL (M4 lo z.length) (GU hi z.length z.length (aL _))).trans ?_
  unfold sliceRange
  simp only [show (1:Int) > 0 by decide,if_true]
  generalize HT.sIx z.length 0 lo=a
  generalize HT.sIx z.length z.length hi=b
  have ec:(if (a:Int)<(b:Int) then ((b:Int)-a+1-1) / 1 else 0).toNat=b-a:=by split<;>omega
  rw [ec]
  apply fJ
  intro k _
  omega
 unfold Txt.slice jP
 rw [hn,hI]
 generalize HT.sIx z.length 0 lo=a at *
 generalize HT.sIx z.length z.length hi=b at *
 split
 ·next h =>
  simp only [beq_self_eq_true,XV,beq_iff_eq,aC,eG] at h
  have h1:a=0:=by omega
  have h2:b-a=z.cps.toList.length:=by rw [hn];exact h
  rw [h2,h1,zN,dW]
 ·rw [J4]
  exact D0 z.cps a (b-a)
theorem EG:∀ ys:List Str,(Txt.join ⟨#[]⟩ ys).cps.toList=(ys.map (·.cps.toList)).flatten:=by
 intro ys
 show (Builtin.Str.glued ⟨#[]⟩ ys).cps.toList=_
 rw [StrLaws.glued_eq_join]
 induction ys with
 | nil=>rfl
 | cons x ys ih =>
  cases ys with
  | nil=>simp [Str.join]
  | cons y r =>
   show (x++⟨#[]⟩++Str.join ⟨#[]⟩ (y::r)).cps.toList=_
   rw [qO,qO,ih]
   simp
theorem MM (x:Str) (c:Nat):Txt.contains x ⟨#[c]⟩=decide (c∈x.cps.toList):=StrLaws.found_one x c
section
variable {te:ET} {u t e:qQ} {c:oK} {DT:qE} {σ:List Sl} {i:Nat}
theorem cK (v:D) (h:∀ q:D->Prop,q v->te σ q) (k:u DT (σ.set i (.val v))):gZ (DR i te) u DT σ:=h _ k
theorem gE (R:D->Prop) (h:∀ q:D->Prop,(∀ v,R v->q v)->te σ q) (k:∀ v,R v->u DT (σ.set i (.val v))):gZ (DR i te) u DT σ:=h _ k
theorem gL (R:Bool->Prop) (h:∀ q:Bool->Prop,(∀ b,R b->q b)->c σ q) (k1:R true->t { DT with nx:=u DT } σ) (k0:R false->e { DT with nx:=u DT } σ):gZ (VE c t e) u DT σ:=by
 refine h _ λb hb=>?_
 cases b with
 | true=>rw [if_pos rfl];exact k1 hb
 | false=>rw [if_neg (by decide)];exact k0 hb
theorem nG (R:Bool->Prop) (h:∀ q:Bool->Prop,(∀ b,R b->q b)->c σ q) (k1:R true->t DT σ) (k0:R false->e DT σ):VE c t e DT σ:=by
 refine h _ λb hb=>?_
 cases b with
 | true=>rw [if_pos rfl];exact k1 hb
 | false=>rw [if_neg (by decide)];exact k0 hb
theorem jM {ti:IT} {ts:List D} {g:GT} {tb:qQ} (hti:qC ti σ ts) (P:Nat->List Sl->Prop) (h0:P 0 σ)
  (hs:∀ (k:Nat) (x:D) (σ':List Sl),ts[k]?=some x->P k σ'->g x σ' λσ2=>tb { DT with nx:=P (k+1),ct:=P (k+1),bk:=u DT } σ2) (hd:∀ σ',P ts.length σ'->u DT σ'):gZ (OV ti g tb) u DT σ :=
 WQ (DT:={ DT with nx:=u DT }) hti P h0 hs hd
theorem kK {t:AT} (ds:List D) (hz:ds.length<=1000) (h:∀ q:List D->Prop,q ds->t σ q) (k:u DT (σ.set i (.own ds))):gZ (OU i t) u DT σ:=h _ ⟨hz,k⟩
theorem OR {ts:List D} (v:D) (ho:σ[i]?=some (.own ts)) (hz:ts.length<=100000) (h:∀ q:D->Prop,q v->te σ q) (k:u DT (σ.set i (.own (ts++[v])))):gZ (OW i te) u DT σ:=⟨ts,ho,h _ ⟨hz,k⟩⟩
theorem mW {ts:List D} (v:D) (ho:σ[i]?=some (.own ts)) (hz:ts.length<=100000) (h:∀ q:D->Prop,q v->te σ q) (k:DT.nx (σ.set i (.own (ts++[v])))):OW i te DT σ:=⟨ts,ho,h _ ⟨hz,k⟩⟩
theorem oU (v:D) (h:∀ q:D->Prop,q v->te σ q) (k:DT.nx (σ.set i (.val v))):DR i te DT σ:=h _ k
end
end TL

namespace TL
open PySem PySem.Spec PyProof.Rows L2
mutual
theorem nH:∀ {d:D},d.canLay0=true->d.hasDict=false
 | .none,_=>rfl
 | .bool _,_=>rfl
 | .int _,_=>rfl
 | .str _,_=>rfl
 | .list _,h=>noDictAll h
 | .tuple _,h=>noDictAll h
 | .dict _,h=>by cases h
theorem noDictAll:∀ {ds:List D},eE ds=true->jG ds=false
 | [],_=>rfl
 | d::ds,h=>by
  have h':(d.canLay0 && eE ds)=true:=h
  rw [dB] at h'
  show (d.hasDict || jG ds)=false
  rw [nH h'.1,noDictAll h'.2];rfl
end
section
variable {X:Cx} {a b e:Expr} {es:List Expr} {te:ET} {pos:Pos}
def wB (K:aE) (ok:D->D->Prop) (f:D->D->Bool):R2:=λx y H Q=>∃ d1 d2,iA K H d1 x/\iA K H d2 y/\ok d1 d2/\Q (.bl (f d1 d2)) H
def aAy (ok:D->D->Prop) (f:D->D->Bool) (x y:D) (Q:D->Prop):Prop:=ok x y/\Q (.bool (f x y))
theorem pW {ok:D->D->Prop} {f:D->D->Bool}:DD X (wB X.K ok f) (aAy ok f):=by
 intro H ps d1 d2 x y Q QV live r1 r2 h k
 exact ⟨d1,d2,r1.same dA,r2.same dA,h.1,k _ _ H (L2.bH.refl H) (.bool _) h.2⟩
def aCz (d1 d2:D):Prop:=d1.canLay0=true/\d2.canLay0=true/\min d1.depth d2.depth<=60
theorem rG {k:Nat} (hr:gG k X.A):nJ X (compareOp .NotEq) (wB X.K aCz λx y=>!dZ x y):=by
 intro pins s σ H x y v u Q I rx ry h
 obtain ⟨d1,d2,r1,r2,⟨c1,c2,hm⟩,q⟩:=h
 obtain ⟨as,h1⟩:=iA.reads I (nH c1) r1 rx
 obtain ⟨bs,h2⟩:=iA.reads I (nH c2) r2 ry
 exact SeqAt.compareNe_reads h1 h2 c1 c2 (by have:=hr.un;omega) ⟨.bl _,H,I,rfl,q⟩
def wH (x y:D):Prop:=match y with
 | .list ts=>eE ts=true/\x.canLay0=true/\min (eN ts) x.depth<=60
 | .tuple ts=>eE ts=true/\x.canLay0=true/\min (eN ts) x.depth<=60
 | _=>False
def GH (x y:D):Bool:=match y with
 | .list ts=>ts.any λz=>dZ z x
 | .tuple ts=>ts.any λz=>dZ z x
 | _=>false
theorem HW {k:Nat} (hr:gG k X.A):nJ X (compareOp .In) (wB X.K wH GH):=by
 intro pins s σ H x y v u Q I rx ry h
 obtain ⟨d1,d2,r1,r2,ho,q⟩:=h
 have hd:d1.hasDict=false/\d2.hasDict=false:=by
  cases d2 with
  | list ts=>exact ⟨nH ho.2.1,noDictAll ho.1⟩
  | tuple ts=>exact ⟨nH ho.2.1,noDictAll ho.1⟩
  | _=>exact ho.elim
 obtain ⟨as,h1⟩:=iA.reads I hd.1 r1 rx
 obtain ⟨bs,h2⟩:=iA.reads I hd.2 r2 ry
 cases d2 with
 | list ts=>exact SeqAt.in_list_reads h2 h1 ho.1 ho.2.1 (by have:=hr.un;have:=ho.2.2;omega) ⟨.bl _,H,I,rfl,q⟩
 | tuple ts=>exact SeqAt.in_tuple_reads h2 h1 ho.1 ho.2.1 (by have:=hr.un;have:=ho.2.2;omega) ⟨.bl _,H,I,rfl,q⟩
 | _=>exact ho.elim
theorem AG {k:Nat} (hr:gG k X.A):nJ X (compareOp .NotIn) (wB X.K wH λx y=>!GH x y):=by
 intro pins s σ H x y v u Q I rx ry h
 obtain ⟨d1,d2,r1,r2,ho,q⟩:=h
 have hd:d1.hasDict=false/\d2.hasDict=false:=by
  cases d2 with
  | list ts=>exact ⟨nH ho.2.1,noDictAll ho.1⟩
  | tuple ts=>exact ⟨nH ho.2.1,noDictAll ho.1⟩
  | _=>exact ho.elim
 obtain ⟨as,h1⟩:=iA.reads I hd.1 r1 rx
 obtain ⟨bs,h2⟩:=iA.reads I hd.2 r2 ry
 cases d2 with
 | list ts=>exact SeqAt.notIn_list_reads h2 h1 ho.1 ho.2.1 (by have:=hr.un;have:=ho.2.2;omega) ⟨.bl _,H,I,rfl,q⟩
 | tuple ts=>exact SeqAt.notIn_tuple_reads h2 h1 ho.1 ho.2.1 (by have:=hr.un;have:=ho.2.2;omega) ⟨.bl _,H,I,rfl,q⟩
 | _=>exact ho.elim
def aAx (x y:D) (Q:D->Prop):Prop:=match x,y with
 | .str z,.str y=>Q (.bool (Txt.contains y z))
 | x,y=>wH x y/\Q (.bool (GH x y))
theorem VX {k:Nat} (hr:gG k X.A):nJ X (compareOp .In) (λx y H Q=>(∃ i j,x=.str i/\y=.str j/\Q (.bl (!(Builtin.Str.occurrences j i 0 j.length 1).isEmpty)) H)\/wB X.K wH GH x y H Q):=HV.or (HW hr)
theorem aAh:DD X (λx y H Q=>(∃ i j,x=.str i/\y=.str j/\Q (.bl (!(Builtin.Str.occurrences j i 0 j.length 1).isEmpty)) H)\/wB X.K wH GH x y H Q) aAx:=by
 intro H ps d1 d2 x y Q QV live r1 r2 h k
 have gen:wH d1 d2/\Q (.bool (GH d1 d2))->_:=λh=>(.inr ⟨d1,d2,r1.same dA,r2.same dA,h.1,k _ _ H (L2.bH.refl H) (.bool _) h.2⟩:(∃ i j,x=.str i/\y=.str j/\QV (.bl (!(Builtin.Str.occurrences j i 0 j.length 1).isEmpty)) H)\/wB X.K wH GH x y H QV)
 cases r1 with
 | str z =>
  cases r2 with
  | str w=>exact .inl ⟨z,w,rfl,rfl,k _ _ H (L2.bH.refl H) (.bool _) h⟩
  | _=>exact gen h
 | _=>exact gen h
def mZ:D->Bool
 | .none=>true
 | _=>false
def fIs (x y:D) (Q:D->Prop):Prop:=match y with | .bool b=>Q (.bool (oY b x)) | .none=>Q (.bool (mZ x)) | _=>False
def QC (x y:D) (Q:D->Prop):Prop:=match y with | .bool b=>Q (.bool (!oY b x)) | .none=>Q (.bool (!mZ x)) | _=>False
theorem AH:nJ X (compareOp .Is) (λx y H Q=>VG x y H Q\/(y=.non/\Q (.bl (decide (x=.non))) H)):=VW.or VV
theorem tN:nJ X (compareOp .IsNot) (λx y H Q=>AA x y H Q\/(y=.non/\Q (.bl (!decide (x=.non))) H)):=HU.or PD
theorem F6:DD X (λx y H Q=>VG x y H Q\/(y=.non/\Q (.bl (decide (x=.non))) H)) fIs:=by
 intro H ps d1 d2 x y Q QV live r1 r2 h k
 cases r2 with
 | bool b =>
  refine .inl ⟨b,rfl,?_⟩
  have e:(decide (x=V.bl b))=oY b d1:=by cases r1<;>simp [oY]
  rw [e]
  exact k _ _ H (L2.bH.refl H) (.bool _) h
 | none =>
  refine .inr ⟨rfl,?_⟩
  have e:(decide (x=V.non))=mZ d1:=by cases r1<;>simp [mZ]
  rw [e]
  exact k _ _ H (L2.bH.refl H) (.bool _) h
 | _=>exact h.elim
theorem wI:DD X (λx y H Q=>AA x y H Q\/(y=.non/\Q (.bl (!decide (x=.non))) H)) QC:=by
 intro H ps d1 d2 x y Q QV live r1 r2 h k
 cases r2 with
 | bool b =>
  refine .inl ⟨b,rfl,?_⟩
  have e:(!decide (x=V.bl b))=!oY b d1:=by cases r1<;>simp [oY]
  rw [e]
  exact k _ _ H (L2.bH.refl H) (.bool _) h
 | none =>
  refine .inr ⟨rfl,?_⟩
  have e:(!decide (x=V.non))=!mZ d1:=by cases r1<;>simp [mZ]
  rw [e]
  exact k _ _ H (L2.bH.refl H) (.bool _) h
 | _=>exact h.elim
end
end TL

namespace L2
open PySem PySem.Spec PyProof.Rows
section
variable {P:bY} {w:World} {A:Around} {E:Value->Shared->Prop} {s:Shared}
end
section
variable {P:bY} {w:World} {A:Around} {E:Value->Shared->Prop} {s:Shared} {z TI TO i1 i2 l1 l2:Addr} {st1 st2:Nat->Heap->Prop} {src1 src2:Array Value->Heap->Prop} {k:Nat} {xs ys:Array Value} {a b:Value}
end
section
variable {X:Cx} {pins:List (Addr×Obj)} {σ:St} {H:Hp} {s:Shared} {h':Heap}
theorem dU.turnedL {t':Nat} {ch:List Addr} (I:dU X pins σ H s) (hf:∀ b∈ch,uW X pins H b) (k:∀ b o,b∉ch->s.heap.get? b=some o->h'.get? b=some o):dU X pins σ H { s with heap:=h',toks:=t' }:=by
 have nit:∀ b u,H b=some u->b∉ch:=λb u e z=>by rw [(hf b z).1] at e;cases e
 have hL:X.env.locals∉ch:=λz=>(hf _ z).2.1 rfl
 refine I.step (g':=s.gens) (d':=s.drawn) (ch:=ch) (λb hb=>?_) (λb o _ _ hc e _=>k b o hc e) (λb o _ _ hc e _=>⟨o.slots,k b o hc e⟩) (λ_ _ _ _ n=>n)
  (λb o hc e=>⟨o,k b o hc e⟩) (λ_ _ e=>e) (λ_ _ _ e=>e) (λb ps e=>⟨#[],by rw [e];simp⟩) (λm hm=>?_) (λb u e=>?_) I.bare
 ·obtain ⟨f0,f1,f2,f3,f4,f5⟩:=hf b hb
  exact ⟨f3,f1,f4,f5⟩
 ·obtain ⟨o,es,ep,ho,r⟩:=hm
  exact ⟨o,es,ep,k _ o hL ho,r⟩
 ·refine (I.hok b u e).stay (λc v hc q=>k c v ?_ q) (λ_ q=>q) λ_ _ q=>q
  rcases hc with z | z
  ·rw [z];exact nit b u e
  ·exact nit c _ z
theorem dU.turnedNew {t':Nat} {ch:List Addr} {T:Addr} {o:HO} (I:dU X pins σ H s) (hf:∀ b∈ch,uW X pins H b) (k:∀ b u,b∉ch->s.heap.get? b=some u->h'.get? b=some u) (hp:s.heap.objs.size<=T) (new:mC X.prog X.w (iM H T o) h' T o) :
  dU X pins σ (iM H T o) { s with heap:=h',toks:=t' }:=by
 have nit:∀ b u,H b=some u->b∉ch:=λb u e z=>by rw [(hf b z).1] at e;cases e
 have hL:X.env.locals∉ch:=λz=>(hf _ z).2.1 rfl
 have hn:H T=none:=I.hok.fresh hp
 have ne:∀ b u,H b=some u->(iM H T o) b=some u:=λb u e=>by rw [cT (fQ e hn)];exact e
 have ne2:∀ b u,s.heap.get? b=some u->b≠T:=λb u e z=>by
  exact absurd (cG (bE e) hp) (by rw [z];exact gI _)
 refine I.step (g':=s.gens) (d':=s.drawn) (ch:=ch) (λb hb=>?_) (λb o _ _ hc e _=>k b o hc e) (λb o _ _ hc e _=>⟨o.slots,k b o hc e⟩) (λb u _ e n=>by rw [cT (ne2 b u e)];exact n)
  (λb o hc e=>⟨o,k b o hc e⟩) (λb xs e=>ne _ _ e) (λb u v e=>ne _ _ e) (λb ps e=>⟨#[],by rw [ne _ _ e];simp⟩) (λm hm=>?_) (λb u e=>?_) I.bare
 ·obtain ⟨f0,f1,f2,f3,f4,f5⟩:=hf b hb
  exact ⟨f3,f1,f4,f5⟩
 ·obtain ⟨o,es,ep,ho,r⟩:=hm
  exact ⟨o,es,ep,k _ o hL ho,r⟩
 ·by_cases hb:b=T
  ·subst hb;rw [eM] at e;cases e;exact new
  ·rw [cT hb] at e
   refine (I.hok b u e).stay (λc v hc q=>k c v ?_ q) (λc q=>ne _ _ q) (λc xs q=>ne _ _ q) λc ob v q=>ne _ _ q
   rcases hc with z | z
   ·rw [z];exact nit b u e
   ·exact nit c _ z
end
section
variable {P:bY} {w:World} {A:Around} {E:Value->Shared->Prop} {s:Shared}
end
section
variable {X:Cx}
end
end L2
namespace TL
open PySem PySem.Spec PyProof.Rows L2
variable {K:aE}
def NY (as bs:List D):List D:=(as.zip bs).map λp=>.tuple [p.1,p.2]
theorem J8 (as bs:List D):(NY as bs).length=min as.length bs.length:=by unfold NY;simp
section
variable {X:Cx} {a b:Expr} {pos:Pos}
end
section
variable {fr:List (Option Nat)} {ti:IT} {tt:oK} {te:ET} {σ:List Sl} {Q:D->Prop} {ts:List D}
theorem tH {α:Type} (l:List α) (a b c d:α):(((l.set 0 a).set 1 b).set 0 c).set 1 d=(l.set 0 c).set 1 d:=by
 match l with
 | []=>rfl
 | [_]=>rfl
 | _::_::_=>rfl
theorem PX (hti:qC ti σ ts) (f:D->D) (hz:ts.length<=100000) (hp:∀ x∈ts,∃ a b,x=.tuple [a,b]) (ht:∀ (a b:D) (q:D->Prop),.tuple [a,b]∈ts->q (f (.tuple [a,b]))->te (((iC fr σ).set 0 (.val a)).set 1 (.val b)) q) (hq:Q (.list (ts.map f))):JR fr ti (gP 0 1) xD te σ Q:=by
 refine hti _ ⟨hz,λk σ' ds=>(∀ x y,(σ'.set 0 (.val x)).set 1 (.val y)=((iC fr σ).set 0 (.val x)).set 1 (.val y))/\ds=(ts.take k).map f,⟨λ_ _=>rfl,rfl⟩,λk x σ' ds hx h=>?_,λσ' ds h=>?_⟩
 ·obtain ⟨h1,rfl⟩:=h
  have hm:x∈ts:=bJ hx
  obtain ⟨a,b,rfl⟩:=hp x hm
  refine ⟨a,b,rfl,?_⟩
  show te ((σ'.set 0 (.val a)).set 1 (.val b)) _
  rw [h1 a b]
  refine ht a b _ hm ⟨λx y=>tH _ _ _ _ _,?_⟩
  rw [cS,hx,bQ];rfl
 ·obtain ⟨_,rfl⟩:=h
  rw [dW];exact hq
end
end TL

namespace L2
open PySem PySem.Spec PyProof.Rows PySem.SeqAt
open AutoSeq1 (wpAny_loadPart')
theorem xM (l:Addr) (items:Array Value) (n:Nat) (dd:Option Addr) (sl:Array (Option Value)) (x:Value) (e:Value->Bool) (j:Nat) (hj:j<items.size) (hit:e items[j]=true) (hno:∀ m (hm:m<items.size),m<j->e items[m]=false) :
  Meets (Builtin.«tuple.index» ⟨[.ref l,x],[]⟩)
   (λA R s=>s.heap.get? l=some { cls:=.type "tuple",dict:=dd,data:=.seq items n,slots:=sl }/\(∀ y,y∈items->EqAt A.in1 s y x (e y))/\R (.ok (.ret (.int j s.toks))) { s with toks:=s.toks+1 }):=by
 intro prog w A R s h
 obtain ⟨hp,g,d,tk,os⟩:=s;obtain ⟨hl,he,h⟩:=h
 unfold Builtin.«tuple.index»
 simp only [Std.Legacy.Range.forIn_eq_forIn_range']
 wp_walk using wpAny_loadPart' hl
 have hN:([:min items.size items.size]:Std.Legacy.Range).size=items.size:=by simp [Std.Legacy.Range.size]
 rw [hN]
 show wpAny _ _ (forIn (aBk 0 items.size) (none,()) _) _ _ _
 refine wpAny_forIn_list _ (λlS b s'=>b=(none,())/\s'=⟨hp,g,d,tk,os⟩/\∃ k,lS=aBk k (items.size-k)/\k<=j) _ (λi lS b s' h1=>?_) (λb s' h1=>?_) _ _ ⟨rfl,rfl,0,by simp,cC _⟩
 ·obtain ⟨rfl,rfl,k,hr,hk⟩:=h1
  have hkN:k<items.size:=by omega
  have e1:items.size-k=(items.size-(k+1))+1:=by omega
  rw [e1,List.range'_succ] at hr
  obtain ⟨rfl,rfl⟩:=List.cons.inj hr
  have hi:items[i]?=some items[i]:=by simp [hkN]
  rw [hi]
  refine aV (he _ (Array.getElem_mem hkN) prog w _ _ ?_)
  by_cases hij:i=j
  ·subst hij
   rw [hit,if_pos rfl]
   wp_walk
   exact h
  ·have hlt:i<j:=by omega
   rw [hno i hkN hlt,if_neg (by decide)]
   exact bM ⟨rfl,rfl,i+1,rfl,hlt⟩
 ·obtain ⟨_,_,k,hr,hk⟩:=h1
  have:=congrArg lA hr
  simp at this
  omega
section
variable {X:Cx}
end
end L2
namespace TL
open PySem PySem.Spec PyProof.Rows L2 PySem.SeqAt
section
variable {X:Cx} {a b e:Expr} {es:List Expr} {te ta tb:ET} {pos:Pos}
def D5 (ts:List D) (d:D) (j:Nat):Prop:=eE ts=true/\d.canLay0=true/\min (eN ts) d.depth<=60/\(∃ t,ts[j]?=some t/\dZ t d=true)/\∀ (m:Nat) t,m<j->ts[m]?=some t->dZ t d=false
def DU (K:aE):V->List V->Hp->VK->Prop:=λx xs H Q=>∃ (y:V) (ts:List D) (d:D) (j:Nat),xs=[y]/\iA K H (.tuple ts) x/\iA K H d y/\D5 ts d j/\Q (.int j) H
theorem IC (hu:X.A.units+200<cLine):JY X "tuple.index" (DU X.K):=by
 intro pins s σ H x xs v us Q I rx rv h
 obtain ⟨y,ts,d,j,rfl,r1,r2,⟨c1,c2,hm,⟨t,ht,he⟩,hno⟩,q⟩:=h
 obtain ⟨u,rfl,ru⟩:=rv.one
 obtain ⟨as,h1⟩:=iA.reads I (show (gA ts).hasDict=false from noDictAll c1) r1 rx
 obtain ⟨bs,h2⟩:=iA.reads I (nH c2) r2 ru
 cases h1 with
 | @tuple l o items n _ as' h3 h4 h5 h6 =>
  have hmap:=readsAll_map ts items.toList _ c1 h6
  have hlen:items.size=ts.length:=by rw [<- hmap,aC,eO]
  have hjl:j<ts.length:=(aD.mp ht).1
  have hj:j<items.size:=by omega
  have rd:∀ (m:Nat) (hm:m<items.size),ts[m]?=some (readOf s.heap items[m]):=λm hm=>by
   rw [<- hmap,aJ]
   simp [hm]
  obtain ⟨oc,od,odt,osl⟩:=o
  cases h4
  cases h5
  refine call_meets F.slot_tuple_index ⟨_,h3,rfl⟩ F.entry_tuple_index (F.args_tuple_index_2 _ _) (xM _ items _ od osl u (λy=>dZ (readOf s.heap y) d) j hj ?_ ?_) ⟨h3,items_eqAt h6 h2 c1 c2 (by have:=hu;omega),?_⟩
  ·have:=rd j hj
   rw [ht] at this
   rw [<- Option.some.inj this];exact he
  ·intro m hm' hlt
   exact hno m _ hlt (rd m hm')
  ·exact ⟨.int j,H,I.tok _,⟨_,rfl⟩,q⟩
theorem nX {k:Nat} (hr:gG k X.A):JY X "tuple.index" (DU X.K):=IC (by have:=hr.un;omega)
def W1 (te:ET) (t:AT):ET:=λσ Q=>te σ λd=>∃ ts,d=.tuple ts/\t σ λds=>∃ (x:D) (j:Nat),ds=[x]/\D5 ts x j/\Q (.int j)
theorem nY {n:Expr} {ap:Pos} {t:AT} (hn:jD X n te) (ha:uV X (e::es) t)
  (pc:∀ {v:TE} {ta:TA},PE X n v->PA X (e::es) ta->PE X (.Call (.Attribute n "index" ap) (e::es) [] pos) (N5 X.K "tuple" (DU X.K) v ta)):jD X (.Call (.Attribute n "index" ap) (e::es) [] pos) (W1 te t):=by
 obtain ⟨v,pe,re⟩:=hn
 obtain ⟨va,pa,ra⟩:=ha
 refine ⟨_,pc pe pa,λB p0 H ps σT σ Q QV o h k=>re B p0 H ps σT σ _ _ o h λd x H1 s1 r1 q1=>?_⟩
 obtain ⟨ts,rfl,q1⟩:=q1
 cases r1 with
 | @tuple p xs _ hq rs =>
  refine ⟨.inr (.inl ⟨rfl,.inr ⟨_,bH.seqT dA hq⟩⟩),ra B p0 H1 ps σT σ _ _ (o.grow s1) q1 λds ys H2 s2 r2 q2=>?_⟩
  obtain ⟨d,j,rfl,hok,q⟩:=q2
  cases r2 with
  | cons r3 r4 =>
   cases r4
   exact ⟨_,ts,d,j,rfl,(iA.tuple hq rs).same ((cJ s2).trans dA),r3.same dA,hok,k _ _ H2 (s1.trans s2) (.int _) q⟩
theorem Reps.rep {K:aE} {H:Hp} {ds:List D} {vs:List V} (r:Reps K H ds vs):∀ n:Nat,Reps K H (jQ n ds).flatten (jQ n vs).flatten
 | 0=>.nil
 | n+1=>by
  rw [mP,mP,jK,jK]
  exact r.append (Reps.rep r n)
end
end TL

namespace TL
open PySem PySem.Spec PyProof.Rows L2
section
variable {K:aE} {H H':Hp} {B:Hp} {p0 ps:List Addr} {σT:List Sl} {σ:L2.St}
def T9:D->Bool
 | .none=>true
 | .bool _=>true
 | .int _=>true
 | .str _=>true
 | _=>false
theorem iA.flat {d:D} {v:V} (r:iA K H d v) (h:T9 d=true):iA K H' d v:=by
 cases r with
 | none=>exact .none
 | bool b=>exact .bool b
 | int i=>exact .int i
 | str x=>exact .str x
 | _=>cases h
theorem Reps.snoc:∀ {ts:List D} {d:D} {xs:List V},Reps K H (ts++[d]) xs->∃ ys y,xs=ys++[y]/\Reps K H ts ys/\iA K H d y
 | [],d,_,r=>by
  rw [qG] at r
  cases r with
  | cons r1 r2=>cases r2;exact ⟨[],_,rfl,.nil,r1⟩
 | t::ts,d,_,r=>by
  rw [gC] at r
  cases r with
  | cons r1 r2 =>
   obtain ⟨ys,y,rfl,h1,h2⟩:=Reps.snoc r2
   exact ⟨_::ys,y,rfl,.cons r1 h1,h2⟩
theorem Reps.put:∀ {ts:List D} {xs:List V} (n:Nat) {d:D} {v:V},Reps K H ts xs->iA K H d v->Reps K H (ts.set n d) (xs.set n v)
 | _,_,_,_,_,.nil,_=>.nil
 | _,_,0,_,_,.cons _ t,r=>.cons r t
 | _,_,n+1,_,_,.cons s t,r=>.cons s (Reps.put n t r)
def without (H:Hp) (p:Addr):Hp:=λb=>if b=p then none else H b
theorem rX {p:Addr}:mask (without H p) ps=mask H (p::ps):=by
 funext b
 unfold mask without
 by_cases h1:b=p
 ·simp [h1]
 ·by_cases h2:b∈ps<;>simp [h1,h2]
theorem oP {p:Addr} (s:bH H H') (hp:H p=none):bH H (without H' p):=λb o e=>by
 unfold without
 rw [if_neg λz=>by rw [z,hp] at e;cases e]
 exact s b o e
theorem uF {p:Addr} {u:HO} (hx:H p=some u):iM (without H p) p u=H:=by
 funext b
 by_cases h:b=p
 ·subst h;rw [eM,hx]
 ·rw [cT h]
  unfold without
  rw [if_neg h]
theorem bH.free' (s:bH H H') {p:Addr} (h:H' p=none):H p=none:=by
 cases q:H p with
 | none=>rfl
 | some u=>rw [s p u q] at h;cases h
theorem Ok.takeOwn (o:Ok K B p0 H ps σT σ) {i:Nat} {ts:List D} {xs:List V} {p:Addr} (s:bH H H') (hp:H p=none) (hx:H' p=some (.lst xs)) (r:Reps K (mask H' (p::ps)) ts xs) :
  Ok K B p0 H' (p::ps) (σT.set i (.own ts)) (σ.set i (some (.ref p))):=by
 have o1:=o.grow (oP s hp)
 have hn:without H' p p=none:=by unfold without;rw [if_pos rfl]
 have:=o1.setOwn (i:=i) (ts:=ts) (xs:=xs) hn (by rw [rX];exact r)
 rwa [uF hx] at this
end
section
variable {X:Cx} {a b c e:Expr} {es:List Expr} {ta tb te:ET} {pos:Pos}
def QJ (i:Nat) (t:ET):ET:=λσ Q=>∃ ts,σ[i]?=some (.own ts)/\t (σ.set i (.val (.list ts))) λd=>T9 d=true/\Q d
theorem IU (i:Nat) (h:jD X e te):jD X e (QJ i te):=by
 obtain ⟨v,p,r⟩:=h
 refine ⟨_,p,λB p0 H ps σT σ Q QV o h k=>?_⟩
 obtain ⟨ts,e,h⟩:=h
 obtain ⟨ps',o',s'⟩:=o.share e
 exact r B p0 H ps' _ σ _ _ o' h λd x H1 s1 r1 q1=>k d x H1 s1 (r1.flat q1.1) q1.2
abbrev FT:=List Sl->(List D->Prop)->Prop
def JX (X:Cx) (e:Expr) (t:FT):Prop:=∃ te:TE,PE X e te/\∀ (B:Hp) (p0:List Addr) (H:Hp) (ps:List Addr) (σT:List Sl) (σ:L2.St) (Q:List D->Prop) (QV:VK),Ok X.K B p0 H ps σT σ->t σT Q ->
 (∀ ts p xs H',bH H H'->H p=none->H' p=some (.lst xs)->Reps X.K (mask H' (p::ps)) ts xs->Q ts->QV (.ref p) H')->te σ H QV
def eFr (t:FT):ET:=λσ Q=>t σ λts=>Q (.list ts)
theorem uJ {t:FT} (h:JX X e t):jD X e (eFr t):=by
 obtain ⟨v,p,r⟩:=h
 refine ⟨_,p,λB p0 H ps σT σ Q QV o h k=>r B p0 H ps σT σ _ _ o h λts p xs H' s hp hx rs q=>k _ _ H' s ?_ q⟩
 exact .list (lP.of (mY (jI o.live hp) hx)) (rs.same (kQ λq hq=>aK _ hq))
def UB (ta tb:ET):FT:=λσ Q=>ta σ λx=>tb σ λy=>∃ as bs,x=.list as/\y=.list bs/\as.length+bs.length<=100000/\Q (as++bs)
theorem WP (ha:jD X a ta) (hb:jD X b tb):JX X (.BinOp a .Add b pos) (UB ta tb):=by
 obtain ⟨va,pa,ra⟩:=ha
 obtain ⟨vb,pb,rb⟩:=hb
 refine ⟨_,F0 F4 pa pb,λB p0 H ps σT σ Q QV o h k=>ra B p0 H ps σT σ _ _ o h λd1 x H1 s1 r1 q1=>?_⟩
 refine rb B p0 H1 ps σT σ _ _ (o.grow s1) q1 λd2 y H2 s2 r2 q2=>?_
 obtain ⟨as,bs,rfl,rfl,hz,q⟩:=q2
 cases r1 with
 | list h1 t1 =>
  cases r2 with
  | list h2 t2 =>
   refine ⟨_,_,_,_,rfl,rfl,L2.bH.seq ((cJ s2).trans dA) h1,L2.bH.seq dA h2,uI (by rw [<- t1.length,<- t2.length];exact hz),λp hp=>?_⟩
   exact k _ p _ _ ((s1.trans s2).trans (fL hp)) (bH.free' (s1.trans s2) hp) eM (by rw [kR hp];exact (t1.same (cJ s2)).append t2) q
def fLc (fr:List (Option Nat)) (ti:IT) (g:GT) (tt:oK) (te:ET):FT:=λσ Q=>ti σ λts=>ts.length<=100000/\∃ P:Nat->List Sl->List D->Prop,P 0 (iC fr σ) [] /\
 (∀ (k:Nat) (x:D) (σ':List Sl) (ds:List D),ts[k]?=some x->P k σ' ds->g x σ' λσ2=>tt σ2 λb=>if b=true then te σ2 λy=>P (k+1) σ2 (ds++[y]) else P (k+1) σ2 ds)/\∀ σ' ds,P ts.length σ' ds->Q ds
def asL (Q:List D->Prop) (d:D):Prop:=match d with | .list ds=>Q ds | _=>False
theorem MW {fr:List (Option Nat)} {ti:IT} {g:GT} {tt:oK} {te:ET} {σ:List Sl} {Q:List D->Prop} (h:JR fr ti g tt te σ (asL Q)):fLc fr ti g tt te σ Q:=h
theorem L9 {fr:List (Option Nat)} {ti:IT} {g:GT} {tt:oK} {te:ET} {wi:TI} {gv:BP->TG} {vt:BP->TT} {ve:BP->TE}
  (ri:∀ (B:Hp) (p0:List Addr) (H:Hp) (ps:List Addr) (σT:List Sl) (σ:L2.St) (Q:List D->Prop) (R:It->Hp->Prop),Ok X.K B p0 H ps σT σ->ti σT Q->(∀ ts J H',bH H H'->QU X.K (mask H' ps) ts J->Q ts->R J H')->wi σ H R)
  (rg:∀ (bp:BP) (B:Hp) (p0:List Addr) (H:Hp) (ps:List Addr) (σT:List Sl) (σ:L2.St) (d:D) (v:V) (Q:List Sl->Prop) (QV:L2.St->Hp->Prop),Ok X.K B p0 H ps σT σ->iA X.K (mask H ps) d v->g d σT Q->(∀ σT' σ',Ok X.K B p0 H ps σT' σ'->(lM σT->lM σT')->Q σT'->QV σ' H)->gv bp v σ H QV)
  (rt:∀ (bp:BP) (B:Hp) (p0:List Addr) (H:Hp) (ps:List Addr) (σT:List Sl) (σ:L2.St) (Q:Bool->Prop) (QV:Bool->Hp->Prop),Ok X.K B p0 H ps σT σ->tt σT Q->(∀ b H',bH H H'->Q b->QV b H')->vt bp σ H QV)
  (re:∀ (bp:BP) (B:Hp) (p0:List Addr) (H:Hp) (ps:List Addr) (σT:List Sl) (σ:L2.St) (Q:D->Prop) (QV:VK),Ok X.K B p0 H ps σT σ->te σT Q->(∀ d v H',bH H H'->iA X.K (mask H' ps) d v->Q d->QV v H')->ve bp σ H QV)
  (B:Hp) (p0:List Addr) (H:Hp) (ps:List Addr) (σT:List Sl) (σ:L2.St) (Q:List D->Prop) (QV:VK) (o:Ok X.K B p0 H ps σT σ) (h:fLc fr ti g tt te σT Q) (k:∀ ts p xs H',bH H H'->H p=none->H' p=some (.lst xs)->Reps X.K (mask H' (p::ps)) ts xs->Q ts->QV (.ref p) H'):KH fr wi gv vt ve σ H QV:=by
 refine ri B p0 H ps σT σ _ _ o h λts J H1 s1 rj q1=>?_
 obtain ⟨hz,P,h0,hs,hd⟩:=q1
 intro bp acc hacc
 have hBacc:B acc=none:=bH.free' (o.grow s1).base hacc
 refine ⟨λi m σ' H'=>m=ts.length-i/\i<=ts.length/\∃ σT' ds ys,Ok X.K B p0 H' (acc::ps) σT' σ'/\lM σT'/\H' acc=some (.lst ys)/\ds.length<=i/\Reps X.K (mask H' (acc::ps)) ds ys/\bH (mask H1 ps) (mask H' (acc::ps))/\bH H1 H'/\P i σT' ds,
  ⟨_,rfl,cC _,iC fr σT,[],[],((o.grow s1).blk fr).adopt hacc,nW fr σT,eM,aL _,.nil,by rw [kR hacc];exact L2.bH.refl _,fL hacc,h0⟩,?_⟩
 rintro i m σ' H' ⟨rfl,hle,σT',ds,ys,o',n',ha,hl,hr,s',sF,p'⟩
 have hL:bG=2 ^ 24:=rfl
 by_cases hlt:i<ts.length
 ·refine .inr ⟨rj.go i H' (s'.trans dA) hlt,λy H2 hy=>?_⟩
  obtain ⟨s2,dx,hx,rx⟩:=rj.yld i H' (acc::ps) y H2 o'.live s' hlt hy
  refine rg bp B p0 H2 (acc::ps) σT' σ' dx y _ _ (o'.grow s2) rx (hs i dx σT' ds hx p') λσT3 σ3 o3 n3 q3=>?_
  refine rt bp B p0 H2 (acc::ps) σT3 σ3 _ _ o3 q3 λb H4 s4 q4=>?_
  have s24:=s2.trans s4
  cases b with
  | false =>
   exact ⟨ts.length-(i+1),by omega,rfl,hlt,σT3,ds,ys,o3.grow s4,n3 n',s24 _ _ ha,by omega,hr.same (cJ s24),s'.trans (cJ s24),sF.trans s24,q4⟩
  | true =>
   refine re bp B p0 H4 (acc::ps) σT3 σ3 _ _ (o3.grow s4) q4 λd v H5 s5 r5 q5=>?_
   have s25:=s24.trans s5
   have hm:mask (iM H5 acc (.lst (ys++[v]))) (acc::ps)=mask H5 (acc::ps):=kP (aM ..)
   refine ⟨ys,s25 _ _ ha,by rw [<- hr.length];omega,ts.length-(i+1),by omega,rfl,hlt,σT3,ds++[d],ys++[v],((o3.grow s4).grow s5).aside (aM ..) hBacc (n3 n'),n3 n',eM,by rw [bA,hG];omega,?_,?_,?_,q5⟩
   ·rw [hm];exact (hr.same (cJ s25)).append (.cons r5 .nil)
   ·rw [hm];exact s'.trans (cJ s25)
   ·intro b u e
    have ne:b≠acc:=λz=>by rw [z,hacc] at e;cases e
    rw [cT ne];exact (sF.trans s25) b u e
 ·obtain rfl:i=ts.length:=by omega
  exact .inl ⟨rj.stop _ H' (s'.trans dA) (aL _),k ds acc ys H' (s1.trans sF) (bH.free' s1 hacc) ha hr (hd σT' ds p')⟩
theorem P0 {elt iter tg:Expr} {ifs:List Expr} {scope:Scope} {fr:List (Option Nat)} {N':List Str} {ti:IT} {g:GT} {tt:oK} {te:ET} (hi:JV X tg iter ti)
  (hY:∀ b:BP,JW (blk X scope N' b) tg g/\A4 (blk X scope N' b) ifs tt/\jD (blk X scope N' b) elt te) {M:(TE)->Prop}
  (fin:∀ {wi:TI} {gv:BP->TG} {vt:BP->TT} {ve:BP->TE},PI X tg iter wi->(∀ b:BP,PG (blk X scope N' b) tg (gv b)/\JH (blk X scope N' b) ifs (vt b)/\PE (blk X scope N' b) elt (ve b))->M (KH fr wi gv vt ve)) :
  ∃ v:TE,M v/\∀ (B:Hp) (p0:List Addr) (H:Hp) (ps:List Addr) (σT:List Sl) (σ:L2.St) (Q:List D->Prop) (QV:VK),Ok X.K B p0 H ps σT σ->fLc fr ti g tt te σT Q ->
   (∀ ts p xs H',bH H H'->H p=none->H' p=some (.lst xs)->Reps X.K (mask H' (p::ps)) ts xs->Q ts->QV (.ref p) H')->v σ H QV:=by
 obtain ⟨wi,pi,ri⟩:=hi
 refine ⟨_,fin (gv:=λb=>Classical.choose (hY b).1) (vt:=λb=>Classical.choose (hY b).2.1) (ve:=λb=>Classical.choose (hY b).2.2) pi λb=>⟨(Classical.choose_spec (hY b).1).1,(Classical.choose_spec (hY b).2.1).1,(Classical.choose_spec (hY b).2.2).1⟩,?_⟩
 exact L9 ri (λb=>(Classical.choose_spec (hY b).1).2) (λb=>(Classical.choose_spec (hY b).2.1).2) λb=>(Classical.choose_spec (hY b).2.2).2
theorem aAr {elt iter tg:Expr} {ifs:List Expr} {scope:Scope} {fr:List (Option Nat)} {N':List Str} {ti:IT} {g:GT} {tt:oK} {te:ET} (hi:JV X tg iter ti)
  (hY:∀ b:BP,JW (blk X scope N' b) tg g/\A4 (blk X scope N' b) ifs tt/\jD (blk X scope N' b) elt te)
  (pl:∀ {wi:TI} {gv:BP->TG} {vt:BP->TT} {ve:BP->TE},PI X tg iter wi->(∀ b:BP,PG (blk X scope N' b) tg (gv b)/\JH (blk X scope N' b) ifs (vt b)/\PE (blk X scope N' b) elt (ve b))->PE X (.ListComp elt [⟨tg,iter,ifs,0⟩] scope pos) (KH fr wi gv vt ve)) :
  JX X (.ListComp elt [⟨tg,iter,ifs,0⟩] scope pos) (fLc fr ti g tt te):=P0 hi hY pl
abbrev JG:=List D->(List D->Prop)->Prop
def fV (K:aE) (sp:JG):Sp:=λvs H Q _=>∃ (ps:List Addr) (ds:List D) (QD:List D->Prop),(∀ p∈ps,H p≠none)/\Reps K (mask H ps) ds vs/\sp ds QD /\
 ∀ ts p xs H',bH H H'->H p=none->H' p=some (.lst xs)->Reps K (mask H' (p::ps)) ts xs->QD ts->Q (.ref p) H'
def UA (sp:JG) (t:AT):FT:=λσ Q=>t σ λds=>sp ds Q
theorem QA {k:Nat} {f:Addr} {fd:dF} {pn:List Str} {sp:JG} {x:Str} {p:Pos} {t:AT} (F:bN X.prog X.w X.K X.mg X.base dP k f fd pn (fV X.K sp)) (hm:X.mg x=some (.ref f)) (hk:eX X.K (.ref f)=true) (hb:pJ X.K fd pn [])
  (hr:gG k X.A) (ha:uV X (e::es) t) (pc:∀ {ta:TA},PA X (e::es) ta->PE X (.Call (.Name x p) (e::es) [] pos) (yL (fV X.K sp) [] E0 ta)):JX X (.Call (.Name x p) (e::es) [] pos) (UA sp t):=by
 obtain ⟨v,pa,ra⟩:=ha
 refine ⟨_,pc pa,λB p0 H ps σT σ Q QV o h k=>ra B p0 H ps σT σ _ _ o h λds xs H1 s1 r1 q1=>?_⟩
 show fV X.K sp (xs++[]) H1 QV E0
 rw [dY]
 exact ⟨ps,ds,Q,(o.grow s1).live,r1,q1,λts p xs' H' s' hp hx rs q=>k ts p xs' H' (s1.trans s') (bH.free' s1 hp) hx rs q⟩
theorem X0 {P:bY} {w:World} {K:aE} {mg:Str->Option Value} {base:Heap} {x qual:Str} {st:Stmt} {f:Addr} {fd:dF} {N pn:List Str} {k:Nat} {sp:JG} (F:JZ K x qual st f fd) (S:cD N pn (aY st)) (len:∀ ds Q,sp ds Q->ds.length=pn.length)
  (hbody:∀ (cdv:Value) (A:Around) (outer:List Env) (s:Shared) (H:Hp) (E:XK),gG k (A.deeper (envOfC qual (aY st) s.heap.objs.size f cdv))->∀ (ds:List D) (Q:List D->Prop),sp ds Q ->
   ∃ t,rO (wX dP P w K mg base N qual (aY st) f cdv A outer s H E).nox (kU st) t/\t { nx:=λ_=>False,rt:=λ_=>False,ro:=Q } (mK N ds)):bN P w K mg base dP (k+1) f fd pn (fV K sp):=by
 refine F.ok S (λvs H Q E h=>?_) λcdv A outer s H vs Q E hr h=>?_
 ·obtain ⟨ps,ds,QD,_,r,q,_⟩:=h
  rw [<- r.length];exact len ds QD q
 ·obtain ⟨ps,ds,QD,live,r,q,k⟩:=h
  obtain ⟨t,⟨ts,p,rd⟩,h⟩:=hbody cdv A outer s H E hr ds QD q
  exact ⟨ts,p,rd H ps H ps _ _ _ _ (sE live r) h ⟨λ_ _ _ _ _ _ q'=>q'.elim,λ_ _ _ _ _ _ q'=>q'.elim,λ_ _ _ _ _ _ q'=>q'.elim,λ_ _ _ _ _ q'=>q'.elim,λts p xs H' s' hB hp hx rs q'=>k ts p xs H' s' hB hx rs q',λ_ _ _ _ _ _ _ _ _ _ _ _ _ _ _ _ _ _ q'=>q'.elim,λ_ _ _ _ _ _ _ _ _ _ _ _ _ _ q'=>q'.elim,True.intro⟩⟩
def KY (i:Nat) (t:FT):qQ:=λDT σ=>t σ λts=>DT.nx (σ.set i (.own ts))
theorem HK {i:Nat} {t:FT} {v:TE} (r:∀ (B:Hp) (p0:List Addr) (H:Hp) (ps:List Addr) (σT:List Sl) (σ:L2.St) (Q:List D->Prop) (QV:VK),Ok X.K B p0 H ps σT σ->t σT Q ->
   (∀ ts p xs H',bH H H'->H p=none->H' p=some (.lst xs)->Reps X.K (mask H' (p::ps)) ts xs->Q ts->QV (.ref p) H')->v σ H QV)
  (B:Hp) (p0:List Addr) (H:Hp) (ps:List Addr) (σT:List Sl) (σ:L2.St) (DT:qE) (DV:uX) (o:Ok X.K B p0 H ps σT σ) (h:KY i t DT σT) (f:DF X.K B p0 H ps DT DV):zU v (kT i) DV σ H:=by
 refine r B p0 H ps σT σ _ _ o h λts p xs H' s hp hx rs q=>?_
 exact f.nx H' (p::ps) _ _ (o.takeOwn s hp hx rs) (by rw [<- rX];exact cJ (oP s hp)) q
theorem OH {i:Nat} {x:Str} {pos':Pos} {t:FT} (h:JX X e t) (ps':∀ {v:TE},PE X e v->PS X (.Assign [.Name x pos'] e pos) (zU v (kT i))):xX X (.Assign [.Name x pos'] e pos) (KY i t):=by
 obtain ⟨v,p,r⟩:=h
 exact ⟨_,ps' p,HK r⟩
def TN (t:FT):qQ:=λDT σ=>t σ DT.ro
theorem vB {t:FT} (h:JX X e t):xX X (.Return (some e) pos) (TN t):=by
 obtain ⟨v,p,r⟩:=h
 refine ⟨_,AD p,λB p0 H ps σT σ DT DV o h f=>r B p0 H ps σT σ _ _ o h λts p xs H' s hp hx rs q=>?_⟩
 refine f.ro ts p xs H' (o.base.trans s) (bH.free' o.base hp) (λz=>jI o.live hp (o.sub p z)) hx (rs.same (kQ λq hq=>?_)) q
 rcases aZ.mp hq with rfl | hq
 ·exact aM ..
 ·exact aK _ (o.sub q hq)
def OS (i:Nat):qQ:=λDT σ=>∃ ts,σ[i]?=some (.own ts)/\DT.ro ts
theorem tF {i:Nat} {n:Expr} (hn:PE X n (BN i)):xX X (.Return (some n) pos) (OS i):=by
 refine ⟨_,AD hn,λB p0 H ps σT σ DT DV o h f=>?_⟩
 obtain ⟨ts,e,h⟩:=h
 obtain ⟨q,xs,h1,h2,h3,h4,h5,h6⟩:=o.own i ts e
 refine ⟨.ref q,h1,f.ro ts q xs H o.base h3 h4 h5 (h6.same (kQ λz hz=>?_)) h⟩
 rcases aZ.mp hz with rfl | hz
 ·exact h2
 ·exact o.sub z hz
def KU (c:oK) (tb:qQ):qQ:=λDT σ=>∃ P:Nat->List Sl->Prop,(∃ n,P n σ)/\∀ n σ',P n σ'->c σ' λb=>if b=true then tb { DT with nx:=λσ2=>∃ m,m<n/\P m σ2,ct:=λσ2=>∃ m,m<n/\P m σ2,bk:=DT.nx } σ' else DT.nx σ'
theorem vV {c:Expr} {body:List Stmt} {tc:oK} {tb:qQ} (hc:EW X c tc) (hb:rO X body tb) (pw:∀ {vc:TT} {vb:TS},PT X c vc->DB X body vb->PS X (.While c body [] pos) (KG vc vb)):xX X (.While c body [] pos) (KU tc tb):=by
 obtain ⟨vc,pc,rc⟩:=hc
 obtain ⟨vb,pb,rb⟩:=hb
 refine ⟨_,pw pc pb,λB p0 H ps σT σ DT DV o h f=>?_⟩
 obtain ⟨P,⟨n0,h0⟩,hs⟩:=h
 refine ⟨λn σ' H'=>∃ ps' σT',Ok X.K B p0 H' ps' σT' σ'/\bH (mask H ps) (mask H' ps')/\P n σT',⟨n0,ps,σT,o,L2.bH.refl _,h0⟩,?_⟩
 rintro n σ' H' ⟨ps',σT',o',s',p'⟩
 refine rc B p0 H' ps' σT' σ' _ _ o' (hs n σT' p') λb H1 s1 q1=>?_
 have f':DF X.K B p0 H1 ps' DT DV:=(f.later s').later (cJ s1)
 have s'':bH (mask H ps) (mask H1 ps'):=s'.trans (cJ s1)
 cases b with
 | true =>
  rw [if_pos rfl] at q1 |-
  refine ⟨λσ2 H2=>∃ m,m<n/\∃ ps2 σT2,Ok X.K B p0 H2 ps2 σT2 σ2/\bH (mask H ps) (mask H2 ps2)/\P m σT2,λσ2 H2 z=>z,?_⟩
  exact rb B p0 H1 ps' σT' σ' _ _ (o'.grow s1) q1 ⟨λH4 ps4 σT4 σ4 o4 s4 ⟨m,hm,q4⟩=>⟨m,hm,ps4,σT4,o4,s''.trans s4,q4⟩,λH4 ps4 σT4 σ4 o4 s4 q4=>f'.nx H4 ps4 σT4 σ4 o4 s4 q4,λH4 ps4 σT4 σ4 o4 s4 ⟨m,hm,q4⟩=>⟨m,hm,ps4,σT4,o4,s''.trans s4,q4⟩,f'.rt,f'.ro,f'.rp,f'.rq,f'.xb⟩
 | false =>
  rw [if_neg (by decide)] at q1 |-
  exact f'.nx H1 ps' σT' σ' (o'.grow s1) (L2.bH.refl _) q1
def gP3 (i j k:Nat):GT:=λd σ Q=>∃ a b c,d=.tuple [a,b,c]/\Q (((σ.set i (.val a)).set j (.val b)).set k (.val c))
theorem IR {i j k:Nat} {t:Expr} (h:PG X t (WM X.K 3 (zE (kT i) (zE (kT j) (zE (kT k) WN))))):JW X t (gP3 i j k) :=
 ⟨_,h,λB p0 H ps σT σ d v Q QV o r h k=>by
  obtain ⟨a,b,c,rfl,h⟩:=h
  cases r with
  | @tuple p xs _ hq r =>
   cases r with
   | cons ra r =>
    cases r with
    | cons rb r =>
     cases r with
     | cons rc r =>
      cases r
      exact ⟨_,_,rfl,bH.seqT dA hq,rfl,_,_,rfl,_,_,rfl,_,_,rfl,rfl,k _ _ (((o.set ra).set rb).set rc) (λn=>mH (mH (mH n _ _) _ _) _ _) h⟩⟩
def eIf (c:oK) (ta tb:ET):ET:=λσ Q=>c σ λb=>if b=true then ta σ Q else tb σ Q
theorem CW {tc:oK} (hc:EW X c tc) (ha:jD X a ta) (hb:jD X b tb):jD X (.IfExp c a b pos) (eIf tc ta tb):=by
 obtain ⟨vc,pc,rc⟩:=hc
 obtain ⟨va,pa,ra⟩:=ha
 obtain ⟨vb,pb,rb⟩:=hb
 refine ⟨_,LF pc pa pb,λB p0 H ps σT σ Q QV o h k=>rc B p0 H ps σT σ _ _ o h λd H1 s1 q1=>?_⟩
 cases d with
 | true =>
  rw [if_pos rfl] at q1 |-
  exact ra B p0 H1 ps σT σ Q _ (o.grow s1) q1 λd v H' s' r' q'=>k d v H' (s1.trans s') r' q'
 | false =>
  rw [if_neg (by decide)] at q1 |-
  exact rb B p0 H1 ps σT σ Q _ (o.grow s1) q1 λd v H' s' r' q'=>k d v H' (s1.trans s') r' q'
end
end TL

namespace L2
open PySem PySem.Spec PyProof.Rows PySem.SeqAt
open AutoSeq1 (wpAny_loadPart')
section
variable {X:Cx} {pins:List (Addr×Obj)} {σ:St} {H:Hp} {s:Shared} {p:Addr}
end
theorem EL (l:Addr) (items:Array Value) (n:Nat) (b:Addr) (items2:Array Value) (n2:Nat) (dd:Option Addr) (sl:Array (Option Value)) (hc0:¬(!items.isEmpty && Builtin.List.listTooLong (items.size+items2.size))=true) (hc1:items.size<=bG) (hs2:items.size+items2.size<=bG+1) :
  Meets (Builtin.«list.extend» ⟨[.ref l,.ref b],[]⟩) (λ_ R s=>s.heap.get? l=some { cls:=.type "list",dict:=none,data:=.seq items n,slots:=#[] }/\s.heap.get? b=some { cls:=.type "list",dict:=dd,data:=.seq items2 n2,slots:=sl }/\R (.ok (.ret Value.none)) { s with heap:=s.heap.update l (Obj.mapSeq λx=>x++items2),toks:=s.toks }) :=
 .of_wp λprog w A R s h=>by
  obtain ⟨hp,g,d,tk,os⟩:=s;obtain ⟨hl,hb,h⟩:=h;have f1:=AutoSeq1.idx_int;have f2:=AutoSeq1.sub_tuple_tuple;have f3:=AutoSeq1.sub_list_list;have f4:=AutoSeq1.sub_tuple_list;have f5:=AutoSeq1.sub_list_tuple
  have hz':(items++items2).size<=bG+1:=by rw [J6];exact hs2
  wp_walk using (wpAny_updateSeq hl rfl (hz:=hc1) (_hz':=hz')),wpAny_loadPart' hl,wpAny_loadPart' hb
  exact ⟨_,rfl,h⟩
section
variable {X:Cx}
def TU (K:aE):V->List V->Hp->VK->Prop:=λx vs H Q=>∃ l b xs zs,x=.ref l/\vs=[.ref b]/\H l=some (.lst xs)/\lP K H b zs/\xs.length+zs.length<=bG/\Q .non (iM H l (.lst (xs++zs)))
theorem GA:MtM X "list.extend" (TU X.K):=by
 intro pins s σ H x vs v us Q I rx rv h
 obtain ⟨l,b,xs,zs,rfl,rfl,hH,hB,hz,q⟩:=h
 cases rx
 obtain ⟨u,rfl,ru⟩:=rv.one
 cases ru
 obtain ⟨z,its,n,r,hl,e⟩:=I.lstM hH
 obtain ⟨its2,r2,⟨o,n2,e2,hc,hdn,hd⟩,z2⟩:=I.list hB
 have hl2:=r2.length
 have hsz:its.toArray.size+its2.toArray.size<=bG:=by rw [bB,bB];omega
 have hlong:¬ (!its.toArray.isEmpty && Builtin.List.listTooLong (its.toArray.size+its2.toArray.size))=true:=by
  rw [LN hsz,Bool.and_false]
  exact cE
 obtain ⟨oc,od,odt,osl⟩:=o
 cases hc
 cases hd
 refine call_meets F.slot_list_extend ⟨_,e,rfl⟩ F.entry_list_extend (F.args_list_extend_2 _ _) (EL l its.toArray n b its2.toArray n2 od osl hlong (by rw [bB];omega) (by omega)) ⟨e,e2,?_⟩
 refine ⟨.non,_,I.lset (its':=its++its2) hH e (by simp) (r.append r2) ?_,rfl,q⟩
 rw [bA]
 omega
end
end L2
namespace TL
open PySem PySem.Spec PyProof.Rows L2
section
variable {X:Cx} {a b c e:Expr} {es:List Expr} {ta tb te:ET} {pos:Pos}
def TQ (i:Nat) (te:ET):qQ:=λDT σ=>∃ ts,σ[i]?=some (.own ts)/\te σ λd=>∃ us,d=.list us/\ts.length+us.length<=100000/\DT.nx (σ.set i (.own (ts++us)))
theorem FI {i:Nat} {n e:Expr} {te:ET} {ap cp:Pos} (hn:PE X n (BN i)) (he:jD X e te) (hs:bT [e] X.env=(false,eval e X.env)::bT [] X.env:=by rfl)
  (pb:∀ {ta:TA},PA X [e] ta->PS X (.Expr (.Call (.Attribute n "extend" ap) [e] [] cp) pos) (FE (N5 X.K "list" (TU X.K) (BN i) ta))):xX X (.Expr (.Call (.Attribute n "extend" ap) [e] [] cp) pos) (TQ i te):=by
 obtain ⟨v,p,r⟩:=he
 refine ⟨_,pb (oT p wF hs),λB p0 H ps σT σ DT DV o h f=>?_⟩
 obtain ⟨ts,e,h⟩:=h
 obtain ⟨q,xs,h1,h2,h3,h4,h5,h6⟩:=o.own i ts e
 refine ⟨.ref q,h1,.inl ⟨rfl,xs,lP.of h5⟩,r B p0 H ps σT σ _ _ o h λd x H1 s1 r1 q1=>?_⟩
 obtain ⟨us,rfl,hz,q1⟩:=q1
 have o1:=o.grow s1
 cases r1 with
 | @list p2 zs _ hq rs =>
  refine ⟨q,p2,xs,zs,rfl,rfl,s1 _ _ h5,L2.bH.seq dA hq,uI (by rw [<- h6.length,<- rs.length];exact hz),?_⟩
  have hr:Reps X.K (mask H1 ps) (ts++us) (xs++zs):=(h6.same (cJ s1)).append rs
  exact f.nx _ ps _ σ (o1.write (ys:=xs++zs) e h1 hr) ((cJ s1).trans (by rw [kP h2];exact L2.bH.refl _)) q1
theorem pY {P:bY} {w:World} {K:aE} {mg:Str->Option Value} {base:Heap} {k:Nat} {f:Addr} {fd:dF} {pn:List Str}:bN P w K mg base dP k f fd pn (aS K λ_ _=>False) :=
 ⟨λvs H Q E ⟨_,_,_,_,_,h,_⟩=>h.elim,λA outer s H args us vs Q E _ _ _ _ ⟨_,_,_,_,_,h,_⟩=>h.elim⟩
theorem wR {P:bY} {w:World} {K:aE} {mg:Str->Option Value} {base:Heap} {k:Nat} {f:Addr} {fd:dF} {pn:List Str} {sp sp':kW} (F:bN P w K mg base dP k f fd pn (aS K sp)) (h:∀ ds Q,sp' ds Q->sp ds Q):bN P w K mg base dP k f fd pn (aS K sp') :=
 F.imp λvs H Q E ⟨ps,ds,QD,h1,h2,h3,h4⟩=>⟨ps,ds,QD,h1,h2,h ds QD h3,h4⟩
def aDi (d:D) (Q:D->Prop):Prop:=∃ ns:List Int,d=.list (ns.map aX)/\ns≠[]/\∀ m,m∈ns->(∀ n∈ns,n<=m)->Q (.int m)
end
end TL

namespace L2
open PySem PySem.Spec PyProof.Rows
section
variable {X:Cx}
theorem xT (hc:X.calm=true):nF X (.builtin "max") (λxs H Q=>∃ (p:Addr) (ns:List Int),xs=[.ref p]/\lP X.K H p (ns.map V.int)/\ns≠[]/\∀ m,m∈ns->(∀ n∈ns,n<=m)->Q (.int m) H):=by
 intro pins s σ H xs us Q I r h
 obtain ⟨p,ns,rfl,hq,hne0,q⟩:=h
 obtain ⟨u,rfl,rx⟩:=vP r
 cases rx
 obtain ⟨its,rv,pl,hz⟩:=I.list hq
 have hlen:=rv.length
 rw [aC] at hlen
 have hpos:0<ns.length:=List.length_pos_iff.mpr hne0
 have hne:p≠s.heap.objs.size:=by
  obtain ⟨o,ho,_⟩:=pl.isList
  exact dR (bE ho)
 have hl1:=pl.isList
 have hplt:p<s.heap.objs.size:=by
  obtain ⟨o,ho,_⟩:=hl1
  exact bE ho
 have hval:∀ (i:Nat) (v:Value),its.toArray[i]?=some v->∃ t,v=.int ((ns[i]?).getD 0) t:=λi v hP=>by
  have hv:its[i]?=some v:=by simpa using hP
  have hi:i<its.length:=(aD.mp hv).1
  have hb:i<ns.length:=by omega
  obtain ⟨w',h1,h2⟩:=rv.get (i:=i) (x:=.int ns[i]) (by rw [aJ,aB hb];rfl)
  rw [hv] at h1
  cases h1
  rw [aB hb]
  exact h2
 refine call_max_walk (wpAny_pyIter_list hl1 ?_)
 refine ⟨_,_,_,_,_,_,_,rfl,Walks.list (A:=X.A.in1) (I.ok.hd hc) _ p hne its.toArray,⟨⟨_,bW _ rfl,rfl,rfl⟩,hl1.push _⟩,λb hb=>?_,by rw [bB];omega,CmpOf.ints_gt (λi=>(ns[i]?).getD 0) hval,λv h' tk hP hk=>?_⟩
 ·show b<(s.heap.push _).objs.size
  rw [iU]
  have:b=s.heap.objs.size\/b=p:=by simpa using hb
  rcases this with rfl | rfl
  ·exact lX _
  ·exact oM hplt
 ·obtain ⟨t,rfl⟩:=hval _ _ hP
  have hb:=argBest_gt (λi=>(ns[i]?).getD 0) (its.toArray.size-1)
  have hsz:its.toArray.size=ns.length:=by rw [bB];omega
  have hi:argBest (λi j=>decide ((ns[i]?).getD 0 > (ns[j]?).getD 0)) (its.toArray.size-1)<ns.length:=by have:=hb.1;omega
  refine ⟨.int _,H,I.kept λb o e=>hk b o ?_ (aP _ e),⟨t,rfl⟩,q _ ?_ λn hn=>?_⟩
  ·intro z
   have:b=s.heap.objs.size:=by simpa using z
   exact absurd (bE e) (by rw [this];exact gI _)
  ·rw [aB hi]
   exact eF hi
  ·obtain ⟨j,hj,rfl⟩:=G6.mp hn
   have:=hb.2 j (by omega)
   rw [aB hj] at this
   exact this

def aBg (_ j:Int):Prop:=0<j/\j<2 ^ 200
theorem B6:nJ X (binaryOp .FloorDiv) (rI aBg λi j=>.int (i / j)):=opI λi j _ _ _ _ _ hc q=>by
 have h1:(0:Int)<j:=hc.1
 have h2:j<2 ^ 200:=hc.2
 have h3:j.natAbs<2 ^ 200:=by omega
 have h4:j.natAbs.log2<200:=(aB6 (by omega)).mpr h3
 exact floordiv_int (by omega) (by rw [BA i (by omega)];exact q) (.inl (PyProof.noPylong_of_log2 (by omega)))
end
end L2
namespace TL
open PySem PySem.Spec PyProof.Rows L2
section
variable {X:Cx} {a b c e:Expr} {es:List Expr} {ta tb te:ET} {pos:Pos}
theorem aA8:uN X (λxs H Q=>∃ (p:Addr) (ns:List Int),xs=[.ref p]/\lP X.K H p (ns.map V.int)/\ns≠[]/\∀ m,m∈ns->(∀ n∈ns,n<=m)->Q (.int m) H) (f1 aDi):=c1 λH ps d x Q QV live r h k=>by
 obtain ⟨ns,rfl,hne,h⟩:=h
 cases r with
 | list q s =>
  have e:=tJ s
  subst e
  exact ⟨_,ns,rfl,L2.bH.seq dA q,hne,λm hm hn=>k _ _ H (L2.bH.refl H) (.int _) (h m hm hn)⟩
end
section
variable {X:Cx} {a b c e:Expr} {es:List Expr} {ta tb te:ET} {pos:Pos}
abbrev PTm:=List Sl->(List D->List D->Prop)->Prop
def PPt (X:Cx) (e:Expr) (t:PTm):Prop:=∃ te:TE,PE X e te/\∀ (B:Hp) (p0:List Addr) (H:Hp) (ps:List Addr) (σT:List Sl) (σ:L2.St) (Q:List D->List D->Prop) (QV:VK),Ok X.K B p0 H ps σT σ->t σT Q ->
 (∀ as bs r p q xs ys H',bH H H'->H r=none->H p=none->H q=none->p≠q->H' r=some (.tup [.ref p,.ref q])->H' p=some (.lst xs)->H' q=some (.lst ys)->Reps X.K (mask H' (p::q::ps)) as xs->Reps X.K (mask H' (p::q::ps)) bs ys->Q as bs->QV (.ref r) H')->te σ H QV
abbrev X1:=List D->(List D->List D->Prop)->Prop
def lJ (K:aE) (sp:X1):Sp:=λvs H Q _=>∃ (ps:List Addr) (ds:List D) (QD:List D->List D->Prop),(∀ p∈ps,H p≠none)/\Reps K (mask H ps) ds vs/\sp ds QD /\
 ∀ as bs r p q xs ys H',bH H H'->H r=none->H p=none->H q=none->p≠q->H' r=some (.tup [.ref p,.ref q])->H' p=some (.lst xs)->H' q=some (.lst ys)->Reps K (mask H' (p::q::ps)) as xs->Reps K (mask H' (p::q::ps)) bs ys->QD as bs->Q (.ref r) H'
def TX (sp:X1) (t:AT):PTm:=λσ Q=>t σ λds=>sp ds Q
theorem K7 {k:Nat} {f:Addr} {fd:dF} {pn:List Str} {sp:X1} {x:Str} {p:Pos} {t:AT} (F:bN X.prog X.w X.K X.mg X.base dP k f fd pn (lJ X.K sp)) (hm:X.mg x=some (.ref f)) (hk:eX X.K (.ref f)=true) (hb:pJ X.K fd pn [])
  (hr:gG k X.A) (ha:uV X (e::es) t) (pc:∀ {ta:TA},PA X (e::es) ta->PE X (.Call (.Name x p) (e::es) [] pos) (yL (lJ X.K sp) [] E0 ta)):PPt X (.Call (.Name x p) (e::es) [] pos) (TX sp t):=by
 obtain ⟨v,pa,ra⟩:=ha
 refine ⟨_,pc pa,λB p0 H ps σT σ Q QV o h k=>ra B p0 H ps σT σ _ _ o h λds xs H1 s1 r1 q1=>?_⟩
 show lJ X.K sp (xs++[]) H1 QV E0
 rw [dY]
 exact ⟨ps,ds,Q,(o.grow s1).live,r1,q1,λas bs r p q xs ys H' s' h1 h2 h3 h4 h5 h6 h7 ra rb q=>k as bs r p _ xs ys H' (s1.trans s') (bH.free' s1 h1) (bH.free' s1 h2) (bH.free' s1 h3) h4 h5 h6 h7 ra rb q⟩
theorem fnP {P:bY} {w:World} {K:aE} {mg:Str->Option Value} {base:Heap} {x qual:Str} {st:Stmt} {f:Addr} {fd:dF} {N pn:List Str} {k:Nat} {sp:X1} (F:JZ K x qual st f fd) (S:cD N pn (aY st)) (len:∀ ds Q,sp ds Q->ds.length=pn.length)
  (hbody:∀ (cdv:Value) (A:Around) (outer:List Env) (s:Shared) (H:Hp) (E:XK),gG k (A.deeper (envOfC qual (aY st) s.heap.objs.size f cdv))->∀ (ds:List D) (Q:List D->List D->Prop),sp ds Q ->
   ∃ t,rO (wX dP P w K mg base N qual (aY st) f cdv A outer s H E).nox (kU st) t/\t { nx:=λ_=>False,rt:=λ_=>False,rp:=Q } (mK N ds)):bN P w K mg base dP (k+1) f fd pn (lJ K sp):=by
 refine F.ok S (λvs H Q E h=>?_) λcdv A outer s H vs Q E hr h=>?_
 ·obtain ⟨ps,ds,QD,_,r,q,_⟩:=h
  rw [<- r.length];exact len ds QD q
 ·obtain ⟨ps,ds,QD,live,r,q,k⟩:=h
  obtain ⟨t,⟨ts,p,rd⟩,h⟩:=hbody cdv A outer s H E hr ds QD q
  exact ⟨ts,p,rd H ps H ps _ _ _ _ (sE live r) h ⟨λ_ _ _ _ _ _ q'=>q'.elim,λ_ _ _ _ _ _ q'=>q'.elim,λ_ _ _ _ _ _ q'=>q'.elim,λ_ _ _ _ _ q'=>q'.elim,λ_ _ _ _ _ _ _ _ _ q'=>q'.elim,λas bs r p q xs ys H' s' h1 h2 h3 h4 h5 h6 h7 ra rb q'=>k as bs r p q xs ys H' s' h1 h2 h3 h4 h5 h6 h7 ra rb q',λ_ _ _ _ _ _ _ _ _ _ _ _ _ _ q'=>q'.elim,True.intro⟩⟩
def ePr (t:PTm):ET:=λσ Q=>t σ λas bs=>Q (.tuple [.list as,.list bs])
theorem MZ {t:PTm} (h:PPt X e t):jD X e (ePr t):=by
 obtain ⟨v,p,r⟩:=h
 refine ⟨_,p,λB p0 H ps σT σ Q QV o h k=>r B p0 H ps σT σ _ _ o h λas bs r p q xs ys H' s1 hr0 hp0 hq0 hpq hr1 hp1 hq1 rA rB q1=>?_⟩
 have fr:∀ {z:Addr},H z=none->z∉ps:=λhz=>jI o.live hz
 have sub:∀ z∈ps,z∈p::q::ps:=λz hz=>aK _ (aK _ hz)
 exact k _ _ H' s1 (.tuple (qP.of (mY (fr hr0) hr1)) (.cons (.list (lP.of (mY (fr hp0) hp1)) (rA.same (kQ sub))) (.cons (.list (lP.of (mY (fr hq0) hq1)) (rB.same (kQ sub))) .nil))) q1
end
end TL

namespace L2
open PySem PySem.Spec PyProof.Rows PySem.SeqAt
section
variable {X:Cx}
theorem pU (ns:List Int):∀ k:Nat,preSum (λi=>(ns[i]?).getD 0) k=(ns.take k).sum
 | 0=>rfl
 | k+1=>by
  show preSum _ k+(ns[k]?).getD 0=_
  rw [pU ns k,cS,Q2]
  cases ns[k]? with
  | none=>simp
  | some x=>simp
theorem yM:∀ ns:List Int,(∀ n∈ns,0<=n/\n<2 ^ 40)->0<=ns.sum/\ns.sum<=(ns.length:Int)*2 ^ 40
 | [],_=>by simp
 | n::ns,h=>by
  have h1:=h n (aM ..)
  have h2:=yM ns λx hx=>h x (aK _ hx)
  rw [eY,bI]
  constructor
  ·omega
  ·have:((ns.length+1:Nat):Int)*2 ^ 40=(ns.length:Int)*2 ^ 40+2 ^ 40:=by rw [iG,aCa];rfl
   omega
theorem xS (hc:X.calm=true):nF X (.builtin "sum") (λxs H Q=>∃ (p:Addr) (ns:List Int),xs=[.ref p]/\lP X.K H p (ns.map V.int)/\(∀ n∈ns,0<=n/\n<2 ^ 40)/\ns.length<=1000/\Q (.int ns.sum) H):=by
 intro pins s σ H xs us Q I r h
 obtain ⟨p,ns,rfl,hq,hsm,hlen0,q⟩:=h
 obtain ⟨u,rfl,rx⟩:=vP r
 cases rx
 obtain ⟨its,rv,pl,hz⟩:=I.list hq
 have hlen:=rv.length
 rw [aC] at hlen
 have hne:p≠s.heap.objs.size:=by
  obtain ⟨o,ho,_⟩:=pl.isList
  exact dR (bE ho)
 have hl1:=pl.isList
 have hplt:p<s.heap.objs.size:=by
  obtain ⟨o,ho,_⟩:=hl1
  exact bE ho
 have hval:∀ (i:Nat) (v:Value),its.toArray[i]?=some v->∃ t,v=.int ((ns[i]?).getD 0) t:=λi v hP=>by
  have hv:its[i]?=some v:=by simpa using hP
  have hi:i<its.length:=(aD.mp hv).1
  have hb:i<ns.length:=by omega
  obtain ⟨w',h1,h2⟩:=rv.get (i:=i) (x:=.int ns[i]) (by rw [aJ,aB hb];rfl)
  rw [hv] at h1
  cases h1
  rw [aB hb]
  exact h2
 have small:∀ k:Nat,0<=(ns.take k).sum/\(ns.take k).sum<2 ^ 63:=λk=>by
  have h1:=yM (ns.take k) λn hn=>hsm n (dS hn)
  have h2:(ns.take k).length<=1000:=by rw [bF];omega
  have h3:((ns.take k).length:Int)*2 ^ 40<=1000*2 ^ 40:=Int.mul_le_mul_of_nonneg_right (by omega) (by decide)
  omega
 refine call_sum_walk (wpAny_pyIter_list hl1 ?_)
 refine ⟨_,_,_,_,_,_,λi=>(ns[i]?).getD 0,rfl,Walks.list (A:=X.A.in1) (I.ok.hd hc) _ p hne its.toArray,⟨⟨_,bW _ rfl,rfl,rfl⟩,hl1.push _⟩,λb hb=>?_,hval,λj hj=>?_,λh' tk t' hk=>?_⟩
 ·show b<(s.heap.push _).objs.size
  rw [iU]
  have:b=s.heap.objs.size\/b=p:=by simpa using hb
  rcases this with rfl | rfl
  ·exact lX _
  ·exact oM hplt
 ·rw [bB] at hj
  have hj':j<ns.length:=by omega
  refine ⟨?_,?_⟩
  ·have:=hsm ns[j] (eF hj')
   show InLong ((ns[j]?).getD 0)
   rw [aB hj']
   show -(2 ^ 63)<=ns[j]/\ns[j]<2 ^ 63
   omega
  ·rw [pU]
   have:=small (j+1)
   show -(2 ^ 63)<=_/\_<2 ^ 63
   omega
 ·refine ⟨.int _,H,I.kept λb o e=>hk b o ?_ (aP _ e),⟨t',rfl⟩,?_⟩
  ·intro z
   have:b=s.heap.objs.size:=by simpa using z
   exact absurd (bE e) (by rw [this];exact gI _)
  ·rw [pU,dQ (by rw [bB];omega)]
   exact q
end
theorem wT (l:Addr) (items:Array Value) :
  Meets (Builtin.«enumerate.__new__» ⟨[.type "enumerate",.ref l],[]⟩) (λ_ R s=>s.heap.IsList l items /\
   R (.ok (.ret (.ref (s.heap.push { cls:=.type "list_iterator",data:=.fields #[.ref l,.int 0 0] }).objs.size)))
    { s with heap:=(s.heap.push { cls:=.type "list_iterator",data:=.fields #[.ref l,.int 0 0] }).push { cls:=.type "enumerate",data:=.fields #[.none,.bool false,.ref s.heap.objs.size,rawInt 0,.none,.none] } }) :=
 .of_wp λprog w A R s h=>by
  obtain ⟨hp,g,d,tk,os⟩:=s;obtain ⟨hl,h⟩:=h
  have hsub:=sub_enumerate
  have hL:Heap.IsList (Shared.heap ⟨hp,g,d,tk,os⟩) l items:=hl
  wp_walk
  refine wpAny_stack_any λst=>bM ?_
  split
  ·rename_i c _ _ _ _ _
   cases (c == Value.type "enumerate")
   ·wp_walk using wpAny_pyIter_list hL
    exact ⟨_,rfl,h⟩
   ·wp_walk using wpAny_pyIter_list hL
    exact ⟨_,rfl,h⟩
  ·wp_walk using wpAny_pyIter_list hL
   exact ⟨_,rfl,h⟩
section
variable {P:bY} {w:World} {A:Around} {E:Value->Shared->Prop} {s:Shared}
theorem uU {l:Addr} {items:Array Value} {Q:Value->Shared->Prop} (hl:s.heap.IsList l items)
  (h:∀ h',IsEnum h' (s.heap.objs.size+1) s.heap.objs.size 0 .none->h'.IsListIter s.heap.objs.size l 0->h'.objs.size=s.heap.objs.size+2 ->
   (∀ b o,s.heap.get? b=some o->h'.get? b=some o)->Q (.ref (s.heap.objs.size+1)) { s with heap:=h' }) :
  wpAny (model P w) A (call (.type "enumerate") [.ref l]) Q E s:=by
 refine callType_new F.called_enumerate (by decide) (F.typeCall_enumerate_1 _) (F.newCall_enumerate_1 _) (λobj=>F.args_object_init_2 obj _) F.entry_enumerate_new
  (wT l items) ⟨hl,?_⟩
 have hz:(s.heap.push { cls:=.type "list_iterator",data:=.fields #[.ref l,.int 0 0] }).objs.size=s.heap.objs.size+1:=iU ..
 show _/\_
 rw [hz]
 have he:IsEnum ((s.heap.push { cls:=.type "list_iterator",data:=.fields #[.ref l,.int 0 0] }).push
   { cls:=.type "enumerate",data:=.fields #[.none,.bool false,.ref s.heap.objs.size,rawInt 0,.none,.none] }) (s.heap.objs.size+1) s.heap.objs.size 0 .none:=by
  have:=bW (s.heap.push { cls:=.type "list_iterator",data:=.fields #[.ref l,.int 0 0] })
   (o:={ cls:=.type "enumerate",data:=.fields #[.none,.bool false,.ref s.heap.objs.size,rawInt 0,.none,.none] }) rfl
  rw [hz] at this;exact this
 exact ⟨⟨_,he,rfl⟩,h _ he ⟨_,aP _ (bW _ rfl),rfl,rfl⟩ (by rw [iU,hz]) λb o x=>aP _ (aP _ x)⟩
end
def Ite (K:aE) (a:Addr):It :=
 ⟨λi H=>∃ xs x,lP K H a xs/\xs[i]?=some x,
  λi H v H'=>∃ p x,H p=none/\v=.ref p/\H'=iM H p (.tup [.int (i:Int),x])/\∀ xs,lP K H a xs->xs[i]?=some x,
  λi H=>∃ xs,lP K H a xs/\xs.length<=i⟩
theorem HB {P:bY} {w:World} {K:aE} {elts:List Expr} {x1:Nat} {pos:Pos} {e it l:Addr} (hei:e≠it) :
  EU P w K (.Tuple elts x1 pos) (Ite K l) [e,it] e (λi h=>(∃ old,IsEnum h e it (i:Int) old)/\h.IsListIter it l i) where
 mem:=by simp
 obj:=λi h st b hb=>by
  obtain ⟨⟨old,he⟩,hit⟩:=st
  simp only [aZ,gX,or_false] at hb
  rcases hb with rfl | rfl
  ·exact ⟨_,he,λv q=>by cases q⟩
  ·obtain ⟨o,e,c,d⟩:=hit
   exact ⟨o,e,λv z=>by rw [d] at z;cases z⟩
 keep:=λi h h' st k=>by
  obtain ⟨⟨old,he⟩,hit⟩:=st
  exact ⟨⟨old,k e (by simp) _ he⟩,hit.at λo x=>k it (by simp) o x⟩
 item:=by
  intro X hP hw hK hc i pins s σ H E I hf st hg
  subst hP hw hK
  obtain ⟨⟨old,he⟩,hit⟩:=st
  obtain ⟨xs,x,hq,hx⟩:=hg
  obtain ⟨its,rv,p,hz⟩:=I.list hq
  obtain ⟨u,hu,ru⟩:=rv.get hx
  refine wpAny_pyNext_enum_item he hit p.isList (x:=u) (by simpa using hu) hei λh' a1 a2 a3 a4 a5=>⟨_,rfl,?_⟩
  refine wpAny_letOwnedTupleGo_enum (s:={ s with heap:=h',toks:=s.toks+1 }) a1 λh2 b1 sb=>?_
  have helt:e<s.heap.objs.size:=bE he
  have kk:∀ c o,c∉[e,it]->s.heap.get? c=some o->h2.get? c=some o:=λc o hc' x=>by
   simp only [aZ,gX,or_false,not_or] at hc'
   exact sb.extBut _ _ hc'.1 (a5 c o hc'.1 hc'.2 x)
  have hT:=sb.extBut _ _ (mV helt) a3
  have I1:dU X pins σ (iM H s.heap.objs.size (.tup [.int (i:Int),x])) { s with heap:=h2,toks:=s.toks+1 }:=I.turnedNew (t':=s.toks+1) hf kk (aL _) ⟨(by show 2<=bG;decide),[.int i s.toks,u],.cons ⟨_,rfl⟩ (.cons ru .nil),⟨_,hT,rfl,_,rfl,rfl⟩⟩
  refine ⟨.ref s.heap.objs.size,_,I1,rfl,⟨_,x,I.hok.fresh (aL _),rfl,rfl,λys hy=>by rw [I.list_inj hy hq];exact hx⟩,?_,λc hc'=>?_⟩
  ·exact ⟨⟨_,by rw [iG];exact b1⟩,a2.at λo x=>sb.extBut _ _ (Ne.symm hei) x⟩
  ·have hne:c≠s.heap.objs.size:=by
    simp only [aZ,gX,or_false] at hc'
    rcases hc' with rfl | rfl
    ·exact dR helt
    ·obtain ⟨o,z,_⟩:=hit;exact dR (bE z)
   rw [cT hne]
   exact (hf c hc').1
 done:=by
  intro X hP hw hK hc i pins s σ H E I hf st hg
  subst hP hw hK
  obtain ⟨⟨old,he⟩,hit⟩:=st
  obtain ⟨xs,hq,hx⟩:=hg
  obtain ⟨its,rv,p,hz⟩:=I.list hq
  have hl:=rv.length
  refine wpAny_pyNext_enum_end (I.ok.hd hc) he hit p.isList (by simp;omega) λh' eb=>⟨rfl,I.turnedL (t':=s.toks) hf λc o hc' x=>?_⟩
  simp only [aZ,gX,or_false,not_or] at hc'
  exact eb c o hc'.2 x
 self:=λA i s Q E st h=>by
  obtain ⟨⟨old,he⟩,_⟩:=st
  exact wpAny_pyIter_enum he h
theorem xE:bootBuiltins "enumerate"=some (.type "enumerate"):=by decide +kernel
def T5 (K:aE) (ta:TA):TI:=λσ H R=>ta σ H λvs H1=>∃ l xs,vs=[.ref l]/\lP K H1 l xs/\R (Ite K l) H1
section
variable {X:Cx}
theorem O9 {a:Expr} {ta:TA} {p pos tpos:Pos} {elts:List Expr} {x1:Nat} (hg:Gl X "enumerate") (hm:X.mg "enumerate"=none) (ha:PA X [a] ta) (hs:bT [a] X.env=[(false,eval a X.env)]:=by rfl) :
  PI X (.Tuple elts x1 tpos) (.Call (.Name "enumerate" p) [a] [] pos) (T5 X.K ta):=by
 intro pins s σ H R I h
 refine Call_ (wL I hg hm xE (PyProof.Rows.callWith_type1 (lB (ha pos pins s σ H _ I h) λus s1 ⟨vs,H1,I1,r1,q1⟩=>?_) (by rw [hs];rfl) (by rfl)))
 obtain ⟨l,xs,rfl,hq,q⟩:=q1
 cases r1 with
 | cons r rr =>
  cases rr
  cases r
  obtain ⟨us1,rv1,p1,hz1⟩:=I1.list hq
  refine uU p1.isList λh' he hit hsz hk=>wpAny_pyIter_enum (s:={ s1 with heap:=h' }) he ?_
  refine ⟨_,[s1.heap.objs.size+1,s1.heap.objs.size],_,_,H1,rfl,I1.kept (t':=s1.toks) hk,HB (e:=s1.heap.objs.size+1) (it:=s1.heap.objs.size) (l:=l) (Nat.succ_ne_self _),⟨⟨_,he⟩,hit⟩,λc hc=>?_,q⟩
  simp only [aZ,gX,or_false] at hc
  have le:s1.heap.objs.size<=c:=by rcases hc with rfl | rfl<;>first | exact aL _ | exact Nat.le_add_right _ _
  exact I1.fpOk le (I1.hok.fresh le)
end
end L2
namespace TL
open PySem PySem.Spec PyProof.Rows L2 PySem.SeqAt
variable {K:aE}
def XO (K:aE) (a:Addr) (ys:List Str):Prop:=∃ (o:Obj) (its:Array Value) (n:Nat),K.lookup a=some o/\o.cls=.type "tuple"/\o.dict=none/\o.data=.seq its n/\its.size<=bG/\eI (ys.map V.str) its.toList
theorem wA {H:Hp}:∀ ys:List Str,Reps K H (ys.map aR) (ys.map V.str)
 | []=>.nil
 | y::ys=>.cons (.str y) (wA ys)
def uL (as:List D):List D:=NY (dX as.length) as
theorem nZ (as:List D):(uL as).length=as.length:=by unfold uL;rw [J8];unfold dX;simp
theorem tX {as:List D} {i:Nat} {a:D} (h:as[i]?=some a):(uL as)[i]?=some (.tuple [.int (i:Int),a]):=by
 have hi:=(aD.mp h).1
 unfold uL NY dX
 rw [aJ,(nN (z:=(aX (i:Int),a))).mpr ⟨by rw [aJ,gS hi];rfl,h⟩];rfl
def WJ (t:AT):IT:=λσ Q=>t σ λds=>∃ as,ds=[.list as]/\Q (uL as)
section
variable {X:Cx} {a b c e:Expr} {es:List Expr} {ta tb te:ET} {pos:Pos}
theorem GJ {x:Str} {p:Addr} {ys:List Str} {pos:Pos} (hg:Gl X x) (hm:X.mg x=some (.ref p)) (hk:XO X.K p ys) (hd:(x == ("__debug__":Str))=false:=by decide):jD X (.Name x pos) (eC (.tuple (ys.map aR))) :=
 ⟨_,PB (v:=.ref p) hg hm rfl hd,λ_ _ H _ _ _ _ _ _ h k=>k _ _ H (L2.bH.refl H) (.tuple (.inr hk) (wA ys)) h⟩
theorem P4 {t:AT} {p p' tpos:Pos} {elts:List Expr} {x1:Nat} (ha:uV X [a] t) (pz:∀ {ta:TA},PA X [a] ta->PI X (.Tuple elts x1 tpos) (.Call (.Name "enumerate" p) [a] [] p') (T5 X.K ta)):JV X (.Tuple elts x1 tpos) (.Call (.Name "enumerate" p) [a] [] p') (WJ t):=by
 obtain ⟨va,pa,ra⟩:=ha
 refine ⟨_,pz pa,λB p0 H ps σT σ Q R o h k=>ra B p0 H ps σT σ _ _ o h λds xs H1 s1 r1 q1=>?_⟩
 obtain ⟨as,rfl,q⟩:=q1
 cases r1 with
 | cons r1 r2 =>
  cases r2
  cases r1 with
  | @list p1 us _ hq1 rs1 =>
   have n1:=rs1.length
   refine ⟨p1,us,rfl,L2.bH.seq dA hq1,k _ _ H1 s1 ⟨λi H e hl=>?_,λi H e hl=>?_,λi H ps' y H' live e hl hy=>?_⟩ q⟩
   ·rw [nZ] at hl
    exact ⟨us,L2.bH.seq e hq1,by omega⟩
   ·rw [nZ] at hl
    exact ⟨us,us[i],L2.bH.seq e hq1,aB (by omega)⟩
   ·obtain ⟨p,x,hp,rfl,rfl,h1⟩:=hy
    obtain ⟨d1,g1,t1⟩:=rs1.get' (h1 us (L2.bH.seq (e.trans dA) hq1))
    exact ⟨fL hp,.tuple [.int (i:Int),d1],tX g1,sC live hp (.cons (.int _) (.cons (t1.same e) .nil))⟩
def aDg (d:D) (Q:D->Prop):Prop:=∃ ns:List Int,d=.list (ns.map aX)/\(∀ n∈ns,0<=n/\n<2 ^ 40)/\ns.length<=1000/\Q (.int ns.sum)
theorem aA7:uN X (λxs H Q=>∃ (p:Addr) (ns:List Int),xs=[.ref p]/\lP X.K H p (ns.map V.int)/\(∀ n∈ns,0<=n/\n<2 ^ 40)/\ns.length<=1000/\Q (.int ns.sum) H) (f1 aDg):=c1 λH ps d x Q QV live r h k=>by
 obtain ⟨ns,rfl,hs,hl,h⟩:=h
 cases r with
 | list q s =>
  have e:=tJ s
  subst e
  exact ⟨_,ns,rfl,L2.bH.seq dA q,hs,hl,k _ _ H (L2.bH.refl H) (.int _) h⟩
def zY (K:aE):V->List V->Hp->VK->Prop:=λx xs H Q=>∃ (y:V) (ts:List D) (d:D) (j:Nat),xs=[y]/\iA K H (.list ts) x/\iA K H d y/\D5 ts d j/\j<1000000/\Q (.int j) H
theorem D9 (hu:X.A.units+200<cLine):JY X "list.index" (zY X.K):=by
 intro pins s σ H x xs v us Q I rx rv h
 obtain ⟨y,ts,d,j,rfl,r1,r2,⟨c1,c2,hm,⟨t,ht,he⟩,hno⟩,hj0,q⟩:=h
 obtain ⟨u,rfl,ru⟩:=rv.one
 obtain ⟨as,h1⟩:=iA.reads I (show (DK ts).hasDict=false from noDictAll c1) r1 rx
 obtain ⟨bs,h2⟩:=iA.reads I (nH c2) r2 ru
 cases h1 with
 | @list l o items n _ as' h3 h4 h5 h6 =>
  have hmap:=readsAll_map ts items.toList _ c1 h6
  have hlen:items.size=ts.length:=by rw [<- hmap,aC,eO]
  have hjl:j<ts.length:=(aD.mp ht).1
  have hj:j<items.size:=by omega
  have rd:∀ (m:Nat) (hm:m<items.size),ts[m]?=some (readOf s.heap items[m]):=λm hm=>by
   rw [<- hmap,aJ]
   simp [hm]
  obtain ⟨oc,od,odt,osl⟩:=o
  cases h4
  cases h5
  refine call_meets F.slot_list_index ⟨_,h3,rfl⟩ F.entry_list_index (F.args_list_index_2 _ _) (list_indexAt _ items _ od osl u (λy=>dZ (readOf s.heap y) d) j hj (by omega) ?_ ?_) ⟨h3,items_eqAt h6 h2 c1 c2 (by have:=hu;omega),?_⟩
  ·have:=rd j hj
   rw [ht] at this
   rw [<- Option.some.inj this];exact he
  ·intro m hm' hlt
   exact hno m _ hlt (rd m hm')
  ·exact ⟨.int j,H,I.tok _,⟨_,rfl⟩,q⟩
theorem tQ {k:Nat} (hr:gG k X.A):JY X "list.index" (zY X.K):=D9 (by have:=hr.un;omega)
def AY (te:ET) (t:AT):ET:=λσ Q=>te σ λd=>∃ ts,d=.list ts/\t σ λds=>∃ (x:D) (j:Nat),ds=[x]/\D5 ts x j/\j<1000000/\Q (.int j)
theorem tW {n:Expr} {ap:Pos} {t:AT} (hn:jD X n te) (ha:uV X (e::es) t)
  (pc:∀ {v:TE} {ta:TA},PE X n v->PA X (e::es) ta->PE X (.Call (.Attribute n "index" ap) (e::es) [] pos) (N5 X.K "list" (zY X.K) v ta)):jD X (.Call (.Attribute n "index" ap) (e::es) [] pos) (AY te t):=by
 obtain ⟨v,pe,re⟩:=hn
 obtain ⟨va,pa,ra⟩:=ha
 refine ⟨_,pc pe pa,λB p0 H ps σT σ Q QV o h k=>re B p0 H ps σT σ _ _ o h λd x H1 s1 r1 q1=>?_⟩
 obtain ⟨ts,rfl,q1⟩:=q1
 cases r1 with
 | @list p xs _ hq rs =>
  refine ⟨.inl ⟨rfl,_,L2.bH.seq dA hq⟩,ra B p0 H1 ps σT σ _ _ (o.grow s1) q1 λds ys H2 s2 r2 q2=>?_⟩
  obtain ⟨d,j,rfl,hok,hj,q⟩:=q2
  cases r2 with
  | cons r3 r4 =>
   cases r4
   exact ⟨_,ts,d,j,rfl,(iA.list hq rs).same ((cJ s2).trans dA),r3.same dA,hok,hj,k _ _ H2 (s1.trans s2) (.int _) q⟩
def aAg (ts:List D) (d:D):Prop:=eE ts=true/\d.canLay0=true/\min (eN ts) d.depth<=60
def zZ (K:aE):V->List V->Hp->VK->Prop:=λx xs H Q=>∃ (y:V) (ts:List D) (d:D),xs=[y]/\iA K H (.list ts) x/\iA K H d y/\aAg ts d/\Q (.int ((ts.countP λt=>dZ t d:Nat):Int)) H
theorem EA (hu:X.A.units+200<cLine):JY X "list.count" (zZ X.K):=by
 intro pins s σ H x xs v us Q I rx rv h
 obtain ⟨y,ts,d,rfl,r1,r2,⟨c1,c2,hm⟩,q⟩:=h
 obtain ⟨u,rfl,ru⟩:=rv.one
 obtain ⟨as,h1⟩:=iA.reads I (show (DK ts).hasDict=false from noDictAll c1) r1 rx
 obtain ⟨bs,h2⟩:=iA.reads I (nH c2) r2 ru
 cases h1 with
 | @list l o items n _ as' h3 h4 h5 h6 =>
  have hmap:=readsAll_map ts items.toList _ c1 h6
  obtain ⟨oc,od,odt,osl⟩:=o
  cases h4
  cases h5
  refine call_meets F.slot_list_count ⟨_,h3,rfl⟩ F.entry_list_count (F.args_list_count_2 _ _) (list_countAt _ items _ od osl u (λy=>dZ (readOf s.heap y) d)) ⟨h3,items_eqAt h6 h2 c1 c2 (by have:=hu;omega),?_⟩
  refine ⟨.int _,H,I.tok _,⟨_,rfl⟩,?_⟩
  have e:(items.toList.countP λy=>dZ (readOf s.heap y) d)=ts.countP λt=>dZ t d:=by
   rw [<- hmap,qI];rfl
  rw [e];exact q
theorem IA {k:Nat} (hr:gG k X.A):JY X "list.count" (zZ X.K):=EA (by have:=hr.un;omega)
def QI (te:ET) (t:AT):ET:=λσ Q=>te σ λd=>∃ ts,d=.list ts/\t σ λds=>∃ x:D,ds=[x]/\aAg ts x/\Q (.int ((ts.countP λt=>dZ t x:Nat):Int))
theorem IS {n:Expr} {ap:Pos} {t:AT} (hn:jD X n te) (ha:uV X (e::es) t)
  (pc:∀ {v:TE} {ta:TA},PE X n v->PA X (e::es) ta->PE X (.Call (.Attribute n "count" ap) (e::es) [] pos) (N5 X.K "list" (zZ X.K) v ta)):jD X (.Call (.Attribute n "count" ap) (e::es) [] pos) (QI te t):=by
 obtain ⟨v,pe,re⟩:=hn
 obtain ⟨va,pa,ra⟩:=ha
 refine ⟨_,pc pe pa,λB p0 H ps σT σ Q QV o h k=>re B p0 H ps σT σ _ _ o h λd x H1 s1 r1 q1=>?_⟩
 obtain ⟨ts,rfl,q1⟩:=q1
 cases r1 with
 | @list p xs _ hq rs =>
  refine ⟨.inl ⟨rfl,_,L2.bH.seq dA hq⟩,ra B p0 H1 ps σT σ _ _ (o.grow s1) q1 λds ys H2 s2 r2 q2=>?_⟩
  obtain ⟨d,rfl,hok,q⟩:=q2
  cases r2 with
  | cons r3 r4 =>
   cases r4
   exact ⟨_,ts,d,rfl,(iA.list hq rs).same ((cJ s2).trans dA),r3.same dA,hok,k _ _ H2 (s1.trans s2) (.int _) q⟩
def QM (te:ET):oK:=λσ Q=>te σ λd=>∃ ts,d=.list ts/\Q (!ts.isEmpty)
theorem HC (h:jD X e te) (pt:∀ {t:TE},PE X e t->PT X e (λσ H Q=>t σ H λx H'=>∃ k,XG X.K x H' k/\Q k H')):EW X e (QM te):=by
 obtain ⟨v,p,r⟩:=h
 refine ⟨_,pt p,λB p0 H ps σT σ Q QV o h k=>r B p0 H ps σT σ _ _ o h λd x H1 s1 r1 q1=>?_⟩
 obtain ⟨ts,rfl,q⟩:=q1
 cases r1 with
 | @list p xs _ hq rs =>
  have hl:=rs.length
  refine ⟨!xs.isEmpty,.inl ⟨xs,L2.bH.seq dA hq,rfl⟩,?_⟩
  have:(!xs.isEmpty)=(!ts.isEmpty):=by
   cases xs<;>cases ts<;>first | rfl | (simp at hl)
  rw [this]
  exact k _ H1 s1 q
def HN (ta tb:FT):qQ:=λDT σ=>ta σ λas=>tb σ λbs=>DT.rp as bs
theorem BU {n m:Expr} {x1} {p2:Pos} {ta tb:FT} (hn:JX X n ta) (hm:JX X m tb) (hs:bT [n,m] X.env=(false,eval n X.env)::bT [m] X.env:=by rfl) (hs2:bT [m] X.env=(false,eval m X.env)::bT [] X.env:=by rfl):xX X (.Return (some (.Tuple [n,m] x1 p2)) pos) (HN ta tb):=by
 obtain ⟨va,pa,ra⟩:=hn
 obtain ⟨vb,pb,rb⟩:=hm
 refine ⟨_,AD (LA (oT pa (oT pb wF hs2) hs)),λB p0 H ps σT σ DT DV o h f=>?_⟩
 refine ra B p0 H ps σT σ _ _ o h λas p xs H1 s1 hp hx rs q1=>?_
 have o1:Ok X.K B p0 H1 (p::ps) σT σ:=by
  have o2:=o.grow (oP s1 hp)
  have hn:without H1 p p=none:=by unfold without;rw [if_pos rfl]
  have o3:=o2.adopt (u:=.lst xs) hn
  rwa [uF hx] at o3
 refine rb B p0 H1 (p::ps) σT σ _ _ o1 q1 λbs q ys H2 s2 hq hy rs2 q2=>?_
 refine ⟨aH rfl,λr hr=>?_⟩
 have hp2:=s2 _ _ hx
 have hpq:p≠q:=λz=>by rw [z,hq] at hx;cases hx
 have nrp:p≠r:=λz=>by rw [z,hr] at hp2;cases hp2
 have nrq:q≠r:=λz=>by rw [z,hr] at hy;cases hy
 have bn:∀ {z:Addr},H z=none->B z=none:=λhz=>bH.free' o.base hz
 have live:∀ z∈p0,H z≠none:=λz hz=>o.live z (o.sub z hz)
 have m1:bH (mask H1 (p::ps)) (mask (iM H2 r (.tup [.ref p,.ref q])) (p::q::p0)):=λb u hb=>by
  unfold mask at hb |-
  by_cases hbp:b∈p::ps
  ·rw [if_pos hbp] at hb;cases hb
  ·rw [if_neg hbp] at hb
   have h2:=s2 _ _ hb
   have hbr:b≠r:=λz=>by rw [z,hr] at h2;cases h2
   have hbq:b≠q:=λz=>by rw [z,hq] at hb;cases hb
   rw [if_neg,cT hbr]
   ·exact h2
   ·intro z
    rcases aZ.mp z with z | z
    ·exact hbp (z▸aM ..)
    ·rcases aZ.mp z with z | z
     ·exact hbq z
     ·exact hbp (aK _ (o.sub b z))
 have m2:bH (mask H2 (q::p::ps)) (mask (iM H2 r (.tup [.ref p,.ref q])) (p::q::p0)):=(cJ (fL hr)).trans (kQ λz hz=>by
  rcases aZ.mp hz with rfl | hz
  ·exact aK _ (aM ..)
  ·rcases aZ.mp hz with rfl | hz
   ·exact aM ..
   ·exact aK _ (aK _ (o.sub z hz)))
 exact f.rp as bs r p q xs ys _ (o.base.trans (s1.trans (s2.trans (fL hr)))) (bH.free' (o.base.trans (s1.trans s2)) hr) (bn hp) (bH.free' (o.base.trans s1) hq) hpq eM (by rw [cT nrp];exact hp2) (by rw [cT nrq];exact hy) (rs.same m1) (rs2.same m2) q2
end
end TL
namespace TL
open PySem
theorem XA:bootBuiltins "sum"=some (.builtin "sum"):=by decide +kernel
end TL
namespace TL
open PySem PySem.Spec PyProof.Rows L2
section
variable {fr:List (Option Nat)} {ti:IT} {tt:oK} {te:ET} {σ:List Sl} {Q:D->Prop} {ts:List D}
theorem L8 (hti:qC ti σ ts) (p:D->Bool) (f:D->D) (hz:ts.length<=100000) (h2:∀ x∈ts,∃ a b,x=.tuple [a,b])
  (hp:∀ (a b:D) (q:Bool->Prop),.tuple [a,b]∈ts->q (p (.tuple [a,b]))->tt (((iC fr σ).set 0 (.val a)).set 1 (.val b)) q)
  (ht:∀ (a b:D) (q:D->Prop),.tuple [a,b]∈ts->q (f (.tuple [a,b]))->te (((iC fr σ).set 0 (.val a)).set 1 (.val b)) q) (hq:Q (.list ((ts.filter p).map f))):JR fr ti (gP 0 1) tt te σ Q:=by
 refine hti _ ⟨hz,λk σ' ds=>(∀ x y,(σ'.set 0 (.val x)).set 1 (.val y)=((iC fr σ).set 0 (.val x)).set 1 (.val y))/\ds=((ts.take k).filter p).map f,⟨λ_ _=>rfl,rfl⟩,λk x σ' ds hx h=>?_,λσ' ds h=>?_⟩
 ·obtain ⟨h1,rfl⟩:=h
  have hm:x∈ts:=bJ hx
  obtain ⟨a,b,rfl⟩:=h2 x hm
  refine ⟨a,b,rfl,?_⟩
  show tt ((σ'.set 0 (.val a)).set 1 (.val b)) _
  rw [h1 a b]
  refine hp a b _ hm ?_
  have e:ts.take (k+1)=ts.take k++[.tuple [a,b]]:=by rw [cS,hx];rfl
  cases hb:p (.tuple [a,b]) with
  | true =>
   rw [if_pos rfl]
   refine ht a b _ hm ⟨λx y=>tH _ _ _ _ _,?_⟩
   rw [e,gB,bQ]
   simp [hb]
  | false =>
   rw [if_neg (by decide)]
   refine ⟨λx y=>tH _ _ _ _ _,?_⟩
   rw [e,gB,bQ]
   simp [hb]
 ·obtain ⟨_,rfl⟩:=h
  rw [dW];exact hq
end
end TL

namespace TL
open PySem PySem.Builtin PySem.Builtin.Str PySem.StrLaws
end TL

namespace L2
open PySem PySem.Spec PyProof.Rows PySem.Builtin.Str
section
variable {X:Cx}
end
end L2
namespace TL
open PySem PySem.Spec PyProof.Rows L2
section
variable {X:Cx} {a b c e:Expr} {es:List Expr} {ta tb te:ET} {pos:Pos}
theorem YC {s:Stmt}:xX X s (λ_ _=>False):=⟨λ_ _ _=>False,λ_ _ _ _ _ _ h=>h.elim,λ_ _ _ _ _ _ _ _ _ h _=>h.elim⟩
end
end TL

namespace L2
open PySem PySem.Spec PyProof.Rows PySem.Builtin
section
variable {X:Cx} {e:Expr} {pos:Pos}
end
end L2
namespace TL
open PySem PySem.Spec PyProof.Rows L2
section
variable {X:Cx} {a b c e:Expr} {es:List Expr} {ta tb te:ET} {pos:Pos}
theorem JB:bootBuiltins "sorted"=some (.builtin "sorted"):=by decide +kernel
end
end TL

namespace L2
open PySem PySem.Spec PyProof.Rows
section
variable {X:Cx} {pins:List (Addr×Obj)} {σ:St} {H:Hp} {s:Shared} {p q:Addr}
end
end L2
namespace TL
open PySem PySem.Spec PyProof.Rows L2
section
variable {X:Cx} {a b c e:Expr} {es:List Expr} {ta tb te:ET} {pos:Pos}
end
section
variable {X:Cx} {a b c e:Expr} {es:List Expr} {ta tb te:ET} {pos:Pos}
end
end TL

namespace L2
open PySem PySem.Spec PyProof.Rows
section
variable {P:bY} {w:World} {A:Around} {E:Value->Shared->Prop} {s:Shared}
end
section
variable {X:Cx}
end
end L2
namespace TL
open PySem PySem.Spec PyProof.Rows L2
section
variable {X:Cx} {a b:Expr} {pos:Pos}
end
end TL

namespace L2
open PySem PySem.Spec PyProof.Rows

section
variable {κ:Type} [DecidableEq κ]
def uS (kvs:List (κ×V)) (k:κ):Option V:=(kvs.find? λkv=>decide (kv.1=k)).map (·.2)
def xO (kvs:List (κ×V)) (k:κ) (v:V):List (κ×V) :=
 if (kvs.any λkv=>decide (kv.1=k))=true then kvs.map (λkv=>if kv.1=k then (kv.1,v) else kv) else kvs++[(k,v)]
def UE (kvs:List (κ×V)) (k:κ):List (κ×V):=kvs.filter λkv=>decide (kv.1≠k)

theorem vQ {p:κ×V} {r:List (κ×V)} {k:κ} (e:p.1=k):uS (p::r) k=some p.2:=by simp [uS,kE,e]
theorem vR {p:κ×V} {r:List (κ×V)} {k:κ} (e:¬ p.1=k):uS (p::r) k=uS r k:=by simp [uS,kE,e]
theorem BL (k:κ):∀ kvs:List (κ×V),(kvs.any λkv=>decide (kv.1=k))=(uS kvs k).isSome
 | []=>rfl
 | p::r=>by
  rw [sU]
  by_cases e:p.1=k
  ·simp only [vQ e,decide_eq_true e,Bool.true_or,G5]
  ·rw [vR e,decide_eq_false e,Bool.false_or];exact BL k r
theorem DA.isSome_eq {o:Option V} {u:Option Value} (r:DA o u):o.isSome=u.isSome:=by
 cases o with
 | none=>cases u with
  | none=>rfl
  | some _=>exact (show False from r).elim
 | some _=>cases u with
  | none=>exact (show False from r).elim
  | some _=>rfl
theorem DA.getD {o:Option V} {u:Option Value} {d:V} {d':Value} (r:DA o u) (rd:gO d d'):gO (o.getD d) (u.getD d'):=by
 cases o with
 | none=>cases u with
  | none=>exact rd
  | some _=>exact (show False from r).elim
 | some _=>cases u with
  | none=>exact (show False from r).elim
  | some _=>exact r

theorem KV.val {kvs:List (κ×V)} {vs:List (κ×Value)} (r:KV kvs vs) (k:κ):DA (uS kvs k) (valueAt vs k):=by
 unfold KV at r
 induction r with
 | nil=>exact True.intro
 | @cons p q ps qs h t ih =>
  obtain ⟨h1,h2⟩:=h
  by_cases e:p.1=k
  ·have e':q.1=k:=h1.symm.trans e
   have b:valueAt (q::qs) k=some q.2:=by simp [valueAt,kE,e']
   rw [vQ e,b];exact h2
  ·have e':¬ q.1=k:=λz=>e (h1.trans z)
   have b:valueAt (q::qs) k=valueAt qs k:=by simp [valueAt,kE,e']
   rw [vR e,b];exact ih
theorem KV.any {kvs:List (κ×V)} {vs:List (κ×Value)} (r:KV kvs vs) (k:κ):(kvs.any λkv=>decide (kv.1=k))=vs.any λkv=>decide (kv.1=k):=by
 unfold KV at r
 induction r with
 | nil=>rfl
 | cons h t ih=>rw [sU,sU,ih,h.1]
theorem KV.repl {kvs:List (κ×V)} {vs:List (κ×Value)} (r:KV kvs vs) (k:κ) {y:V} {u:Value} (ry:gO y u) :
  KV (kvs.map λkv=>if kv.1=k then (kv.1,y) else kv) (vs.map λkv=>if kv.1=k then (kv.1,u) else kv):=by
 unfold KV at r |-
 induction r with
 | nil=>exact .nil
 | @cons p q ps qs h t ih =>
  rw [bP,bP]
  refine .cons ?_ ih
  obtain ⟨h1,h2⟩:=h
  by_cases e:p.1=k
  ·rw [if_pos e,if_pos (h1.symm.trans e)];exact ⟨h1,ry⟩
  ·rw [if_neg e,if_neg (λz=>e (h1.trans z))];exact ⟨h1,h2⟩
theorem KV.put {kvs:List (κ×V)} {vs:List (κ×Value)} (r:KV kvs vs) (k:κ) {y:V} {u:Value} (ry:gO y u):KV (xO kvs k y) (stored vs k u):=by
 unfold xO stored
 rw [r.any k]
 by_cases e:(vs.any λkv=>decide (kv.1=k))=true
 ·rw [if_pos e,if_pos e];exact r.repl k ry
 ·rw [if_neg e,if_neg e];exact Paired.snoc r ⟨rfl,ry⟩
theorem KV.drop {kvs:List (κ×V)} {vs:List (κ×Value)} (r:KV kvs vs) (k:κ):KV (UE kvs k) (without vs k):=by
 unfold KV at r |-
 unfold UE without
 induction r with
 | nil=>exact .nil
 | @cons p q ps qs h t ih =>
  obtain ⟨h1,h2⟩:=h
  rw [cM,cM]
  by_cases e:p.1=k
  ·have a:¬ decide (p.1≠k)=true:=by simp [e]
   have b:¬ decide (q.1≠k)=true:=by simp [h1.symm.trans e]
   rw [if_neg a,if_neg b];exact ih
  ·have e':¬ q.1=k:=λz=>e (h1.trans z)
   have a:decide (p.1≠k)=true:=by simp [e]
   have b:decide (q.1≠k)=true:=by simp [e']
   rw [if_pos a,if_pos b];exact .cons ⟨h1,h2⟩ ih
theorem KV.keys {kvs:List (κ×V)} {vs:List (κ×Value)} (r:KV kvs vs):kvs.map (·.1)=vs.map (·.1):=by
 unfold KV at r
 induction r with
 | nil=>rfl
 | cons h t ih=>rw [bP,bP,ih,h.1]
theorem KV.length {kvs:List (κ×V)} {vs:List (κ×Value)} (r:KV kvs vs):kvs.length=vs.length:=Paired.length r
end


theorem aAm {P:bY} {w:World} {k:lH} {u:Value} (r:gO (kV k) u):(mX P w).is k u=true:=by
 cases k with
 | inl i=>obtain ⟨t,e⟩:=(show ∃ t,u=Value.int i t from r);subst e;exact CD P w i t
 | inr x=>obtain ⟨t,e⟩:=(show ∃ t,u=Value.str x t from r);subst e;exact CC P w x t
theorem zC {P:bY} {w:World}:∀ {ks:List lH} {us:List Value},eI (ks.map kV) us->ItemsAre (mX P w) ks us
 | [],_,r=>by rw [mT] at r;cases r;exact .nil
 | k::ks,_,r=>by
  rw [bP] at r
  cases r with
  | cons h t=>exact .cons (aAm h) (zC t)

abbrev KT (H:Hp):List (List lH×V)->List (List lH×Addr×Value)->Prop:=Paired λp q=>p.1=q.1/\H q.2.1=some (.tup (p.1.map kV))/\gO p.2 q.2.2
theorem KT.val {H:Hp} {kvs:List (List lH×V)} {xs:List (List lH×Addr×Value)} (r:KT H kvs xs) (k:List lH):DA (uS kvs k) ((atKey xs k).map (·.2)):=by
 induction r with
 | nil=>exact True.intro
 | @cons p q ps qs h t ih =>
  obtain ⟨h1,_,h2⟩:=h
  by_cases e:p.1=k
  ·have e':q.1=k:=h1.symm.trans e
   have b:atKey (q::qs) k=some q.2:=by simp [atKey,kE,e']
   rw [vQ e,b];exact h2
  ·have e':¬ q.1=k:=λz=>e (h1.trans z)
   have b:atKey (q::qs) k=atKey qs k:=by simp [atKey,kE,e']
   rw [vR e,b];exact ih
theorem KT.repl {H:Hp} {kvs:List (List lH×V)} {xs:List (List lH×Addr×Value)} (r:KT H kvs xs) (k:List lH) {y:V} {u:Value} (ry:gO y u) :
  KT H (kvs.map λkv=>if kv.1=k then (kv.1,y) else kv) (xs.map (putAt k u)):=by
 induction r with
 | nil=>exact .nil
 | @cons p q ps qs h t ih =>
  rw [bP,bP]
  refine .cons ?_ ih
  obtain ⟨h1,h2,h3⟩:=h
  unfold putAt
  by_cases e:p.1=k
  ·rw [if_pos e,if_pos (h1.symm.trans e)];exact ⟨h1,h2,ry⟩
  ·rw [if_neg e,if_neg (λz=>e (h1.trans z))];exact ⟨h1,h2,h3⟩
theorem KT.put {H:Hp} {kvs:List (List lH×V)} {xs:List (List lH×Addr×Value)} (r:KT H kvs xs) (k:List lH) {b:Addr} {y:V} {u:Value} (hb:H b=some (.tup (k.map kV))) (ry:gO y u) :
  KT H (xO kvs k y) (storedH xs k b u):=by
 have e:(kvs.any λkv=>decide (kv.1=k))=(atKey xs k).isSome:=by
  rw [BL,(r.val k).isSome_eq,Option.isSome_map]
 unfold xO storedH
 rw [e]
 by_cases q:(atKey xs k).isSome=true
 ·rw [if_pos q,if_pos q];exact r.repl k ry
 ·rw [if_neg q,if_neg q];exact Paired.snoc r ⟨rfl,hb,ry⟩
theorem KT.keeps {H H':Hp} {kvs:List (List lH×V)} {xs:List (List lH×Addr×Value)} (r:KT H kvs xs) (ht:∀ b ys,H b=some (.tup ys)->H' b=some (.tup ys)):KT H' kvs xs :=
 Paired.mapP r λ_ _ z=>⟨z.1,ht _ _ z.2.1,z.2.2⟩

section
variable {P:bY} {w:World} {H:Hp} {h:Heap} {a:Addr}
theorem lT {ks:List lH} (ok:rC P w H h) (e:H a=some (.tup (ks.map kV))):(tupleKind (mX P w)).is h ks a:=by
 obtain ⟨_,its,r,o,h1,h2,n,h3,_⟩:=(show mC P w H h a (.tup (ks.map kV)) from ok a _ e)
 exact ⟨o,its.toArray,n,h1,h2,h3,by simpa using zC r⟩
end

def QX (H:Hp) (a:Addr) (y:V) (r:Option V):Prop :=
 (∃ kvs k,Rd H a (.dK kvs)/\y=kV k/\r=uS kvs k)\/∃ kvs k b,Rd H a (.dT kvs)/\y=.ref b/\H b=some (.tup (k.map kV))/\r=uS kvs k
def QW (H:Hp) (a:Addr) (y v:V) (H':Hp):Prop :=
 (∃ kvs k,H a=some (.dK kvs)/\y=kV k/\kvs.length<bG/\H'=iM H a (.dK (xO kvs k v))) \/
 ∃ kvs k b,H a=some (.dT kvs)/\y=.ref b/\H b=some (.tup (k.map kV))/\kvs.length<bG/\H'=iM H a (.dT (xO kvs k v))
theorem QX.k {H:Hp} {a:Addr} {kvs:List (lH×V)} {k:lH} (e:H a=some (.dK kvs)):QX H a (kV k) (uS kvs k):=.inl ⟨kvs,k,.inl e,rfl,rfl⟩
theorem QX.t {H:Hp} {a b:Addr} {kvs:List (List lH×V)} {k:List lH} (e:H a=some (.dT kvs)) (eb:H b=some (.tup (k.map kV))):QX H a (.ref b) (uS kvs k):=.inr ⟨kvs,k,b,.inl e,rfl,eb,rfl⟩
theorem QW.k {H:Hp} {a:Addr} {kvs:List (lH×V)} {k:lH} {v:V} (e:H a=some (.dK kvs)) (hl:kvs.length<bG):QW H a (kV k) v (iM H a (.dK (xO kvs k v))):=.inl ⟨kvs,k,e,rfl,hl,rfl⟩
theorem QW.t {H:Hp} {a b:Addr} {kvs:List (List lH×V)} {k:List lH} {v:V} (e:H a=some (.dT kvs)) (eb:H b=some (.tup (k.map kV))) (hl:kvs.length<bG) :
  QW H a (.ref b) v (iM H a (.dT (xO kvs k v))):=.inr ⟨kvs,k,b,e,rfl,eb,hl,rfl⟩


section
variable {X:Cx} {pins:List (Addr×Obj)} {σ:St} {H:Hp} {s:Shared} {a:Addr} {y v:V} {u r:Value} {o:Option V} {A:Around} {E:Value->Shared->Prop}

theorem dU.big (I:dU X pins σ H s):sysModules<s.heap.objs.size:=by
 have h:fZ<s.heap.objs.size:=(I.mod.glob.keeps I.bk).lt
 exact E3 (by decide) h

end

section
variable {X:Cx} {pins:List (Addr×Obj)} {σ:St} {H:Hp} {s:Shared} {a:Addr} {kvs:List (lH×V)} {k:lH} {u:Value} {A:Around} {E:Value->Shared->Prop}
end


section
variable {X:Cx} {o i e value:Expr} {pos pos' tpos:Pos} {td ty tv:TE}
end


section
variable {X:Cx} {pos:Pos}
end

def V6 (kvs more:List (lH×V)):List (lH×V):=more.foldl (λacc kv=>xO acc kv.1 kv.2) kvs
theorem KV.merge:∀ {more:List (lH×V)} {rs:List (lH×Value)} {kvs:List (lH×V)} {vs:List (lH×Value)},KV more rs->KV kvs vs->KV (V6 kvs more) (merged vs rs):=by
 intro more rs kvs vs r
 unfold KV at r
 induction r generalizing kvs vs with
 | nil=>intro q;exact q
 | @cons p q ps qs h t ih =>
  intro r0
  have e:KV (xO kvs p.1 p.2) (stored vs q.1 q.2):=by
   have:=r0.put p.1 h.2
   rw [<- h.1];exact this
  exact ih e
end L2

namespace TL
open PySem PySem.Spec PyProof.Rows L2
structure sP where
 p:Addr
 q:Addr
 ns:List Int
 b:Bool
def U0 (T:sP) (n:Nat) (l:Int):HO:=.dK [(.inr "script",.ref T.q),(.inr "at",.int n),(.inr "left",.int l),(.inr "digits",.bl T.b)]
def tpD (T:sP):D:=.dict [(.str "@",.list [.int (T.p:Nat),.int (T.q:Nat),.bool T.b,.list (T.ns.map aX)])]
section
variable {K:aE} {H H' H1 H2 B:Hp} {p0 ps:List Addr} {σT:List Sl} {σ:L2.St} {T:sP} {n n':Nat} {p:Addr}
def lQ (p:Addr) (H H':Hp):Prop:=∀ a o,a≠p->H a=some o->H' a=some o
theorem lQ.of (s:bH H H'):lQ p H H':=λa o _ e=>s a o e
theorem lQ.refl:lQ p H H:=λ_ _ _ e=>e
theorem lQ.trans (s:lQ p H H1) (t:lQ p H1 H2):lQ p H H2:=λa o n e=>t a o n (s a o n e)
theorem lQ.mask (hp:p∈ps) (s:lQ p H H'):bH (mask H ps) (mask H' ps):=λa o e=>by
 unfold TL.mask at e |-
 by_cases ha:a∈ps
 ·rw [if_pos ha] at e;cases e
 ·rw [if_neg ha] at e |-
  exact s a o (λz=>ha (z▸hp)) e
structure xV (K:aE) (H:Hp) (ps:List Addr) (T:sP) (n:Nat):Prop where
 obj:∃ l,H T.p=some (U0 T n l)
 scr:lP K (mask H ps) T.q (T.ns.map V.int)
 dig:T.b=true->0<T.ns.length
theorem xV.grow (t:xV K H ps T n) (s:bH H H'):xV K H' ps T n:=⟨let ⟨l,e⟩:=t.obj;⟨l,s _ _ e⟩,L2.bH.seq (cJ s) t.scr,t.dig⟩
structure pI (K:aE) (B:Hp) (p0:List Addr) (H:Hp) (ps:List Addr) (σT:List Sl) (σ:L2.St) (T:sP) (n:Nat):Prop where
 ok:Ok K B p0 H ps σT σ
 mem:T.p∈p0
 nb:B T.p=none
 tp:xV K H ps T n
 bq:lP K (mask B p0) T.q (T.ns.map V.int)
theorem pI.mem' (o:pI K B p0 H ps σT σ T n):T.p∈ps:=o.ok.sub _ o.mem
theorem pI.grow (o:pI K B p0 H ps σT σ T n) (s:bH H H'):pI K B p0 H' ps σT σ T n:=⟨o.ok.grow s,o.mem,o.nb,o.tp.grow s,o.bq⟩
theorem Ok.growX (o:Ok K B p0 H ps σT σ) (hp:p∈p0) (hB:B p=none) (s:lQ p H H') (hl:H' p≠none):Ok K B p0 H' ps σT σ where
 base:=λa u e=>s a u (λz=>by rw [z,hB] at e;cases e) (o.base a u e)
 sub:=o.sub
 live:=λq hq z=>by
  by_cases e:q=p
  ·subst e;exact hl z
  ·cases h:H q with
   | none=>exact o.live q hq h
   | some u=>rw [s q u e h] at z;cases z
 len:=o.len
 val:=λi d h=>let ⟨v,h1,h2⟩:=o.val i d h;⟨v,h1,h2.same (s.mask (o.sub p hp))⟩
 own:=λi ts h=>let ⟨q,xs,h1,h2,h3,h4,h5,h6⟩:=o.own i ts h;⟨q,xs,h1,h2,h3,h4,s q _ (λz=>h4 (z▸hp)) h5,h6.same (s.mask (o.sub p hp))⟩
 dis:=o.dis
 dc:=o.dc.to (λj hs kvs h=>⟨h,rfl⟩) (λq φ a b c=>⟨a,(s q _ (λz=>c (z▸hp)) b).trans b.symm⟩) (λq φ _ _ a b=>⟨a,b⟩) (s.mask (o.sub p hp))
theorem pI.growX (o:pI K B p0 H ps σT σ T n) (s:lQ T.p H H') (t:xV K H' ps T n'):pI K B p0 H' ps σT σ T n' :=
 ⟨o.ok.growX o.mem o.nb s (by obtain ⟨l,e⟩:=t.obj;rw [e];exact λz=>nomatch z),o.mem,o.nb,t,o.bq⟩
theorem pI.set (o:pI K B p0 H ps σT σ T n) {i:Nat} {d:D} {v:V} (r:iA K (mask H ps) d v):pI K B p0 H ps (σT.set i (.val d)) (σ.set i (some v)) T n:=⟨o.ok.set r,o.mem,o.nb,o.tp,o.bq⟩
end
abbrev EC:=D->Nat->List Sl->(Nat->D->Prop)->Prop
abbrev AC:=D->Nat->List Sl->(Nat->List D->Prop)->Prop
abbrev TC:=D->Nat->List Sl->(Nat->Bool->Prop)->Prop
def PEc (X:Cx) (e:Expr) (t:EC):Prop:=∃ te:TE,PE X e te/\∀ (B:Hp) (p0:List Addr) (H:Hp) (ps:List Addr) (σT:List Sl) (σ:L2.St) (T:sP) (n:Nat) (Q:Nat->D->Prop) (QV:VK),pI X.K B p0 H ps σT σ T n->t (tpD T) n σT Q ->
 (∀ n' d v H',lQ T.p H H'->xV X.K H' ps T n'->iA X.K (mask H' ps) d v->Q n' d->QV v H')->te σ H QV
def PAc (X:Cx) (es:List Expr) (t:AC):Prop:=∃ ta:TA,PA X es ta/\∀ (B:Hp) (p0:List Addr) (H:Hp) (ps:List Addr) (σT:List Sl) (σ:L2.St) (T:sP) (n:Nat) (Q:Nat->List D->Prop) (QV:List V->Hp->Prop),pI X.K B p0 H ps σT σ T n->t (tpD T) n σT Q ->
 (∀ n' ds vs H',lQ T.p H H'->xV X.K H' ps T n'->Reps X.K (mask H' ps) ds vs->Q n' ds->QV vs H')->ta σ H QV
section
variable {X:Cx} {a b e:Expr} {es:List Expr} {ta tb te:EC} {pos:Pos}
def UH (f:List D->(D->Prop)->Prop) (t:AC):EC:=λτ n σ Q=>t τ n σ λn1 ds=>f ds (Q n1)
theorem M0 {k:Nat} {f:Addr} {fd:dF} {pn:List Str} {sp:kW} {x:Str} {p:Pos} {t:AC} (F:bN X.prog X.w X.K X.mg X.base dP k f fd pn (aS X.K sp)) (hm:X.mg x=some (.ref f)) (hk:eX X.K (.ref f)=true) (hb:pJ X.K fd pn [])
  (hr:gG k X.A) (ha:PAc X (e::es) t) (pc:∀ {ta:TA},PA X (e::es) ta->PE X (.Call (.Name x p) (e::es) [] pos) (yL (aS X.K sp) [] E0 ta)):PEc X (.Call (.Name x p) (e::es) [] pos) (UH sp t):=by
 obtain ⟨v,pa,ra⟩:=ha
 refine ⟨_,pc pa,λB p0 H ps σT σ T n Q QV o h k=>ra B p0 H ps σT σ T n _ _ o h λn1 ds xs H1 s1 t1 r1 q1=>?_⟩
 show aS X.K sp (xs++[]) H1 QV E0
 rw [dY]
 exact ⟨ps,ds,Q n1,(o.growX s1 t1).ok.live,r1,q1,λd v H' s' r' q'=>k n1 d v H' (s1.trans (.of s')) (t1.grow s') r' q'⟩
abbrev SpC:=D->Nat->List D->(Nat->D->Prop)->Prop
def vH (K:aE) (sp:SpC):Sp:=λvs H Q _=>∃ (ps:List Addr) (T:sP) (n:Nat) (ds:List D) (QD:Nat->D->Prop),(∀ p∈ps,H p≠none)/\T.p∈ps/\xV K H ps T n/\Reps K (mask H ps) (tpD T::ds) vs/\sp (tpD T) n ds QD /\
 ∀ n' d v H',lQ T.p H H'->xV K H' ps T n'->iA K (mask H' ps) d v->QD n' d->Q v H'
def UG (sp:SpC) (t:AC):EC:=λτ n σ Q=>t τ n σ λn1 ds=>∃ es,ds=τ::es/\sp τ n1 es Q
theorem QG {k:Nat} {f:Addr} {fd:dF} {pn:List Str} {sp:SpC} {x:Str} {p:Pos} {t:AC} (F:bN X.prog X.w X.K X.mg X.base dP k f fd pn (vH X.K sp)) (hm:X.mg x=some (.ref f)) (hk:eX X.K (.ref f)=true) (hb:pJ X.K fd pn [])
  (hr:gG k X.A) (ha:PAc X (e::es) t) (pc:∀ {ta:TA},PA X (e::es) ta->PE X (.Call (.Name x p) (e::es) [] pos) (yL (vH X.K sp) [] E0 ta)):PEc X (.Call (.Name x p) (e::es) [] pos) (UG sp t):=by
 obtain ⟨v,pa,ra⟩:=ha
 refine ⟨_,pc pa,λB p0 H ps σT σ T n Q QV o h k=>ra B p0 H ps σT σ T n _ _ o h λn1 ds xs H1 s1 t1 r1 q1=>?_⟩
 obtain ⟨es',rfl,q1⟩:=q1
 show vH X.K sp (xs++[]) H1 QV E0
 rw [dY]
 exact ⟨ps,T,n1,es',Q,(o.growX s1 t1).ok.live,o.mem',t1,r1,q1,λn' d v H' s' t' r' q'=>k n' d v H' (s1.trans s') t' r' q'⟩
variable {tA tB':TC} {lS:List Expr}
end
section
variable {K:aE} {H H' H1 H2 B:Hp} {p0 ps:List Addr} {σT:List Sl} {σ:L2.St} {T:sP} {n n':Nat} {p:Addr}
theorem pI.ne (o:pI K B p0 H ps σT σ T n) (hp:H p=none):T.p≠p:=λz=>by
 obtain ⟨l,e⟩:=o.tp.obj
 rw [z,hp] at e;cases e
theorem pI.adopt (o:pI K B p0 H ps σT σ T n) {u:HO} (hp:H p=none):pI K B p0 (iM H p u) (p::ps) σT σ T n :=
 ⟨o.ok.adopt hp,o.mem,o.nb,⟨let ⟨l,e⟩:=o.tp.obj;⟨l,by rw [cT (o.ne hp)];exact e⟩,by rw [kR hp];exact o.tp.scr,o.tp.dig⟩,o.bq⟩
theorem pI.aside (o:pI K B p0 H ps σT σ T n) {q:Addr} {u:HO} (hq:q∈ps) (hB:B q=none) (hn:lM σT) (ne:T.p≠q):pI K B p0 (iM H q u) ps σT σ T n :=
 ⟨o.ok.aside hq hB hn,o.mem,o.nb,⟨let ⟨l,e⟩:=o.tp.obj;⟨l,by rw [cT ne];exact e⟩,by rw [kP hq];exact o.tp.scr,o.tp.dig⟩,o.bq⟩
theorem pI.blk (o:pI K B p0 H ps σT σ T n) (fr:List (Option Nat)):pI K B p0 H ps (iC fr σT) (qZ fr σ) T n:=⟨o.ok.blk fr,o.mem,o.nb,o.tp,o.bq⟩
theorem pI.with (o:pI K B p0 H ps σT σ T n) {σT':List Sl} {σ':L2.St} (o':Ok K B p0 H ps σT' σ'):pI K B p0 H ps σT' σ' T n:=⟨o',o.mem,o.nb,o.tp,o.bq⟩
end
section
variable {X:Cx} {a b e:Expr} {es:List Expr} {ta tb te:EC} {pos:Pos}
end
structure G2 where
 nx:Nat->List Sl->Prop
 rt:Nat->D->Prop
 bk:Nat->List Sl->Prop:=λ_ _=>False
 ct:Nat->List Sl->Prop:=λ_ _=>False
abbrev STC:=D->G2->Nat->List Sl->Prop
structure NE (K:aE) (B:Hp) (p0:List Addr) (H:Hp) (ps:List Addr) (T:sP) (DC:G2) (DV:uX):Prop where
 nx:∀ H' ps' σT' σ' n',pI K B p0 H' ps' σT' σ' T n'->bH (mask H ps) (mask H' ps')->DC.nx n' σT'->DV.nx σ' H'
 bk:∀ H' ps' σT' σ' n',pI K B p0 H' ps' σT' σ' T n'->bH (mask H ps) (mask H' ps')->DC.bk n' σT'->DV.bk σ' H'
 ct:∀ H' ps' σT' σ' n',pI K B p0 H' ps' σT' σ' T n'->bH (mask H ps) (mask H' ps')->DC.ct n' σT'->DV.ct σ' H'
 rt:∀ n' d v H',bH B H'->xV K H' p0 T n'->iA K (mask H' p0) d v->DC.rt n' d->DV.rt v H'
section
variable {K:aE} {H H' H1 H2 B:Hp} {p0 ps:List Addr} {σT:List Sl} {σ:L2.St} {T:sP} {n n':Nat}
theorem NE.later {DC:G2} {DV:uX} {ps':List Addr} (f:NE K B p0 H ps T DC DV) (e:bH (mask H ps) (mask H' ps')):NE K B p0 H' ps' T DC DV :=
 ⟨λ_ _ _ _ _ o s q=>f.nx _ _ _ _ _ o (e.trans s) q,λ_ _ _ _ _ o s q=>f.bk _ _ _ _ _ o (e.trans s) q,λ_ _ _ _ _ o s q=>f.ct _ _ _ _ _ o (e.trans s) q,f.rt⟩
theorem pI.up (o:pI K B p0 H ps σT σ T n) {l:Int} (hl:H T.p=some (U0 T n l)):Ok K (iM B T.p (U0 T n l)) p0 H ps σT σ where
 base:=λa u e=>by
  by_cases z:a=T.p
  ·subst z
   rw [eM] at e
   cases e
   exact hl
  ·rw [cT z] at e
   exact o.ok.base a u e
 sub:=o.ok.sub
 live:=o.ok.live
 len:=o.ok.len
 val:=o.ok.val
 own:=λi ts h=>let ⟨q,xs,h1,h2,h3,h4,h5,h6⟩:=o.ok.own i ts h;⟨q,xs,h1,h2,by rw [cT (λz:q=T.p=>h4 (z▸o.mem))];exact h3,h4,h5,h6⟩
 dis:=o.ok.dis
 dc:=o.ok.dc.to (λj hs kvs h=>⟨h,rfl⟩) (λq φ a b _=>⟨a,rfl⟩) (λq φ _ _ a b=>⟨by rw [cT (λz:q=T.p=>b (z▸o.mem))];exact a,b⟩) (L2.bH.refl _)
end
section
variable {X:Cx} {a b c e:Expr} {es:List Expr} {te:EC} {pos:Pos} {st:Stmt} {lS:List Stmt} {t u:STC}
theorem pI.write {K:aE} {B:Hp} {p0:List Addr} {H:Hp} {ps:List Addr} {σT:List Sl} {σ:L2.St} {T:sP} {n:Nat} (o:pI K B p0 H ps σT σ T n) {i:Nat} {ts us:List D} {ys:List V} {p:Addr} (hi:σT[i]?=some (.own ts)) (hσ:σ[i]?=some (some (.ref p))) (r:Reps K (mask H ps) us ys) :
  pI K B p0 (iM H p (.lst ys)) ps (σT.set i (.own us)) σ T n:=by
 obtain ⟨q,xs,h1,h2,h3,h4,h5,h6⟩:=o.ok.own i ts hi
 rw [hσ] at h1
 cases h1
 have ne:T.p≠p:=λz=>h4 (z▸o.mem)
 exact ⟨o.ok.write hi hσ r,o.mem,o.nb,⟨let ⟨l,e⟩:=o.tp.obj;⟨l,by rw [cT ne];exact e⟩,by rw [kP h2];exact o.tp.scr,o.tp.dig⟩,o.bq⟩
end
end TL

namespace TL
open PySem PySem.Spec PyProof.Rows L2
def kS:lH:=.inr "script"
def kA:lH:=.inr "at"
section
variable {T:sP} {n:Nat} {l:Int}
end
section
variable {X:Cx} {pos:Pos} {m:Expr} {i:Nat} {kj:Nat}
theorem lQ.put {H:Hp} {p:Addr} {u:HO}:lQ p H (iM H p u):=λa o ne e=>by rw [cT ne];exact e
end
section
variable {t:qQ} {u:STC} {τ:D} {DC:G2} {n:Nat} {σ:List Sl} {i:Nat} {te:EC}
end
end TL

namespace TL
open PySem PySem.Spec PyProof.Rows L2
section
variable {X:Cx} {pos:Pos}
end
section
variable {X:Cx} {es:List Expr} {pos:Pos}
theorem pI.setOwn {K:aE} {B:Hp} {p0:List Addr} {H:Hp} {ps:List Addr} {σT:List Sl} {σ:L2.St} {T:sP} {n:Nat} (o:pI K B p0 H ps σT σ T n) {i:Nat} {ts:List D} {xs:List V} {p:Addr} (hp:H p=none) (r:Reps K (mask H ps) ts xs) :
  pI K B p0 (iM H p (.lst xs)) (p::ps) (σT.set i (.own ts)) (σ.set i (some (.ref p))) T n :=
 ⟨o.ok.setOwn hp r,o.mem,o.nb,⟨let ⟨l,e⟩:=o.tp.obj;⟨l,by rw [cT (o.ne hp)];exact e⟩,by rw [kR hp];exact o.tp.scr,o.tp.dig⟩,o.bq⟩
end
end TL

namespace HT
open PySem PySem.Spec PyProof.Rows
section
open PySem.SeqAt
open PySem.AutoSeq1 (wpAny_loadPart')
open PySem.MeetsSeq PySem.MeetsSeq2 PySem.MeetsSeq3
end
section
variable {prog:bY} {w:World} {A:Around} {E:Value->Shared->Prop} {s:Shared}
end
end HT

namespace L2
open PySem PySem.Spec PyProof.Rows
section
variable {X:Cx}
end
end L2
namespace PySem
section
variable {prog:bY} {w:World} {A:Around} {R:Result->Shared->Prop} {I:Addr} {fp wr:List Addr} {n:Nat} {P:Nat->Value->Prop} {St:Nat->Heap->Prop}
end
section
variable {prog:bY} {w:World} {A:Around} {E:Value->Shared->Prop} {s:Shared}
end
end PySem

namespace L2
open PySem PySem.Spec PyProof.Rows
section
variable {X:Cx}
end
end L2
namespace TL
open PySem PySem.Spec PyProof.Rows L2
section
variable {X:Cx} {e:Expr} {es:List Expr} {te:ET} {pos:Pos} {K:aE} {H:Hp}
end
section
variable {X:Cx} {e g:Expr} {pos:Pos}
end
end TL

namespace SS
open PySem PyProof.Rows
structure GS (a0:Array Keyed) (g:Nat->Nat) (pd:Array (Nat×Nat×Nat)) (st:SortSt):Prop where
 size:(arrOf st).size=a0.size
 get:∀ p,p<a0.size->(arrOf st)[p]?=a0[g p]?
 rng:∀ p,p<a0.size->g p<a0.size
 kind:kindOf st=oneType'
 fail:failedOf st=none
 pend:pendingOf st=pd
def Lx (a0:Array Keyed) (i j:Nat):Prop:=K a0 i<K a0 j\/(K a0 i=K a0 j/\i<j)
def Sd (a0:Array Keyed) (g:Nat->Nat) (lo hi:Nat):Prop:=∀ p q,lo<=p->p<q->q<hi->Lx a0 (g p) (g q)
def In (g:Nat->Nat) (lo hi:Nat):Prop:=∀ p,lo<=p->p<hi->lo<=g p/\g p<hi
def uG (g:Nat->Nat) (i j:Nat):Nat->Nat:=λk=>if i<=k/\k<j then g (i+j-1-k) else g k
def QN (g:Nat->Nat) (src dst:Nat):Nat->Nat:=λk=>if k=dst then g src else if dst<k/\k<=src then g (k-1) else g k
section
variable {prog:bY} {w:World} {A:Around} {E:Value->Shared->Prop} {s:Shared} {a0:Array Keyed} {g:Nat->Nat} {pd:Array (Nat×Nat×Nat)} {st:SortSt}
theorem EQ (h0:IntKeys a0) {i:Nat} (hi:i<a0.size):∃ t q,a0[i]?=some (.int (K a0 i) t,q):=by
 obtain ⟨n,t,hn⟩:=h0 a0[i] (by simp)
 have e:a0[i]?=some a0[i]:=getElem?_pos _ i hi
 refine ⟨t,a0[i].2,?_⟩
 have e2:a0[i]=(.int n t,a0[i].2):=Prod.ext hn rfl
 unfold K
 rw [e,e2]
 rfl
theorem GS.mirr (h:GS a0 g pd st) {i j:Nat} (hj:j<=a0.size):GS a0 (uG g i j) pd (setArr st (mirror (arrOf st) i j ((j-i) / 2))) where
 size:=(mirror_size _ _ _ _).trans h.size
 get:=λp hp=>by
  refine (getElem?_mirror_all (by rw [h.size];exact hj) p).trans ?_
  unfold uG
  split
  ·exact h.get _ (by omega)
  ·exact h.get _ hp
 rng:=λp hp=>by
  unfold uG
  split
  ·exact h.rng _ (by omega)
  ·exact h.rng _ hp
 kind:=h.kind
 fail:=h.fail
 pend:=h.pend
theorem GS.bubb (h:GS a0 g pd st) {src dst:Nat} (hs:src<a0.size) (hd:dst<=src):GS a0 (QN g src dst) pd (setArr st (bubble (arrOf st) src (src-dst))) where
 size:=(bubble_size _ _ _).trans h.size
 get:=λp hp=>by
  refine (getElem?_bubble (by rw [h.size];exact hs) _ (by omega) p).trans ?_
  rw [show src-(src-dst)=dst by omega]
  unfold QN
  split
  ·exact h.get _ hs
  ·split
   ·exact h.get _ (by omega)
   ·exact h.get _ hp
 rng:=λp hp=>by
  unfold QN
  split
  ·exact h.rng _ hs
  ·split
   ·exact h.rng _ (by omega)
   ·exact h.rng _ hp
 kind:=h.kind
 fail:=h.fail
 pend:=h.pend
theorem rW {p q:Nat} {Q:Option Bool->SortSt->Prop} (h:GS a0 g pd st) (h0:IntKeys a0) (hp:p<a0.size) (hq:q<a0.size)
  (k:Q (some (decide (K a0 (g p)<K a0 (g q)))) st):wpS (model prog w) A E s (ltAt' p q) Q st:=by
 obtain ⟨t,x,e1⟩:=EQ h0 (h.rng p hp)
 obtain ⟨u,y,e2⟩:=EQ h0 (h.rng q hq)
 exact wpS_ltAt h.kind ((h.get p hp).trans e1) ((h.get q hq).trans e2) k

def JD (lo a nr:Nat):StateT SortSt Sem AscSt :=
 forIn [a:nr] ((none,a):AscSt) λ_ z=>do
  let x <- ltAt' (lo+z.snd) (lo+z.snd-1)
  match x with
  | some b=>if b=true then pure (ForInStep.done (none,z.snd)) else pure (ForInStep.yield (none,z.snd+1))
  | _=>pure (ForInStep.done (some none,z.snd))
def yK (lo n nr:Nat):StateT SortSt Sem (Option Nat):=do
 reverseSlice' lo (lo+n)
 let z <- JD lo n nr
 match z.fst with
 | some r=>pure r
 | none=>pure (some z.snd)
def GO (lo n nr:Nat):StateT SortSt Sem DescSt :=
 forIn [n:nr] ((none,n,0):DescSt) λ_ z=>do
  let x <- ltAt' (lo+z.snd.fst) (lo+z.snd.fst-1)
  match x with
  | some b =>
   if b=true then
    if z.snd.snd > 0 then do
     reverseSlice' (lo+z.snd.fst-(z.snd.snd+1)) (lo+z.snd.fst)
     pure (ForInStep.yield (none,z.snd.fst+1,0))
    else pure (ForInStep.yield (none,z.snd.fst+1,0))
   else do
    let x <- ltAt' (lo+z.snd.fst-1) (lo+z.snd.fst)
    match x with
    | some c =>
     if c=true then pure (ForInStep.done (none,z.snd.fst,z.snd.snd))
     else pure (ForInStep.yield (none,z.snd.fst+1,z.snd.snd+1))
    | _=>pure (ForInStep.done (some none,z.snd.fst,z.snd.snd))
  | _=>pure (ForInStep.done (some none,z.snd.fst,z.snd.snd))
def B5 (lo n nr:Nat):StateT SortSt Sem (Option Nat):=do
 liftM (rule "list.sort.descending-run")
 let z <- GO lo (n+1) nr
 match z.fst with
 | some r=>pure r
 | none =>
  if z.snd.snd > 0 then do
   reverseSlice' (lo+z.snd.fst-(z.snd.snd+1)) (lo+z.snd.fst)
   yK lo z.snd.fst nr
  else yK lo z.snd.fst nr
theorem IV (lo nr:Nat):countRun' lo nr=(do
  let z <- JD lo 1 nr
  match z.fst with
  | some r=>pure r
  | none =>
   if (z.snd == nr)=true then pure (some z.snd)
   else if z.snd > 1 then do
    let x <- ltAt' lo (lo+z.snd-1)
    match x with
    | some b=>if b=true then pure (some z.snd) else do
      reverseSlice' lo (lo+z.snd)
      B5 lo z.snd nr
    | _=>pure none
   else B5 lo z.snd nr):=by
 have t3:∀ (n:Nat),yK lo n nr=(do
   reverseSlice' lo (lo+n)
   let z <- JD lo n nr
   match z with
   | (some r,_)=>pure r
   | (none,m)=>pure (some m)):=λn=>by
  unfold yK
  congr 1;funext _;congr 1;funext z
  obtain ⟨r,m⟩:=z
  cases r<;>rfl
 rw [countRun'_eq]
 unfold B5
 simp only [t3]
 unfold JD GO
 congr 1
 funext z
 obtain ⟨r,n⟩:=z
 cases r with
 | some r=>rfl
 | none =>
  dsimp only
  split
  ·rfl
  ·split
   ·congr 1
    funext x
    cases x with
    | none=>rfl
    | some b =>
     dsimp only
     split
     ·rfl
     ·congr 1
      funext _
      congr 1;funext _;congr 1;congr 1;funext y
      obtain ⟨r2,n2,q2⟩:=y
      cases r2 with
      | some r2=>rfl
      | none =>
       dsimp only
       split
       ·congr 1;funext _;congr 1;funext _;congr 1;funext u
        obtain ⟨r3,n3⟩:=u
        cases r3<;>rfl
       ·congr 1;funext _;congr 1;funext u
        obtain ⟨r3,n3⟩:=u
        cases r3<;>rfl
   ·congr 1;funext _;congr 1;congr 1;funext y
    obtain ⟨r2,n2,q2⟩:=y
    cases r2 with
    | some r2=>rfl
    | none =>
     dsimp only
     split
     ·congr 1;funext _;congr 1;funext _;congr 1;funext u
      obtain ⟨r3,n3⟩:=u
      cases r3<;>rfl
     ·congr 1;funext _;congr 1;funext u
      obtain ⟨r3,n3⟩:=u
      cases r3<;>rfl
end
section
variable {prog:bY} {w:World} {A:Around} {E:Value->Shared->Prop} {s:Shared} {a0:Array Keyed} {g g0:Nat->Nat} {pd:Array (Nat×Nat×Nat)} {st:SortSt} {lo n nr:Nat}
structure Rn (a0:Array Keyed) (g0 g:Nat->Nat) (lo m:Nat):Prop where
 sd:Sd a0 g lo (lo+m)
 inn:In g lo (lo+m)
 bef:∀ p,p<lo->g p=g0 p
 aft:∀ p,lo+m<=p->g p=p
theorem Rn.snoc {m:Nat} (r:Rn a0 g0 g lo m) (h1:1<=m) (h:¬ K a0 (g (lo+m))<K a0 (g (lo+m-1))):Rn a0 g0 g lo (m+1) where
 sd:=λp q h2 h3 h4=>by
  by_cases hq:q<lo+m
  ·exact r.sd p q h2 h3 hq
  ·have e:q=lo+m:=by omega
   have e2:=r.aft q (by omega)
   have i1:=(r.inn p h2 (by omega)).2
   rw [<- e,e2] at h
   unfold Lx
   rw [e2]
   have:K a0 (g p)<=K a0 (g (q-1)):=by
    by_cases hp:p=q-1
    ·rw [hp];exact jU _
    ·rcases r.sd p (q-1) h2 (by omega) (by omega) with z | z
     ·omega
     ·omega
   omega
 inn:=λp h2 h3=>by
  by_cases hp:p<lo+m
  ·have:=r.inn p h2 hp;omega
  ·have:=r.aft p (by omega);omega
 bef:=r.bef
 aft:=λp h2=>r.aft p (by omega)
theorem BK {a:Nat} {Q:AscSt->SortSt->Prop} (h0:IntKeys a0) (hn:lo+nr<=a0.size) (ha:1<=a) (han:a<=nr) (hB:GS a0 g pd st) (hs:Rn a0 g0 g lo a)
  (h:∀ m,a<=m->m<=nr->Rn a0 g0 g lo m->(m=nr\/K a0 (g (lo+m))<K a0 (g (lo+m-1)))->Q (none,m) st):wpS (model prog w) A E s (JD lo a nr) Q st:=by
 unfold JD
 refine wpS_forRange (I:=λx c z=>z=st/\c=(none,x)/\Rn a0 g0 g lo x) ?step ?fin ⟨rfl,rfl,hs⟩
 case fin =>
  rintro c z ⟨rfl,rfl,hr⟩
  rw [show max a nr=nr by omega] at hr |-
  exact h nr han (aL _) hr (.inl rfl)
 case step =>
  rintro x c z hax hxn ⟨rfl,rfl,hr⟩
  dsimp only
  refine wpS_bind (rW hB h0 (by omega) (by omega) ?_)
  by_cases hl:K a0 (g (lo+x))<K a0 (g (lo+x-1))
  ·simp only [hl,decide_true,if_true]
   exact wpS_pure (h x hax (by omega) hr (.inr hl))
  ·simp only [hl,decide_false,cL,if_false]
   exact wpS_pure ⟨rfl,rfl,hr.snoc (by omega) hl⟩
structure Dn (a0:Array Keyed) (g0 g:Nat->Nat) (lo x ne:Nat):Prop where
 le:ne+1<=x
 fall:∀ p q,lo<=p->p<q->q<lo+(x-(ne+1))->Lx a0 (g q) (g p)
 inn:In g lo (lo+(x-(ne+1)))
 low:∀ p,lo<=p->p<lo+(x-(ne+1))->K a0 (lo+x-1)<K a0 (g p)
 alike:∀ p,lo+(x-(ne+1))<=p->p<lo+x->K a0 p=K a0 (lo+x-1)
 bef:∀ p,p<lo->g p=g0 p
 aft:∀ p,lo+(x-(ne+1))<=p->g p=p
theorem Dn.turn {x ne:Nat} (d:Dn a0 g0 g lo x ne) :
  (∀ p q,lo<=p->p<q->q<lo+x->Lx a0 (uG g (lo+x-(ne+1)) (lo+x) q) (uG g (lo+x-(ne+1)) (lo+x) p))/\In (uG g (lo+x-(ne+1)) (lo+x)) lo (lo+x) /\
  (∀ p,lo<=p->p<lo+x->K a0 (lo+x-1)<=K a0 (uG g (lo+x-(ne+1)) (lo+x) p))/\(∀ p,p<lo->uG g (lo+x-(ne+1)) (lo+x) p=g0 p)/\∀ p,lo+x<=p->uG g (lo+x-(ne+1)) (lo+x) p=p:=by
 have hl:=d.le
 have eb:lo+x-(ne+1)=lo+(x-(ne+1)):=by omega
 have up:∀ p,lo+(x-(ne+1))<=p->p<lo+x->uG g (lo+x-(ne+1)) (lo+x) p=lo+(x-(ne+1))+(lo+x)-1-p:=λp h1 h2=>by
  unfold uG
  rw [if_pos (by omega),d.aft _ (by omega)]
  omega
 have dn:∀ p,p<lo+(x-(ne+1))->uG g (lo+x-(ne+1)) (lo+x) p=g p:=λp h1=>by
  unfold uG
  rw [if_neg (by omega)]
 have ot:∀ p,lo+x<=p->uG g (lo+x-(ne+1)) (lo+x) p=p:=λp h1=>by
  unfold uG
  rw [if_neg (by omega),d.aft _ (by omega)]
 refine ⟨λp q h1 h2 h3=>?_,λp h1 h2=>?_,λp h1 h2=>?_,λp h1=>?_,ot⟩
 ·by_cases hq:q<lo+(x-(ne+1))
  ·rw [dn q hq,dn p (by omega)];exact d.fall p q h1 h2 hq
  ·rw [up q (by omega) h3]
   have k1:=d.alike (lo+(x-(ne+1))+(lo+x)-1-q) (by omega) (by omega)
   by_cases hp:p<lo+(x-(ne+1))
   ·rw [dn p hp]
    have:=d.low p h1 hp
    left;omega
   ·rw [up p (by omega) (by omega)]
    have k2:=d.alike (lo+(x-(ne+1))+(lo+x)-1-p) (by omega) (by omega)
    right;omega
 ·by_cases hp:p<lo+(x-(ne+1))
  ·rw [dn p hp];have:=d.inn p h1 hp;omega
  ·rw [up p (by omega) h2];omega
 ·by_cases hp:p<lo+(x-(ne+1))
  ·rw [dn p hp];have:=d.low p h1 hp;omega
  ·rw [up p (by omega) h2]
   have k1:=d.alike (lo+(x-(ne+1))+(lo+x)-1-p) (by omega) (by omega)
   omega
 ·rw [dn p (by omega)];exact d.bef p h1
theorem GB {x:Nat} (hx:1<=x):uG g (lo+x-(0+1)) (lo+x)=g:=by
 funext k
 unfold uG
 split
 ·congr 1;omega
 ·rfl
theorem rV {i j:Nat} {Q:Unit->SortSt->Prop} (h:Q () (setArr st (mirror (arrOf st) i j ((j-i) / 2)))):wpS (model prog w) A E s (reverseSlice' i j) Q st:=by
 rw [reverseSlice'_eq];exact wpS_modify h
theorem G8 {Q:DescSt->SortSt->Prop} (h0:IntKeys a0) (hn:lo+nr<=a0.size) (h1:1<=n) (hnn:n<=nr) (hB:GS a0 g pd st) (hs:Dn a0 g0 g lo n 0)
  (h:∀ m ne g' st',GS a0 g' pd st'->n<=m->m<=nr->Dn a0 g0 g' lo m ne->Q (none,m,ne) st'):wpS (model prog w) A E s (GO lo n nr) Q st:=by
 unfold GO
 refine wpS_forRange (I:=λx c z=>∃ ne g',c=(none,x,ne)/\GS a0 g' pd z/\Dn a0 g0 g' lo x ne) ?step ?fin ⟨0,g,rfl,hB,hs⟩
 case fin =>
  rintro c z ⟨ne,g',rfl,hB',hd⟩
  rw [show max n nr=nr by omega] at hd |-
  exact h nr ne g' z hB' hnn (aL _) hd
 case step =>
  rintro x c z hax hxn ⟨ne,g',rfl,hB',hd⟩
  dsimp only
  have hle:=hd.le
  have ex:=hd.aft (lo+x) (by omega)
  have ey:=hd.aft (lo+x-1) (by omega)
  refine wpS_bind (rW hB' h0 (by omega) (by omega) ?_)
  rw [ex,ey]
  by_cases hl:K a0 (lo+x)<K a0 (lo+x-1)
  ·simp only [hl,decide_true,if_true]
   obtain ⟨t1,t2,t3,t4,t5⟩:=hd.turn
   have nx:Dn a0 g0 (uG g' (lo+x-(ne+1)) (lo+x)) lo (x+1) 0:=by
    have es:x+1-(0+1)=x:=by omega
    refine ⟨by omega,?_,?_,?_,?_,t4,?_⟩
    ·rw [es];exact t1
    ·rw [es];exact t2
    ·rw [es];intro p h2 h3;have:=t3 p h2 h3;rw [show lo+(x+1)-1=lo+x by omega];omega
    ·rw [es];intro p h2 h3;congr 1;omega
    ·rw [es];exact t5
   by_cases hne:ne > 0
   ·rw [if_pos hne]
    exact wpS_bind (rV (wpS_pure ⟨0,_,rfl,hB'.mirr (by omega),nx⟩))
   ·rw [if_neg hne]
    have e0:ne=0:=by omega
    subst e0
    rw [GB (by omega)] at nx
    exact wpS_pure ⟨0,_,rfl,hB',nx⟩
  ·simp only [hl,decide_false,cL,if_false]
   refine wpS_bind (rW hB' h0 (by omega) (by omega) ?_)
   rw [ex,ey]
   by_cases hg:K a0 (lo+x-1)<K a0 (lo+x)
   ·simp only [hg,decide_true,if_true]
    exact wpS_pure (h x ne g' z hB' hax (by omega) hd)
   ·simp only [hg,decide_false,cL,if_false]
    have es:x+1-(ne+1+1)=x-(ne+1):=by omega
    have el:lo+(x+1)-1=lo+x:=by omega
    have eq:K a0 (lo+x)=K a0 (lo+x-1):=by omega
    refine wpS_pure ⟨ne+1,g',rfl,hB',⟨by omega,?_,?_,?_,?_,hd.bef,?_⟩⟩
    ·rw [es];exact hd.fall
    ·rw [es];exact hd.inn
    ·rw [es,el,eq];exact hd.low
    ·rw [es,el]
     intro p h2 h3
     by_cases hp:p=lo+x
     ·rw [hp]
     ·rw [eq];exact hd.alike p h2 (by omega)
    ·rw [es];exact hd.aft
theorem yE {Q:Option Nat->SortSt->Prop} (h0:IntKeys a0) (hn:lo+nr<=a0.size) (h1:1<=n) (hnn:n<=nr) (hB:GS a0 g pd st)
  (f1:∀ p q,lo<=p->p<q->q<lo+n->Lx a0 (g q) (g p)) (f2:In g lo (lo+n)) (f4:∀ p,p<lo->g p=g0 p) (f5:∀ p,lo+n<=p->g p=p)
  (h:∀ m g' st',GS a0 g' pd st'->1<=m->m<=nr->Rn a0 g0 g' lo m->Q (some m) st'):wpS (model prog w) A E s (yK lo n nr) Q st:=by
 unfold yK
 refine wpS_bind (rV ?_)
 have hB':=hB.mirr (i:=lo) (j:=lo+n) (by omega)
 have up:∀ p,lo<=p->p<lo+n->uG g lo (lo+n) p=g (lo+(lo+n)-1-p):=λp a b=>by unfold uG;rw [if_pos ⟨a,b⟩]
 have ot:∀ p,(p<lo\/lo+n<=p)->uG g lo (lo+n) p=g p:=λp a=>by unfold uG;rw [if_neg (by omega)]
 refine wpS_bind (BK h0 hn h1 hnn hB' (g0:=g0) ⟨λp q a b c=>?_,λp a b=>?_,λp a=>?_,λp a=>?_⟩ λm m1 m2 r _=>wpS_pure (h m _ _ hB' (by omega) m2 r))
 ·rw [up p a (by omega),up q (by omega) c]
  exact f1 _ _ (by omega) (by omega) (by omega)
 ·rw [up p a b];exact f2 _ (by omega) (by omega)
 ·rw [ot p (.inl a)];exact f4 p a
 ·rw [ot p (.inr a)];exact f5 p a
theorem yF {Q:Option Nat->SortSt->Prop} (h0:IntKeys a0) (hn:lo+nr<=a0.size) (hnn:n+1<=nr) (hB:GS a0 g pd st) (hs:Dn a0 g0 g lo (n+1) 0)
  (h:∀ m g' st',GS a0 g' pd st'->1<=m->m<=nr->Rn a0 g0 g' lo m->Q (some m) st'):wpS (model prog w) A E s (B5 lo n nr) Q st:=by
 unfold B5
 refine wpS_bind (wpS_lift (wpAny_rule ⟨rfl,?_⟩))
 refine wpS_bind (G8 h0 hn (by omega) hnn hB hs λm ne g' st' hB' m1 m2 hd=>?_)
 dsimp only
 obtain ⟨t1,t2,t3,t4,t5⟩:=hd.turn
 by_cases hne:ne > 0
 ·rw [if_pos hne]
  exact wpS_bind (rV (yE h0 hn (by omega) m2 (hB'.mirr (by omega)) t1 t2 t4 t5 h))
 ·rw [if_neg hne]
  have e0:ne=0:=by omega
  subst e0
  rw [GB (by omega)] at t1 t2 t4 t5
  exact yE h0 hn (by omega) m2 hB' t1 t2 t4 t5 h
theorem vO {Q:Option Nat->SortSt->Prop} (h0:IntKeys a0) (hn:lo+nr<=a0.size) (h1:1<=nr) (hB:GS a0 g pd st) (bef:∀ p,p<lo->g p=g0 p) (aft:∀ p,lo<=p->g p=p)
  (h:∀ m g' st',GS a0 g' pd st'->1<=m->m<=nr->Rn a0 g0 g' lo m->Q (some m) st'):wpS (model prog w) A E s (countRun' lo nr) Q st:=by
 rw [IV]
 refine wpS_bind (BK h0 hn (aL 1) h1 hB (g0:=g0) ⟨λp q a b c=>by omega,λp a b=>by rw [aft p a];omega,bef,λp a=>aft p (by omega)⟩ λm m1 m2 r hor=>?_)
 dsimp only
 by_cases hmn:m=nr
 ·rw [if_pos (by simpa using hmn)]
  exact wpS_pure (h m g st hB m1 m2 r)
 ·rw [if_neg (by simpa using hmn)]
  have hlt:=hor.resolve_left hmn
  rw [aft _ (by omega),aft (lo+m-1) (by omega)] at hlt
  by_cases hgt:m > 1
  ·rw [if_pos hgt]
   refine wpS_bind (rW hB h0 (by omega) (by omega) ?_)
   rw [aft lo (by omega),aft (lo+m-1) (by omega)]
   by_cases hrose:K a0 lo<K a0 (lo+m-1)
   ·simp only [hrose,decide_true,if_true]
    exact wpS_pure (h m g st hB m1 m2 r)
   ·simp only [hrose,decide_false,cL,if_false]
    have le:∀ p q,lo<=p->p<=q->q<lo+m->K a0 p<=K a0 q:=λp q a b c=>by
     by_cases e:p=q
     ·rw [e];exact jU _
     ·have:=r.sd p q a (by omega) c
      rw [aft p a,aft q (by omega)] at this
      rcases this with z | z<;>omega
    have all:∀ p,lo<=p->p<lo+m->K a0 p=K a0 (lo+m-1):=λp a b=>by
     have k1:=le lo p (by omega) a b
     have k2:=le p (lo+m-1) a (by omega) (by omega)
     omega
    have es:m+1-(0+1)=m:=by omega
    have el:lo+(m+1)-1=lo+m:=by omega
    have up:∀ p,lo<=p->p<lo+m->uG g lo (lo+m) p=lo+(lo+m)-1-p:=λp a b=>by unfold uG;rw [if_pos ⟨a,b⟩,aft _ (by omega)]
    refine wpS_bind (rV (yF h0 hn (by omega) (hB.mirr (by omega)) (g0:=g0) ⟨by omega,?_,?_,?_,?_,?_,?_⟩ h))
    ·rw [es]
     intro p q a b c
     rw [up p a (by omega),up q (by omega) c]
     have k1:=all (lo+(lo+m)-1-p) (by omega) (by omega)
     have k2:=all (lo+(lo+m)-1-q) (by omega) (by omega)
     right;omega
    ·rw [es];intro p a b;rw [up p a b];omega
    ·rw [es,el]
     intro p a b
     rw [up p a b,all (lo+(lo+m)-1-p) (by omega) (by omega)]
     exact hlt
    ·rw [es];intro p a b;congr 1;omega
    ·intro p a;unfold uG;rw [if_neg (by omega)];exact bef p a
    ·rw [es];intro p a;unfold uG;rw [if_neg (by omega)];exact aft p (by omega)
  ·rw [if_neg hgt]
   have e1:m=1:=by omega
   subst e1
   refine yF h0 hn (by omega) hB (g0:=g0) ⟨by omega,λp q a b c=>by omega,λp a b=>by rw [aft p a];omega,λp a b=>?_,λp a b=>by congr 1;omega,bef,λp a=>aft p (by omega)⟩ h
   rw [aft p a]
   have:p=lo:=by omega
   subst this
   exact hlt
theorem BJ {ok:Nat} {Q:Bool->SortSt->Prop} (h0:IntKeys a0) (hn:lo+n<=a0.size) (hok:ok<=n) (h1:1<=ok) (hB:GS a0 g pd st) (hs:Rn a0 g0 g lo ok)
  (h:∀ g' st',GS a0 g' pd st'->Rn a0 g0 g' lo n->Q true st'):wpS (model prog w) A E s (binarySort' lo n ok) Q st:=by
 rw [binarySort'_eq]
 refine wpS_bind (wpS_mono (wpS_forRange (I:=λk c z=>c=(none,())/\∃ g',GS a0 g' pd z/\Rn a0 g0 g' lo (min k n))
  (Q:=λc z=>c=(none,())/\∃ g',GS a0 g' pd z/\Rn a0 g0 g' lo n) ?step ?fin ?init) ?post)
 case post =>
  rintro c z ⟨rfl,g',hB',hr⟩
  exact wpS_pure (h g' z hB' hr)
 case init =>
  refine ⟨rfl,g,hB,?_⟩
  rw [show min (max ok 1) n=ok by omega];exact hs
 case fin =>
  rintro c z ⟨hc,g',hB',hr⟩
  rw [show min (max (max ok 1) n) n=n by omega] at hr
  exact ⟨hc,g',hB',hr⟩
 case step =>
  rintro k c z hak hkn ⟨rfl,g',hB',hr⟩
  rw [show min k n=k by omega] at hr
  have ek:=hr.aft (lo+k) (aL _)
  refine wpS_bind (wpS_mono (wpS_forRange (I:=λx c y=>y=z/\∃ l r,c=(none,l,r)/\l<=r/\r<=k/\r-l<=k-x /\
    (∀ i,i<l->K a0 (g' (lo+i))<=K a0 (lo+k))/\∀ i,r<=i->i<k->K a0 (lo+k)<K a0 (g' (lo+i)))
   (Q:=λc y=>y=z/\∃ l r,c=(none,l,r)/\l<=k/\(∀ i,i<l->K a0 (g' (lo+i))<=K a0 (lo+k))/\∀ i,l<=i->i<k->K a0 (lo+k)<K a0 (g' (lo+i))) ?istep ?ifin ?iinit) ?ipost)
  case iinit=>exact ⟨rfl,0,k,rfl,by omega,by omega,by omega,λi hi=>by omega,λi a b=>by omega⟩
  case ifin =>
   rintro c y ⟨rfl,l,r,rfl,a1,a2,a3,a4,a5⟩
   have:l=r:=by omega
   subst this
   exact ⟨rfl,l,l,rfl,a2,a4,a5⟩
  case istep =>
   rintro x c y _ hxk ⟨rfl,l,r,rfl,a1,a2,a3,a4,a5⟩
   dsimp only
   have le:∀ i j,i<=j->j<k->K a0 (g' (lo+i))<=K a0 (g' (lo+j)):=λi j a b=>by
    by_cases e:i=j
    ·rw [e];exact jU _
    ·rcases hr.sd (lo+i) (lo+j) (by omega) (by omega) (by omega) with q | q<;>omega
   by_cases hge:l >= r
   ·rw [if_pos hge]
    have:l=r:=by omega
    subst this
    exact wpS_pure ⟨rfl,l,l,rfl,a2,a4,a5⟩
   ·rw [if_neg hge]
    refine wpS_bind (rW hB' h0 (by omega) (by omega) ?_)
    rw [ek]
    by_cases hl:K a0 (lo+k)<K a0 (g' (lo+(l+r) / 2))
    ·simp only [hl,decide_true,if_true]
     refine wpS_pure ⟨rfl,l,(l+r) / 2,rfl,by omega,by omega,by omega,a4,λi b1 b2=>?_⟩
     exact nM hl (le _ _ b1 b2)
    ·simp only [hl,decide_false,cL,if_false]
     refine wpS_pure ⟨rfl,(l+r) / 2+1,r,rfl,by omega,by omega,by omega,λi b1=>?_,a5⟩
     have:=le i ((l+r) / 2) (by omega) (by omega)
     omega
  case ipost =>
   rintro c y ⟨rfl,l,r,rfl,a2,a4,a5⟩
   show wpS _ _ _ _ (do moveDown' (lo+k) (lo+l);pure (ForInStep.yield (none,()))) _ _
   rw [moveDown'_eq]
   refine wpS_bind (wpS_modify (wpS_pure ⟨rfl,_,hB'.bubb (by omega) (by omega),?_⟩))
   rw [show min (k+1) n=k+1 by omega]
   have v1:QN g' (lo+k) (lo+l) (lo+l)=lo+k:=by unfold QN;rw [if_pos rfl,ek]
   have v2:∀ p,lo+l<p->p<=lo+k->QN g' (lo+k) (lo+l) p=g' (p-1):=λp a b=>by unfold QN;rw [if_neg (by omega),if_pos ⟨a,b⟩]
   have v3:∀ p,(p<lo+l\/lo+k<p)->QN g' (lo+k) (lo+l) p=g' p:=λp a=>by unfold QN;rw [if_neg (by omega),if_neg (by omega)]
   have lw:∀ p,lo<=p->p<lo+l->K a0 (g' p)<=K a0 (lo+k):=λp a b=>by
    have:=a4 (p-lo) (by omega);rwa [show lo+(p-lo)=p by omega] at this
   have hg:∀ p,lo+l<=p->p<lo+k->K a0 (lo+k)<K a0 (g' p):=λp a b=>by
    have:=a5 (p-lo) (by omega) (by omega);rwa [show lo+(p-lo)=p by omega] at this
   refine ⟨λp q b1 b2 b3=>?_,λp b1 b2=>?_,λp b1=>?_,λp b1=>?_⟩
   ·rcases iI p (lo+l) with c1 | c1 | c1
    ·rw [v3 p (.inl c1)]
     rcases iI q (lo+l) with c2 | c2 | c2
     ·rw [v3 q (.inl c2)];exact hr.sd p q b1 b2 (by omega)
     ·rw [c2,v1]
      have:=lw p b1 c1
      have:=(hr.inn p b1 (by omega)).2
      unfold Lx;omega
     ·rw [v2 q c2 (by omega)];exact hr.sd p (q-1) b1 (by omega) (by omega)
    ·rw [c1,v1,v2 q (by omega) (by omega)]
     left;exact hg _ (by omega) (by omega)
    ·rw [v2 p c1 (by omega),v2 q (by omega) (by omega)]
     exact hr.sd _ _ (by omega) (by omega) (by omega)
   ·rcases iI p (lo+l) with c1 | c1 | c1
    ·rw [v3 p (.inl c1)];have:=hr.inn p b1 (by omega);omega
    ·rw [c1,v1];omega
    ·rw [v2 p c1 (by omega)];have:=hr.inn (p-1) (by omega) (by omega);omega
   ·rw [v3 p (.inl (by omega))];exact hr.bef p b1
   ·rw [v3 p (.inr (by omega))];exact hr.aft p (by omega)
end
end SS

namespace SS
open PySem PyProof.Rows
section
variable {α:Type} {le:α->α->Bool}
abbrev mg (le:α->α->Bool) (xs ys:List α):List α:=zL xs ys le
theorem jV (xs:List α):mg le xs []=xs:=by cases xs<;>simp [mg]
theorem kN (ys:List α):mg le [] ys=ys:=by cases ys<;>simp [mg]
theorem mF (x y:α) (xs ys:List α):mg le (x::xs) (y::ys)=if le x y=true then x::mg le xs (y::ys) else y::mg le (x::xs) ys:=by
 show zL _ _ _=_
 rw [List.cons_merge_cons]
theorem IF {xs ys:List α}:∀ {ps:List α},(∀ p∈ps,∀ y∈ys,le p y=true)->mg le (ps++xs) ys=ps++mg le xs ys
 | [],_=>rfl
 | p::ps,h=>by
  have ih:=IF (xs:=xs) (ys:=ys) (ps:=ps) λq hq=>h q (aK _ hq)
  cases ys with
  | nil=>simp [jV]
  | cons y ys=>rw [gC,mF,if_pos (h p (aM ..) y (aM ..)),ih];rfl
theorem IE {xs ys:List α}:∀ {qs:List α},(∀ q∈qs,∀ x∈xs,le x q=false)->mg le xs (qs++ys)=qs++mg le xs ys
 | [],_=>rfl
 | q::qs,h=>by
  have ih:=IE (xs:=xs) (ys:=ys) (qs:=qs) λp hp=>h p (aK _ hp)
  cases xs with
  | nil=>simp [kN]
  | cons x xs=>rw [gC,mF,if_neg (by rw [h q (aM ..) x (aM ..)];simp),ih];rfl
theorem PU {zs:List α}:∀ (n:Nat) {xs ys:List α},xs.length+ys.length<=n->(∀ e∈ys,∀ z∈zs,le z e=false)->mg le (xs++zs) ys=mg le xs ys++zs
 | n,[],ys,_,h=>by
  rw [qG,kN]
  have:=IE (le:=le) (xs:=zs) (ys:=[]) (qs:=ys) h
  rwa [dY,jV] at this
 | n,x::xs,[],_,h=>by rw [jV,jV]
 | 0,x::xs,y::ys,hn,h=>by simp at hn
 | n+1,x::xs,y::ys,hn,h=>by
  simp only [bI] at hn
  rw [gC,mF,mF]
  split
  ·rw [PU n (xs:=xs) (ys:=y::ys) (by simp only [bI];omega) h];rfl
  ·have:=PU n (xs:=x::xs) (ys:=ys) (by simp only [bI];omega) λe he=>h e (aK _ he)
   rw [gC] at this
   rw [this];rfl
theorem L1 {ws:List α}:∀ (n:Nat) {xs ys:List α},xs.length+ys.length<=n->(∀ e∈xs,∀ z∈ws,le e z=true)->mg le xs (ys++ws)=mg le xs ys++ws
 | n,xs,[],_,h=>by
  rw [qG,jV]
  have:=IF (le:=le) (xs:=[]) (ys:=ws) (ps:=xs) h
  rwa [dY,kN] at this
 | n,[],y::ys,_,h=>by rw [kN,kN]
 | 0,x::xs,y::ys,hn,h=>by simp at hn
 | n+1,x::xs,y::ys,hn,h=>by
  simp only [bI] at hn
  rw [gC,mF,mF]
  split
  ·have:=L1 n (xs:=xs) (ys:=y::ys) (by simp only [bI];omega) λe he=>h e (aK _ he)
   rw [gC] at this
   rw [this];rfl
  ·rw [L1 n (xs:=x::xs) (ys:=ys) (by simp only [bI];omega) h];rfl
theorem EB {β:Type} {le2:β->β->Bool} {f:α->β}:∀ (n:Nat) {xs ys:List α},xs.length+ys.length<=n->(∀ x∈xs,∀ y∈ys,le x y=le2 (f x) (f y))->mg le2 (xs.map f) (ys.map f)=(mg le xs ys).map f
 | n,[],ys,_,_=>by simp [kN]
 | n,x::xs,[],_,_=>by simp [jV]
 | 0,x::xs,y::ys,hn,_=>by simp at hn
 | n+1,x::xs,y::ys,hn,h=>by
  simp only [bI] at hn
  rw [bP,bP,mF,mF,<- h x (aM ..) y (aM ..)]
  split
  ·have:=EB n (xs:=xs) (ys:=y::ys) (le2:=le2) (f:=f) (by simp only [bI];omega) λa ha b hb=>h a (aK _ ha) b hb
   rw [bP] at this
   rw [this];rfl
  ·have:=EB n (xs:=x::xs) (ys:=ys) (le2:=le2) (f:=f) (by simp only [bI];omega) λa ha b hb=>h a ha b (aK _ hb)
   rw [bP] at this
   rw [this];rfl
end
section
variable {prog:bY} {w:World} {A:Around} {E:Value->Shared->Prop} {s:Shared} {st:SortSt}
theorem vA {x y:Keyed} {i j:Int} {t u:Tok} {Q:Option Bool->SortSt->Prop} (hk:kindOf st=oneType') (hx:x.1=.int i t) (hy:y.1=.int j u) (h:Q (some (decide (i<j))) st) :
  wpS (model prog w) A E s (lt' x y) Q st:=by
 rw [lt'_eq]
 refine wpS_bind (wpS_get ?_)
 rw [hk,keyLt'_oneType,hx,hy]
 exact wpS_bind (wpS_lift (wpAny_attempt (oneLt_int ⟨rfl,wpS_pure h⟩)))
theorem eW {a:Array Keyed} {i:Nat} {Q:Keyed->SortSt->Prop} (hi:i<a.size) (h:Q a[i] st):wpS (model prog w) A E s (elem' a i) Q st:=by
 rw [elem'_eq,getElem?_pos a i hi]
 exact wpS_pure h
theorem lT {a:Array Keyed} (h0:IntKeys a) {i:Nat} (hi:i<a.size):∃ t,a[i].1=.int (K a i) t:=by
 obtain ⟨t,q,e⟩:=EQ h0 hi
 rw [getElem?_pos a i hi] at e
 exact ⟨t,congrArg Prod.fst (Option.some.inj e)⟩
def jN:Bool->Keyed->Array Keyed->Nat->Nat->Nat->StateT SortSt Sem (Option Nat):=sortPriv% PySem.Builtin.gallop
def QQ (lf:Bool) (ke:Keyed) (ar:Array Keyed) (ba i:Nat):StateT SortSt Sem (Option Bool):=do
 let x <- elem' ar (ba+i)
 if lf=true then lt' x ke else do
  let r <- lt' ke x
  pure (r.map λb=>!b)
def MS (bk:Nat->StateT SortSt Sem (Option Bool)) (n lo hi:Nat):StateT SortSt Sem (Option Nat):=do
 let z <- forIn [0:n] ((none,lo,hi):Option (Option Nat)×Nat×Nat) λ_ z =>
  if z.2.1 >= z.2.2 then pure (ForInStep.done (none,z.2.1,z.2.2)) else do
   let x <- bk (z.2.1+(z.2.2-z.2.1) / 2)
   match x with
   | some b=>if b=true then pure (ForInStep.yield (none,z.2.1+(z.2.2-z.2.1) / 2+1,z.2.2)) else pure (ForInStep.yield (none,z.2.1,z.2.1+(z.2.2-z.2.1) / 2))
   | _=>pure (ForInStep.done (some none,z.2.1,z.2.2))
 match z.1 with
 | some r=>pure r
 | none=>pure (some z.2.2)
def WK (bk:Nat->StateT SortSt Sem (Option Bool)) (n hint:Nat):StateT SortSt Sem (Option (Option Nat)×Nat×Nat) :=
 forIn [0:n] ((none,0,1):Option (Option Nat)×Nat×Nat) λ_ z =>
  if z.2.2 >= n-hint then pure (ForInStep.done (none,z.2.1,z.2.2)) else do
   let x <- bk (hint+z.2.2)
   match x with
   | some b=>if (!b)=true then pure (ForInStep.done (none,z.2.1,z.2.2)) else pure (ForInStep.yield (none,z.2.2,2*z.2.2+1))
   | _=>pure (ForInStep.done (some none,z.2.1,z.2.2))
def WL (bk:Nat->StateT SortSt Sem (Option Bool)) (n hint:Nat):StateT SortSt Sem (Option (Option Nat)×Nat×Nat) :=
 forIn [0:n] ((none,0,1):Option (Option Nat)×Nat×Nat) λ_ z =>
  if z.2.2 >= hint+1 then pure (ForInStep.done (none,z.2.1,z.2.2)) else do
   let x <- bk (hint-z.2.2)
   match x with
   | some b=>if b=true then pure (ForInStep.done (none,z.2.1,z.2.2)) else pure (ForInStep.yield (none,z.2.2,2*z.2.2+1))
   | _=>pure (ForInStep.done (some none,z.2.1,z.2.2))
theorem EK (lf:Bool) (ke:Keyed) (ar:Array Keyed) (ba n hint:Nat):jN lf ke ar ba n hint=(do
  let bk (i:Nat):StateT SortSt Sem (Option Bool):=do
   let x <- elem' ar (ba+i)
   if lf then lt' x ke else return (<- lt' ke x).map (!·)
  let mut la:=0
  let mut ofs:=1
  let mut lo:=0
  let mut hi:=0
  let some rt <- bk hint | return none
  if rt then
   let mx:=n-hint
   for _ in [0:n] do
    if ofs >= mx then break
    let some more <- bk (hint+ofs) | return none
    if !more then break
    la:=ofs
    ofs:=2*ofs+1
   lo:=hint+la+1
   hi:=hint+min ofs mx
  else
   let mx:=hint+1
   for _ in [0:n] do
    if ofs >= mx then break
    let some fo <- bk (hint-ofs) | return none
    if fo then break
    la:=ofs
    ofs:=2*ofs+1
   lo:=hint+1-min ofs mx
   hi:=hint-la
  for _ in [0:n] do
   if lo >= hi then break
   let m:=lo+(hi-lo) / 2
   let some more <- bk m | return none
   if more then lo:=m+1 else hi:=m
  return some hi):=rfl
theorem EJ (lf:Bool) (ke:Keyed) (ar:Array Keyed) (ba n hint:Nat):jN lf ke ar ba n hint=(do
  let x <- QQ lf ke ar ba hint
  match x with
  | some b =>
   if b=true then do
    let z <- WK (QQ lf ke ar ba) n hint
    match z.1 with
    | some r=>pure r
    | none=>MS (QQ lf ke ar ba) n (hint+z.2.1+1) (hint+min z.2.2 (n-hint))
   else do
    let z <- WL (QQ lf ke ar ba) n hint
    match z.1 with
    | some r=>pure r
    | none=>MS (QQ lf ke ar ba) n (hint+1-min z.2.2 (hint+1)) (hint-z.2.1)
  | _=>pure none):=by
 rw [EK]
 show (QQ lf ke ar ba hint >>= _)=_
 congr 1
 funext x
 unfold WK WL MS
 cases x with
 | none=>rfl
 | some b =>
  cases b with
  | true =>
   simp only [if_true]
   congr 1
   funext z
   obtain ⟨r,l,o⟩:=z
   cases r with
   | some r=>rfl
   | none =>
    dsimp only
    congr 1
    funext z
    obtain ⟨r,l,o⟩:=z
    cases r<;>rfl
  | false =>
   simp only [cL,if_false]
   congr 1
   funext z
   obtain ⟨r,l,o⟩:=z
   cases r with
   | some r=>rfl
   | none =>
    dsimp only
    congr 1
    funext z
    obtain ⟨r,l,o⟩:=z
    cases r<;>rfl
def Bd (lf:Bool) (kk:Int) (ar:Array Keyed) (ba i:Nat):Bool:=if lf=true then decide (K ar (ba+i)<kk) else !decide (kk<K ar (ba+i))
theorem N1 {lf:Bool} {ke:Keyed} {kk:Int} {t:Tok} {ar:Array Keyed} {ba i:Nat} {Q:Option Bool->SortSt->Prop} (hk:kindOf st=oneType') (h0:IntKeys ar) (hke:ke.1=.int kk t) (hi:ba+i<ar.size) (h:Q (some (Bd lf kk ar ba i)) st) :
  wpS (model prog w) A E s (QQ lf ke ar ba i) Q st:=by
 unfold QQ
 refine wpS_bind (eW hi ?_)
 obtain ⟨u,e⟩:=lT h0 hi
 unfold Bd at h
 cases lf with
 | true=>exact vA hk e hke h
 | false=>exact wpS_bind (vA hk hke e (wpS_pure h))
theorem BI {bk:Nat->StateT SortSt Sem (Option Bool)} {B:Nat->Bool} {n lo hi:Nat} {Q:Option Nat->SortSt->Prop} (hb:∀ i (Q:Option Bool->SortSt->Prop),i<n->Q (some (B i)) st->wpS (model prog w) A E s (bk i) Q st)
  (mono:∀ i j,i<=j->j<n->B j=true->B i=true) (h1:lo<=hi) (h2:hi<=n) (h3:∀ i,i<lo->B i=true) (h4:∀ i,hi<=i->i<n->B i=false)
  (h:∀ k,k<=n->(∀ i,i<k->B i=true)->(∀ i,k<=i->i<n->B i=false)->Q (some k) st):wpS (model prog w) A E s (MS bk n lo hi) Q st:=by
 unfold MS
 refine wpS_bind (wpS_mono (wpS_forRange (I:=λx c z=>z=st/\∃ l r,c=(none,l,r)/\l<=r/\r<=n/\r-l<=n-x/\(∀ i,i<l->B i=true)/\∀ i,r<=i->i<n->B i=false)
  (Q:=λc z=>z=st/\∃ l r,c=(none,l,r)/\r<=n/\(∀ i,i<r->B i=true)/\∀ i,r<=i->i<n->B i=false) ?step ?fin ⟨rfl,lo,hi,rfl,h1,h2,by omega,h3,h4⟩) ?post)
 case post =>
  rintro c z ⟨rfl,l,r,rfl,a1,a2,a3⟩
  exact wpS_pure (h r a1 a2 a3)
 case fin =>
  rintro c z ⟨rfl,l,r,rfl,a1,a2,a3,a4,a5⟩
  have:l=r:=by omega
  subst this
  exact ⟨rfl,l,l,rfl,a2,a4,a5⟩
 case step =>
  rintro x c z _ hx ⟨rfl,l,r,rfl,a1,a2,a3,a4,a5⟩
  dsimp only
  by_cases hge:l >= r
  ·rw [if_pos hge]
   have:l=r:=by omega
   subst this
   exact wpS_pure ⟨rfl,l,l,rfl,a2,a4,a5⟩
  ·rw [if_neg hge]
   refine wpS_bind (hb _ _ (by omega) ?_)
   cases hB:B (l+(r-l) / 2) with
   | true =>
    simp only [if_true]
    exact wpS_pure ⟨rfl,_,r,rfl,by omega,a2,by omega,λi hi=>mono i _ (by omega) (by omega) hB,a5⟩
   | false =>
    simp only [cL,if_false]
    refine wpS_pure ⟨rfl,l,_,rfl,by omega,by omega,by omega,a4,λi b1 b2=>?_⟩
    cases hi:B i with
    | false=>rfl
    | true=>rw [mono _ i b1 b2 hi] at hB;cases hB
theorem lD {lf:Bool} {ke:Keyed} {kk:Int} {t:Tok} {ar:Array Keyed} {ba n hint:Nat} {Q:Option Nat->SortSt->Prop} (hk:kindOf st=oneType') (h0:IntKeys ar) (hke:ke.1=.int kk t) (hn:ba+n<=ar.size) (hh:hint<n)
  (mono:∀ i j,ba<=i->i<=j->j<ba+n->K ar i<=K ar j) (h:∀ k,k<=n->(∀ i,i<k->Bd lf kk ar ba i=true)->(∀ i,k<=i->i<n->Bd lf kk ar ba i=false)->Q (some k) st):wpS (model prog w) A E s (jN lf ke ar ba n hint) Q st:=by
 have hb:∀ i (Q:Option Bool->SortSt->Prop),i<n->Q (some (Bd lf kk ar ba i)) st->wpS (model prog w) A E s (QQ lf ke ar ba i) Q st:=λi Q hi q=>N1 hk h0 hke (by omega) q
 have mon:∀ i j,i<=j->j<n->Bd lf kk ar ba j=true->Bd lf kk ar ba i=true:=λi j a b c=>by
  have:=mono (ba+i) (ba+j) (by omega) (by omega) (by omega)
  unfold Bd at c |-
  cases lf with
  | true=>simp only [if_true,decide_eq_true_eq] at c |-;omega
  | false=>simp only [cL,if_false,oJ,decide_eq_false_iff_not] at c |-;omega
 have monF:∀ i j,i<=j->j<n->Bd lf kk ar ba i=false->Bd lf kk ar ba j=false:=λi j a b c=>by
  cases hj:Bd lf kk ar ba j with
  | false=>rfl
  | true=>rw [mon i j a b hj] at c;cases c
 rw [EJ]
 refine wpS_bind (hb hint _ hh ?_)
 cases hB:Bd lf kk ar ba hint with
 | true =>
  simp only [if_true]
  unfold WK
  refine wpS_bind (wpS_mono (wpS_forRange (I:=λx c z=>z=st/\∃ l o,c=(none,l,o)/\l<o/\x<=l/\hint+l<n/\Bd lf kk ar ba (hint+l)=true)
   (Q:=λc z=>z=st/\∃ l o,c=(none,l,o)/\l<o/\hint+l<n/\Bd lf kk ar ba (hint+l)=true/\(n-hint<=o\/(hint+o<n/\Bd lf kk ar ba (hint+o)=false))) ?step ?fin ⟨rfl,0,1,rfl,by omega,by omega,by omega,hB⟩) ?post)
  case fin =>
   rintro c z ⟨rfl,l,o,rfl,a1,a2,a3,a4⟩
   omega
  case step =>
   rintro x c z _ hx ⟨rfl,l,o,rfl,a1,a2,a3,a4⟩
   dsimp only
   by_cases hge:o >= n-hint
   ·rw [if_pos hge];exact wpS_pure ⟨rfl,l,o,rfl,a1,a3,a4,.inl hge⟩
   ·rw [if_neg hge]
    refine wpS_bind (hb _ _ (by omega) ?_)
    cases hC:Bd lf kk ar ba (hint+o) with
    | false=>simp only [UL,if_true];exact wpS_pure ⟨rfl,l,o,rfl,a1,a3,a4,.inr ⟨by omega,hC⟩⟩
    | true=>simp only [sV,cL,if_false];exact wpS_pure ⟨rfl,o,2*o+1,rfl,by omega,by omega,by omega,hC⟩
  case post =>
   rintro c z ⟨rfl,l,o,rfl,a1,a2,a3,a4⟩
   dsimp only
   refine BI hb mon (by omega) (by omega) (λi hi=>mon i (hint+l) (by omega) a2 a3) (λi b1 b2=>?_) h
   rcases a4 with a4 | ⟨a4,a5⟩
   ·omega
   ·exact monF (hint+o) i (by omega) b2 a5
 | false =>
  simp only [cL,if_false]
  unfold WL
  refine wpS_bind (wpS_mono (wpS_forRange (I:=λx c z=>z=st/\∃ l o,c=(none,l,o)/\l<o/\x<=l/\l<=hint/\Bd lf kk ar ba (hint-l)=false)
   (Q:=λc z=>z=st/\∃ l o,c=(none,l,o)/\l<o/\l<=hint/\Bd lf kk ar ba (hint-l)=false/\(hint+1<=o\/(o<=hint/\Bd lf kk ar ba (hint-o)=true))) ?step ?fin ⟨rfl,0,1,rfl,by omega,by omega,by omega,hB⟩) ?post)
  case fin =>
   rintro c z ⟨rfl,l,o,rfl,a1,a2,a3,a4⟩
   omega
  case step =>
   rintro x c z _ hx ⟨rfl,l,o,rfl,a1,a2,a3,a4⟩
   dsimp only
   by_cases hge:o >= hint+1
   ·rw [if_pos hge];exact wpS_pure ⟨rfl,l,o,rfl,a1,a3,a4,.inl hge⟩
   ·rw [if_neg hge]
    refine wpS_bind (hb _ _ (by omega) ?_)
    cases hC:Bd lf kk ar ba (hint-o) with
    | true=>simp only [if_true];exact wpS_pure ⟨rfl,l,o,rfl,a1,a3,a4,.inr ⟨by omega,hC⟩⟩
    | false=>simp only [cL,if_false];exact wpS_pure ⟨rfl,o,2*o+1,rfl,by omega,by omega,by omega,hC⟩
  case post =>
   rintro c z ⟨rfl,l,o,rfl,a1,a2,a3,a4⟩
   dsimp only
   refine BI hb mon (by omega) (by omega) (λi hi=>?_) (λi b1 b2=>monF (hint-l) i (by omega) b2 a3) h
   rcases a4 with a4 | ⟨a4,a5⟩
   ·omega
   ·exact mon i (hint-o) (by omega) (by omega) a5
end
abbrev SM:=StateT SortSt Sem
def qY:Nat->SM Unit:=sortPriv% PySem.Builtin.setMinGallop
theorem KR (n:Nat):qY n=modify λs=>SortSt.mk' (kindOf s) (arrOf s) (pendingOf s) n (failedOf s):=rfl
def sG:Array Keyed->Array Keyed->SM (Array Keyed):=sortPriv% PySem.Builtin.mergeLo
def sI:Array Keyed->Array Keyed->SM (Array Keyed):=sortPriv% PySem.Builtin.mergeHi
theorem CG (a b:Array Keyed):sG a b=(do
 rule "list.sort.merge-lo"
 let tot:=a.size+b.size
 let dn (o:Array Keyed) (i j:Nat):=o++a.extract i a.size++b.extract j b.size
 let la (o:Array Keyed) (i j:Nat):=o++b.extract j b.size++a.extract i a.size
 let mut o:Array Keyed:=#[<- elem' b 0]
 let mut i:=0
 let mut j:=1
 if j == b.size then return dn o i j
 if i+1 == a.size then return la o i j
 let mut m:=gallopOf (<- get)
 for _ in [0:tot] do
  let mut ac:=0
  let mut bc:=0
  for _ in [0:tot] do
   let some bw <- lt' (<- elem' b j) (<- elem' a i) | return dn o i j
   if bw then
    o:=o.push (<- elem' b j);j:=j+1;bc:=bc+1;ac:=0
    if j == b.size then return dn o i j
    if bc >= m then break
   else
    o:=o.push (<- elem' a i);i:=i+1;ac:=ac+1;bc:=0
    if i+1 == a.size then return la o i j
    if ac >= m then break
  rule "list.sort.gallop"
  m:=m+1
  for _ in [0:tot] do
   if m > 1 then m:=m-1
   qY m
   let some k <- jN false (<- elem' b j) a i (a.size-i) 0 | return dn o i j
   ac:=k
   if k > 0 then
    o:=o++a.extract i (i+k);i:=i+k
    if i+1 == a.size then return la o i j
    if i == a.size then return dn o i j
   o:=o.push (<- elem' b j);j:=j+1
   if j == b.size then return dn o i j
   let some k <- jN true (<- elem' a i) b j (b.size-j) 0 | return dn o i j
   bc:=k
   if k > 0 then
    o:=o++b.extract j (j+k);j:=j+k
    if j == b.size then return dn o i j
   o:=o.push (<- elem' a i);i:=i+1
   if i+1 == a.size then return la o i j
   if ac<7 && bc<7 then break
  m:=m+1
  qY m
 unsupported "internal:list.sort.merge-bound"):=rfl
theorem CI (a b:Array Keyed):sI a b=(do
 rule "list.sort.merge-hi"
 let tot:=a.size+b.size
 let dn (o:Array Keyed) (na nb:Nat):=a.extract 0 na++b.extract 0 nb++o.reverse
 let fb (o:Array Keyed) (na nb:Nat):=b.extract 0 nb++a.extract 0 na++o.reverse
 let mut na:=a.size-1
 let mut nb:=b.size
 let mut o:Array Keyed:=#[<- elem' a na]
 if na == 0 then return dn o na nb
 if nb == 1 then return fb o na nb
 let mut m:=gallopOf (<- get)
 for _ in [0:tot] do
  let mut ac:=0
  let mut bc:=0
  for _ in [0:tot] do
   let some aw <- lt' (<- elem' b (nb-1)) (<- elem' a (na-1)) | return dn o na nb
   if aw then
    na:=na-1;o:=o.push (<- elem' a na);ac:=ac+1;bc:=0
    if na == 0 then return dn o na nb
    if ac >= m then break
   else
    nb:=nb-1;o:=o.push (<- elem' b nb);bc:=bc+1;ac:=0
    if nb == 1 then return fb o na nb
    if bc >= m then break
  rule "list.sort.gallop"
  m:=m+1
  for _ in [0:tot] do
   if m > 1 then m:=m-1
   qY m
   let some p <- jN false (<- elem' b (nb-1)) a 0 na (na-1) | return dn o na nb
   let k:=na-p
   ac:=k
   if k > 0 then
    o:=o++(a.extract p na).reverse;na:=p
    if na == 0 then return dn o na nb
   nb:=nb-1;o:=o.push (<- elem' b nb)
   if nb == 1 then return fb o na nb
   let some p <- jN true (<- elem' a (na-1)) b 0 nb (nb-1) | return dn o na nb
   let k:=nb-p
   bc:=k
   if k > 0 then
    o:=o++(b.extract p nb).reverse;nb:=p
    if nb == 1 then return fb o na nb
    if nb == 0 then return dn o na nb
   na:=na-1;o:=o.push (<- elem' a na)
   if na == 0 then return dn o na nb
   if ac<7 && bc<7 then break
  m:=m+1
  qY m
 unsupported "internal:list.sort.merge-bound"):=rfl
abbrev S5:=Option (Array Keyed)×Array Keyed×Nat×Nat×Nat×Nat
abbrev S6:=Option (Array Keyed)×Array Keyed×Nat×Nat×Nat×Nat×Nat
abbrev S4:=Option (Array Keyed)×Array Keyed×Nat×Nat×Nat
section
variable (a b:Array Keyed)
def xQ (o:Array Keyed) (i j:Nat):=o++a.extract i a.size++b.extract j b.size
def IH (o:Array Keyed) (i j:Nat):=o++b.extract j b.size++a.extract i a.size
def lo1 (m:Nat) (z:S5):SM (ForInStep S5):=do
 let y <- elem' b z.2.2.2.1
 let x <- elem' a z.2.2.1
 let r <- lt' y x
 match r with
 | some w =>
  if w=true then do
   let y <- elem' b z.2.2.2.1
   if (z.2.2.2.1+1 == b.size)=true then pure (.done (some (xQ a b (z.2.1.push y) z.2.2.1 (z.2.2.2.1+1)),z.2.1.push y,z.2.2.1,z.2.2.2.1+1,0,z.2.2.2.2.2+1))
   else if z.2.2.2.2.2+1 >= m then pure (.done (none,z.2.1.push y,z.2.2.1,z.2.2.2.1+1,0,z.2.2.2.2.2+1)) else pure (.yield (none,z.2.1.push y,z.2.2.1,z.2.2.2.1+1,0,z.2.2.2.2.2+1))
  else do
   let x <- elem' a z.2.2.1
   if (z.2.2.1+1+1 == a.size)=true then pure (.done (some (IH a b (z.2.1.push x) (z.2.2.1+1) z.2.2.2.1),z.2.1.push x,z.2.2.1+1,z.2.2.2.1,z.2.2.2.2.1+1,0))
   else if z.2.2.2.2.1+1 >= m then pure (.done (none,z.2.1.push x,z.2.2.1+1,z.2.2.2.1,z.2.2.2.2.1+1,0)) else pure (.yield (none,z.2.1.push x,z.2.2.1+1,z.2.2.2.1,z.2.2.2.2.1+1,0))
 | _=>pure (.done (some (xQ a b z.2.1 z.2.2.1 z.2.2.2.1),z.2.1,z.2.2.1,z.2.2.2.1,z.2.2.2.2.1,z.2.2.2.2.2))
def loC (m ac bc i:Nat) (o:Array Keyed) (j:Nat):SM (ForInStep S6):=do
 let x <- elem' a i
 if (i+1+1 == a.size)=true then pure (.done (some (IH a b (o.push x) (i+1) j),o.push x,i+1,j,m,ac,bc))
 else if (decide (ac<7) && decide (bc<7))=true then pure (.done (none,o.push x,i+1,j,m,ac,bc)) else pure (.yield (none,o.push x,i+1,j,m,ac,bc))
def loB (m ac bc j:Nat) (o:Array Keyed) (i:Nat):SM (ForInStep S6):=do
 let y <- elem' b j
 if (j+1 == b.size)=true then pure (.done (some (xQ a b (o.push y) i (j+1)),o.push y,i,j+1,m,ac,bc))
 else do
  let x <- elem' a i
  let r <- jN true x b (j+1) (b.size-(j+1)) 0
  match r with
  | some k =>
   if k > 0 then
    if (j+1+k == b.size)=true then pure (.done (some (xQ a b (o.push y++b.extract (j+1) (j+1+k)) i (j+1+k)),o.push y++b.extract (j+1) (j+1+k),i,j+1+k,m,ac,k))
    else loC a b m ac k i (o.push y++b.extract (j+1) (j+1+k)) (j+1+k)
   else loC a b m ac k i (o.push y) (j+1)
  | _=>pure (.done (some (xQ a b (o.push y) i (j+1)),o.push y,i,j+1,m,ac,bc))
def loA (o:Array Keyed) (i j ac bc m:Nat):SM (ForInStep S6):=do
 qY m
 let y <- elem' b j
 let r <- jN false y a i (a.size-i) 0
 match r with
 | some k =>
  if k > 0 then
   if (i+k+1 == a.size)=true then pure (.done (some (IH a b (o++a.extract i (i+k)) (i+k) j),o++a.extract i (i+k),i+k,j,m,k,bc))
   else if (i+k == a.size)=true then pure (.done (some (xQ a b (o++a.extract i (i+k)) (i+k) j),o++a.extract i (i+k),i+k,j,m,k,bc))
   else loB a b m k bc j (o++a.extract i (i+k)) (i+k)
  else loB a b m k bc j o i
 | _=>pure (.done (some (xQ a b o i j),o,i,j,m,ac,bc))
def lo2 (z:S6):SM (ForInStep S6) :=
 if z.2.2.2.2.1 > 1 then loA a b z.2.1 z.2.2.1 z.2.2.2.1 z.2.2.2.2.2.1 z.2.2.2.2.2.2 (z.2.2.2.2.1-1) else loA a b z.2.1 z.2.2.1 z.2.2.2.1 z.2.2.2.2.2.1 z.2.2.2.2.2.2 z.2.2.2.2.1
def lo3 (z:S4):SM (ForInStep S4):=do
 let y <- forIn [0:a.size+b.size] ((none,z.2.1,z.2.2.1,z.2.2.2.1,0,0):S5) λ_ y=>lo1 a b z.2.2.2.2 y
 match y.1 with
 | some r=>pure (.done (some r,y.2.1,y.2.2.1,y.2.2.2.1,z.2.2.2.2))
 | none=>do
  liftM (rule "list.sort.gallop")
  let u <- forIn [0:a.size+b.size] ((none,y.2.1,y.2.2.1,y.2.2.2.1,z.2.2.2.2+1,y.2.2.2.2.1,y.2.2.2.2.2):S6) λ_ u=>lo2 a b u
  match u.1 with
  | some r=>pure (.done (some r,u.2.1,u.2.2.1,u.2.2.2.1,u.2.2.2.2.1))
  | none=>do
   qY (u.2.2.2.2.1+1)
   pure (.yield (none,u.2.1,u.2.2.1,u.2.2.2.1,u.2.2.2.2.1+1))
theorem GY {α β:Type} {m m':SM α} {f f':α->SM β} (h1:m=m') (h2:∀ x,f x=f' x):(m >>= f)=(m' >>= f'):=by
 rw [h1,show f=f' from funext h2]
theorem CF:sG a b=(do
  liftM (rule "list.sort.merge-lo")
  let y <- elem' b 0
  if (1 == b.size)=true then pure (xQ a b #[y] 0 1)
  else if (0+1 == a.size)=true then pure (IH a b #[y] 0 1)
  else do
   let g <- get
   let z <- forIn [0:a.size+b.size] ((none,#[y],0,1,gallopOf g):S4) λ_ z=>lo3 a b z
   match z.1 with
   | some r=>pure r
   | none=>liftM (unsupported "internal:list.sort.merge-bound":Sem (Array Keyed))):=by
 rw [CG]
 refine GY rfl λ_=>?_
 show (elem' b 0 >>= _)=_
 refine GY rfl λy=>?_
 show (if (1 == b.size)=true then _ else _)=_
 split
 ·rfl
 show (if (0+1 == a.size)=true then _ else _)=_
 split
 ·rfl
 show (get >>= _)=_
 refine GY rfl λg=>?_
 refine GY ?_ λz=>?_
 ·show forIn [0:a.size+b.size] _ _=forIn [0:a.size+b.size] _ _
  congr 1
  funext _ z
  unfold lo3
  refine GY ?_ λy=>?_
  ·show forIn [0:a.size+b.size] _ _=forIn [0:a.size+b.size] _ _
   congr 1
  ·obtain ⟨r,y⟩:=y
   cases r with
   | some r=>rfl
   | none =>
    refine GY rfl λ_=>?_
    refine GY ?_ λu=>?_
    ·show forIn [0:a.size+b.size] _ _=forIn [0:a.size+b.size] _ _
     congr 1
    ·obtain ⟨r,u⟩:=u
     cases r<;>rfl
 ·obtain ⟨r,z⟩:=z
  cases r<;>rfl
end
end SS

namespace SS
open PySem PyProof.Rows
abbrev H5:=Option (Array Keyed)×Nat×Nat×Array Keyed×Nat×Nat
abbrev H6:=Option (Array Keyed)×Nat×Nat×Array Keyed×Nat×Nat×Nat
abbrev H4:=Option (Array Keyed)×Nat×Nat×Array Keyed×Nat
section
variable (a b:Array Keyed)
def xR (o:Array Keyed) (na nb:Nat):=a.extract 0 na++b.extract 0 nb++o.reverse
def IP (o:Array Keyed) (na nb:Nat):=b.extract 0 nb++a.extract 0 na++o.reverse
def hi1 (m:Nat) (z:H5):SM (ForInStep H5):=do
 let y <- elem' b (z.2.2.1-1)
 let x <- elem' a (z.2.1-1)
 let r <- lt' y x
 match r with
 | some w =>
  if w=true then do
   let x <- elem' a (z.2.1-1)
   if (z.2.1-1 == 0)=true then pure (.done (some (xR a b (z.2.2.2.1.push x) (z.2.1-1) z.2.2.1),z.2.1-1,z.2.2.1,z.2.2.2.1.push x,z.2.2.2.2.1+1,0))
   else if z.2.2.2.2.1+1 >= m then pure (.done (none,z.2.1-1,z.2.2.1,z.2.2.2.1.push x,z.2.2.2.2.1+1,0)) else pure (.yield (none,z.2.1-1,z.2.2.1,z.2.2.2.1.push x,z.2.2.2.2.1+1,0))
  else do
   let y <- elem' b (z.2.2.1-1)
   if (z.2.2.1-1 == 1)=true then pure (.done (some (IP a b (z.2.2.2.1.push y) z.2.1 (z.2.2.1-1)),z.2.1,z.2.2.1-1,z.2.2.2.1.push y,0,z.2.2.2.2.2+1))
   else if z.2.2.2.2.2+1 >= m then pure (.done (none,z.2.1,z.2.2.1-1,z.2.2.2.1.push y,0,z.2.2.2.2.2+1)) else pure (.yield (none,z.2.1,z.2.2.1-1,z.2.2.2.1.push y,0,z.2.2.2.2.2+1))
 | _=>pure (.done (some (xR a b z.2.2.2.1 z.2.1 z.2.2.1),z.2.1,z.2.2.1,z.2.2.2.1,z.2.2.2.2.1,z.2.2.2.2.2))
def hiC (m ac bc na:Nat) (o:Array Keyed) (nb:Nat):SM (ForInStep H6):=do
 let x <- elem' a (na-1)
 if (na-1 == 0)=true then pure (.done (some (xR a b (o.push x) (na-1) nb),na-1,nb,o.push x,m,ac,bc))
 else if (decide (ac<7) && decide (bc<7))=true then pure (.done (none,na-1,nb,o.push x,m,ac,bc)) else pure (.yield (none,na-1,nb,o.push x,m,ac,bc))
def hiB (m ac bc nb:Nat) (o:Array Keyed) (na:Nat):SM (ForInStep H6):=do
 let y <- elem' b (nb-1)
 if (nb-1 == 1)=true then pure (.done (some (IP a b (o.push y) na (nb-1)),na,nb-1,o.push y,m,ac,bc))
 else do
  let x <- elem' a (na-1)
  let r <- jN true x b 0 (nb-1) (nb-1-1)
  match r with
  | some p =>
   if nb-1-p > 0 then
    if (p == 1)=true then pure (.done (some (IP a b (o.push y++(b.extract p (nb-1)).reverse) na p),na,p,o.push y++(b.extract p (nb-1)).reverse,m,ac,nb-1-p))
    else if (p == 0)=true then pure (.done (some (xR a b (o.push y++(b.extract p (nb-1)).reverse) na p),na,p,o.push y++(b.extract p (nb-1)).reverse,m,ac,nb-1-p))
    else hiC a b m ac (nb-1-p) na (o.push y++(b.extract p (nb-1)).reverse) p
   else hiC a b m ac (nb-1-p) na (o.push y) (nb-1)
  | _=>pure (.done (some (xR a b (o.push y) na (nb-1)),na,nb-1,o.push y,m,ac,bc))
def hiA (o:Array Keyed) (na nb ac bc m:Nat):SM (ForInStep H6):=do
 qY m
 let y <- elem' b (nb-1)
 let r <- jN false y a 0 na (na-1)
 match r with
 | some p =>
  if na-p > 0 then
   if (p == 0)=true then pure (.done (some (xR a b (o++(a.extract p na).reverse) p nb),p,nb,o++(a.extract p na).reverse,m,na-p,bc))
   else hiB a b m (na-p) bc nb (o++(a.extract p na).reverse) p
  else hiB a b m (na-p) bc nb o na
 | _=>pure (.done (some (xR a b o na nb),na,nb,o,m,ac,bc))
def hi2 (z:H6):SM (ForInStep H6) :=
 if z.2.2.2.2.1 > 1 then hiA a b z.2.2.2.1 z.2.1 z.2.2.1 z.2.2.2.2.2.1 z.2.2.2.2.2.2 (z.2.2.2.2.1-1) else hiA a b z.2.2.2.1 z.2.1 z.2.2.1 z.2.2.2.2.2.1 z.2.2.2.2.2.2 z.2.2.2.2.1
def hi3 (z:H4):SM (ForInStep H4):=do
 let y <- forIn [0:a.size+b.size] ((none,z.2.1,z.2.2.1,z.2.2.2.1,0,0):H5) λ_ y=>hi1 a b z.2.2.2.2 y
 match y.1 with
 | some r=>pure (.done (some r,y.2.1,y.2.2.1,y.2.2.2.1,z.2.2.2.2))
 | none=>do
  liftM (rule "list.sort.gallop")
  let u <- forIn [0:a.size+b.size] ((none,y.2.1,y.2.2.1,y.2.2.2.1,z.2.2.2.2+1,y.2.2.2.2.1,y.2.2.2.2.2):H6) λ_ u=>hi2 a b u
  match u.1 with
  | some r=>pure (.done (some r,u.2.1,u.2.2.1,u.2.2.2.1,u.2.2.2.2.1))
  | none=>do
   qY (u.2.2.2.2.1+1)
   pure (.yield (none,u.2.1,u.2.2.1,u.2.2.2.1,u.2.2.2.2.1+1))
theorem CH:sI a b=(do
  liftM (rule "list.sort.merge-hi")
  let x <- elem' a (a.size-1)
  if (a.size-1 == 0)=true then pure (xR a b #[x] (a.size-1) b.size)
  else if (b.size == 1)=true then pure (IP a b #[x] (a.size-1) b.size)
  else do
   let g <- get
   let z <- forIn [0:a.size+b.size] ((none,a.size-1,b.size,#[x],gallopOf g):H4) λ_ z=>hi3 a b z
   match z.1 with
   | some r=>pure r
   | none=>liftM (unsupported "internal:list.sort.merge-bound":Sem (Array Keyed))):=by
 rw [CI]
 refine GY rfl λ_=>?_
 show (elem' a (a.size-1) >>= _)=_
 refine GY rfl λy=>?_
 show (if (a.size-1 == 0)=true then _ else _)=_
 split
 ·rfl
 show (if (b.size == 1)=true then _ else _)=_
 split
 ·rfl
 show (get >>= _)=_
 refine GY rfl λg=>?_
 refine GY ?_ λz=>?_
 ·show forIn [0:a.size+b.size] _ _=forIn [0:a.size+b.size] _ _
  congr 1
  funext _ z
  unfold hi3
  refine GY ?_ λy=>?_
  ·show forIn [0:a.size+b.size] _ _=forIn [0:a.size+b.size] _ _
   congr 1
  ·obtain ⟨r,y⟩:=y
   cases r with
   | some r=>rfl
   | none =>
    refine GY rfl λ_=>?_
    refine GY ?_ λu=>?_
    ·show forIn [0:a.size+b.size] _ _=forIn [0:a.size+b.size] _ _
     congr 1
    ·obtain ⟨r,u⟩:=u
     cases r<;>rfl
 ·obtain ⟨r,z⟩:=z
  cases r<;>rfl
end
def GE (x y:Keyed):Bool:=decide (numOf x.1<=numOf y.1)
theorem lG {a b:Array Keyed} {i j:Nat} (hi:i<a.size) (hj:j<b.size):GE a[i] b[j]=decide (K a i<=K b j):=by
 unfold GE;rw [K_eq hi,K_eq hj]
structure C9 (a b:Array Keyed):Prop where
 ia:IntKeys a
 ib:IntKeys b
 sa:∀ i j,i<=j->j<a.size->K a i<=K a j
 sb:∀ i j,i<=j->j<b.size->K b i<=K b j
 na:0<a.size
 nb:0<b.size
 last:∀ j,j<b.size->K b j<K a (a.size-1)
 first:∀ i,i<a.size->K b 0<K a i
structure rP (st z:SortSt):Prop where
 kind:kindOf z=kindOf st
 arr:arrOf z=arrOf st
 pend:pendingOf z=pendingOf st
 fail:failedOf z=failedOf st
section
variable {a b:Array Keyed}
abbrev Mg (a b:Array Keyed):List Keyed:=mg GE a.toList b.toList
theorem UF {i:Nat} (h:i<a.size):a.toList.drop i=a[i]::a.toList.drop (i+1):=by
 rw [A7 (by simpa using h)];simp
theorem kO {x:Keyed} {i:Nat} (h:x∈a.toList.drop i):∃ k,∃ (hk:k<a.size),i<=k/\x=a[k]:=by
 obtain ⟨k,hk,rfl⟩:=mQ h
 rw [cO] at hk
 have:i+k<a.size:=by simpa using (by omega:i+k<a.toList.length)
 exact ⟨i+k,this,by omega,by rw [uQ];simp⟩
theorem sJ {x:Keyed} {i n:Nat} (h:x∈(a.toList.drop i).take n):∃ k,∃ (hk:k<a.size),i<=k/\k<i+n/\x=a[k]:=by
 obtain ⟨k,hk,rfl⟩:=mQ h
 rw [bF,cO] at hk
 have:i+k<a.size:=by simpa using (by omega:i+k<a.toList.length)
 exact ⟨i+k,this,by omega,by omega,by rw [NK,uQ];simp⟩
theorem lN {i j:Nat} (h:i<=j):(a.extract i j).toList=(a.toList.drop i).take (j-i):=by
 rw [qV,nO]
def MI (a b:Array Keyed) (o:Array Keyed) (i j:Nat):Prop:=o.toList++mg GE (a.toList.drop i) (b.toList.drop j)=Mg a b
theorem MI.pb (t:C9 a b) {o:Array Keyed} {i j:Nat} (h:MI a b o i j) (hj:j<b.size) (c:∀ k,i<=k->k<a.size->K b j<K a k):MI a b (o.push b[j]) i (j+1):=by
 unfold MI at h |-
 rw [UF hj] at h
 have:=IE (le:=GE) (xs:=a.toList.drop i) (ys:=b.toList.drop (j+1)) (qs:=[b[j]]) λq hq x hx=>by
  obtain ⟨k,hk,h1,rfl⟩:=kO hx
  rw [dN] at hq
  subst hq
  rw [lG hk hj,decide_eq_false_iff_not]
  have:=c k h1 hk
  omega
 rw [E4] at this
 rw [this] at h
 rw [nQ,<- h]
 simp
theorem MI.pa (t:C9 a b) {o:Array Keyed} {i j:Nat} (h:MI a b o i j) (hi:i<a.size) (c:∀ k,j<=k->k<b.size->K a i<=K b k):MI a b (o.push a[i]) (i+1) j:=by
 unfold MI at h |-
 rw [UF hi] at h
 have:=IF (le:=GE) (xs:=a.toList.drop (i+1)) (ys:=b.toList.drop j) (ps:=[a[i]]) λq hq x hx=>by
  obtain ⟨k,hk,h1,rfl⟩:=kO hx
  rw [dN] at hq
  subst hq
  rw [lG hi hk,decide_eq_true_eq]
  exact c k h1 hk
 rw [E4] at this
 rw [this] at h
 rw [nQ,<- h]
 simp
theorem MI.as (t:C9 a b) {o:Array Keyed} {i j k:Nat} (h:MI a b o i j) (c:∀ p,i<=p->p<i+k->p<a.size->∀ q,j<=q->q<b.size->K a p<=K b q):MI a b (o++a.extract i (i+k)) (i+k) j:=by
 unfold MI at h |-
 have e:a.toList.drop i=(a.toList.drop i).take k++a.toList.drop (i+k):=by rw [<- zO,hE]
 rw [e,IF (λp hp' y hy=>?_)] at h
 ·rw [dG,lN (by omega),show i+k-i=k by omega,<- h]
  simp
 ·obtain ⟨p,hp,h1,h2,rfl⟩:=sJ hp'
  obtain ⟨q,hq,h3,rfl⟩:=kO hy
  rw [lG hp hq,decide_eq_true_eq]
  exact c p h1 h2 hp q h3 hq
theorem MI.bs (t:C9 a b) {o:Array Keyed} {i j k:Nat} (h:MI a b o i j) (c:∀ p,j<=p->p<j+k->p<b.size->∀ q,i<=q->q<a.size->K b p<K a q):MI a b (o++b.extract j (j+k)) i (j+k):=by
 unfold MI at h |-
 have e:b.toList.drop j=(b.toList.drop j).take k++b.toList.drop (j+k):=by rw [<- zO,hE]
 rw [e,IE (λp hp' y hy=>?_)] at h
 ·rw [dG,lN (by omega),show j+k-j=k by omega,<- h]
  simp
 ·obtain ⟨p,hp,h1,h2,rfl⟩:=sJ hp'
  obtain ⟨q,hq,h3,rfl⟩:=kO hy
  rw [lG hq hp,decide_eq_false_iff_not]
  have:=c p h1 h2 hp q h3 hq
  omega
theorem vK {i:Nat}:(a.extract i a.size).toList=a.toList.drop i:=by
 rw [qV,nO,dQ (by simp)]
theorem MI.dn {o:Array Keyed} {i j:Nat} (h:MI a b o i j) (hj:j=b.size):(xQ a b o i j).toList=Mg a b:=by
 unfold MI at h
 unfold xQ
 rw [dG,dG,vK,vK,<- h,show b.toList.drop j=[] from pN (by simp [hj]),jV,dY]
theorem MI.la (t:C9 a b) {o:Array Keyed} {i j:Nat} (h:MI a b o i j) (hi:i+1=a.size):(IH a b o i j).toList=Mg a b:=by
 unfold MI at h
 unfold IH
 have:=IE (le:=GE) (xs:=a.toList.drop i) (ys:=[]) (qs:=b.toList.drop j) λq hq x hx=>by
  obtain ⟨k,hk,h1,rfl⟩:=kO hx
  obtain ⟨l,hl,h3,rfl⟩:=kO hq
  rw [lG hk hl,decide_eq_false_iff_not]
  have:=t.last l hl
  rw [show a.size-1=k by omega] at this
  omega
 rw [dY,jV] at this
 rw [dG,dG,vK,vK,<- h,this,lC]
end
section
variable {prog:bY} {w:World} {A:Around} {E:Value->Shared->Prop} {s:Shared} {st:SortSt} {a b:Array Keyed}
theorem rP.refl:rP st st:=⟨rfl,rfl,rfl,rfl⟩
theorem rT {n:Nat} {z:SortSt} {Q:Unit->SortSt->Prop} (g:rP st z) (h:∀ z',rP st z'->Q () z'):wpS (model prog w) A E s (qY n) Q z:=by
 rw [KR]
 exact wpS_modify (h _ ⟨g.kind,g.arr,g.pend,g.fail⟩)
structure Pl (a b o:Array Keyed) (i j:Nat):Prop where
 hi:i+1<a.size
 hj:j<b.size
 mi:MI a b o i j
def O5 (a b:Array Keyed) (st:SortSt) (n:Nat) (c:S5) (z:SortSt):Prop:=rP st z/\match c.1 with | some r=>r.toList=Mg a b | none=>Pl a b c.2.1 c.2.2.1 c.2.2.2.1/\n<=c.2.2.1+c.2.2.2.1
def O6 (a b:Array Keyed) (st:SortSt) (n:Nat) (c:S6) (z:SortSt):Prop:=rP st z/\match c.1 with | some r=>r.toList=Mg a b | none=>Pl a b c.2.1 c.2.2.1 c.2.2.2.1/\n<=c.2.2.1+c.2.2.2.1
theorem NZ (t:C9 a b) (hk:kindOf st=oneType') {m n:Nat} {c:S5} {z:SortSt} (g:rP st z) (p:Pl a b c.2.1 c.2.2.1 c.2.2.2.1) (hn:n<=c.2.2.1+c.2.2.2.1) :
  wpS (model prog w) A E s (lo1 a b m c) (λr z'=>match r with | .done c'=>O5 a b st (n+1) c' z' | .yield c'=>rP st z'/\c'.1=none/\Pl a b c'.2.1 c'.2.2.1 c'.2.2.2.1/\n+1<=c'.2.2.1+c'.2.2.2.1) z:=by
 obtain ⟨r0,o,i,j,ac,bc⟩:=c
 dsimp only at p hn
 have h1:=p.hi
 have h2:=p.hj
 unfold lo1
 dsimp only
 refine wpS_bind (eW h2 (wpS_bind (eW (by omega) ?_)))
 obtain ⟨t1,e1⟩:=lT t.ib h2
 obtain ⟨t2,e2⟩:=lT t.ia (show i<a.size by omega)
 refine wpS_bind (vA (g.kind.trans hk) e1 e2 ?_)
 by_cases hl:K b j<K a i
 ·simp only [hl,decide_true,if_true]
  refine wpS_bind (eW h2 ?_)
  have mi:=p.mi.pb t h2 λk k1 k2=>nM hl (t.sa i k k1 k2)
  split
  ·rename_i e
   exact wpS_pure ⟨g,mi.dn (by simpa using e)⟩
  ·rename_i e
   have e':j+1≠b.size:=by simpa using e
   have pl:Pl a b (o.push b[j]) i (j+1):=⟨h1,by omega,mi⟩
   split
   ·exact wpS_pure ⟨g,pl,by dsimp only;omega⟩
   ·exact wpS_pure ⟨g,rfl,pl,by dsimp only;omega⟩
 ·simp only [hl,decide_false,cL,if_false]
  refine wpS_bind (eW (show i<a.size by omega) ?_)
  have mi:=p.mi.pa t (by omega) λk k1 k2=>iK (aD7.mp hl) (t.sb j k k1 k2)
  split
  ·rename_i e
   exact wpS_pure ⟨g,mi.la t (by simpa using e)⟩
  ·rename_i e
   have e':i+1+1≠a.size:=by simpa using e
   have pl:Pl a b (o.push a[i]) (i+1) j:=⟨by omega,h2,mi⟩
   split
   ·exact wpS_pure ⟨g,pl,by dsimp only;omega⟩
   ·exact wpS_pure ⟨g,rfl,pl,by dsimp only;omega⟩
def R6 (a b:Array Keyed) (st:SortSt) (n:Nat) (r:ForInStep S6) (z':SortSt):Prop:=match r with | .done c'=>O6 a b st n c' z' | .yield c'=>rP st z'/\c'.1=none/\Pl a b c'.2.1 c'.2.2.1 c'.2.2.2.1/\n<=c'.2.2.1+c'.2.2.2.1
theorem E7 (t:C9 a b) {m ac bc n i j:Nat} {o:Array Keyed} {z:SortSt} (g:rP st z) (p:Pl a b o i j) (hn:n<=i+j) (c:K a i<=K b j):wpS (model prog w) A E s (loC a b m ac bc i o j) (R6 a b st n) z:=by
 have h1:=p.hi
 have h2:=p.hj
 unfold loC
 refine wpS_bind (eW (show i<a.size by omega) ?_)
 have mi:=p.mi.pa t (by omega) λk k1 k2=>iK c (t.sb j k k1 k2)
 split
 ·rename_i e
  exact wpS_pure ⟨g,mi.la t (by simpa using e)⟩
 ·rename_i e
  have e':i+1+1≠a.size:=by simpa using e
  have pl:Pl a b (o.push a[i]) (i+1) j:=⟨by omega,h2,mi⟩
  split
  ·exact wpS_pure ⟨g,pl,by dsimp only;omega⟩
  ·exact wpS_pure ⟨g,rfl,pl,by dsimp only;omega⟩
theorem E8 (t:C9 a b) (hk:kindOf st=oneType') {m ac bc n i j:Nat} {o:Array Keyed} {z:SortSt} (g:rP st z) (p:Pl a b o i j) (hn:n<=i+j) (c:K b j<K a i):wpS (model prog w) A E s (loB a b m ac bc j o i) (R6 a b st n) z:=by
 have h1:=p.hi
 have h2:=p.hj
 unfold loB
 refine wpS_bind (eW h2 ?_)
 have mi:=p.mi.pb t h2 λk k1 k2=>nM c (t.sa i k k1 k2)
 split
 ·rename_i e
  exact wpS_pure ⟨g,mi.dn (by simpa using e)⟩
 ·rename_i e
  have e':j+1≠b.size:=by simpa using e
  have pl:Pl a b (o.push b[j]) i (j+1):=⟨h1,by omega,mi⟩
  refine wpS_bind (eW (show i<a.size by omega) ?_)
  obtain ⟨t2,e2⟩:=lT t.ia (show i<a.size by omega)
  refine wpS_bind (lD (g.kind.trans hk) t.ib e2 (by omega) (by omega) (λx y _ y1 y2=>t.sb x y y1 (by omega)) λk k1 k2 k3=>?_)
  have c2:∀ q,j+1<=q->q<j+1+k->K b q<K a i:=λq q1 q2=>by
   have:=k2 (q-(j+1)) (by omega)
   unfold Bd at this
   rw [if_pos rfl,decide_eq_true_eq,show j+1+(q-(j+1))=q by omega] at this
   exact this
  have c3:j+1+k<b.size->K a i<=K b (j+1+k):=λq=>by
   have:=k3 k (aL _) (by omega)
   unfold Bd at this
   rw [if_pos rfl,decide_eq_false_iff_not] at this
   omega
  dsimp only
  split
  ·have mi2:=mi.bs t (k:=k) λq q1 q2 _ x x1 x2=>nM (c2 q q1 q2) (t.sa i x x1 x2)
   split
   ·rename_i e3
    exact wpS_pure ⟨g,mi2.dn (by simpa using e3)⟩
   ·rename_i e3
    have e4:j+1+k≠b.size:=by simpa using e3
    exact E7 t g ⟨h1,by omega,mi2⟩ (by omega) (c3 (by omega))
  ·rename_i e3
   have e4:k=0:=by omega
   subst e4
   exact E7 t g pl (by omega) (c3 (by omega))
theorem E9 (t:C9 a b) (hk:kindOf st=oneType') {m ac bc n i j:Nat} {o:Array Keyed} {z:SortSt} (g:rP st z) (p:Pl a b o i j) (hn:n<=i+j):wpS (model prog w) A E s (loA a b o i j ac bc m) (R6 a b st n) z:=by
 have h1:=p.hi
 have h2:=p.hj
 unfold loA
 refine wpS_bind (rT g λz' g'=>?_)
 refine wpS_bind (eW h2 ?_)
 obtain ⟨t2,e2⟩:=lT t.ib h2
 refine wpS_bind (lD (g'.kind.trans hk) t.ia e2 (by omega) (by omega) (λx y _ y1 y2=>t.sa x y y1 (by omega)) λk k1 k2 k3=>?_)
 have c2:∀ q,i<=q->q<i+k->K a q<=K b j:=λq q1 q2=>by
  have:=k2 (q-i) (by omega)
  unfold Bd at this
  rw [if_neg (by simp),oJ,decide_eq_false_iff_not,show i+(q-i)=q by omega] at this
  omega
 have c3:i+k<a.size->K b j<K a (i+k):=λq=>by
  have:=k3 k (aL _) (by omega)
  unfold Bd at this
  rw [if_neg (by simp),sX,decide_eq_true_eq] at this
  exact this
 have c4:i+k<a.size:=by
  by_cases q:i+k<a.size
  ·exact q
  ·have:=c2 (a.size-1) (by omega) (by omega)
   have:=t.last j h2
   omega
 dsimp only
 split
 ·have mi2:=p.mi.as t (k:=k) λq q1 q2 _ x x1 x2=>iK (c2 q q1 q2) (t.sb j x x1 x2)
  split
  ·rename_i e3
   exact wpS_pure ⟨g',mi2.la t (by simpa using e3)⟩
  ·rename_i e3
   have e4:i+k+1≠a.size:=by simpa using e3
   rw [if_neg (by simp;omega)]
   exact E8 t hk g' ⟨by omega,h2,mi2⟩ (by omega) (c3 c4)
 ·rename_i e3
  have e4:k=0:=by omega
  subst e4
  exact E8 t hk g' p hn (c3 c4)
theorem BF (t:C9 a b) (hk:kindOf st=oneType') {Q:Array Keyed->SortSt->Prop} (h:∀ r z,r.toList=Mg a b->rP st z->Q r z):wpS (model prog w) A E s (sG a b) Q st:=by
 have na:=t.na
 have nb:=t.nb
 rw [CF]
 refine wpS_bind (wpS_lift (wpAny_rule ⟨rfl,?_⟩))
 refine wpS_bind (eW nb ?_)
 have m0:MI a b #[] 0 0:=by unfold MI;simp
 have mi:=m0.pb t nb λk _ k2=>t.first k k2
 have eo:(#[]:Array Keyed).push b[0]=#[b[0]]:=rfl
 rw [eo] at mi
 split
 ·rename_i e
  exact wpS_pure (h _ _ (mi.dn (by simpa using e)) .refl)
 rename_i e
 have e':1≠b.size:=by simpa using e
 split
 ·rename_i e2
  exact wpS_pure (h _ _ (mi.la t (by simpa using e2)) .refl)
 rename_i e2
 have e2':0+1≠a.size:=by simpa using e2
 refine wpS_bind (wpS_get ?_)
 refine wpS_bind (wpS_mono (wpS_forRange (I:=λx c z=>rP st z/\c.1=none/\Pl a b c.2.1 c.2.2.1 c.2.2.2.1/\x<=c.2.2.1+c.2.2.2.1)
  (Q:=λc z=>rP st z/\∃ r,c.1=some r/\r.toList=Mg a b) ?step ?fin ⟨.refl,rfl,⟨by dsimp only;omega,by dsimp only;omega,mi⟩,cC _⟩) ?post)
 case post =>
  rintro ⟨c,d⟩ z ⟨g,r,e3,e4⟩
  dsimp only at e3
  subst e3
  exact wpS_pure (h _ _ e4 g)
 case fin =>
  rintro c z ⟨g,_,p,q⟩
  have:=p.hi
  have:=p.hj
  omega
 case step =>
  rintro x ⟨c0,o,i,j,m⟩ z _ hx ⟨g,e3,p,q⟩
  dsimp only at e3 p q
  subst e3
  unfold lo3
  dsimp only
  refine wpS_bind (wpS_mono (wpS_forRange (I:=λy c z=>rP st z/\c.1=none/\Pl a b c.2.1 c.2.2.1 c.2.2.2.1/\x+y<=c.2.2.1+c.2.2.2.1)
   (Q:=λc z=>O5 a b st (x+1) c z) ?_ ?_ ⟨g,rfl,p,q⟩) ?_)
  ·rintro y c z' _ _ ⟨g',e4,p',q'⟩
   refine wpS_mono (NZ t hk g' p' q') λr z2 hr=>?_
   cases r with
   | done c' =>
    obtain ⟨g2,hr⟩:=hr
    refine ⟨g2,?_⟩
    cases e5:c'.1 with
    | some r=>rw [e5] at hr;exact hr
    | none=>rw [e5] at hr;exact ⟨hr.1,by have:=hr.2;omega⟩
   | yield c'=>exact hr
  ·rintro c z' ⟨g',e4,p',q'⟩
   refine ⟨g',?_⟩
   rw [e4]
   exact ⟨p',by omega⟩
  ·rintro ⟨c0,o1,i1,j1,ac,bc⟩ z1 ⟨g1,h1⟩
   cases c0 with
   | some r=>exact wpS_pure ⟨g1,r,rfl,h1⟩
   | none =>
    obtain ⟨p1,q1⟩:=h1
    dsimp only at p1 q1 |-
    refine wpS_bind (wpS_lift (wpAny_rule ⟨rfl,?_⟩))
    refine wpS_bind (wpS_mono (wpS_forRange (I:=λy c z=>rP st z/\c.1=none/\Pl a b c.2.1 c.2.2.1 c.2.2.2.1/\x+1<=c.2.2.1+c.2.2.2.1)
     (Q:=λc z=>O6 a b st (x+1) c z) ?_ ?_ ⟨g1,rfl,p1,q1⟩) ?_)
    ·rintro y ⟨c0,o,i,j,m,ac,bc⟩ z' _ _ ⟨g',e4,p',q'⟩
     unfold lo2
     dsimp only at p' q' |-
     split
     ·exact wpS_mono (E9 t hk g' p' q') λr z2 hr=>by cases r<;>exact hr
     ·exact wpS_mono (E9 t hk g' p' q') λr z2 hr=>by cases r<;>exact hr
    ·rintro c z' ⟨g',e4,p',q'⟩
     refine ⟨g',?_⟩
     rw [e4]
     exact ⟨p',q'⟩
    ·rintro ⟨c0,o2,i2,j2,m2,ac2,bc2⟩ z2 ⟨g2,h2⟩
     cases c0 with
     | some r=>exact wpS_pure ⟨g2,r,rfl,h2⟩
     | none=>exact wpS_bind (rT g2 λz3 g3=>wpS_pure ⟨g3,rfl,h2.1,h2.2⟩)
end
end SS

namespace SS
open PySem PyProof.Rows
section
variable {a b:Array Keyed}
theorem Q6 {n:Nat} (h:n<a.size):a.toList.take (n+1)=a.toList.take n++[a[n]]:=by
 rw [cS,aB (by simpa using h)];simp
theorem oW {x:Keyed} {n:Nat} (h:x∈a.toList.take n):∃ k,∃ (hk:k<a.size),k<n/\x=a[k]:=by
 obtain ⟨k,hk,rfl⟩:=mQ h
 rw [bF] at hk
 have:k<a.size:=by simpa using (by omega:k<a.toList.length)
 exact ⟨k,this,by omega,by rw [NK];simp⟩
theorem QE {n:Nat}:(a.extract 0 n).toList=a.toList.take n:=by
 rw [lN (cC _)];simp
def MJ (a b:Array Keyed) (o:Array Keyed) (na nb:Nat):Prop:=mg GE (a.toList.take na) (b.toList.take nb)++o.toList.reverse=Mg a b
theorem MJ.pa {o:Array Keyed} {na nb:Nat} (h:MJ a b o (na+1) nb) (hi:na<a.size) (c:∀ k,k<nb->k<b.size->K b k<K a na):MJ a b (o.push a[na]) na nb:=by
 unfold MJ at h |-
 rw [Q6 hi,PU _ (aL _) λe he z hz=>?_] at h
 ·rw [nQ,<- h];simp
 ·obtain ⟨k,hk,h1,rfl⟩:=oW he
  rw [dN] at hz
  subst hz
  rw [lG hi hk,decide_eq_false_iff_not]
  have:=c k h1 hk
  omega
theorem MJ.pb {o:Array Keyed} {na nb:Nat} (h:MJ a b o na (nb+1)) (hj:nb<b.size) (c:∀ k,k<na->k<a.size->K a k<=K b nb):MJ a b (o.push b[nb]) na nb:=by
 unfold MJ at h |-
 rw [Q6 hj,L1 _ (aL _) λe he z hz=>?_] at h
 ·rw [nQ,<- h];simp
 ·obtain ⟨k,hk,h1,rfl⟩:=oW he
  rw [dN] at hz
  subst hz
  rw [lG hk hj,decide_eq_true_eq]
  exact c k h1 hk
theorem vT {p n:Nat} (h:p<=n):a.toList.take n=a.toList.take p++(a.toList.drop p).take (n-p):=by
 have:n=p+(n-p):=by omega
 conv=>lhs;rw [this]
 rw [List.take_add]
theorem MJ.as {o:Array Keyed} {na nb p:Nat} (h:MJ a b o na nb) (hp:p<=na) (c:∀ x,p<=x->x<na->x<a.size->∀ k,k<nb->k<b.size->K b k<K a x):MJ a b (o++(a.extract p na).reverse) p nb:=by
 unfold MJ at h |-
 rw [vT hp,PU _ (aL _) λe he z hz=>?_] at h
 ·rw [dG,lZ,lN hp,<- h];simp
 ·obtain ⟨k,hk,h1,rfl⟩:=oW he
  obtain ⟨x,hx,x1,x2,rfl⟩:=sJ hz
  rw [lG hx hk,decide_eq_false_iff_not]
  have:=c x x1 (by omega) hx k h1 hk
  omega
theorem MJ.bs {o:Array Keyed} {na nb p:Nat} (h:MJ a b o na nb) (hp:p<=nb) (c:∀ x,p<=x->x<nb->x<b.size->∀ k,k<na->k<a.size->K a k<=K b x):MJ a b (o++(b.extract p nb).reverse) na p:=by
 unfold MJ at h |-
 rw [vT hp,L1 _ (aL _) λe he z hz=>?_] at h
 ·rw [dG,lZ,lN hp,<- h];simp
 ·obtain ⟨k,hk,h1,rfl⟩:=oW he
  obtain ⟨x,hx,x1,x2,rfl⟩:=sJ hz
  rw [lG hk hx,decide_eq_true_eq]
  exact c x x1 (by omega) hx k h1 hk
theorem MJ.dn {o:Array Keyed} {na nb:Nat} (h:MJ a b o na nb) (hn:na=0):(xR a b o na nb).toList=Mg a b:=by
 unfold MJ at h
 unfold xR
 subst hn
 rw [dG,dG,lZ,QE,QE,<- h]
 simp [kN]
theorem MJ.fb (t:C9 a b) {o:Array Keyed} {na nb:Nat} (h:MJ a b o na nb) (hn:nb=1):(IP a b o na nb).toList=Mg a b:=by
 unfold MJ at h
 unfold IP
 have:=IE (le:=GE) (xs:=a.toList.take na) (ys:=[]) (qs:=b.toList.take nb) λq hq x hx=>by
  obtain ⟨k,hk,h1,rfl⟩:=oW hx
  obtain ⟨l,hl,h3,rfl⟩:=oW hq
  rw [lG hk hl,decide_eq_false_iff_not]
  have:=t.first k hk
  rw [show l=0 by omega]
  omega
 rw [dY,jV] at this
 rw [dG,dG,lZ,QE,QE,<- h,this]
end
section
variable {prog:bY} {w:World} {A:Around} {E:Value->Shared->Prop} {s:Shared} {st:SortSt} {a b:Array Keyed}
structure Pr (a b o:Array Keyed) (na nb:Nat):Prop where
 h1:1<=na
 h2:na<=a.size
 h3:2<=nb
 h4:nb<=b.size
 mi:MJ a b o na nb
def P5 (a b:Array Keyed) (st:SortSt) (n:Nat) (c:H5) (z:SortSt):Prop:=rP st z/\match c.1 with | some r=>r.toList=Mg a b | none=>Pr a b c.2.2.2.1 c.2.1 c.2.2.1/\c.2.1+c.2.2.1<=n
def P6 (a b:Array Keyed) (st:SortSt) (n:Nat) (c:H6) (z:SortSt):Prop:=rP st z/\match c.1 with | some r=>r.toList=Mg a b | none=>Pr a b c.2.2.2.1 c.2.1 c.2.2.1/\c.2.1+c.2.2.1<=n
theorem N0 (t:C9 a b) (hk:kindOf st=oneType') {m n:Nat} {c:H5} {z:SortSt} (g:rP st z) (p:Pr a b c.2.2.2.1 c.2.1 c.2.2.1) (hn:c.2.1+c.2.2.1<=n+1) :
  wpS (model prog w) A E s (hi1 a b m c) (λr z'=>match r with | .done c'=>P5 a b st n c' z' | .yield c'=>rP st z'/\c'.1=none/\Pr a b c'.2.2.2.1 c'.2.1 c'.2.2.1/\c'.2.1+c'.2.2.1<=n) z:=by
 obtain ⟨r0,na,nb,o,ac,bc⟩:=c
 dsimp only at p hn
 obtain ⟨i,rfl⟩:∃ i,na=i+1:=⟨na-1,by have:=p.h1;omega⟩
 obtain ⟨j,rfl⟩:∃ j,nb=j+1:=⟨nb-1,by have:=p.h3;omega⟩
 have hi:i<a.size:=p.h2
 have hj:j<b.size:=p.h4
 have h3:=p.h3
 unfold hi1
 dsimp only
 simp only [uD]
 refine wpS_bind (eW hj (wpS_bind (eW hi ?_)))
 obtain ⟨t1,e1⟩:=lT t.ib hj
 obtain ⟨t2,e2⟩:=lT t.ia hi
 refine wpS_bind (vA (g.kind.trans hk) e1 e2 ?_)
 by_cases hl:K b j<K a i
 ·simp only [hl,decide_true,if_true]
  refine wpS_bind (eW hi ?_)
  have mi:=p.mi.pa hi λk k1 k2=>uE (t.sb k j (by omega) hj) hl
  split
  ·rename_i e
   exact wpS_pure ⟨g,mi.dn (by simpa using e)⟩
  ·rename_i e
   have e':i≠0:=by simpa using e
   have pl:Pr a b (o.push a[i]) i (j+1):=⟨by omega,by omega,h3,p.h4,mi⟩
   split
   ·exact wpS_pure ⟨g,pl,by dsimp only;omega⟩
   ·exact wpS_pure ⟨g,rfl,pl,by dsimp only;omega⟩
 ·simp only [hl,decide_false,cL,if_false]
  refine wpS_bind (eW hj ?_)
  have mi:=p.mi.pb hj λk k1 k2=>iK (t.sa k i (by omega) hi) (aD7.mp hl)
  split
  ·rename_i e
   exact wpS_pure ⟨g,mi.fb t (by simpa using e)⟩
  ·rename_i e
   have e':j≠1:=by simpa using e
   have pl:Pr a b (o.push b[j]) (i+1) j:=⟨by omega,by omega,by omega,by omega,mi⟩
   split
   ·exact wpS_pure ⟨g,pl,by dsimp only;omega⟩
   ·exact wpS_pure ⟨g,rfl,pl,by dsimp only;omega⟩
def T6 (a b:Array Keyed) (st:SortSt) (n:Nat) (r:ForInStep H6) (z':SortSt):Prop:=match r with | .done c'=>P6 a b st n c' z' | .yield c'=>rP st z'/\c'.1=none/\Pr a b c'.2.2.2.1 c'.2.1 c'.2.2.1/\c'.2.1+c'.2.2.1<=n
theorem FB (t:C9 a b) {m ac bc n na nb:Nat} {o:Array Keyed} {z:SortSt} (g:rP st z) (p:Pr a b o na nb) (hn:na+nb<=n) (c:K b (nb-1)<K a (na-1)):wpS (model prog w) A E s (hiC a b m ac bc na o nb) (T6 a b st n) z:=by
 obtain ⟨i,rfl⟩:∃ i,na=i+1:=⟨na-1,by have:=p.h1;omega⟩
 have hi:i<a.size:=p.h2
 have h3:=p.h3
 have h4:=p.h4
 unfold hiC
 simp only [uD] at c |-
 refine wpS_bind (eW hi ?_)
 have mi:=p.mi.pa hi λk k1 k2=>uE (t.sb k (nb-1) (by omega) (by omega)) c
 split
 ·rename_i e
  exact wpS_pure ⟨g,mi.dn (by simpa using e)⟩
 ·rename_i e
  have e':i≠0:=by simpa using e
  have pl:Pr a b (o.push a[i]) i nb:=⟨by omega,by omega,h3,h4,mi⟩
  split
  ·exact wpS_pure ⟨g,pl,by dsimp only;omega⟩
  ·exact wpS_pure ⟨g,rfl,pl,by dsimp only;omega⟩
theorem FC (t:C9 a b) (hk:kindOf st=oneType') {m ac bc n na nb:Nat} {o:Array Keyed} {z:SortSt} (g:rP st z) (p:Pr a b o na nb) (hn:na+nb<=n) (c:K a (na-1)<=K b (nb-1)):wpS (model prog w) A E s (hiB a b m ac bc nb o na) (T6 a b st n) z:=by
 obtain ⟨j,rfl⟩:∃ j,nb=j+1:=⟨nb-1,by have:=p.h3;omega⟩
 have hj:j<b.size:=p.h4
 have h1:=p.h1
 have h2:=p.h2
 have h3:=p.h3
 unfold hiB
 simp only [uD] at c |-
 refine wpS_bind (eW hj ?_)
 have mi:=p.mi.pb hj λk k1 k2=>iK (t.sa k (na-1) (by omega) (by omega)) c
 split
 ·rename_i e
  exact wpS_pure ⟨g,mi.fb t (by simpa using e)⟩
 ·rename_i e
  have e':j≠1:=by simpa using e
  refine wpS_bind (eW (show na-1<a.size by omega) ?_)
  obtain ⟨t2,e2⟩:=lT t.ia (show na-1<a.size by omega)
  refine wpS_bind (lD (g.kind.trans hk) t.ib e2 (by omega) (by omega) (λx y _ y1 y2=>t.sb x y y1 (by omega)) λk k1 k2 k3=>?_)
  have c2:∀ q,q<k->K b q<K a (na-1):=λq q1=>by
   have:=k2 q q1
   unfold Bd at this
   rw [if_pos rfl,decide_eq_true_eq,gH] at this
   exact this
  have c3:∀ q,k<=q->q<j->K a (na-1)<=K b q:=λq q1 q2=>by
   have:=k3 q q1 q2
   unfold Bd at this
   rw [if_pos rfl,decide_eq_false_iff_not,gH] at this
   omega
  have c4:1<=k:=by
   by_cases q:1<=k
   ·exact q
   ·have:=c3 0 (by omega) (by omega)
    have:=t.first (na-1) (by omega)
    omega
  dsimp only
  split
  ·have mi2:=mi.bs k1 λx x1 x2 _ y y1 y2=>iK (t.sa y (na-1) (by omega) (by omega)) (c3 x x1 x2)
   split
   ·rename_i e3
    exact wpS_pure ⟨g,mi2.fb t (by simpa using e3)⟩
   ·rename_i e3
    have e4:k≠1:=by simpa using e3
    rw [if_neg (by simp;omega)]
    exact FB t g ⟨h1,h2,by omega,by omega,mi2⟩ (by omega) (c2 (k-1) (by omega))
  ·rename_i e3
   have e4:k=j:=by omega
   subst e4
   exact FB t g ⟨h1,h2,by omega,by omega,mi⟩ (by omega) (c2 (k-1) (by omega))
theorem FD (t:C9 a b) (hk:kindOf st=oneType') {m ac bc n na nb:Nat} {o:Array Keyed} {z:SortSt} (g:rP st z) (p:Pr a b o na nb) (hn:na+nb<=n):wpS (model prog w) A E s (hiA a b o na nb ac bc m) (T6 a b st n) z:=by
 have h1:=p.h1
 have h2:=p.h2
 have h3:=p.h3
 have h4:=p.h4
 unfold hiA
 refine wpS_bind (rT g λz' g'=>?_)
 refine wpS_bind (eW (show nb-1<b.size by omega) ?_)
 obtain ⟨t2,e2⟩:=lT t.ib (show nb-1<b.size by omega)
 refine wpS_bind (lD (g'.kind.trans hk) t.ia e2 (by omega) (by omega) (λx y _ y1 y2=>t.sa x y y1 (by omega)) λk k1 k2 k3=>?_)
 have c2:∀ q,q<k->K a q<=K b (nb-1):=λq q1=>by
  have:=k2 q q1
  unfold Bd at this
  rw [if_neg (by simp),oJ,decide_eq_false_iff_not,gH] at this
  omega
 have c3:∀ q,k<=q->q<na->K b (nb-1)<K a q:=λq q1 q2=>by
  have:=k3 q q1 q2
  unfold Bd at this
  rw [if_neg (by simp),sX,decide_eq_true_eq,gH] at this
  exact this
 dsimp only
 split
 ·have mi2:=p.mi.as k1 λx x1 x2 _ y y1 y2=>uE (t.sb y (nb-1) (by omega) (by omega)) (c3 x x1 x2)
  split
  ·rename_i e3
   exact wpS_pure ⟨g',mi2.dn (by simpa using e3)⟩
  ·rename_i e3
   have e4:k≠0:=by simpa using e3
   exact FC t hk g' ⟨by omega,by omega,h3,h4,mi2⟩ (by omega) (c2 (k-1) (by omega))
 ·rename_i e3
  have e4:k=na:=by omega
  subst e4
  exact FC t hk g' p hn (c2 (k-1) (by omega))
theorem BG (t:C9 a b) (hk:kindOf st=oneType') {Q:Array Keyed->SortSt->Prop} (h:∀ r z,r.toList=Mg a b->rP st z->Q r z):wpS (model prog w) A E s (sI a b) Q st:=by
 have na:=t.na
 have nb:=t.nb
 rw [CH]
 refine wpS_bind (wpS_lift (wpAny_rule ⟨rfl,?_⟩))
 refine wpS_bind (eW (show a.size-1<a.size by omega) ?_)
 have m0:MJ a b #[] (a.size-1+1) b.size:=by
  unfold MJ
  rw [show a.size-1+1=a.size by omega,dQ (by simp),dQ (by simp)];simp
 have mi:=m0.pa (show a.size-1<a.size by omega) λk _ k2=>t.last k k2
 have eo:(#[]:Array Keyed).push a[a.size-1]=#[a[a.size-1]]:=rfl
 rw [eo] at mi
 split
 ·rename_i e
  exact wpS_pure (h _ _ (mi.dn (by simpa using e)) .refl)
 rename_i e
 have e':a.size-1≠0:=by simpa using e
 split
 ·rename_i e2
  exact wpS_pure (h _ _ (mi.fb t (by simpa using e2)) .refl)
 rename_i e2
 have e2':b.size≠1:=by simpa using e2
 refine wpS_bind (wpS_get ?_)
 refine wpS_bind (wpS_mono (wpS_forRange (I:=λx c z=>rP st z/\c.1=none/\Pr a b c.2.2.2.1 c.2.1 c.2.2.1/\c.2.1+c.2.2.1+x<=a.size+b.size)
  (Q:=λc z=>rP st z/\∃ r,c.1=some r/\r.toList=Mg a b) ?step ?fin ⟨.refl,rfl,⟨by dsimp only;omega,by dsimp only;omega,by dsimp only;omega,aL _,mi⟩,by dsimp only;omega⟩) ?post)
 case post =>
  rintro ⟨c,d⟩ z ⟨g,r,e3,e4⟩
  dsimp only at e3
  subst e3
  exact wpS_pure (h _ _ e4 g)
 case fin =>
  rintro c z ⟨g,_,p,q⟩
  have:=p.h1
  have:=p.h3
  omega
 case step =>
  rintro x ⟨c0,i,j,o,m⟩ z _ hx ⟨g,e3,p,q⟩
  dsimp only at e3 p q
  subst e3
  unfold hi3
  dsimp only
  have p1:=p.h1
  have p3:=p.h3
  refine wpS_bind (wpS_mono (wpS_forRange (I:=λy c z=>rP st z/\c.1=none/\Pr a b c.2.2.2.1 c.2.1 c.2.2.1/\c.2.1+c.2.2.1+x+y<=a.size+b.size)
   (Q:=λc z=>P5 a b st (a.size+b.size-(x+1)) c z) ?_ ?_ ⟨g,rfl,p,q⟩) ?_)
  ·rintro y c z' _ _ ⟨g',e4,p',q'⟩
   have p1:=p'.h1
   refine wpS_mono (N0 (n:=c.2.1+c.2.2.1-1) t hk g' p' (by omega)) λr z2 hr=>?_
   cases r with
   | done c' =>
    obtain ⟨g2,hr⟩:=hr
    refine ⟨g2,?_⟩
    cases e5:c'.1 with
    | some r=>rw [e5] at hr;exact hr
    | none=>rw [e5] at hr;exact ⟨hr.1,by have:=hr.2;omega⟩
   | yield c'=>exact ⟨hr.1,hr.2.1,hr.2.2.1,by have:=hr.2.2.2;omega⟩
  ·rintro c z' ⟨g',e4,p',q'⟩
   have:=p'.h1
   have:=p'.h3
   omega
  ·rintro ⟨c0,i1,j1,o1,ac,bc⟩ z1 ⟨g1,h1⟩
   cases c0 with
   | some r=>exact wpS_pure ⟨g1,r,rfl,h1⟩
   | none =>
    obtain ⟨p1,q1⟩:=h1
    dsimp only at p1 q1 |-
    refine wpS_bind (wpS_lift (wpAny_rule ⟨rfl,?_⟩))
    refine wpS_bind (wpS_mono (wpS_forRange (I:=λy c z=>rP st z/\c.1=none/\Pr a b c.2.2.2.1 c.2.1 c.2.2.1/\c.2.1+c.2.2.1<=a.size+b.size-(x+1))
     (Q:=λc z=>P6 a b st (a.size+b.size-(x+1)) c z) ?_ ?_ ⟨g1,rfl,p1,q1⟩) ?_)
    ·rintro y ⟨c0,i,j,o,m,ac,bc⟩ z' _ _ ⟨g',e4,p',q'⟩
     unfold hi2
     dsimp only at p' q' |-
     split
     ·exact wpS_mono (FD t hk g' p' q') λr z2 hr=>by cases r<;>exact hr
     ·exact wpS_mono (FD t hk g' p' q') λr z2 hr=>by cases r<;>exact hr
    ·rintro c z' ⟨g',e4,p',q'⟩
     refine ⟨g',?_⟩
     rw [e4]
     exact ⟨p',q'⟩
    ·rintro ⟨c0,i2,j2,o2,m2,ac2,bc2⟩ z2 ⟨g2,h2⟩
     cases c0 with
     | some r=>exact wpS_pure ⟨g2,r,rfl,h2⟩
     | none =>
      obtain ⟨h2a,h2b⟩:=h2
      dsimp only at h2b
      exact wpS_bind (rT g2 λz3 g3=>wpS_pure ⟨g3,rfl,h2a,by dsimp only;omega⟩)
end
theorem CJ (i:Nat):mergeAt' i=(do
 let z <- get
 let (some (sa,na,pw),some (sb,nb,_)):=((pendingOf z)[i]?,(pendingOf z)[i+1]?) | unsupported "internal:list.sort.pending"
 set (SortSt.mk' (kindOf z) (arrOf z) (((pendingOf z).setIfInBounds i (sa,na+nb,pw)).eraseIdxIfInBounds (i+1)) (gallopOf z) (failedOf z))
 let some k <- jN false (<- elem' (arrOf z) sb) (arrOf z) sa na 0 | return false
 let (sa,na):=(sa+k,na-k)
 if na == 0 then return true
 let some nb <- jN true (<- elem' (arrOf z) (sa+na-1)) (arrOf z) sb nb (nb-1) | return false
 if nb == 0 then return true
 let x:=(arrOf z).extract sa sb
 let y:=(arrOf z).extract sb (sb+nb)
 let r <- if na<=nb then sG x y else sI x y
 modify λu=>SortSt.mk' (kindOf u) (r.toList.zipIdx.foldl (λa (p,j)=>a.setIfInBounds (sa+j) p) (arrOf u)) (pendingOf u) (gallopOf u) (failedOf u)
 return (failedOf (<- get)).isNone):=rfl
theorem B2 (s:Nat):∀ (l:List Keyed) (k:Nat) (ar:Array Keyed),s+k+l.length<=ar.size ->
  ((l.zipIdx k).foldl (λa (x:Keyed×Nat)=>match x with | (p,j)=>a.setIfInBounds (s+j) p) ar).size=ar.size /\
  ∀ q:Nat,((l.zipIdx k).foldl (λa (x:Keyed×Nat)=>match x with | (p,j)=>a.setIfInBounds (s+j) p) ar)[q]?=if s+k<=q/\q<s+k+l.length then l[q-(s+k)]? else ar[q]?
 | [],k,ar,_=>⟨rfl,λq=>by rw [if_neg (by simp only [Q3];omega)];rfl⟩
 | x::l,k,ar,h=>by
  simp only [bI] at h |-
  rw [List.zipIdx_cons,qH]
  dsimp only
  obtain ⟨h1,h2⟩:=B2 s l (k+1) (ar.setIfInBounds (s+k) x) (by rw [BB];omega)
  refine ⟨h1.trans (BB ..),λq=>?_⟩
  refine (h2 q).trans ?_
  by_cases c1:s+(k+1)<=q/\q<s+(k+1)+l.length
  ·rw [if_pos c1,if_pos (by omega),show q-(s+k)=q-(s+(k+1))+1 by omega,pK]
  ·rw [if_neg c1,Array.getElem?_setIfInBounds]
   by_cases c2:s+k=q
   ·rw [if_pos c2,if_pos (by omega),if_pos (by omega),show q-(s+k)=0 by omega];rfl
   ·rw [if_neg c2,if_neg (by omega)]
theorem HJ {s:Nat} {l:List Keyed} {ar:Array Keyed} (h:s+l.length<=ar.size) :
  (l.zipIdx.foldl (λa (x:Keyed×Nat)=>match x with | (p,j)=>a.setIfInBounds (s+j) p) ar).toList=ar.toList.take s++l++ar.toList.drop (s+l.length):=by
 obtain ⟨h1,h2⟩:=B2 s l 0 ar (by omega)
 apply fG
 intro q
 rw [fU,h2 q]
 have hs:(ar.toList.take s).length=s:=by rw [bF];simp;omega
 by_cases c1:q<s
 ·rw [if_neg (by omega),lC,dD (by omega),BE c1,fU]
 ·by_cases c2:q<s+l.length
  ·rw [if_pos (by omega),dD (by rw [bA];omega),dJ (by omega),hs];rfl
  ·rw [if_neg (by omega),dJ (by rw [bA];omega),jB,fU]
   congr 1
   rw [bA,hs];omega
section
variable {prog:bY} {w:World} {A:Around} {E:Value->Shared->Prop} {s:Shared} {st:SortSt}
theorem UI {ar:Array Keyed} {p q i:Nat} (h:p+i<q) (hq:q<=ar.size):K (ar.extract p q) i=K ar (p+i):=by
 apply K_congr
 rw [Array.getElem?_extract,if_pos (by omega)]
theorem GG {ar:Array Keyed} {p q:Nat} (h:IntKeys ar):IntKeys (ar.extract p q):=λx hx=>by
 refine h x ?_
 rw [qV,nO] at hx
 exact iF (dS hx)
structure Mgd (st z:SortSt) (n1 n pw:Nat):Prop where
 arr:(arrOf z).toList=mg GE ((arrOf st).toList.take n1) ((arrOf st).toList.drop n1)
 fail:failedOf z=none
 pend:pendingOf z=#[(0,n,pw)]
theorem BH {n1 n pw:Nat} {Q:Bool->SortSt->Prop} (hk:kindOf st=oneType') (hf:failedOf st=none) (h0:IntKeys (arrOf st)) (hn:(arrOf st).size=n) (h1:1<=n1) (h2:n1<n) (hp:pendingOf st=#[(0,n1,pw),(n1,n-n1,0)])
  (s1:∀ i j,i<=j->j<n1->K (arrOf st) i<=K (arrOf st) j) (s2:∀ i j,n1<=i->i<=j->j<n->K (arrOf st) i<=K (arrOf st) j) (h:∀ z,Mgd st z n1 n pw->Q true z):wpS (model prog w) A E s (mergeAt' 0) Q st:=by
 rw [CJ]
 refine wpS_bind (wpS_get ?_)
 rw [hp]
 show wpS _ _ _ _ (set _ >>= _) _ _
 have el:#[(0,n1,pw),(n1,n-n1,0)].setIfInBounds 0 (0,n1+(n-n1),pw)=#[(0,n,pw),(n1,n-n1,0)]:=by
  rw [show n1+(n-n1)=n by omega];rfl
 have el2:((#[(0,n1,pw),(n1,n-n1,0)]:Array (Nat×Nat×Nat)).setIfInBounds 0 (0,n1+(n-n1),pw)).eraseIdxIfInBounds 1=#[(0,n,pw)]:=by
  rw [el];simp [Array.eraseIdxIfInBounds]
 unfold wpS at *
 show wpAny _ _ (StateT.run _ _) _ _ _
 rw [StateT.run_bind,StateT.run_set]
 refine aV (bM ?_)
 show wpS (model prog w) A E s _ Q _
 dsimp only
 rw [el2]
 have cat:∀ i j,i<n1->n1<=j->j<n->True:=λ_ _ _ _ _=>trivial
 have tk:∀ x∈(arrOf st).toList.take n1,∃ k,∃ (hk:k<(arrOf st).size),k<n1/\x=(arrOf st)[k]:=λx hx=>oW hx
 have flat:(∀ i j,i<n1->n1<=j->j<n->K (arrOf st) i<=K (arrOf st) j)->(arrOf st).toList=mg GE ((arrOf st).toList.take n1) ((arrOf st).toList.drop n1):=λc=>by
  have:=IF (le:=GE) (xs:=[]) (ys:=(arrOf st).toList.drop n1) (ps:=(arrOf st).toList.take n1) λp hp y hy=>by
   obtain ⟨i,hi,i1,rfl⟩:=oW hp
   obtain ⟨j,hj,j1,rfl⟩:=kO hy
   rw [lG hi hj,decide_eq_true_eq]
   exact c i j i1 j1 (by omega)
  rw [dY,kN,hE] at this
  exact this.symm
 refine wpS_bind (eW (by omega) ?_)
 obtain ⟨t1,e1⟩:=lT h0 (show n1<(arrOf st).size by omega)
 refine wpS_bind (lD hk h0 e1 (by omega) (by omega) (λx y _ y1 y2=>s1 x y y1 (by omega)) λk k1 k2 k3=>?_)
 have c2:∀ i,i<k->K (arrOf st) i<=K (arrOf st) n1:=λi i1=>by
  have:=k2 i i1
  unfold Bd at this
  rw [if_neg (by simp),oJ,decide_eq_false_iff_not,gH] at this
  omega
 have c3:∀ i,k<=i->i<n1->K (arrOf st) n1<K (arrOf st) i:=λi i1 i2=>by
  have:=k3 i i1 i2
  unfold Bd at this
  rw [if_neg (by simp),sX,decide_eq_true_eq,gH] at this
  exact this
 dsimp only
 by_cases z1:(n1-k == 0)=true
 ·rw [if_pos z1]
  have z1':n1-k=0:=by simpa using z1
  exact wpS_pure (h _ ⟨flat λi j i1 j1 j2=>iK (c2 i (by omega)) (s2 n1 j (aL _) j1 j2),hf,rfl⟩)
 ·rw [if_neg z1]
  have z1':n1-k≠0:=by simpa using z1
  have ep:0+k+(n1-k)-1=n1-1:=by omega
  rw [ep]
  refine wpS_bind (eW (show n1-1<(arrOf st).size by omega) ?_)
  obtain ⟨t2,e2⟩:=lT h0 (show n1-1<(arrOf st).size by omega)
  refine wpS_bind (lD hk h0 e2 (by omega) (by omega) (λx y x1 y1 y2=>s2 x y x1 y1 (by omega)) λm m1 m2 m3=>?_)
  have d2:∀ j,n1<=j->j<n1+m->K (arrOf st) j<K (arrOf st) (n1-1):=λj j1 j2=>by
   have:=m2 (j-n1) (by omega)
   unfold Bd at this
   rw [if_pos rfl,decide_eq_true_eq,show n1+(j-n1)=j by omega] at this
   exact this
  have d3:∀ j,n1+m<=j->j<n->K (arrOf st) (n1-1)<=K (arrOf st) j:=λj j1 j2=>by
   have:=m3 (j-n1) (by omega) (by omega)
   unfold Bd at this
   rw [if_pos rfl,decide_eq_false_iff_not,show n1+(j-n1)=j by omega] at this
   omega
  dsimp only
  by_cases z2:(m == 0)=true
  ·rw [if_pos z2]
   have z2':m=0:=by simpa using z2
   exact wpS_pure (h _ ⟨flat λi j i1 j1 j2=>iK (s1 i (n1-1) (by omega) (by omega)) (d3 j (by omega) j2),hf,rfl⟩)
  ·rw [if_neg z2]
   have z2':m≠0:=by simpa using z2
   have sx:((arrOf st).extract (0+k) n1).size=n1-k:=by rw [JM];omega
   have sy:((arrOf st).extract n1 (n1+m)).size=m:=by rw [JM];omega
   have kx:∀ i,i<n1-k->K ((arrOf st).extract (0+k) n1) i=K (arrOf st) (k+i):=λi hi=>by rw [UI (by omega) (by omega)];congr 1;omega
   have ky:∀ i,i<m->K ((arrOf st).extract n1 (n1+m)) i=K (arrOf st) (n1+i):=λi hi=>UI (by omega) (by omega)
   have t:C9 ((arrOf st).extract (0+k) n1) ((arrOf st).extract n1 (n1+m)):=by
    refine ⟨GG h0,GG h0,λi j i1 j1=>?_,λi j i1 j1=>?_,by omega,by omega,λj j1=>?_,λi i1=>?_⟩
    ·rw [sx] at j1;rw [kx i (by omega),kx j (by omega)];exact s1 _ _ (by omega) (by omega)
    ·rw [sy] at j1;rw [ky i (by omega),ky j (by omega)];exact s2 _ _ (by omega) (by omega) (by omega)
    ·rw [sy] at j1;rw [sx,ky j j1,kx _ (by omega),show k+(n1-k-1)=n1-1 by omega];exact d2 _ (by omega) (by omega)
    ·rw [sx] at i1;rw [ky 0 (by omega),kx i i1];exact c3 _ (by omega) (by omega)
   have fin:∀ (r:Array Keyed) (z:SortSt),r.toList=Mg ((arrOf st).extract (0+k) n1) ((arrOf st).extract n1 (n1+m))->rP (SortSt.mk' (kindOf st) (arrOf st) #[(0,n,pw)] (gallopOf st) (failedOf st)) z ->
     wpS (model prog w) A E s (do
      modify λu=>SortSt.mk' (kindOf u) (r.toList.zipIdx.foldl (λa (x:Keyed×Nat)=>match x with | (p,j)=>a.setIfInBounds (0+k+j) p) (arrOf u)) (pendingOf u) (gallopOf u) (failedOf u)
      let u <- get
      pure (failedOf u).isNone) Q z:=λr z hr g=>by
    refine wpS_bind (wpS_modify (wpS_bind (wpS_get ?_)))
    have gf:failedOf z=none:=g.fail.trans hf
    show wpS _ _ _ _ (pure (failedOf z).isNone) _ _
    rw [gf]
    refine wpS_pure (h _ ⟨?_,(by first | exact gf | rfl),g.pend⟩)
    show (r.toList.zipIdx.foldl _ (arrOf z)).toList=_
    rw [show arrOf z=arrOf st from g.arr]
    have lx:((arrOf st).extract (0+k) n1).toList.length=n1-k:=by simp only [eO];exact sx
    have ly:((arrOf st).extract n1 (n1+m)).toList.length=m:=by simp only [eO];exact sy
    have lr:r.toList.length=n1-k+m:=by rw [hr];show (zL _ _ _).length=_;rw [NJ,lx,ly]
    rw [HJ (by rw [lr];omega),lr,show 0+k+(n1-k+m)=n1+m by omega,hr,gH]
    have ex:(arrOf st).toList.take n1=(arrOf st).toList.take k++((arrOf st).extract (0+k) n1).toList:=by
     rw [vT k1,lN (by omega),gH]
    have ey:(arrOf st).toList.drop n1=((arrOf st).extract n1 (n1+m)).toList++(arrOf st).toList.drop (n1+m):=by
     rw [lN (by omega),show n1+m-n1=m by omega,<- zO,hE]
    rw [ex,IF λp hp y hy=>?_,ey,L1 _ (aL _) λp hp y hy=>?_]
    ·simp only [gH,lC]
    ·rw [lN (by omega)] at hp
     obtain ⟨i,hi,i1,i2,rfl⟩:=sJ hp
     obtain ⟨j,hj,j1,rfl⟩:=kO hy
     rw [lG hi hj,decide_eq_true_eq]
     exact iK (s1 i (n1-1) (by omega) (by omega)) (d3 j j1 (by omega))
    ·obtain ⟨i,hi,i1,rfl⟩:=oW hp
     obtain ⟨j,hj,j1,rfl⟩:=kO hy
     rw [lG hi hj,decide_eq_true_eq]
     exact iK (c2 i i1) (s2 n1 j (aL _) j1 (by omega))
   by_cases z3:n1-k<=m
   ·rw [if_pos z3]
    exact wpS_bind (BF (st:=SortSt.mk' (kindOf st) (arrOf st) #[(0,n,pw)] (gallopOf st) (failedOf st)) t hk λr z hr g=>fin r z hr g)
   ·rw [if_neg z3]
    exact wpS_bind (BG (st:=SortSt.mk' (kindOf st) (arrOf st) #[(0,n,pw)] (gallopOf st) (failedOf st)) t hk λr z hr g=>fin r z hr g)
end
end SS

namespace SS
open PySem PyProof.Rows
structure xW (n:Nat) (ky:Nat->Int) (J:List Nat):Prop where
 ord:J.Pairwise λi j=>ky i<ky j\/(ky i=ky j/\i<j)
 lt:∀ i∈J,i<n
 len:J.length=n
theorem L0 {α:Type} {le:α->α->Bool} {R:α->α->Prop} (tr:∀ a b c,R a b->R b c->R a c):∀ (n:Nat) {xs ys:List α},xs.length+ys.length<=n->xs.Pairwise R->ys.Pairwise R ->
  (∀ x∈xs,∀ y∈ys,(le x y=true->R x y)/\(le x y=false->R y x))->(mg le xs ys).Pairwise R
 | n,[],ys,_,_,h2,_=>by rw [kN];exact h2
 | n,x::xs,[],_,h1,_,_=>by rw [jV];exact h1
 | 0,x::xs,y::ys,hn,_,_,_=>by simp at hn
 | n+1,x::xs,y::ys,hn,h1,h2,h=>by
  simp only [bI] at hn
  obtain ⟨a1,a2⟩:=kG.mp h1
  obtain ⟨b1,b2⟩:=kG.mp h2
  have hxy:=h x (aM ..) y (aM ..)
  rw [mF]
  cases hl:le x y with
  | true =>
   rw [if_pos rfl,kG]
   refine ⟨λz hz=>?_,L0 tr n (by simp only [bI];omega) a2 h2 λu hu v hv=>h u (aK _ hu) v hv⟩
   rcases zM.mp hz with hz | hz
   ·exact a1 z hz
   ·rcases aZ.mp hz with rfl | hz
    ·exact hxy.1 hl
    ·exact tr _ _ _ (hxy.1 hl) (b1 z hz)
  | false =>
   rw [if_neg (by simp),kG]
   refine ⟨λz hz=>?_,L0 tr n (by simp only [bI];omega) h1 b2 λu hu v hv=>h u hu v (aK _ hv)⟩
   rcases zM.mp hz with hz | hz
   ·rcases aZ.mp hz with rfl | hz
    ·exact hxy.2 hl
    ·exact tr _ _ _ (hxy.2 hl) (a1 z hz)
   ·exact b1 z hz
def fa (a0:Array Keyed) (i:Nat):Keyed:=(a0[i]?).getD (.none,.none)
theorem aBc {a0:Array Keyed} {i:Nat} (h:i<a0.size):numOf (fa a0 i).1=K a0 i:=by
 unfold fa
 rw [K_eq h,getElem?_pos a0 i h];rfl
section
variable {prog:bY} {w:World} {A:Around} {E:Value->Shared->Prop} {s:Shared} {a0:Array Keyed} {g:Nat->Nat} {pd:Array (Nat×Nat×Nat)} {st:SortSt}
theorem GS.list (h:GS a0 g pd st):(arrOf st).toList=((bX a0.size).map g).map (fa a0):=by
 apply fG
 intro q
 rw [fU,bD,aJ]
 by_cases hq:q<a0.size
 ·rw [h.get q hq,gS hq]
  show _=some (fa a0 (g q))
  unfold fa
  rw [getElem?_pos a0 _ (h.rng q hq)];rfl
 ·rw [eJ (by simp;omega),DH (by rw [h.size];omega)];rfl
theorem GS.keys (h:GS a0 g pd st) (h0:IntKeys a0):IntKeys (arrOf st):=λp hp=>by
 rw [h.list,bD] at hp
 obtain ⟨i,hi,rfl⟩:=bC.mp hp
 rw [gY] at hi
 refine h0 _ ?_
 show fa a0 (g i)∈_
 unfold fa
 rw [getElem?_pos a0 _ (h.rng i hi)]
 simp
theorem GS.K (h:GS a0 g pd st) {p:Nat} (hp:p<a0.size):K (arrOf st) p=K a0 (g p):=K_congr (h.get p hp)
theorem OF (hB:GS a0 g pd st) (hs:Sd a0 g 0 a0.size):xW a0.size (K a0) ((bX a0.size).map g) where
 ord:=by
  rw [iB]
  intro i j hi hj hij
  simp only [aC,eG] at hi hj
  simp only [vM,sW]
  exact hs i j (cC _) hij hj
 lt:=λi hi=>by
  obtain ⟨p,hp,rfl⟩:=bC.mp hi
  exact hB.rng p (gY.mp hp)
 len:=by simp
theorem aAk {a0:Array Keyed}:∀ a b c,Lx a0 a b->Lx a0 b c->Lx a0 a c:=λa b c h1 h2=>by
 unfold Lx at *;omega
theorem FR {n m:Nat} {g:Nat->Nat} (h:m<=n):((bX n).map g).take m=(bX m).map g:=by
 rw [<- lY,Q1,kF h]
theorem CK {n m x:Nat} {g:Nat->Nat} (h:x∈((bX n).map g).drop m):∃ p,m<=p/\p<n/\x=g p:=by
 obtain ⟨k,hk,rfl⟩:=mQ h
 simp only [cO,aC,eG] at hk
 exact ⟨m+k,by omega,by omega,by simp⟩
theorem OE {z:SortSt} {m pw:Nat} (hB:GS a0 g pd st) (hm:m<=a0.size) (s1:Sd a0 g 0 m) (i1:In g 0 m) (s2:Sd a0 g m a0.size) (i2:In g m a0.size) (d:Mgd st z m a0.size pw) :
  ∃ J,(arrOf z).toList=J.map (fa a0)/\xW a0.size (K a0) J:=by
 refine ⟨mg (λi j=>GE (fa a0 i) (fa a0 j)) (((bX a0.size).map g).take m) (((bX a0.size).map g).drop m),?_,?_,λi hi=>?_,?_⟩
 ·rw [d.arr,hB.list,<- lY,<- oO]
  exact EB _ (aL _) λ_ _ _ _=>rfl
 ·refine L0 (R:=Lx a0) aAk _ (aL _) ?_ ?_ λx hx y hy=>?_
  ·rw [FR hm,iB]
   intro i j hi hj hij
   simp only [aC,eG] at hi hj
   simp only [vM,sW]
   exact s1 i j (cC _) hij hj
  ·rw [iB]
   intro i j hi hj hij
   simp only [cO,aC,eG] at hi hj
   simp only [uQ,vM,sW]
   exact s2 _ _ (by omega) (by omega) (by omega)
  ·rw [FR hm] at hx
   obtain ⟨p,hp,rfl⟩:=bC.mp hx
   rw [gY] at hp
   obtain ⟨q,q1,q2,rfl⟩:=CK hy
   have a1:=(i1 p (cC _) hp).2
   have a2:=i2 q q1 q2
   unfold GE
   rw [aBc (by omega),aBc (by omega)]
   unfold Lx
   constructor
   ·intro e;rw [decide_eq_true_eq] at e;omega
   ·intro e;rw [decide_eq_false_iff_not] at e;omega
 ·rcases zM.mp hi with hi | hi
  ·obtain ⟨p,hp,rfl⟩:=bC.mp (dS hi)
   exact hB.rng p (gY.mp hp)
  ·obtain ⟨p,hp,rfl⟩:=bC.mp (iF hi)
   exact hB.rng p (gY.mp hp)
 ·show (zL _ _ _).length=_
  rw [NJ,bF,cO,aC,eG];omega
theorem ID {n:Nat} (h:n<128) (h2:2<=n):n<=2*minRun' n n 0/\(n<64->minRun' n n 0=n):=by
 obtain ⟨f,rfl⟩:∃ f,n=f+2:=⟨n-2,by omega⟩
 rw [show f+2=(f+1)+1 by omega,minRun'_succ]
 by_cases c:f+1+1<64
 ·rw [if_pos c];omega
 ·rw [if_neg c,minRun'_succ,if_pos (by omega)];omega
def End (a0:Array Keyed) (st:SortSt):Prop:=(∃ g,GS a0 g #[(0,a0.size,0)] st/\Sd a0 g 0 a0.size) \/
 ∃ g m pw,1<=m/\m<a0.size/\GS a0 g #[(0,m,pw),(m,a0.size-m,0)] st/\Sd a0 g 0 m/\In g 0 m/\Sd a0 g m a0.size/\In g m a0.size
theorem GS.setP (h:GS a0 g pd st) (q:Array (Nat×Nat×Nat)):GS a0 g q (setPending st q):=⟨h.size,h.get,h.rng,h.kind,h.fail,rfl⟩
theorem J9 {Q:Unit->SortSt->Prop} (h0:IntKeys a0) (hB:GS a0 (λp=>p) #[] st) (h2:2<=a0.size) (h128:a0.size<128)
  (h:∀ st' J,failedOf st'=none->(arrOf st').toList=J.map (fa a0)->xW a0.size (K a0) J->Q () st'):wpS (model prog w) A E s sortRuns' Q st:=by
 obtain ⟨mr,_⟩:=ID h128 h2
 rw [sortRuns'_eq]
 refine wpS_bind (wpS_get ?_)
 dsimp only
 simp only [hB.size]
 generalize minRun' a0.size a0.size 0=mn at mr
 refine wpS_bind (wpS_mono (wpS_forRange
  (I:=λx c z=>(x=0/\c=(none,0)/\GS a0 (λp=>p) #[] z)\/(1<=x/\∃ m g,c=(none,m)/\mn<=m/\m<a0.size/\1<=m/\GS a0 g #[(0,m,0)] z/\Rn a0 (λp=>p) g 0 m/\x=1)\/(1<=x/\c=(none,a0.size)/\End a0 z))
  (Q:=λc z=>c=(none,a0.size)/\End a0 z) ?step ?fin (.inl ⟨rfl,rfl,hB⟩)) ?post)
 case fin =>
  rintro c z (⟨hx,_,_⟩ | ⟨_,m,g,_,_,_,_,_,_,hx⟩ | ⟨_,hc,hD⟩)
  ·omega
  ·omega
  ·exact ⟨hc,hD⟩
 case step =>
  rintro x c z _ hx (⟨rfl,rfl,hB'⟩ | ⟨x1,m,g,rfl,m1,m2,m3,hB',hr,rfl⟩ | ⟨x1,rfl,hD⟩)
  ·dsimp only
   rw [if_neg (by omega)]
   simp only [EZ,gH]
   have next:∀ (m:Nat) (g':Nat->Nat) (z':SortSt),GS a0 g' #[] z'->1<=m->m<=a0.size->mn<=m\/m=a0.size->Rn a0 (λp=>p) g' 0 m ->
     (1=0/\((none,m):Option Unit×Nat)=(none,0)/\GS a0 (λp=>p) #[] (setPending z' ((pendingOf z').push (0,m,0)))) \/
     (1<=1/\∃ m' g,((none,m):Option Unit×Nat)=(none,m')/\mn<=m'/\m'<a0.size/\1<=m'/\GS a0 g #[(0,m',0)] (setPending z' ((pendingOf z').push (0,m,0)))/\Rn a0 (λp=>p) g 0 m'/\True) \/
     (1<=1/\((none,m):Option Unit×Nat)=(none,a0.size)/\End a0 (setPending z' ((pendingOf z').push (0,m,0)))):=λm g' z' b1 b2 b3 b4 r=>by
    have eb:=b1.setP #[(0,m,0)]
    rw [show (pendingOf z').push (0,m,0)=#[(0,m,0)] by rw [b1.pend];rfl]
    by_cases e:m=a0.size
    ·subst e
     refine .inr (.inr ⟨by omega,rfl,.inl ⟨g',eb,?_⟩⟩)
     have:=r.sd
     rwa [gH] at this
    ·exact .inr (.inl ⟨by omega,m,g',rfl,by omega,by omega,b2,eb,r,trivial⟩)
   refine wpS_bind (vO h0 (by omega) (by omega) hB' (g0:=λp=>p) (λp a=>rfl) (λp a=>rfl) λm g' z' b1 b2 b3 r=>?_)
   dsimp only
   by_cases hlt:m<mn
   ·rw [if_pos hlt]
    refine wpS_bind (wpS_lift (wpAny_rule ⟨rfl,?_⟩))
    refine wpS_bind (BJ h0 (by omega) (by omega) b2 b1 r λg2 z2 c1 r2=>?_)
    simp only [sV,cL,if_false]
    refine wpS_bind (wpS_get ?_)
    rw [show (pendingOf z2).back?=none by rw [c1.pend];rfl]
    dsimp only
    exact wpS_bind (wpS_modify (wpS_pure (next _ g2 z2 c1 (by omega) (by omega) (by omega) r2)))
   ·rw [if_neg hlt]
    refine wpS_bind (wpS_get ?_)
    rw [show (pendingOf z').back?=none by rw [b1.pend];rfl]
    dsimp only
    exact wpS_bind (wpS_modify (wpS_pure (next _ g' z' b1 b2 b3 (by omega) r)))
  ·dsimp only
   rw [if_neg (by omega)]
   refine wpS_bind (vO h0 (by omega) (by omega) hB' (g0:=g) (λp a=>rfl) (λp a=>hr.aft p (by omega)) λf g' z' b1 b2 b3 r=>?_)
   dsimp only
   by_cases hlt:f<mn
   ·rw [if_pos hlt]
    refine wpS_bind (wpS_lift (wpAny_rule ⟨rfl,?_⟩))
    refine wpS_bind (BJ h0 (by omega) (by omega) b2 b1 r λg2 z2 c1 r2=>?_)
    rw [if_neg (by simp)]
    refine wpS_bind (wpS_get ?_)
    rw [show (pendingOf z2).back?=some (0,m,0) by rw [c1.pend];rfl]
    dsimp only
    refine wpS_bind (wpS_mono (wpS_forRange (I:=λ_ c y=>y=z2/\c=(none,())) (Q:=λc y=>y=z2/\c=(none,())) ?_ (λ_ _ hh=>hh) ⟨rfl,rfl⟩) ?_)
    ·rintro y c y2 _ _ ⟨rfl,rfl⟩
     refine wpS_bind (wpS_get ?_)
     rw [c1.pend]
     exact wpS_pure ⟨rfl,rfl⟩
    ·rintro c y2 ⟨rfl,rfl⟩
     dsimp only
     have hn:(min (a0.size-m) mn)=a0.size-m:=by omega
     refine wpS_bind (wpS_modify (wpS_bind (wpS_modify (wpS_pure (.inr (.inr ⟨by omega,by rw [show m+(min (a0.size-m) mn)=a0.size by omega],.inr ⟨g2,m,power' a0.size (2*0+m) (2*0+m+m+(min (a0.size-m) mn)) a0.size,m3,m2,⟨c1.size,c1.get,c1.rng,c1.kind,c1.fail,?_⟩,?_,?_,?_,?_⟩⟩))))))
     ·show ((pendingOf y2).modify ((pendingOf y2).size-1) _).push _=_
      rw [c1.pend,hn]
      simp [XY,UM]
     ·intro p q a b c
      rw [r2.bef p (by omega),r2.bef q (by omega)]
      exact hr.sd p q a b (by omega)
     ·intro p a b
      rw [r2.bef p (by omega)]
      have:=hr.inn p a (by omega)
      omega
     ·have:=r2.sd
      rwa [show m+(min (a0.size-m) mn)=a0.size by omega] at this
     ·have:=r2.inn
      rwa [show m+(min (a0.size-m) mn)=a0.size by omega] at this
   ·rw [if_neg hlt]
    refine wpS_bind (wpS_get ?_)
    rw [show (pendingOf z').back?=some (0,m,0) by rw [b1.pend];rfl]
    dsimp only
    refine wpS_bind (wpS_mono (wpS_forRange (I:=λ_ c y=>y=z'/\c=(none,())) (Q:=λc y=>y=z'/\c=(none,())) ?_ (λ_ _ hh=>hh) ⟨rfl,rfl⟩) ?_)
    ·rintro y c y2 _ _ ⟨rfl,rfl⟩
     refine wpS_bind (wpS_get ?_)
     rw [b1.pend]
     exact wpS_pure ⟨rfl,rfl⟩
    ·rintro c y2 ⟨rfl,rfl⟩
     dsimp only
     have hn:f=a0.size-m:=by omega
     refine wpS_bind (wpS_modify (wpS_bind (wpS_modify (wpS_pure (.inr (.inr ⟨by omega,by rw [show m+f=a0.size by omega],.inr ⟨g',m,power' a0.size (2*0+m) (2*0+m+m+f) a0.size,m3,m2,⟨b1.size,b1.get,b1.rng,b1.kind,b1.fail,?_⟩,?_,?_,?_,?_⟩⟩))))))
     ·show ((pendingOf y2).modify ((pendingOf y2).size-1) _).push _=_
      rw [b1.pend,hn]
      simp [XY,UM]
     ·intro p q a b c
      rw [r.bef p (by omega),r.bef q (by omega)]
      exact hr.sd p q a b (by omega)
     ·intro p a b
      rw [r.bef p (by omega)]
      have:=hr.inn p a (by omega)
      omega
     ·have:=r.sd
      rwa [show m+f=a0.size by omega] at this
     ·have:=r.inn
      rwa [show m+f=a0.size by omega] at this
  ·dsimp only
   rw [if_pos (aL _)]
   exact wpS_pure ⟨rfl,hD⟩
 case post =>
  rintro c z ⟨rfl,hD⟩
  dsimp only
  refine wpS_bind (wpS_mono (wpS_forRange (I:=λx c y=>c=(none,())/\((x=0/\y=z)\/(1<=x/\(pendingOf y).size=1/\failedOf y=none/\∃ J,(arrOf y).toList=J.map (fa a0)/\xW a0.size (K a0) J)))
   (Q:=λc y=>c=(none,())/\failedOf y=none/\∃ J,(arrOf y).toList=J.map (fa a0)/\xW a0.size (K a0) J) ?_ ?_ ⟨rfl,.inl ⟨rfl,rfl⟩⟩) ?_)
  ·rintro x c y _ _ ⟨rfl,⟨rfl,rfl⟩ | ⟨x1,e1,e2,e3⟩⟩
   ·refine wpS_bind (wpS_get ?_)
    rcases hD with ⟨g,b1,sd⟩ | ⟨g,m,pw,m1,m2,b1,s1,i1,s2,i2⟩
    ·rw [if_pos (by rw [b1.pend];exact aL 1)]
     exact wpS_pure ⟨rfl,b1.fail,_,b1.list,OF b1 sd⟩
    ·rw [b1.pend]
     show wpS _ _ _ _ (do
      let r <- mergeAt' 0
      if (!r)=true then pure (ForInStep.done (some (),())) else pure (ForInStep.yield (none,()))) _ _
     have le:∀ i j lo hi,Sd a0 g lo hi->lo<=i->i<=j->j<hi->hi<=a0.size->K (arrOf y) i<=K (arrOf y) j:=λi j lo hi sd a b c d=>by
      rw [b1.K (by omega),b1.K (by omega)]
      by_cases e:i=j
      ·rw [e];exact jU _
      ·rcases sd i j a (by omega) c with q | q<;>omega
     refine wpS_bind (BH b1.kind b1.fail (b1.keys h0) b1.size m1 m2 b1.pend (λi j a b=>le i j 0 m s1 (cC _) a b (by omega)) (λi j a b c=>le i j m a0.size s2 a b c (aL _)) λz' d=>?_)
     simp only [sV,cL,if_false]
     exact wpS_pure ⟨rfl,.inr ⟨by omega,by rw [d.pend];rfl,d.fail,OE b1 (by omega) s1 i1 s2 i2 d⟩⟩
   ·refine wpS_bind (wpS_get ?_)
    rw [if_pos (by rw [e1];exact aL 1)]
    exact wpS_pure ⟨rfl,e2,e3⟩
  ·rintro c y ⟨rfl,⟨hx,_⟩ | ⟨_,_,e2,e3⟩⟩
   ·omega
   ·exact ⟨rfl,e2,e3⟩
  ·rintro c y ⟨rfl,e2,J,e3,e4⟩
   exact wpS_pure (h y J e2 e3 e4)
end
end SS

set_option maxHeartbeats 4000000
namespace SS
open PySem PyProof.Rows
section
variable {prog:bY} {w:World} {A:Around} {E:Value->Shared->Prop} {s:Shared} {a kS f:Addr} {vs:List Value} {kz:List Int} {P:PySem.Fin->Shared->Prop} {Tp:Shared->Prop} {lo:Nat}
structure JF (Tp:Shared->Prop) (lo:Nat):Prop where
 up:∀ (s':Shared) (x:Addr) (h':Heap) (tk:Nat),Tp s'->lo<=x->iH x s'.heap h'->Tp { s' with heap:=h',toks:=tk }
 push:∀ (s':Shared) (o:Obj),Tp s'->Tp { s' with heap:=s'.heap.push o }
def lH (prog:bY) (w:World) (A:Around) (Tp:Shared->Prop) (lo:Nat) (f:Addr) (vs:List Value) (kz:List Int):Prop:=∀ (i:Nat) (v:Value) (k:Int) (s':Shared),vs[i]?=some v->kz[i]?=some k->Tp s' ->
 wpAny (model prog w) A (call (.ref f) [v]) (λu s2=>∃ t,u=.int k t/\Tp s2/\∀ b o,lo<=b->s'.heap.get? b=some o->s2.heap.get? b=some o) (λ_ _=>False) s'
theorem J7 {keys:Array Value} (hk:IntsAre keys.toList kz) (hl:kz.length=vs.length):(keys.zip vs.toArray).size=vs.length/\∀ i,i<vs.length->K (keys.zip vs.toArray) i=kz.getD i 0/\(fa (keys.zip vs.toArray) i).2=vs.getD i .none:=by
 have hs:keys.size=vs.length:=by have:=hk.length;rw [eO] at this;omega
 have hz:(keys.zip vs.toArray).size=vs.length:=by rw [Array.size_zip,hs,bB,Nat.min_self]
 refine ⟨hz,λi hi=>?_⟩
 obtain ⟨t,ht⟩:=hk.get i (kz[i]'(by omega)) (aB (by omega))
 rw [fU] at ht
 have hv:vs.toArray[i]?=some vs[i]:=by simp [hi]
 have e:(keys.zip vs.toArray)[i]?=some (.int (kz[i]'(by omega)) t,vs[i]):=by
  rw [Array.getElem?_zip_eq_some]
  exact ⟨ht,hv⟩
 constructor
 ·unfold K
  rw [e]
  show numOf (Value.int (kz[i]'(by omega)) t)=_
  rw [cI,aB (by omega)];rfl
 ·unfold fa
  rw [e,cI,aB hi];rfl
theorem xW.congr {n:Nat} {k1 k2:Nat->Int} {J:List Nat} (h:xW n k1 J) (e:∀ i,i<n->k1 i=k2 i):xW n k2 J where
 ord:=h.ord.imp_of_mem λ{i j} hi hj q=>by rw [<- e i (h.lt i hi),<- e j (h.lt j hj)];exact q
 lt:=h.lt
 len:=h.len
theorem FJ {st:SortSt} {keys:Array Value} {e e1:Nat} {J:List Nat} (T:JF Tp lo) (t0:Tp s) (ok:s.heap.get? kS=some (seqObj "list" keys e)) (oa:s.heap.get? a=some (seqObj "list" #[] e1)) (hka:kS≠a) (lk:lo<=kS) (la:lo<=a)
  (hks:keys.size<=bG) (hJ:(arrOf st).toList.map (·.2)=J.map λi=>vs.getD i .none) (hl:J.length<=bG) (hf:failedOf st=none)
  (h:∀ h' tk out c,Tp { s with heap:=h',toks:=tk }->h'.get? a=some (seqObj "list" out c)->out.toList=(J.map λi=>vs.getD i .none)->P (.done (.ret .none)) { s with heap:=h',toks:=tk }) :
  wpAny (model prog w) A (ksk_tail a false e1 (.ref kS) st) P E s:=by
 have s1:=iH.update s.heap kS (Obj.mapSeq λ_=>(#[]:Array Value))
 have na1:(s.heap.update kS (Obj.mapSeq λ_=>(#[]:Array Value))).get? a=some (seqObj "list" #[] e1):=(s1.2 a hka.symm).trans oa
 have s2:=iH.update (s.heap.update kS (Obj.mapSeq λ_=>(#[]:Array Value))) a (Obj.mapSeq λ_=>(arrOf st).map (·.2))
 obtain ⟨c2,hc2⟩:∃ c2,((s.heap.update kS (Obj.mapSeq λ_=>(#[]:Array Value))).update a (Obj.mapSeq λ_=>(arrOf st).map (·.2))).get? a=some (seqObj "list" ((arrOf st).map (·.2)) c2):=⟨_,get?_update_seq na1 λ_=>(arrOf st).map (·.2)⟩
 have hz:((arrOf st).map (·.2)).size=J.length:=by
  have:=congrArg lA hJ
  simpa using this
 unfold ksk_tail
 try dsimp only
 refine aV (listUpdate_at ok rfl ?_ hks (cC _))
 refine aV (wpAny_letGo ?_)
 refine aV (seqEpoch_at na1 rfl ?_)
 refine aV (listUpdate_at na1 rfl ?_ (cC _) (by simp only [cL,if_false];rw [hz];exact NS hl))
 rw [hf]
 simp only [bne_self_eq_false,cL,if_false]
 exact bM (h _ _ _ c2 (T.up { s with heap:=s.heap.update kS (Obj.mapSeq λ_=>(#[]:Array Value)) } a _ s.toks (T.up s kS _ s.toks t0 lk s1) la s2) hc2 (by rw [Array.toList_map];exact hJ))
theorem U6 {keys:Array Value} {e e1:Nat} (T:JF Tp lo) (t0:Tp s) (ok:s.heap.get? kS=some (seqObj "list" keys e)) (oa:s.heap.get? a=some (seqObj "list" #[] e1)) (hka:kS≠a) (lk:lo<=kS) (la:lo<=a)
  (hk:IntsAre keys.toList kz) (hl:kz.length=vs.length) (h128:vs.length<128)
  (h:∀ h' tk out c J,Tp { s with heap:=h',toks:=tk }->h'.get? a=some (seqObj "list" out c)->xW vs.length (λi=>kz.getD i 0) J->out.toList=(J.map λi=>vs.getD i .none)->P (.done (.ret .none)) { s with heap:=h',toks:=tk }) :
  wpAny (model prog w) A (ksk_end a false vs.toArray e1 (.ref kS) keys) P E s:=by
 obtain ⟨hz,hzk⟩:=J7 (vs:=vs) hk hl
 have hs:keys.size=vs.length:=by have:=hk.length;rw [eO] at this;omega
 have hL:(2:Nat) ^ 24=bG:=rfl
 have snd:∀ J:List Nat,(∀ i∈J,i<vs.length)->(J.map (fa (keys.zip vs.toArray))).map (·.2)=J.map λi=>vs.getD i .none:=λJ hJ=>by
  rw [bD]
  exact fJ λi hi=>(hzk i (hJ i hi)).2
 unfold ksk_end
 try dsimp only
 simp only [cL,if_false]
 by_cases h2:vs.toArray.size<2
 ·rw [if_pos h2,if_pos h2]
  refine aV (bM ?_)
  rw [StateT.run_pure]
  refine aV (bM ?_)
  try dsimp only
  rw [bB] at h2
  have g0:(keys.zip vs.toArray).toList=(bX vs.length).map (fa (keys.zip vs.toArray)):=by
   apply fG
   intro q
   rw [fU,aJ]
   by_cases hq:q<vs.length
   ·rw [gS hq,getElem?_pos _ q (by rw [hz];exact hq)]
    show _=some (fa _ q)
    unfold fa
    rw [getElem?_pos _ q (by rw [hz];exact hq)];rfl
   ·rw [eJ (by simp;omega),DH (by rw [hz];omega)];rfl
  have sb:xW vs.length (λi=>kz.getD i 0) (bX vs.length):=⟨by
   rw [iB]
   intro i j hi hj hij
   simp only [eG] at hi hj
   omega,λi hi=>gY.mp hi,by simp⟩
  exact FJ (st:=SortSt.mk' general' (keys.zip vs.toArray) #[] 7 none) (J:=bX vs.length) T t0 ok oa hka lk la (by rw [hs,<- hL];omega) (by
   show (keys.zip vs.toArray).toList.map (·.2)=_
   rw [g0];exact snd _ sb.lt) (by simp only [eG];rw [<- hL];omega) rfl λh' tk out c t1 t2 t3=>h h' tk out c _ t1 t2 sb t3
 ·rw [if_neg h2,if_neg h2]
  rw [bB] at h2
  rw [ksk_kind hk (by rw [hs];omega)]
  refine aV (bM ?_)
  refine aV (fS (J9 (a0:=keys.zip vs.toArray) (st:=SortSt.mk' oneType' (keys.zip vs.toArray) #[] 7 none)
   (Q:=λ_ st'=>failedOf st'=none/\∃ J,(arrOf st').toList=J.map (fa (keys.zip vs.toArray))/\xW (keys.zip vs.toArray).size (K (keys.zip vs.toArray)) J)
   (ksk_intKeys hk) ⟨rfl,λ_ _=>rfl,λ_ hp=>hp,rfl,rfl,rfl⟩ (by rw [hz];omega) (by rw [hz];exact h128) λst' J a1 a2 a3=>⟨a1,J,a2,a3⟩) ?_ λ_ _ e=>e)
  rintro ⟨⟨⟩,st'⟩ s' ⟨rfl,hf,J,hJ,sb⟩
  try dsimp only
  rw [hz] at sb
  have sb2:=sb.congr λi hi=>(hzk i hi).1
  exact FJ (J:=J) T t0 ok oa hka lk la (by rw [hs,<- hL];omega) (by rw [hJ];exact snd J sb.lt) (by rw [sb.len,<- hL];omega) hf λh' tk out c t1 t2 t3=>h h' tk out c _ t1 t2 sb2 t3
theorem OL {e1:Nat} (T:JF Tp lo) (t0:Tp s) (ok:s.heap.get? kS=some (seqObj "list" #[] 0)) (oa:s.heap.get? a=some (seqObj "list" #[] e1)) (hka:kS≠a) (lk:lo<=kS) (la:lo<=a)
  (hl:kz.length=vs.length) (h128:vs.length<128) (turn:lH prog w A Tp lo f vs kz)
  (h:∀ s' out c J,Tp s'->s'.heap.get? a=some (seqObj "list" out c)->xW vs.length (λi=>kz.getD i 0) J->out.toList=(J.map λi=>vs.getD i .none)->P (.done (.ret .none)) s') :
  wpAny (model prog w) A (ksk_rest a (.ref f) false vs.toArray e1 (.ref kS)) P E s:=by
 have hL:(2:Nat) ^ 24=bG:=rfl
 unfold ksk_rest
 refine aV (wpAny_rule ?_)
 first
  | rw [List.forIn_toArray]
  | (rw [<- JN];simp only [List.toList_toArray])
  | rw [<- JN]
 refine aV (ksk_fold (λi s'=>Tp s'/\∃ kA e,s'.heap.get? kS=some (seqObj "list" kA e)/\s'.heap.get? a=some (seqObj "list" #[] e1)/\IntsAre kA.toList (kz.take i)) vs 0 s
  ⟨t0,#[],0,ok,oa,by simpa using IntsAre.nil⟩ ?step ?done)
 case step =>
  rintro j x s' hx ⟨t1,kA,e,o1,o2,hk⟩
  simp only [gH] at hk |-
  have hj:j<vs.length:=(aD.mp hx).1
  obtain ⟨k,hkj⟩:∃ k,kz[j]?=some k:=⟨_,aB (by omega)⟩
  have hz:kA.size<=vs.length:=by
   have h1:=hk.length
   rw [eO,bF] at h1
   omega
  refine aV (wpAny_attempt (fS (turn j x k s' hx hkj t1) (λv s'' he=>?_) λ_ _ hF=>hF.elim))
  obtain ⟨t2,rfl,t3,keep⟩:=he
  try dsimp only
  have o1':=keep kS _ lk o1
  have o2':=keep a _ la o2
  have s1:=iH.update s''.heap kS (Obj.mapSeq (·.push (.int k t2)))
  obtain ⟨c2,hc2⟩:∃ c2,(s''.heap.update kS (Obj.mapSeq (·.push (.int k t2)))).get? kS=some (seqObj "list" (kA.push (.int k t2)) c2):=⟨_,get?_update_seq o1' (·.push (.int k t2))⟩
  have ek:kz.take (j+1)=kz.take j++[k]:=by rw [cS,hkj];simp
  have ea:(kA.push (Value.int k t2)).toList=kA.toList++[Value.int k t2]:=by simp
  refine aV (listUpdate_at o1' rfl ?_ (by rw [<- hL];omega) (bO (lI (Array.size_push ..)) (by rw [<- hL];omega)))
  exact bM ⟨rfl,T.up _ kS _ _ t3 lk s1,kA.push (.int k t2),c2,hc2,(s1.2 a hka.symm).trans o2',by rw [ea,ek];exact ksk_snoc hk⟩
 case done =>
  rintro s' ⟨t1,kA,e,o1,o2,hk⟩
  have e3:kz.take (0+vs.length)=kz:=dQ (by omega)
  rw [e3] at hk
  try dsimp only
  refine aV (listItems_at o1 rfl ?_)
  exact U6 T t1 o1 o2 hka lk la hk hl h128 λh' tk out c J t2 o3 sb ho=>h _ out c J t2 o3 sb ho
theorem OJ {n:Nat} (T:JF Tp lo) (t0:Tp s) (oa:s.heap.get? a=some (seqObj "list" vs.toArray n)) (la:lo<=a) (hl:kz.length=vs.length) (h128:vs.length<128) (turn:lH prog w A Tp lo f vs kz)
  (h:∀ s' out c J,Tp s'->s'.heap.get? a=some (seqObj "list" out c)->xW vs.length (λi=>kz.getD i 0) J->out.toList=(J.map λi=>vs.getD i .none)->P (.done (.ret .none)) s') :
  wpAny (model prog w) A (ksk_tree a (.ref f) false) P E s:=by
 have hL:(2:Nat) ^ 24=bG:=rfl
 have ha:a<s.heap.objs.size:=bE oa
 have s1:=iH.update s.heap a (Obj.mapSeq λ_=>(#[]:Array Value))
 obtain ⟨e1,ho1⟩:∃ e1,(s.heap.update a (Obj.mapSeq λ_=>(#[]:Array Value))).get? a=some (seqObj "list" #[] e1):=⟨_,get?_update_seq oa λ_=>#[]⟩
 have hkS:((s.heap.update a (Obj.mapSeq λ_=>(#[]:Array Value))).push (seqObj "tuple" vs.toArray 0)).objs.size=s.heap.objs.size+1:=by rw [size_push',NX]
 unfold ksk_tree
 refine aV (listItems_at oa rfl ?_)
 refine aV (listUpdate_at oa rfl ?_ (by rw [bB,<- hL];omega) (cC _))
 refine aV (seqEpoch_at ho1 rfl ?_)
 refine aV (wpAny_newTuple ?_ (by show vs.length<=_;rw [<- hL];omega))
 refine aV (wpAny_newList ?_ (cC _))
 refine wpAny_holding ?_
 exact OL (s:={ s with heap:=((s.heap.update a (Obj.mapSeq λ_=>(#[]:Array Value))).push (seqObj "tuple" vs.toArray 0)).push (seqObj "list" #[] 0) }) (kS:=((s.heap.update a (Obj.mapSeq λ_=>(#[]:Array Value))).push (seqObj "tuple" vs.toArray 0)).objs.size)
  T (T.push { s with heap:=(s.heap.update a (Obj.mapSeq λ_=>(#[]:Array Value))).push (seqObj "tuple" vs.toArray 0) } _ (T.push { s with heap:=s.heap.update a (Obj.mapSeq λ_=>(#[]:Array Value)) } _ (T.up s a _ s.toks t0 la s1)))
  (bW _ rfl) (aP _ (aP _ ho1)) (by rw [hkS];exact mV (oM ha)) (by rw [hkS];exact bO la (iJ (oM ha))) la hl h128 turn h
theorem HG {l:Addr} {Q:Value->Shared->Prop} (T:JF Tp lo) (t0:Tp s) (hl:s.heap.IsList l vs.toArray) (hlo:lo<=s.heap.objs.size) (hlen:kz.length=vs.length) (h128:vs.length<128) (turn:lH prog w A.in1.in1 Tp lo f vs kz)
  (h:∀ s' D out c J,Tp s'->s.heap.objs.size<=D->s'.heap.get? D=some (seqObj "list" out c)->xW vs.length (λi=>kz.getD i 0) J->out.toList=(J.map λi=>vs.getD i .none)->Q (.ref D) s') :
  wpAny (model prog w) A (call (.builtin "sorted") [.ref l] [(Str.ofString "key",.ref f)]) Q E s:=by
 have hL:(2:Nat) ^ 24=bG:=rfl
 refine call_function_entry_kw kind_sorted plain_sorted entry_sorted (ksk_s1 _ _) ?_
 unfold Builtin.«sorted»
 refine aV (m:=checkCount "sorted" 1 1 _) (bM ?_)
 refine aV (collect_list hl ?_ (by rw [<- hL];omega))
 refine aV (wpAny_newList ?_ (by rw [<- hL];omega))
 have hsz:((s.heap.push (seqObj "list" #[] 0)).update s.heap.objs.size (Obj.mapSeq (·++vs.toArray))).objs.size=s.heap.objs.size+1:=by
  rw [NX,size_push']
 have hoL:(((s.heap.push (seqObj "list" #[] 0)).update s.heap.objs.size (Obj.mapSeq (·++vs.toArray))).push (seqObj "list" vs.toArray 0)).get? (s.heap.objs.size+1)=some (seqObj "list" vs.toArray 0):=by
  rw [<- hsz];exact bW _ rfl
 show wpAny _ _ _ _ _ { s with heap:=((s.heap.push (seqObj "list" #[] 0)).update s.heap.objs.size (Obj.mapSeq (·++vs.toArray))).push (seqObj "list" vs.toArray 0) }
 rw [hsz]
 refine aV (wpAny_holding (wpAny_call_entry_kw slot_list_sort ⟨_,hoL,rfl⟩ entry_list_sort ?body (ksk_l1 _ _)))
 case body =>
  show wpAny (model prog w) A.in1.in1 (Builtin.«list.sort» ⟨[.ref (s.heap.objs.size+1)],[(Str.ofString "key",.ref f)]⟩) _ _ _
  rw [ksk_t1]
  have t1:=T.push { s with heap:=(s.heap.push (seqObj "list" #[] 0)).update s.heap.objs.size (Obj.mapSeq (·++vs.toArray)) } (seqObj "list" vs.toArray 0) (T.up { s with heap:=s.heap.push (seqObj "list" #[] 0) } s.heap.objs.size _ s.toks (T.push s (seqObj "list" #[] 0) t0) hlo (iH.update _ _ _))
  refine OJ (s:={ s with heap:=((s.heap.push (seqObj "list" #[] 0)).update s.heap.objs.size (Obj.mapSeq (·++vs.toArray))).push (seqObj "list" vs.toArray 0) }) T t1 hoL (NS hlo) hlen h128 turn λs' out c J t2 o sb ho=>⟨_,rfl,?_⟩
  exact bM ⟨_,rfl,h s' _ out c J t2 (Nat.le_succ _) o sb ho⟩
end
end SS

set_option maxHeartbeats 1000000
namespace L2
open PySem PySem.Spec PyProof.Rows
theorem ER {p:Pos} {a b:Int} {x:Value}:∀ (l:List Value),TriplesOk l->∀ y,codeAmong p (l++[rawInt a,rawInt b,x])=some y->codeAmong p l=some y\/y=x:=by
 intro l h
 fun_induction TriplesOk l with
 | case1 =>
  intro y e
  have e':(if (a == p.line && b == p.col)=true then some x else codeAmong p [])=some y:=e
  split at e'
  ·exact .inr (Option.some.inj e').symm
  ·cases e'
 | case2 u t v w z r ih =>
  intro y e
  simp only [gC,codeAmong] at e |-
  split at e
  ·rename_i hc;rw [if_pos hc];exact .inl e
  ·rename_i hc;rw [if_neg hc];exact ih h y e
 | case3=>exact h.elim
section
variable {X:Cx} {pins:List (Addr×Obj)} {σ:St} {H:Hp} {s:Shared}
structure Lam (X:Cx) (H:Hp) (h:Heap) (f c:Addr) (fd:dF):Prop where
 obj:h.get? f=some { cls:=.type "function",data:=.func fd }
 free:H f=none
 code:fd.code=.ref c
 trk:∃ oc P,H c=some (.frz oc (.own P))/\NF oc
 nfr:f∉CT X.stack
theorem dU.builtinsAt (I:dU X pins σ H s) {P:Addr} {qs:Array Value} (e:s.heap.get? P=some { cls:=.none,data:=.fields qs }):s.heap.BuiltinsAt X.mg P/\fZ≠P:=by
 obtain ⟨bm,o,b1,b2,b3,b4,b5,b6⟩:=I.mod.bmod
 have hg:=I.mod.glob
 obtain ⟨og,es,ep,g1,g2,_⟩:=hg
 refine ⟨⟨bm,o,b1,b2,λz=>?_,λz=>?_,I.bk _ _ b3,b4,b5,b6⟩,λz=>?_⟩
 ·rw [z,g1] at b3;cases b3;rw [g2] at b6;cases b6
 ·have:=I.bk _ _ b3
  rw [z,e] at this;cases this;cases b6
 ·have:=I.bk _ _ g1
  rw [z,e] at this;cases this;cases g2
theorem MD {params:Arguments} {body:Expr} {scope:Scope} {pos:Pos} {c P:Addr} {Q:Value->Shared->Prop} {E:Value->Shared->Prop} {name qual:Str} {line:Nat} (I:dU X pins σ H s) (hT:tabA=some P) (hc:X.env.code=.ref c) (C:NG X.base c P) (hfr:∀ x∈scope.names,x.2=.free->∃ c,X.env.cells.lookup x.1=some c)
  (h:∀ (H':Hp) (s':Shared) (f c':Addr) (cl:List (Str×Addr)) (pm ctv:Value),dU X pins σ H' s'->(∀ b u,H b=some u->H' b=some u)->Lam X H' s'.heap f c' (PySem.W.kla_fn name qual params body scope cl pm (.ref c') ctv)->(∀ n c,cl.lookup n=some c->X.env.cells.lookup n=some c)->(∀ n,(n,NameKind.free)∈scope.names->∃ c,cl.lookup n=some c)->Q (.ref f) s') :
  wpAny (model X.prog X.w) X.A (makeFunction name qual params (.expr body) scope X.env [] [] [] pos line) Q E s:=by
 obtain ⟨cl,hcl,hc1,hc2⟩:=rK hfr
 obtain ⟨ps,hP⟩:=I.env0.tab P hT
 obtain ⟨qs,e1,e2,e3⟩:=I.hok P _ hP
 obtain ⟨hb,hgP⟩:=I.builtinsAt e1
 have hg:=I.mod.glob.keeps I.bk
 have C':=C.keeps I.bk
 have nofr:∀ b,s.heap.objs.size<=b->b∉CT X.stack:=λb hb z=>by
  rcases aZ.mp (I.stkSub b z) with y | y
  ·rw [y] at hb;exact absurd I.lt (NH.mpr hb)
  ·exact I.nofs hb y
 cases hm:codeAmong pos qs.toList with
 | none =>
  refine PySem.W.kla_makeFunction (mg:=X.mg) hcl I.ok.glob hg hc C' e1 e2 hm hgP hb λc' ctv h' tk hx hge hlt hrec htb=>?_
  obtain ⟨c2,oc,vs,t,q1,q2,q3,q4⟩:=hrec
  cases q1
  have hcn:H c'=none:=I.hok.fresh hge
  have hfn:H h'.objs.size=none:=I.hok.fresh (bO hge (iJ hlt))
  have cP:c'≠P:=λz=>by rw [z,hP] at hcn;cases hcn
  have kp:∀ b o,b≠P->s.heap.get? b=some o->(h'.push (uY name qual params body scope cl ((X.mg "__name__").getD .none) c' ctv)).get? b=some o:=λb o z e=>aP _ (hx b o z e)
  have nP:∀ b,H b=none->b≠P:=λb e z=>by rw [z,hP] at e;cases e
  have sH:∀ b u,H b=some u->iM H c' (.frz oc (.own P)) b=some u:=λb u e=>by rw [cT (fQ e hcn)];exact e
  have un:Un X.fs [] H (iM H c' (.frz oc (.own P))) s.heap (h'.push (uY name qual params body scope cl ((X.mg "__name__").getD .none) c' ctv)) :=
   ⟨λb o e n _ _=>kp b o (nP b n) e,λb o e n _ _=>⟨o.slots,kp b o (nP b n) e⟩,λb o e n _=>by rw [cT (dR (cG (bE e) hge))];exact n,λb o e _=>by
    by_cases z:b=P
    ·exact ⟨_,by rw [z];exact aP _ htb⟩
    ·exact ⟨o,kp b o z e⟩,λb xs e=>sH _ _ e,λb o u e=>sH _ _ e,λb ps e=>⟨#[],by rw [sH _ _ e];simp⟩⟩
  have hok:rC X.prog X.w (iM H c' (.frz oc (.own P))) (h'.push (uY name qual params body scope cl ((X.mg "__name__").getD .none) c' ctv)):=λb u e=>by
   by_cases z:b=c'
   ·subst z
    rw [eM] at e
    cases e
    exact ⟨aP _ q2,_,aP _ q2⟩
   ·rw [cT z] at e
    by_cases z2:b=P
    ·subst z2
     rw [hP] at e
     cases e
     refine ⟨_,aP _ htb,?_,λp x hp=>?_⟩
     ·rw [dG];exact TriplesOk_snoc _ _ _ _ e2
     ·rw [dG] at hp
      rcases ER _ e2 _ hp with hp | hp
      ·obtain ⟨c3,o3,r1,r2,r3⟩:=e3 p x hp
       exact ⟨c3,o3,r1,sH _ _ r2,r3⟩
      ·exact ⟨c',oc,hp,eM,vs,_,t,q3,q4⟩
    ·refine (I.hok b u e).stay (λy v hy r=>kp y v ?_ r) (λy r=>sH _ _ r) (λy xs r=>sH _ _ r) λy o v r=>sH _ _ r
     rcases hy with rfl | hy
     ·exact z2
     ·intro z3;rw [z3,hP] at hy;cases hy
  refine h _ _ h'.objs.size c' cl _ ctv (I.un (t':=tk) un hok) sH ⟨bW _ rfl,by rw [cT (mV hlt)];exact hfn,rfl,⟨oc,P,eM,vs,_,t,q3,q4⟩,nofr _ (bO hge (iJ hlt))⟩ hc1 hc2
 | some cv =>
  obtain ⟨c',oc,r1,r2,r3⟩:=e3 pos cv hm
  subst r1
  refine PySem.W.kla_makeFunctionHit (mg:=X.mg) hcl I.ok.glob hg hc C' e1 e2 hm hb λctv h' tk hx hsz=>?_
  exact h H _ h'.objs.size c' cl _ ctv (I.kept (t':=tk) λb o e=>aP _ (hx b o e)) (λ_ _ e=>e) ⟨bW _ rfl,I.hok.fresh hsz,rfl,⟨oc,P,r2,r3⟩,nofr _ hsz⟩ hc1 hc2
end
theorem IZ {prog:bY} {w:World} {A:Around} {R:Result->Shared->Prop} {s:Shared} {f c:Addr} {args:Args} {fd:dF} {body:Expr} {oc:Obj} {binds:List (Str×Value)} (hroom:A.depth<recursionLimit) (hlim:s.heap.NoLimit)
  (ho:s.heap.get? f=some { cls:=.type "function",data:=.func fd }) (hco:fd.scope.isCoroutine=false) (hgen:fd.scope.isGenerator=false) (hb:fd.body=.expr body) (hc:fd.code=.ref c) (oco:s.heap.get? c=some oc) (hC:NF oc)
  (hbind:bindArgs fd args=pure binds) (hcell:∀ x∈fd.scope.names,x.2≠.cell) (hloc:∀ x∈binds,fd.scope.names.lookup x.1=some .local) (hk:fd.scope.kind=.function) (hgl:fd.globals=fZ) (hbl:fd.builtins=builtinsNs)
  (h:∀ (q:Str) (h1:Heap),h1.Ns s.heap.objs.size (λy=>binds.reverse.lookup y)->(∀ b o,s.heap.get? b=some o->h1.get? b=some o) ->
   wpAny (model prog w) (A.deeper (pD q fd.scope s.heap.objs.size f fd.code fd.closure)) (eval body (pD q fd.scope s.heap.objs.size f fd.code fd.closure)) (λv s'=>R (.ok (.ret v)) s') (λ_ _=>False) { s with heap:=h1,toks:=s.toks+binds.length }) :
  codeAny (model prog w) A (.call (.ref f) args) R s:=by
 obtain ⟨vs,q,t,hd,hq⟩:=hC
 refine codeAny_of_tree ?_
 show wpAny _ A.in1 (callAny (.ref f) args) _ _ s
 simp only [callAny]
 refine aV (wpAny_load ho ?_)
 simp only [callFunction,hco,hgen,hb,hc]
 refine aV (m:=field (.ref c) 1) (wpAny_field oco hd hq (aV (bM ?_)))
 rw [hbind,hgl,hbl]
 refine aV (bM (aV (wpAny_newFunctionEnv hcell hloc (λh1 hns hsb=>?_) hk)))
 have kp:∀ b o,s.heap.get? b=some o->h1.get? b=some o:=λb o e=>hsb.extBut b o (dR (bE e)) (aP _ e)
 refine aV (wpAny_enterFrame (hlim.keeps kp) hroom (bM ⟨rfl,?_⟩))
 have:=h q h1 hns kp
 rw [hc] at this
 exact PySem.W.kla_codeExpr (fS this (λ_ _ r=>r) λ_ _ r=>r.elim)
abbrev sL:Scope:={ kind:=.function,names:=[(Str.ofString "entry",.local),(Str.ofString "bottom",.free)],isGenerator:=false,isCoroutine:=false,more:=[] }
def CO (X:Cx) (A':Around) (q:Str) (f:Addr) (cd:Value) (cl:List (Str×Addr)) (s:Shared) (H:Hp):Cx where
 prog:=X.prog
 w:=X.w
 K:=X.K
 mg:=X.mg
 base:=X.base
 A:=A'.deeper (pD q sL s.heap.objs.size f cd cl)
 N:=["entry","bottom"]
 s₀:=s
 H₀:=H
 env:=pD q sL s.heap.objs.size f cd cl
 outer:=X.stack
 stack:=pD q sL s.heap.objs.size f cd cl::X.stack
 ex:=[]
 fn:=λ_=>false
 calm:=true
 pn:=[]
 xe:=λ_ _=>False
theorem P8 {X:Cx} {pins:List (Addr×Obj)} {σ:St} {A':Around} {q:Str} {f cb:Addr} {cd:Value} {cl:List (Str×Addr)} {s:Shared} {H:Hp} {h1:Heap} {tk:Nat} {u:Value} {x:V} {b:Int} {t:Tok} (I:dU X pins σ H s) (hF:A'.frames=some X.stack) (hA:A'.handled=none)
  (hcl:∀ n c,cl.lookup n=some c->X.env.cells.lookup n=some c) (hcb:cl.lookup ("bottom":Str)=some cb) (hcell:s.heap.IsCell cb (some (.int b t))) (r:gO x u)
  (hns:h1.Ns s.heap.objs.size (λy=>[((Str.ofString "entry":Str),u)].reverse.lookup y)) (kp:∀ b o,s.heap.get? b=some o->h1.get? b=some o) :
  dU (CO X A' q f cd cl s H) [] [some x,some (.int b)] H { s with heap:=h1,toks:=tk }:=by
 have e0:=I.env0
 have noA:∀ b:Addr,b∉(CO X A' q f cd cl s H).ex:=λb z=>absurd (show b∈([]:List Addr) from z) (by simp)
 have kd:∀ y:Str,sL.names.lookup y=some .cell\/sL.names.lookup y=some .free->y="bottom":=λy hy=>by
  have e:sL.names.lookup y=if y == (Str.ofString "entry") then some .local else if y == (Str.ofString "bottom") then some .free else none:=by
   show List.lookup y [(Str.ofString "entry",NameKind.local),(Str.ofString "bottom",NameKind.free)]=_
   rw [fB,fB]
   cases (y == Str.ofString "entry")<;>cases (y == Str.ofString "bottom")<;>rfl
  rw [e] at hy
  split at hy
  ·rcases hy with z | z<;>cases z
  ·split at hy
   ·rename_i z;exact eq_of_beq z
   ·rcases hy with z | z<;>cases z
 obtain ⟨oc,ho,hdc⟩:=hcell
 have cell1:h1.IsCell cb (some (.int b t)):=⟨oc,kp _ _ ho,hdc⟩
 refine ⟨⟨e0.mod,rfl,rfl,rfl,aL _,λy z c a1 a2=>I.ok.inj y z c (hcl y c a1) (hcl z c a2),λy hy=>?_,λy c z=>(nomatch (show false=true from z)),λ_=>hA,Around.frames_deeper hF,.inr ⟨rfl,rfl⟩,λb z=>absurd z (noA b),e0.bs,e0.bsz,λb _ _=>noA b,λb z=>absurd z (noA b),e0.funs,e0.frf,e0.tab⟩,
  rfl,e0.bare,Un.kept kp,⟨_,hns,λi y v a1 a2 a3=>?_⟩,λy c a1=>?_,e0.hok.fresh (aL _),λy c a1=>I.freeC y c (hcl y c a1),λp hp=>absurd (show p∈([]:List (Addr×Obj)) from hp) (by simp),e0.hok.kept kp,rfl⟩
 ·have:=kd y hy
  rw [this];exact ⟨cb,hcb⟩
 ·match i,a1,a2 with
  | 0,a1,a2 =>
   cases a1
   cases a2
   exact ⟨u,r,.inl ⟨rfl,rfl⟩⟩
  | 1,a1,a2 =>
   cases a1
   cases a2
   exact ⟨.int b t,⟨t,rfl⟩,.inr ⟨.inr rfl,cb,hcb,cell1⟩⟩
  | i+2,a1,a2=>cases a1
 ·obtain ⟨v,o,h1,h2⟩:=I.cell y c (hcl y c a1)
  exact ⟨v,o,kp _ _ h1,h2⟩
theorem Un.but {fs ex:List Addr} {H H1:Hp} {h h1 h':Heap} {a:Addr} (u:Un fs ex H H1 h h1) (hs:iH a h1 h') (ha:h.objs.size<=a):Un fs ex H H1 h h':=by
 have ne:∀ b o,h.get? b=some o->b≠a:=λb o e=>dR (cG (bE e) ha)
 refine ⟨λb o e n h1 h2=>(hs.2 b (ne b o e)).trans (u.keep b o e n h1 h2),λb o e n h1 h2=>?_,u.free,λb o e h2=>?_,u.tups,u.frzs,u.tbls⟩
 ·obtain ⟨sl,z⟩:=u.slot b o e n h1 h2
  exact ⟨sl,(hs.2 b (ne b o e)).trans z⟩
 ·obtain ⟨o',z⟩:=u.there b o e h2
  exact ⟨o',(hs.2 b (ne b o e)).trans z⟩
theorem Un.new {fs ex:List Addr} {H H1:Hp} {h h1:Heap} {a:Addr} {o:HO} (u:Un fs ex H H1 h h1) (hn:H1 a=none) (ha:h.objs.size<=a):Un fs ex H (iM H1 a o) h h1 where
 keep:=u.keep
 slot:=u.slot
 free:=λb ob e n hx=>by rw [cT (dR (cG (bE e) ha))];exact u.free b ob e n hx
 there:=u.there
 tups:=λb xs e=>by have z:=u.tups b xs e;rw [cT (fQ z hn)];exact z
 frzs:=λb ob v e=>by have z:=u.frzs b ob v e;rw [cT (fQ z hn)];exact z
 tbls:=λb ps e=>by
  obtain ⟨m,z⟩:=u.tbls b ps e
  exact ⟨m,by rw [cT (fQ z hn)];exact z⟩
theorem rC.new {P:bY} {w:World} {H:Hp} {h:Heap} {a:Addr} {o:HO} (x:rC P w H h) (hn:H a=none) (new:mC P w (iM H a o) h a o):rC P w (iM H a o) h:=λb u e=>by
 by_cases hb:b=a
 ·subst hb;rw [eM] at e;cases e;exact new
 ·rw [cT hb] at e
  have st:∀ c v,H c=some v->iM H a o c=some v:=λc v q=>by rw [cT (fQ q hn)];exact q
  exact (x b u e).stay (λc v _ q=>q) (λc q=>st _ _ q) (λc xs q=>st _ _ q) λc ob v q=>st _ _ q
abbrev T1 (p:Pos):Arguments:={ posonlyargs:=[],args:=[{ arg:="entry",annotation:=none,pos:=p }],vararg:=none,kwonlyargs:=[],kw_defaults:=[],kwarg:=none,defaults:=[] }
def xZ (K:aE) (H:Hp) (b:Int) (x:V) (k:Int):Prop:=∃ (q:Addr) (x0 x1:V) (d:Addr) (top bot:Int),x=.ref q/\qP K H q [x0,x1,.ref d]/\qP K H d [.int top,.int bot]/\XS b bot/\EY top (b / bot)/\k=top*(b / bot)
theorem xZ.same {K:aE} {H H':Hp} {b:Int} {x:V} {k:Int} (h:xZ K H b x k) (s:∀ c u,H c=some u->H' c=some u):xZ K H' b x k:=by
 obtain ⟨q,x0,x1,d,top,bot,h1,h2,h3,h4⟩:=h
 exact ⟨q,x0,x1,d,top,bot,h1,TL.bH.seqT s h2,TL.bH.seqT s h3,h4⟩
section
variable {p1 p2 p3 p4 p5 p6 p7 p8 p9 q1 q2 q3 q4:Pos}
theorem VS {X:Cx} {A':Around} {q:Str} {f:Addr} {cd:Value} {cl:List (Str×Addr)} {s:Shared} {H:Hp} {pins:List (Addr×Obj)} {s1:Shared} {x:V} {b k:Int} (I:dU (CO X A' q f cd cl s H) [] [some x,some (.int b)] H s1) (h:xZ X.K H b x k) :
  wpAny (model X.prog X.w) (CO X A' q f cd cl s H).A (eval (.BinOp (.Subscript (.Subscript (.Name "entry" p1) (.Constant (.int 2) 0 p2) p3) (.Constant (.int 0) 0 p4) p5) .Mult (.BinOp (.Name "bottom" p6) .FloorDiv (.Subscript (.Subscript (.Name "entry" p7) (.Constant (.int 2) 0 p8) p9) (.Constant (.int 1) 0 q1) q2) q3) q4) (CO X A' q f cd cl s H).env)
   (EP (CO X A' q f cd cl s H) [] [some x,some (.int b)] λv H'=>v=.int k/\H'=H) (λ_ _=>False) s1:=by
 have pe:PE (CO X A' q f cd cl s H) (.BinOp (.Subscript (.Subscript (.Name "entry" p1) (.Constant (.int 2) 0 p2) p3) (.Constant (.int 0) 0 p4) p5) .Mult (.BinOp (.Name "bottom" p6) .FloorDiv (.Subscript (.Subscript (.Name "entry" p7) (.Constant (.int 2) 0 p8) p9) (.Constant (.int 1) 0 q1) q2) q3) q4) _ :=
  F0 LK (B4 aQ (B4 aQ (pv 0) wE (by intro _ _;rfl)) wE (by intro _ _;rfl)) (F0 mE (pv 1) (B4 aQ (B4 aQ (pv 0) wE (by intro _ _;rfl)) wE (by intro _ _;rfl)))
 obtain ⟨qa,x0,x1,d,top,bot,rfl,h1,h2,h3,h4,rfl⟩:=h
 refine pe [] s1 _ H _ I ?_
 refine ⟨_,rfl,.inr (.inl ⟨qa,_,2,.ref d,rfl,rfl,h1,rfl,.inr (.inl ⟨d,_,0,.int top,rfl,rfl,h2,rfl,?_⟩)⟩)⟩
 refine ⟨_,rfl,_,rfl,.inr (.inl ⟨qa,_,2,.ref d,rfl,rfl,h1,rfl,.inr (.inl ⟨d,_,1,.int bot,rfl,rfl,h2,rfl,?_⟩)⟩)⟩
 exact ⟨b,bot,rfl,rfl,h3,top,b / bot,rfl,rfl,h4,rfl,rfl⟩
def U2 (K:aE) (ib:Nat) (ta:TA):TE:=λσ H Q=>ta σ H λvs H1=>∃ (p:Addr) (xs:List V) (b:Int) (kz:List Int),vs=[.ref p]/\lP K H1 p xs/\xs.length<128/\σ[ib]?=some (some (.int b))/\kz.length=xs.length/\(∀ (i:Nat) x k,xs[i]?=some x->kz[i]?=some k->xZ K H1 b x k) /\
 ∀ H2,(∀ c u,H1 c=some u->H2 c=some u)->∀ (J:List Nat) r,SS.xW xs.length (λi=>kz.getD i 0) J->H2 r=none->Q (.ref r) (iM H2 r (.lst (J.map λi=>xs.getD i .non)))
theorem LB {X:Cx} {ib:Nat} {e:Expr} {ta:TA} {k:Nat} {c P:Addr} {np lp ap kp pos:Pos} (hr:gG (k+3) X.A) (hT:tabA=some P) (hc:X.env.code=.ref c) (C:uC X.K c P=true) (hib:X.N[ib]?=some "bottom") (hk:X.env.kindOf "bottom"=some .cell)
  (hg:Gl X "sorted") (hm:X.mg "sorted"=none) (hv:bootBuiltins "sorted"=some (.builtin "sorted")) (ha:PA X [e] ta)
  (he:backTo pos (bT [e] X.env)=(false,eval e X.env)::backTo pos (bT [] X.env):=by rfl)
  (hpl:(backTo pos (bT [e] X.env)).any (·.1)=false:=by rfl) :
  PE X (.Call (.Name "sorted" np) [e] [⟨some (Str.ofString "key"),.Lambda (T1 ap) (.BinOp (.Subscript (.Subscript (.Name "entry" p1) (.Constant (.int 2) 0 p2) p3) (.Constant (.int 0) 0 p4) p5) .Mult (.BinOp (.Name "bottom" p6) .FloorDiv (.Subscript (.Subscript (.Name "entry" p7) (.Constant (.int 2) 0 p8) p9) (.Constant (.int 1) 0 q1) q2) q3) q4) sL lp,kp⟩] pos) (U2 X.K ib ta):=by
 intro pins s σ H Q I h
 refine wpAny_Call_Name_kw (wL I hg hm hv ?_ (by decide) (by decide))
 refine callWith_kw (lB (ha pos pins s σ H _ I h) λus s1 ⟨vs,H1,I1,r1,q1⟩=>?_) he hpl
 obtain ⟨p,xs,b,kz,rfl,hS,h128,hσ,hkz,hent,q⟩:=q1
 obtain ⟨u,rfl,ru⟩:=vP r1
 cases ru
 have hcells:∀ x∈sL.names,x.2=.free->∃ c,X.env.cells.lookup x.1=some c:=λx hx hf=>by
  have hx':x=(Str.ofString "entry",NameKind.local)\/x=(Str.ofString "bottom",NameKind.free):=by simpa using hx
  rcases hx' with rfl | rfl
  ·cases hf
  ·exact I.ok.has "bottom" (.inl hk)
 refine kws_cons (PySem.W.kla_eval rfl (MD I1 hT hc (PySem.W.codeHd_of_K I.mod.kin C) hcells λH2 s2 f c' cl pm ctv I2 sH L hc1 hc2=>kws_nil ?_))
 obtain ⟨cb,hcb⟩:=hc2 "bottom" (aK _ (aM ..))
 have hS2:lP X.K H2 p xs:=L2.bH.seq sH hS
 obtain ⟨its,rv,hpl,hz⟩:=I2.list hS2
 have hlen:=rv.length
 have hA:=I2.ok.frames
 have room2:gG (k+1) X.A.in1.in1:=(gG.in1 (k:=k+2) hr).in1
 have nofr:∀ b,s2.heap.objs.size<=b->b∉CT X.stack:=λb hb z=>by
  rcases aZ.mp (I2.stkSub b z) with y | y
  ·rw [y] at hb;exact absurd I2.lt (NH.mpr hb)
  ·exact I2.nofs hb y
 let Tp:Shared->Prop:=λs'=>s'.os=s2.os/\AllBare s'.gens/\Un (CT X.stack) [] H2 H2 s2.heap s'.heap/\rC X.prog X.w H2 s'.heap
 have toI:∀ s',Tp s'->dU X pins σ H2 s':=λs' t=>I2.call' (ch:=[]) t.1 t.2.2.1 t.2.2.2 t.2.1 (λb z=>absurd z (by simp))
 have T:SS.JF Tp s2.heap.objs.size:=by
  refine ⟨λs' x h' tk t hx hs=>⟨t.1,t.2.1,t.2.2.1.but hs hx,t.2.2.2.but (I2.hok.fresh hx) hs⟩,λs' o t=>⟨t.1,t.2.1,t.2.2.1.trans (Un.kept λb u e=>aP _ e),t.2.2.2.kept λb u e=>aP _ e⟩⟩
 have t0:Tp s2:=⟨rfl,I2.bare,Un.refl,I2.hok⟩
 have nff:f∉CT X.stack:=L.nfr
 have turn:SS.lH X.prog X.w X.A.in1.in1 Tp s2.heap.objs.size f its kz:=λi v k0 s' hv hk0 t=>by
  have I':=toI s' t
  obtain ⟨x,hx,rx⟩:∃ x,xs[i]?=some x/\gO x v:=by
   have hi:i<xs.length:=by rw [hlen];exact (aD.mp hv).1
   obtain ⟨u,h1,h2⟩:=rv.get (aB hi)
   rw [hv] at h1
   cases h1
   exact ⟨_,aB hi,h2⟩
  have ent:=(hent i x k0 hx hk0).same sH
  obtain ⟨m,hn,hl⟩:=I'.loc
  obtain ⟨ub,rub,lb⟩:=hl ib "bottom" (.int b) hib hσ (.inr (.inl hk))
  obtain ⟨tb,rfl⟩:=rub
  have cell:s'.heap.IsCell cb (some (.int b tb)):=by
   rcases lb with ⟨z,_⟩ | ⟨_,c0,z1,z2⟩
   ·rw [hk] at z;cases z
   ·have:=hc1 _ _ hcb
    rw [this] at z1
    cases z1
    exact z2
  obtain ⟨oc,P',w1,w2⟩:=L.trk
  obtain ⟨oc1,_⟩:=I'.hok c' _ w1
  refine wpAny_call (IZ room2.depth I'.nolimit (t.2.2.1.keep f _ L.obj L.free nff (by simp)) rfl rfl rfl rfl oc1 w2 (binds:=[(Str.ofString "entry",v)]) rfl (λy hy=>?_) (λy hy=>?_) rfl rfl rfl λqn h1 hns kp=>?_)
  ·have hy':y=(Str.ofString "entry",NameKind.local)\/y=(Str.ofString "bottom",NameKind.free):=by simpa using hy
   rcases hy' with rfl | rfl<;>simp
  ·rw [dN.mp hy];rfl
  ·have J:=P8 (q:=qn) (f:=f) (cd:=.ref c') (tk:=s'.toks+1) (A':=X.A.in1.in1) I' hA room2.hd hc1 hcb cell rx hns kp
   refine fS (VS (pins:=pins) J ent) (λu s3 hu=>?_) λ_ _ z=>z
   obtain ⟨v3,H3,J3,r3,rfl,rfl⟩:=hu
   obtain ⟨t3,rfl⟩:=r3
   exact ⟨t3,rfl,⟨J3.os.trans t.1,J3.bare,t.2.2.1.trans J3.base,J3.hok⟩,λb o hb e=>J3.base.keep b o e (I2.hok.fresh hb) (nofr b hb) (by simp [CO])⟩
 show wpAny (model X.prog X.w) X.A (call (.builtin "sorted") [.ref p] [(Str.ofString "key",.ref f)]) _ _ s2
 refine SS.HG T t0 hpl.isList (aL _) (by rw [hkz,hlen]) (by rw [<- hlen];exact h128) turn λs' D out cc J t hD ho sb hout=>?_
 have hDn:H2 D=none:=I2.hok.fresh hD
 rw [<- hlen] at sb
 have hL:(2:Nat) ^ 24=bG:=rfl
 have vals:eI (J.map λi=>xs.getD i .non) out.toList:=by
  rw [hout]
  have:∀ J:List Nat,(∀ i∈J,i<xs.length)->eI (J.map λi=>xs.getD i .non) (J.map λi=>its.getD i .none):=by
   intro J hJ
   induction J with
   | nil=>exact .nil
   | cons j J ih =>
    refine .cons ?_ (ih λi hi=>hJ i (aK _ hi))
    have hj:=hJ j (aM ..)
    obtain ⟨u,h1,h2⟩:=rv.get (aB hj)
    show gO (xs.getD j .non) (its.getD j .none)
    rw [cI,cI,h1,aB hj]
    exact h2
  exact this J sb.lt
 refine ⟨.ref D,_,I2.call' (ch:=[]) (s':=s') (H':=iM H2 D (.lst (J.map λi=>xs.getD i .non))) t.1 (t.2.2.1.new hDn hD) (t.2.2.2.new hDn ⟨?_,out.toList,cc,vals,?_⟩) t.2.1 (λb z=>absurd z (by simp)),rfl,q H2 sH J D sb hDn⟩
 ·rw [aC,sb.len,<- hL];omega
 ·simpa [seqObj] using ho
end
end L2

namespace L2
open PySem PySem.Spec PyProof.Rows
def DE (K:aE) (cd:Value):Prop:=∃ c P,cd=.ref c/\tabA=some P/\uC K c P=true
theorem JZ.okC {P:bY} {w:World} {K:aE} {mg:Str->Option Value} {base:Heap} {x qual:Str} {st:Stmt} {f:Addr} {fd:dF} {N ps:List Str} {k:Nat} {sp:Sp} (F:JZ K x qual st f fd) (S:cD N ps (aY st)) (len:∀ vs H Q E,sp vs H Q E->vs.length=ps.length)
  (hbody:∀ (cdv:Value),fd.code=cdv->∀ (A:Around) (outer:List Env) (s:Shared) (H:Hp) (vs:List V) (Q:VK) (E:XK),gG k (A.deeper (envOfC qual (aY st) s.heap.objs.size f cdv))->sp vs H Q E ->
   ∃ t,DB (wX dP P w K mg base N qual (aY st) f cdv A outer s H E).nox (kU st) t/\t { nx:=λ_ H'=>Q .non H',rt:=Q } (start N vs) H):bN P w K mg base dP (k+1) f fd ps sp:=by
 obtain ⟨oc,od,kV,doc,pm,an,cdv,ct,osl,rfl,lk,hcd⟩:=F.ex
 refine T8 lk hcd S len λA outer s H vs Q E hr hsp=>?_
 obtain ⟨t,h,q⟩:=hbody cdv rfl A outer s H vs Q E hr hsp
 exact ⟨t,h.nox,q⟩
end L2
namespace TL
open PySem PySem.Spec PyProof.Rows L2
theorem fnL {P:bY} {w:World} {K:aE} {mg:Str->Option Value} {base:Heap} {x qual:Str} {st:Stmt} {f:Addr} {fd:dF} {N pn:List Str} {k:Nat} {sp:JG} (L:DE K fd.code) (F:JZ K x qual st f fd) (S:cD N pn (aY st)) (len:∀ ds Q,sp ds Q->ds.length=pn.length)
  (hbody:∀ (cdv:Value),DE K cdv->∀ (A:Around) (outer:List Env) (s:Shared) (H:Hp) (E:XK),gG k (A.deeper (envOfC qual (aY st) s.heap.objs.size f cdv))->∀ (ds:List D) (Q:List D->Prop),sp ds Q ->
   ∃ t,rO (wX dP P w K mg base N qual (aY st) f cdv A outer s H E).nox (kU st) t/\t { nx:=λ_=>False,rt:=λ_=>False,ro:=Q } (mK N ds)):bN P w K mg base dP (k+1) f fd pn (fV K sp):=by
 refine F.okC S (λvs H Q E h=>?_) λcdv hcd A outer s H vs Q E hr h=>?_
 ·obtain ⟨ps,ds,QD,_,r,q,_⟩:=h
  rw [<- r.length];exact len ds QD q
 ·obtain ⟨ps,ds,QD,live,r,q,k⟩:=h
  obtain ⟨t,⟨ts,p,rd⟩,h⟩:=hbody cdv (hcd▸L) A outer s H E hr ds QD q
  exact ⟨ts,p,rd H ps H ps _ _ _ _ (sE live r) h ⟨λ_ _ _ _ _ _ q'=>q'.elim,λ_ _ _ _ _ _ q'=>q'.elim,λ_ _ _ _ _ _ q'=>q'.elim,λ_ _ _ _ _ q'=>q'.elim,λts p xs H' s' hB hp hx rs q'=>k ts p xs H' s' hB hx rs q',λ_ _ _ _ _ _ _ _ _ _ _ _ _ _ _ _ _ _ q'=>q'.elim,λ_ _ _ _ _ _ _ _ _ _ _ _ _ _ q'=>q'.elim,True.intro⟩⟩
def XQ (b:Int) (e:D) (k:Int):Prop:=∃ (q st:D) (top bot:Int),e=.tuple [q,st,.tuple [.int top,.int bot]]/\XS b bot/\EY top (b / bot)/\k=top*(b / bot)
theorem XQ.rep {K:aE} {H:Hp} {b k:Int} {e:D} {x:V} (h:XQ b e k) (r:iA K H e x):xZ K H b x k:=by
 obtain ⟨q,st,top,bot,rfl,h1,h2,h3⟩:=h
 cases r with
 | tuple s1 r1 =>
  cases r1 with
  | cons ra r1 =>
   cases r1 with
   | cons rb r1 =>
    cases r1 with
    | cons rc r1 =>
     cases r1
     cases rc with
     | tuple s2 r2 =>
      cases r2 with
      | cons rd r2 =>
       cases r2 with
       | cons re r2 =>
        cases r2
        cases rd
        cases re
        exact ⟨_,_,_,_,top,bot,rfl,s1,s2,h1,h2,h3⟩
theorem xZ.mask {K:aE} {H:Hp} {ps:List Addr} {b k:Int} {x:V} (h:xZ K (TL.mask H ps) b x k):xZ K H b x k:=h.same λ_ _ e=>dA _ _ e
def WR (ib:Nat) (t:AT):FT:=λσ Q=>t σ λds=>∃ (es:List D) (b:Int) (kz:List Int),ds=[.list es]/\es.length<128/\σ[ib]?=some (.val (.int b))/\kz.length=es.length/\(∀ (i:Nat) e k,es[i]?=some e->kz[i]?=some k->XQ b e k) /\
 ∀ J:List Nat,SS.xW es.length (λi=>kz.getD i 0) J->Q (J.map λi=>es.getD i .none)
theorem MU {X:Cx} {ib:Nat} {e:Expr} {t:AT} {k:Nat} {cdv:Value} {np lp ap kp pos p1 p2 p3 p4 p5 p6 p7 p8 p9 q1 q2 q3 q4:Pos} (hr:gG (k+3) X.A) (L:DE X.K cdv) (hc:X.env.code=cdv) (hib:X.N[ib]?=some "bottom") (hk:X.env.kindOf "bottom"=some .cell)
  (hg:Gl X "sorted") (hm:X.mg "sorted"=none) (hv:bootBuiltins "sorted"=some (.builtin "sorted")) (ha:uV X [e] t)
  (he:backTo pos (bT [e] X.env)=(false,eval e X.env)::backTo pos (bT [] X.env):=by rfl)
  (hpl:(backTo pos (bT [e] X.env)).any (·.1)=false:=by rfl) :
  JX X (.Call (.Name "sorted" np) [e] [⟨some (Str.ofString "key"),.Lambda (T1 ap) (.BinOp (.Subscript (.Subscript (.Name "entry" p1) (.Constant (.int 2) 0 p2) p3) (.Constant (.int 0) 0 p4) p5) .Mult (.BinOp (.Name "bottom" p6) .FloorDiv (.Subscript (.Subscript (.Name "entry" p7) (.Constant (.int 2) 0 p8) p9) (.Constant (.int 1) 0 q1) q2) q3) q4) sL lp,kp⟩] pos) (WR ib t):=by
 obtain ⟨c,P,rfl,hT,hC⟩:=L
 obtain ⟨ta,pa,ra⟩:=ha
 refine ⟨_,LB hr hT hc hC hib hk hg hm hv pa he hpl,λB p0 H ps σT σ Q QV o h k=>ra B p0 H ps σT σ _ _ o h λds vs H1 s1 r1 q1=>?_⟩
 obtain ⟨es,b,kz,rfl,h128,hb,hkz,hent,q⟩:=q1
 obtain ⟨v,hv1,hv2⟩:=o.val ib _ hb
 cases hv2
 cases r1 with
 | cons r1 r2 =>
  cases r2
  cases r1 with
  | @list pp xv _ hs rs =>
   have hl:=rs.length
   refine ⟨_,_,b,kz,rfl,L2.bH.seq dA hs,by rw [<- hl];exact h128,hv1,by rw [hkz,hl],λi x k0 hx hk0=>?_,λH2 sH J r sb hr=>?_⟩
   ·obtain ⟨d,hd,rd⟩:=rs.get' hx
    exact xZ.mask ((hent i d k0 hd hk0).rep rd)
   ·rw [<- hl] at sb
    have s2:bH H H2:=s1.trans sH
    refine k _ r _ _ (s2.trans (fL hr)) (bH.free' s2 hr) eM ?_ (q J sb)
    rw [kR hr]
    have rs2:Reps X.K (TL.mask H2 ps) es _:=rs.same (cJ sH)
    have:∀ J:List Nat,(∀ i∈J,i<es.length)->Reps X.K (TL.mask H2 ps) (J.map λi=>es.getD i .none) (J.map λi=>xv.getD i .non):=by
     intro J hJ
     induction J with
     | nil=>exact .nil
     | cons j J ih =>
      refine .cons ?_ (ih λi hi=>hJ i (aK _ hi))
      have hj:=hJ j (aM ..)
      obtain ⟨u,h1,h2⟩:=rs2.get (aB hj)
      show iA _ _ (es.getD j .none) (xv.getD j .non)
      rw [cI,cI,h1,aB hj]
      exact h2
    exact this J sb.lt
end TL
namespace L2
open PySem
def aAl (K:aE) (cd:Value) (P:Addr):Bool:=match cd with | .ref c=>uC K c P | _=>false
theorem V9 {K:aE} {cd:Value} {P:Addr} (h:aAl K cd P=true) (e:tabA=some P):DE K cd:=by
 cases cd with
 | ref c=>exact ⟨c,P,rfl,e,h⟩
 | _=>cases h
theorem U1 {h:Heap} {c P:Addr} (C:NG h c P) (e:h.get? P=some { cls:=.none,data:=.fields #[] }):isCodeTable h P:=(C.tab e).isCodeTable
end L2

namespace TL
open PySem PySem.Spec PyProof.Rows L2
theorem Reps.eraseIdx {K:aE} {H:Hp}:∀ {ds:List D} {vs:List V} (n:Nat),Reps K H ds vs->Reps K H (ds.eraseIdx n) (vs.eraseIdx n)
 | _,_,_,.nil=>.nil
 | _,_,0,.cons _ t=>t
 | _,_,n+1,.cons r t=>.cons r (Reps.eraseIdx n t)
section
variable {X:Cx} {e:Expr} {es:List Expr} {te:ET} {x:Str} {pos pos' p:Pos}
theorem ss (i:Nat) (hN:X.N.Nodup) (h:jD X e te) (hi:X.N[i]?=some x:=by rfl) (hx:ND X.env.scope x:=by first | exact Or.inl rfl | exact Or.inr rfl) (hs:qU e (some (.Name x pos')) pos.line X.env=pure false:=by rfl)
  (hf:X.fn x=true\/X.env.scope.names.lookup x=some .local:=by first | exact .inl rfl | exact .inr rfl):xX X (.Assign [.Name x pos'] e pos) (DR i te):=U3 (i:=i) h λh=>DX hN hi hx h hs hf
theorem pn (i:Nat) (hN:X.N.Nodup) (hi:X.N[i]?=some x:=by rfl) (hx:ND X.env.scope x:=by first | exact Or.inl rfl | exact Or.inr rfl) (hf:X.fn x=true\/X.env.scope.names.lookup x=some .local:=by first | exact .inl rfl | exact .inr rfl):PG X (.Name x pos) (kT i):=FZ hN hi hx hf
theorem ca {k:Nat} {f:Addr} {fd:dF} {pn:List Str} {sp:kW} {t:AT} (F:bN X.prog X.w X.K X.mg X.base dP k f fd pn (aS X.K sp)) (hm:X.mg x=some (.ref f)) (hk:eX X.K (.ref f)=true) (hb:pJ X.K fd pn []) (hr:gG k X.A) (ha:uV X (e::es) t)
  (hg:Gl X x:=by rfl) (hdb:(x == ("__debug__":Str))=false:=by decide) (he:bT (e::es) X.env=(false,eval e X.env)::bT es X.env:=by rfl) (hpl:(backTo pos (bT es X.env)).any (·.1)=false:=by rfl):jD X (.Call (.Name x p) (e::es) [] pos) (mB sp t) :=
 GK F hm hk hb hr ha λh=>qM F hr hg hm hk hb .nil yV h hdb he hpl
theorem lK {N P:List Str} {sc:Scope} (h1:sc.kind=.function:=by rfl) (h2:sc.isCoroutine=false:=by rfl) (h3:sc.isGenerator=false:=by rfl) (h4:N.Nodup:=by decide +kernel) (h5:N.take P.length=P:=by rfl) (h6:∀ x∈P,sc.names.lookup x=some .local\/sc.names.lookup x=some .cell:=by decide +kernel) (h7:∀ y∈sc.names,y.2≠.free:=by decide +kernel):cD N P sc:=⟨h1,h2,h3,h4,h5,h6,h7⟩
end
end TL

namespace L2
open PySem PySem.Spec PyProof.Rows TL
theorem yG:∀ {xs:List V} {us:List Value},eI xs us->∀ n,eI (xs.take n) (us.take n)
 | _,_,.nil,n=>by rw [sS,sS];exact .nil
 | _,_,.cons _ _,0=>.nil
 | _,_,.cons r t,n+1=>.cons r (yG t n)
theorem yI:∀ {xs:List V} {us:List Value},eI xs us->∀ n,eI (xs.drop n) (us.drop n)
 | _,_,.nil,n=>by rw [sT,sT];exact .nil
 | _,_,.cons r t,0=>.cons r t
 | _,_,.cons _ t,n+1=>yI t n
section
variable {X:Cx}
def FU:V->List V->Hp->VK->Prop:=λx vs H Q=>∃ (l:Addr) (xs:List V) (n:Nat) (y:V),x=.ref l/\vs=[.int (n:Int),y]/\H l=some (.lst xs)/\n<=xs.length/\xs.length<100000/\Q .non (iM H l (.lst (xs.take n++y::xs.drop n)))
theorem IB:MtM X "list.insert" FU:=by
 intro pins s σ H x vs v us Q I rx rv h
 obtain ⟨l,xs,n,y,rfl,rfl,hH,hn,hz,q⟩:=h
 cases rx
 obtain ⟨z,its,c,r,hl,e⟩:=I.lstM hH
 have hlen:=r.length
 have hL:bG=2 ^ 24:=rfl
 have hsz:its.toArray.size<=bG:=by rw [bB,<- hlen,hL];omega
 have hfit:Builtin.List.listFitsIndex (n:Int)=true:=by
  unfold Builtin.List.listFitsIndex
  simp only [dB,decide_eq_true_eq]
  omega
 have hnew:∀ u:Value,(its.toArray.extract 0 n).push u++its.toArray.extract n its.toArray.size=(its.take n++u::its.drop n).toArray:=λu=>by
  apply Array.toList_inj.mp
  simp
  exact dQ (by rw [cO];exact aL _)
 have hx0:¬ (n:Int)<0:=by omega
 have hmin:min ((n:Int)).toNat its.toArray.size=n:=by rw [NW,bB,<- hlen];omega
 generalize (n:Int)=x at *
 cases rv with
 | cons r1 rr =>
  cases rr with
  | @cons _ u _ _ r2 rr =>
   cases rr
   obtain ⟨t,rfl⟩:=r1
   refine call_meets yB ⟨_,e,rfl⟩ PySem.F.entry_list_insert (PySem.F.args_list_insert_3 _ _ _) (PySem.AutoSeq1.list_insert_list_int_val_1 l its.toArray c x t u (by simp [hfit]) hsz) ⟨e,?_⟩
   refine ⟨.non,_,I.lset (its':=its.take n++u::its.drop n) hH e ?_ ?_ ?_,rfl,q⟩
   ·show (its.toArray.extract 0 (if x<0 then (x+(its.toArray.size:Int)).toNat else min x.toNat its.toArray.size)).push u++its.toArray.extract (if x<0 then (x+(its.toArray.size:Int)).toNat else min x.toNat its.toArray.size)=_
    rw [if_neg hx0,hmin]
    exact hnew u
   ·exact (yG r n).append (.cons r2 (yI r n))
   ·rw [bA,bI,bF,cO];omega
end
end L2
namespace TL
open PySem PySem.Spec PyProof.Rows L2
section
variable {X:Cx} {n e e1 e2:Expr} {te t1 t2:ET} {pos:Pos}
theorem yS {K:aE} {H:Hp}:∀ {ds:List D} {xs:List V},Reps K H ds xs->∀ n,Reps K H (ds.take n) (xs.take n)
 | _,_,.nil,n=>by rw [sS,sS];exact .nil
 | _,_,.cons _ _,0=>.nil
 | _,_,.cons r t,n+1=>.cons r (yS t n)
theorem yU {K:aE} {H:Hp}:∀ {ds:List D} {xs:List V},Reps K H ds xs->∀ n,Reps K H (ds.drop n) (xs.drop n)
 | _,_,.nil,n=>by rw [sT,sT];exact .nil
 | _,_,.cons r t,0=>.cons r t
 | _,_,.cons _ t,n+1=>yU t n
end
end TL

namespace L2
open PySem PySem.Spec PyProof.Rows
abbrev fO (x q:Str) (st:Stmt) (kV dc pm:Value) (an:Option Addr) (cd ct:Value):dF:=kX x q (sN st) (kU st) (aY st) .none kV dc pm an cd ct
theorem aC7 {α:Type} {P:List α->Prop} (h:∀ a,P [a]):∀ us:List α,us.length=1->P us
 | [a],_=>h a
theorem aC6 {α:Type} {P:List α->Prop} (h:∀ a b,P [a,b]):∀ us:List α,us.length=2->P us
 | [a,b],_=>h a b
theorem aC5 {α:Type} {P:List α->Prop} (h:∀ a b c,P [a,b,c]):∀ us:List α,us.length=3->P us
 | [a,b,c],_=>h a b c
theorem aC4 {α:Type} {P:List α->Prop} (h:∀ a b c d,P [a,b,c,d]):∀ us:List α,us.length=4->P us
 | [a,b,c,d],_=>h a b c d
abbrev oE (x q:Str) (st:Stmt) (ps:List Str):Prop:=∀ (kV dc pm:Value) (an:Option Addr) (cd ct:Value) (us:List Value),us.length=ps.length->bindArgs (fO x q st kV dc pm an cd ct) ⟨us,[]⟩=pure (ps.zip us)
structure Dg (K:aE) (x q:Str) (st:Stmt) (a:Addr) (f:dF) (ps:List Str):Prop where
 k:eX K (.ref a)=true
 F:JZ K x q st a f
 d:pJ K f ps []
structure Df (K:aE) (mg:Str->Option Value) (x:Str) (st:Stmt) (a:Addr) (f:dF) (ps:List Str):Prop extends Dg K x x st a f ps where
 m:mg x=some (.ref a)
section
variable {K:aE} {h:Heap} {mg:Str->Option Value} {x q:Str} {st:Stmt} {ps:List Str} {f:Addr} {oc:Value} {od an:Option Addr} {sl:Array (Option Value)} {kV dc pm cd ct:Value}
theorem dg (b:oE x q st ps) (l:K.lookup f=some ⟨oc,od,.func (fO x q st kV dc pm an cd ct),sl⟩) (c:mN K cd q=true) (k:eX K (.ref f)=true):Dg K x q st f (fO x q st kV dc pm an cd ct) ps:=⟨k,MT l c k,(MT l c k).binds b⟩
theorem df (X:K.In h) (G:h.Ns fZ mg) (b:oE x x st ps) (a:PySem.W.nsIn K fZ x=some (some (.ref f))) (l:K.lookup f=some ⟨oc,od,.func (fO x x st kV dc pm an cd ct),sl⟩) (c:mN K cd x=true) (k:eX K (.ref f)=true):Df K mg x st f (fO x x st kV dc pm an cd ct) ps:=⟨dg b l c k,PySem.W.mg_of X G a⟩
theorem QP {p0:Str} (h:∀ kV dc pm an cd ct a0,bindArgs (fO x q st kV dc pm an cd ct) ⟨[a0],[]⟩=pure ([p0].zip [a0]):=by intros;rfl):oE x q st [p0]:=λa b c d e f=>aC7 (h a b c d e f)
theorem xF {p0 p1:Str} (h:∀ kV dc pm an cd ct a0 a1,bindArgs (fO x q st kV dc pm an cd ct) ⟨[a0,a1],[]⟩=pure ([p0,p1].zip [a0,a1]):=by intros;rfl):oE x q st [p0,p1]:=λa b c d e f=>aC6 (h a b c d e f)
theorem EO {p0 p1 p2:Str} (h:∀ kV dc pm an cd ct a0 a1 a2,bindArgs (fO x q st kV dc pm an cd ct) ⟨[a0,a1,a2],[]⟩=pure ([p0,p1,p2].zip [a0,a1,a2]):=by intros;rfl):oE x q st [p0,p1,p2]:=λa b c d e f=>aC5 (h a b c d e f)
theorem W9 {p0 p1 p2 p3:Str} (h:∀ kV dc pm an cd ct a0 a1 a2 a3,bindArgs (fO x q st kV dc pm an cd ct) ⟨[a0,a1,a2,a3],[]⟩=pure ([p0,p1,p2,p3].zip [a0,a1,a2,a3]):=by intros;rfl):oE x q st [p0,p1,p2,p3]:=λa b c d e f=>aC4 (h a b c d e f)
theorem na {C:Addr} {f:Str} (h:kY K (.ref C) f=some none):XN K C f:=h
end
end L2
namespace TL
open PySem PySem.Spec PyProof.Rows L2
section
variable {X:Cx} {e:Expr} {es:List Expr} {te:ET} {x:Str} {pos pos' p:Pos}
theorem cd {k n:Nat} {f:Addr} {fd:dF} {pn:List Str} {sp:kW} {t:AT} {st:Stmt} (F:bN X.prog X.w X.K X.mg X.base dP k f fd pn (aS X.K sp)) (D:Df X.K X.mg x st f fd pn) (hr:gG n X.A) (ha:uV X (e::es) t) (hk:k<=n:=by decide)
  (hg:Gl X x:=by rfl) (hdb:(x == ("__debug__":Str))=false:=by decide) (he:bT (e::es) X.env=(false,eval e X.env)::bT es X.env:=by rfl) (hpl:(backTo pos (bT es X.env)).any (·.1)=false:=by rfl):jD X (.Call (.Name x p) (e::es) [] pos) (mB sp t):=GK F D.m D.k D.d (hr.mono hk) ha λh=>qM F (hr.mono hk) hg D.m D.k D.d .nil yV h hdb he hpl
theorem cc {k n:Nat} {f:Addr} {fd:dF} {pn:List Str} {sp:SpC} {t:AC} {st:Stmt} (F:bN X.prog X.w X.K X.mg X.base dP k f fd pn (vH X.K sp)) (D:Df X.K X.mg x st f fd pn) (hr:gG n X.A) (ha:PAc X (e::es) t) (hk:k<=n:=by decide)
  (hg:Gl X x:=by rfl) (hdb:(x == ("__debug__":Str))=false:=by decide) (he:bT (e::es) X.env=(false,eval e X.env)::bT es X.env:=by rfl) (hpl:(backTo pos (bT es X.env)).any (·.1)=false:=by rfl):PEc X (.Call (.Name x p) (e::es) [] pos) (UG sp t):=QG F D.m D.k D.d (hr.mono hk) ha λh=>qM F (hr.mono hk) hg D.m D.k D.d .nil yV h hdb he hpl
theorem cP {k n:Nat} {f:Addr} {fd:dF} {pn:List Str} {sp:kW} {t:AC} {st:Stmt} (F:bN X.prog X.w X.K X.mg X.base dP k f fd pn (aS X.K sp)) (D:Df X.K X.mg x st f fd pn) (hr:gG n X.A) (ha:PAc X (e::es) t) (hk:k<=n:=by decide)
  (hg:Gl X x:=by rfl) (hdb:(x == ("__debug__":Str))=false:=by decide) (he:bT (e::es) X.env=(false,eval e X.env)::bT es X.env:=by rfl) (hpl:(backTo pos (bT es X.env)).any (·.1)=false:=by rfl):PEc X (.Call (.Name x p) (e::es) [] pos) (UH sp t):=M0 F D.m D.k D.d (hr.mono hk) ha λh=>qM F (hr.mono hk) hg D.m D.k D.d .nil yV h hdb he hpl
theorem cF {k n:Nat} {f:Addr} {fd:dF} {pn:List Str} {sp:JG} {t:AT} {st:Stmt} (F:bN X.prog X.w X.K X.mg X.base dP k f fd pn (fV X.K sp)) (D:Df X.K X.mg x st f fd pn) (hr:gG n X.A) (ha:uV X (e::es) t) (hk:k<=n:=by decide)
  (hg:Gl X x:=by rfl) (hdb:(x == ("__debug__":Str))=false:=by decide) (he:bT (e::es) X.env=(false,eval e X.env)::bT es X.env:=by rfl) (hpl:(backTo pos (bT es X.env)).any (·.1)=false:=by rfl):JX X (.Call (.Name x p) (e::es) [] pos) (UA sp t):=QA F D.m D.k D.d (hr.mono hk) ha λh=>qM F (hr.mono hk) hg D.m D.k D.d .nil yV h hdb he hpl
theorem cQ {k n:Nat} {f:Addr} {fd:dF} {pn:List Str} {sp:X1} {t:AT} {st:Stmt} (F:bN X.prog X.w X.K X.mg X.base dP k f fd pn (lJ X.K sp)) (D:Df X.K X.mg x st f fd pn) (hr:gG n X.A) (ha:uV X (e::es) t) (hk:k<=n:=by decide)
  (hg:Gl X x:=by rfl) (hdb:(x == ("__debug__":Str))=false:=by decide) (he:bT (e::es) X.env=(false,eval e X.env)::bT es X.env:=by rfl) (hpl:(backTo pos (bT es X.env)).any (·.1)=false:=by rfl):PPt X (.Call (.Name x p) (e::es) [] pos) (TX sp t):=K7 F D.m D.k D.d (hr.mono hk) ha λh=>qM F (hr.mono hk) hg D.m D.k D.d .nil yV h hdb he hpl
theorem sf {tg iter:Expr} {body:List Stmt} {g:GT} {tb:qQ} {ti:IT} (he:JV X tg iter ti) (hg:JW X tg g) (hb:rO X body tb) (hp:PassesOwn (model X.prog X.w) X.A X.env X.xe:=by exact PassesOwn.never) (hc:X.calm=true:=by rfl) (hs:∀ x,foldedSetIterable iter X.env x=pure x:=by intro _;rfl):xX X (.For tg iter body [] pos) (OV ti g tb):=U5 he hg hb λh1 h2 h3=>VM hp hc h1 h2 h3 hs
theorem el {elt iter tg:Expr} {ifs:List Expr} {scope:Scope} {fr:List (Option Nat)} {N':List Str} {ti:IT} {g:GT} {tt:oK} {te:ET} (hi:JV X tg iter ti) (hY:∀ b:BP,JW (blk X scope N' b) tg g/\A4 (blk X scope N' b) ifs tt/\jD (blk X scope N' b) elt te) (h:pH scope X.env.scope X.N N' fr=true:=by kernel_rfl) (hc:X.calm=true:=by rfl) (hs:∀ x,foldedSetIterable iter X.env x=pure x:=by intro _;rfl):jD X (.ListComp elt [⟨tg,iter,ifs,0⟩] scope pos) (JR fr ti g tt te):=aAz hi hY λa b=>LE h hc a b hs
theorem fl {elt iter tg:Expr} {ifs:List Expr} {scope:Scope} {fr:List (Option Nat)} {N':List Str} {ti:IT} {g:GT} {tt:oK} {te:ET} (hi:JV X tg iter ti) (hY:∀ b:BP,JW (blk X scope N' b) tg g/\A4 (blk X scope N' b) ifs tt/\jD (blk X scope N' b) elt te) (h:pH scope X.env.scope X.N N' fr=true:=by kernel_rfl) (hc:X.calm=true:=by rfl) (hs:∀ x,foldedSetIterable iter X.env x=pure x:=by intro _;rfl):JX X (.ListComp elt [⟨tg,iter,ifs,0⟩] scope pos) (fLc fr ti g tt te):=aAr hi hY λa b=>LE h hc a b hs
theorem cY {r:List V->Hp->VK->Prop} {f:List D->(D->Prop)->Prop} {t:AT} {T:String} (hf:uN X r f) (ha:uV X (e::es) t) (hc:nF X (.type T) r) (hm:X.mg x=none) (hv:bootBuiltins x=some (.type T)) (hg:Gl X x:=by rfl) (hn:x≠"__name__":=by decide) (hdb:(x == ("__debug__":Str))=false:=by decide) (he:bT (e::es) X.env=(false,eval e X.env)::bT es X.env:=by rfl) (hpl:(backTo pos (bT es X.env)).any (·.1)=false:=by rfl):jD X (.Call (.Name x p) (e::es) [] pos) (mB f t):=UD hf ha λh=>HR hc hg hm hv h hn hdb he hpl
theorem cB {r:List V->Hp->VK->Prop} {f:List D->(D->Prop)->Prop} {t:AT} {T:String} (hf:uN X r f) (ha:uV X (e::es) t) (hc:nF X (.builtin T) r) (hm:X.mg x=none) (hv:bootBuiltins x=some (.builtin T)) (hg:Gl X x:=by rfl) (hn:x≠"__name__":=by decide) (hdb:(x == ("__debug__":Str))=false:=by decide) (he:bT (e::es) X.env=(false,eval e X.env)::bT es X.env:=by rfl) (hpl:(backTo pos (bT es X.env)).any (·.1)=false:=by rfl):jD X (.Call (.Name x p) (e::es) [] pos) (mB f t):=UD hf ha λh=>LG hc hg hm hv h hn hdb he hpl
theorem so {p2:Pos} {t:AT} (i:Nat) (hN:X.N.Nodup) (h:uV X es t) (hi:X.N[i]?=some x:=by rfl) (hx:ND X.env.scope x:=by first | exact Or.inl rfl | exact Or.inr rfl) (hs:qU (.List es p2) (some (.Name x pos')) pos.line X.env=pure false:=by rfl) (hf:X.fn x=true\/X.env.scope.names.lookup x=some .local:=by first | exact .inl rfl | exact .inr rfl):xX X (.Assign [.Name x pos'] (.List es p2) pos) (OU i t):=U4 (i:=i) h λh=>DX hN hi hx h hs hf
theorem sF {t:FT} (i:Nat) (hN:X.N.Nodup) (h:JX X e t) (hi:X.N[i]?=some x:=by rfl) (hx:ND X.env.scope x:=by first | exact Or.inl rfl | exact Or.inr rfl) (hs:qU e (some (.Name x pos')) pos.line X.env=pure false:=by rfl) (hf:X.fn x=true\/X.env.scope.names.lookup x=some .local:=by first | exact .inl rfl | exact .inr rfl):xX X (.Assign [.Name x pos'] e pos) (KY i t):=OH (i:=i) h λh=>DX hN hi hx h hs hf
def ndB (l:List Str):Bool:=decide l.Nodup
theorem pk (i:Nat) (hN:ndB X.N=true:=by kernel_rfl) (hi:X.N[i]?=some x:=by rfl) (hx:ND X.env.scope x:=by first | exact Or.inl rfl | exact Or.inr rfl) (hf:X.fn x=true\/X.env.scope.names.lookup x=some .local:=by first | exact .inl rfl | exact .inr rfl):PG X (.Name x pos) (kT i):=FZ (of_decide_eq_true hN) hi hx hf
theorem tv (h:jD X e te) (he:∀ whole,isTrue e X.env whole=(do let v <- whole;standAt e.pos;holding [v] (truthy v)):=by intro _;rfl):EW X e (GX te):=US h λh=>VJ h he
end
section
variable {X:Cx} {n e1 e2:Expr} {t1 t2:ET} {pos:Pos}
def YS (i:Nat) (t1 t2:ET):qQ:=λDT σ=>∃ ts,σ[i]?=some (.own ts)/\t1 σ λx=>t2 σ λd=>∃ n:Nat,x=.int (n:Int)/\n<=ts.length/\ts.length<100000/\DT.nx (σ.set i (.own (ts.take n++d::ts.drop n)))
theorem OI {i:Nat} {ap cp:Pos} (h1':jD X e1 t1) (h2':jD X e2 t2) (hs:bT [e1,e2] X.env=(false,eval e1 X.env)::bT [e2] X.env:=by rfl) (hs2:bT [e2] X.env=(false,eval e2 X.env)::bT [] X.env:=by rfl)
  (pb:∀ {ta:TA},PA X [e1,e2] ta->PS X (.Expr (.Call (.Attribute n "insert" ap) [e1,e2] [] cp) pos) (FE (N5 X.K "list" FU (BN i) ta))):xX X (.Expr (.Call (.Attribute n "insert" ap) [e1,e2] [] cp) pos) (YS i t1 t2):=by
 obtain ⟨v1,p1,r1⟩:=h1'
 obtain ⟨v2,p2,r2⟩:=h2'
 refine ⟨_,pb (oT p1 (oT p2 wF hs2) hs),λB p0 H ps σT σ DT DV o h f=>?_⟩
 obtain ⟨ts,e,h⟩:=h
 obtain ⟨q,xs,h1,h2,h3,h4,h5,h6⟩:=o.own i ts e
 refine ⟨.ref q,h1,.inl ⟨rfl,xs,lP.of h5⟩,r1 B p0 H ps σT σ _ _ o h λd1 x1 H1 s1 g1 q1=>?_⟩
 refine r2 B p0 H1 ps σT σ _ _ (o.grow s1) q1 λd2 x2 H2 s2 g2 q2=>?_
 obtain ⟨k,rfl,hk,hz,q2⟩:=q2
 cases g1
 have s12:=s1.trans s2
 have hl:=h6.length
 refine ⟨q,xs,k,x2,rfl,rfl,s12 _ _ h5,by omega,by omega,?_⟩
 have hr:Reps X.K (mask H2 ps) (ts.take k++d2::ts.drop k) (xs.take k++x2::xs.drop k):=(yS (h6.same (cJ s12)) k).append (.cons g2 (yU (h6.same (cJ s12)) k))
 exact f.nx _ ps _ σ ((o.grow s12).write (ys:=xs.take k++x2::xs.drop k) e h1 hr) ((cJ s12).trans (by rw [kP h2];exact L2.bH.refl _)) q2
end
end TL

namespace K94
open PySem L2 TL
def top (i:Nat):Stmt:=PySem.Challenge.pw_leafjudge_k94_whole_rows_told_otherwise.main.body.getD i (.Pass ⟨0,0,0,0⟩)
structure Txt (K:aE) (mg:Str->Option Value) (a_0 a_1 a_2 a_3 a_4 a_5 a_6 a_7 a_8 a_9 a_10 a_11 a_12 a_13 a_14 a_15 a_16 a_17 a_18 a_19 a_20 a_21 a_22 a_23 a_24 a_25 a_26 a_27 a_28 a_29 a_30 a_31 a_32 a_33 a_34 a_35 a_36 a_37 a_38 a_39 a_40 a_41 a_42 a_43 a_44 a_45 a_46 a_47 a_48 a_49 a_50 a_51 a_52 a_law:Addr) (f_0 f_1 f_2 f_3 f_4 f_5 f_6 f_7 f_8 f_9 f_10 f_11 f_12 f_13 f_14 f_15 f_16 f_17 f_18 f_19 f_20 f_21 f_22 f_23 f_24 f_25 f_26 f_27 f_28 f_29 f_30 f_31 f_32 f_33 f_34 f_35 f_36 f_37 f_38 f_39 f_40 f_41 f_42 f_43 f_44 f_45 f_46 f_47 f_48 f_49 f_50 f_51 f_52 f_law:dF) (t_SIDES:Addr):Prop where
 D_0:Df K mg "counted" (top 1) a_0 f_0 ["form","rows"]
 D_1:Df K mg "first_answer" (top 2) a_1 f_1 ["form","rows"]
 D_2:Df K mg "doubt_of" (top 3) a_2 f_2 ["form","rows"]
 D_3:Df K mg "fraction" (top 4) a_3 f_3 ["top","bottom"]
 D_4:Df K mg "common_divisor" (top 5) a_4 f_4 ["one","other"]
 D_5:Df K mg "added" (top 6) a_5 f_5 ["one","other"]
 D_6:Df K mg "is_less" (top 7) a_6 f_6 ["one","other"]
 D_7:Df K mg "common_bottom" (top 8) a_7 f_7 ["fractions"]
 D_8:Df K mg "questions_of" (top 11) a_8 f_8 ["form"]
 D_9:Df K mg "questions_on" (top 12) a_9 f_9 ["field"]
 D_10:Df K mg "choices_of" (top 13) a_10 f_10 ["form"]
 D_11:Df K mg "side_of" (top 14) a_11 f_11 ["form","question","stray","case"]
 D_12:Df K mg "field_asked" (top 15) a_12 f_12 ["form","question"]
 D_13:Df K mg "entries_to_yes" (top 16) a_13 f_13 ["question","stray","field"]
 D_14:Df K mg "values_held" (top 17) a_14 f_14 ["question","field"]
 D_15:Df K mg "parted" (top 18) a_15 f_15 ["form","question","stray","rows"]
 D_16:Df K mg "numbers_on" (top 19) a_16 f_16 ["side","sides"]
 D_17:Df K mg "is_proper" (top 20) a_17 f_17 ["sides","fewest"]
 D_18:Df K mg "ranked" (top 22) a_18 f_18 ["form","rows","least"]
 D_19:Df K mg "rows_at" (top 23) a_19 f_19 ["rows","numbers"]
 D_20:Df K mg "best" (top 24) a_20 f_20 ["form","rows","least"]
 D_21:Df K mg "grown" (top 25) a_21 f_21 ["form","rows","deep","least"]
 D_22:Df K mg "is_leaf" (top 30) a_22 f_22 ["tree"]
 D_23:Df K mg "on_side" (top 31) a_23 f_23 ["knot","side"]
 D_24:Df K mg "knots_in" (top 32) a_24 f_24 ["tree"]
 D_25:Df K mg "way_of" (top 33) a_25 f_25 ["form","tree","case"]
 D_26:Df K mg "sides_of_way" (top 34) a_26 f_26 ["form","tree","case"]
 D_27:Df K mg "answer_of" (top 35) a_27 f_27 ["form","tree","case"]
 D_28:Df K mg "part_at" (top 36) a_28 f_28 ["tree","place"]
 D_29:Df K mg "cost_of" (top 38) a_29 f_29 ["form","tree","rows","prices"]
 D_30:Df K mg "first_leaf" (top 40) a_30 f_30 ["form","rows"]
 D_31:Df K mg "rows_on_sides" (top 41) a_31 f_31 ["form","knot","rows"]
 D_32:Df K mg "prices_at" (top 42) a_32 f_32 ["price"]
 D_33:Df K mg "least_pruning" (top 43) a_33 f_33 ["form","tree","rows","price"]
 D_34:Df K mg "least_with_cost" (top 44) a_34 f_34 ["form","tree","rows","prices"]
 D_35:Df K mg "steps" (top 45) a_35 f_35 ["form","tree","rows"]
 D_36:Df K mg "next_price" (top 46) a_36 f_36 ["form","tree","rows"]
 D_37:Df K mg "slips_and_prices" (top 47) a_37 f_37 ["form","tree","rows"]
 D_38:Df K mg "_law_mix" (top 49) a_38 f_38 ["_law_cell","_law_k"]
 D_39:Df K mg "_law_cell_at" (top 50) a_39 f_39 ["_law_script","_law_k"]
 D_40:Df K mg "_law_drawn" (top 51) a_40 f_40 ["_law_cell","_law_many"]
 D_41:Df K mg "_law_names" (top 52) a_41 f_41 ["_law_drawn_here","_law_at","_law_many"]
 D_42:Df K mg "_law_form" (top 53) a_42 f_42 ["_law_script"]
 D_43:Df K mg "_law_case" (top 54) a_43 f_43 ["_law_form_here","_law_bits"]
 D_44:Df K mg "_law_row" (top 55) a_44 f_44 ["_law_form_here","_law_bits"]
 D_45:Df K mg "_law_rows" (top 56) a_45 f_45 ["_law_script","_law_form_here","_law_many"]
 D_46:Df K mg "_law_other_names" (top 57) a_46 f_46 ["_law_form_here","_law_bits"]
 D_47:Df K mg "_law_told_by" (top 58) a_47 f_47 ["_law_form_here","_law_other","_law_row_here"]
 D_48:Df K mg "_law_question_by" (top 59) a_48 f_48 ["_law_form_here","_law_other","_law_question"]
 D_49:Df K mg "_law_tree_by" (top 60) a_49 f_49 ["_law_form_here","_law_other","_law_tree"]
 D_50:Df K mg "_law_twice" (top 61) a_50 f_50 ["_law_one","_law_two"]
 D_51:Df K mg "_law_turned" (top 62) a_51 f_51 ["_law_rows_here","_law_bits"]
 D_52:Df K mg "_law_steps_doubled" (top 63) a_52 f_52 ["_law_form_here","_law_tree","_law_rows_here","_law_more"]
 D_law:Df K mg "law" (top 64) a_law f_law ["_law_script"]
 c_SIDES:mg "SIDES"=some (.ref t_SIDES)
 t_SIDES:XO K t_SIDES ["yes","no"]
 L_18:DE K f_18.code
 b_ValueError:mg "ValueError"=none
 b_enumerate:mg "enumerate"=none
 b_len:mg "len"=none
 b_max:mg "max"=none
 b_range:mg "range"=none
 b_sorted:mg "sorted"=none
 b_sum:mg "sum"=none
 b_tuple:mg "tuple"=none
def iL:Str:="abcdefghijklmnopqrstuvwxyz"
def sgn (c:Nat):Bool:=Txt.contains iL ⟨#[c]⟩
def rS (z:Str):Bool:=decide (1<=z.length) && decide (z.length<=8) && z.cps.toList.all sgn
def nm:D->Bool
 | .str z=>rS z
 | _=>false
def txt:D->Str
 | .str z=>z
 | _=>""
def nms (d:D) (lo hi:Int):Bool:=match d with | .tuple ts=>decide (lo<=ts.length) && decide ((ts.length:Int)<=hi) && ts.all nm && decide ((ts.map txt).Nodup) | _=>false
def fld:D->Bool
 | .tuple [n,vs]=>nm n && nms vs 2 5
 | _=>false
def fst:D->D
 | .tuple (n::_)=>n
 | _=>.none
def flds:D->Bool
 | .tuple ts=>decide (1<=ts.length) && decide (ts.length<=5) && ts.all fld && decide ((ts.map λt=>txt (fst t)).Nodup)
 | _=>false
def FM:kW:=λds Q=>∃ c k:Int,ds=[.int c,.int k]/\0<=k/\k<1000/\∀ r:Int,0<=r->r<2147483647->Q (.int r)
def FL:kW:=λds Q=>∃ (ns:List Int) (k:Int),ds=[.list (ns.map aX),.int k]/\ns.length<=63/\0<=k/\k<1000/\∀ r:Int,Q (.int r)
def qT (n:Nat) (bs:List Int):Prop:=bs.length=n/\∀ b∈bs,0<=b/\b<4096
def FK:kW:=λds Q=>∃ (c:Int) (n:Nat),ds=[.int c,.int n]/\n<=100/\∀ bs,qT n bs->Q (.list (bs.map aX))
def JI (n:Nat) (ys:List Str):Prop:=ys.length=n/\(∀ y∈ys,rS y=true)/\ys.Nodup
def RF:kW:=λds Q=>∃ (bs:List Int) (n m k:Nat),ds=[.list (bs.map aX),.int k,.int m]/\qT n bs/\k+11<=n/\n<=100/\m<=8/\∀ ys,JI m ys->Q (.tuple (ys.map aR))
def jO (f:Str×List Str):D:=.tuple [.str f.1,.tuple (f.2.map aR)]
def eL (fs:List (Str×List Str)) (an:List Str):D:=.tuple [.tuple (fs.map jO),.tuple (an.map aR)]
structure fF (fs:List (Str×List Str)) (an:List Str):Prop where
 n1:1<=fs.length
 n5:fs.length<=5
 nd:JI fs.length (fs.map (·.1))
 vs:∀ f∈fs,2<=f.2.length/\f.2.length<=5/\JI f.2.length f.2
 a2:2<=an.length
 a4:an.length<=4
 an:JI an.length an
def RE:kW:=λds Q=>∃ ns:List Int,ds=[.list (ns.map aX)]/\ns.length<=63/\∀ fs an,fF fs an->Q (eL fs an)
theorem qA {α:Type} {xs:List α} {i:Int} (h0:0<=i) (h1:i<xs.length):∃ a,a∈xs/\L2.atI xs i=some a/\xs[i.toNat]?=some a:=by
 have hi:i.toNat<xs.length:=by omega
 refine ⟨xs[i.toNat],eF hi,?_,aB hi⟩
 have:=L2.eK (xs:=xs) (j:=i.toNat) (v:=xs[i.toNat]) (aB hi)
 rwa [show ((i.toNat:Nat):Int)=i by omega] at this
theorem gQ {bs:List Int} {n:Nat} {i:Int} (hb:qT n bs) (h0:0<=i) (h1:i<n):∃ b,0<=b/\b<4096/\L2.atI (bs.map aX) i=some (.int b):=by
 obtain ⟨a,hm,ha,_⟩:=qA (xs:=bs.map aX) (i:=i) h0 (by rw [aC,hb.1];exact h1)
 obtain ⟨b,hb',rfl⟩:=bC.mp hm
 exact ⟨b,(hb.2 b hb').1,(hb.2 b hb').2,ha⟩
theorem eZ (n:Nat):(dX n).length=n:=by unfold dX;simp
theorem fE {n k:Nat} {x:D} (h:(dX n)[k]?=some x):k<n/\x=.int k:=by
 unfold dX at h
 rw [aJ] at h
 by_cases hk:k<n
 ·rw [gS hk] at h
  cases h
  exact ⟨hk,rfl⟩
 ·rw [eJ (by simpa using hk)] at h
  cases h
theorem pA {α:Type} (xs:List α) (j:Nat):jP xs none (some (j:Int))=xs.take j:=by
 unfold jP
 rw [HT.sIx_none,HT.sIx_nat,zN,EZ]
 by_cases h:j<=xs.length
 ·rw [kF h]
 ·rw [xG (by omega),dW,dQ (by omega)]
theorem W5 {α:Type} (xs:List α) (i:Nat):jP xs (some (i:Int)) none=xs.drop i:=by
 unfold jP
 rw [HT.sIx_none,HT.sIx_nat]
 by_cases h:i<=xs.length
 ·rw [kF h,dQ (by rw [cO];omega)]
 ·rw [xG (by omega),pN (aL _),pN (by omega)]
  simp
theorem W4 {α:Type} (xs:List α) (i j:Nat):jP xs (some (i:Int)) (some (j:Int))=(xs.drop i).take (j-i):=by
 unfold jP
 rw [HT.sIx_nat,HT.sIx_nat]
 apply fG
 intro k
 rw [kH,kH,jB,jB]
 by_cases hi:i<=xs.length
 ·rw [kF hi]
  by_cases hj:j<=xs.length
  ·rw [kF hj]
  ·rw [xG (by omega)]
   by_cases h1:k<xs.length-i
   ·rw [if_pos h1,if_pos (by omega)]
   ·rw [if_neg h1]
    by_cases h2:k<j-i
    ·rw [if_pos h2,eJ (by omega)]
    ·rw [if_neg h2]
 ·rw [if_neg (by omega)]
  by_cases h2:k<j-i
  ·rw [if_pos h2,eJ (by omega)]
  ·rw [if_neg h2]
theorem nB {α β:Type} (f:α->β) (xs:List α) (lo hi:Option Int):jP (xs.map f) lo hi=(jP xs lo hi).map f:=by
 unfold jP
 rw [aC,lY,oO]
theorem LR {z:Str} (h1:1<=z.cps.toList.length) (h2:z.cps.toList.length<=8) (h3:∀ c∈z.cps.toList,c∈iL.cps.toList):rS z=true:=by
 have e:z.length=z.cps.toList.length:=by simp [Str.length]
 unfold rS
 rw [e,decide_eq_true h1,decide_eq_true h2]
 simp only [XV,fC]
 intro c hc
 unfold sgn
 rw [MM]
 exact decide_eq_true (h3 c hc)
theorem F7 {z:Str} (h:rS z=true):1<=z.length/\z.length<=8/\∀ c∈z.cps.toList,c∈iL.cps.toList:=by
 unfold rS at h
 simp only [dB,decide_eq_true_eq,fC] at h
 refine ⟨h.1.1,h.1.2,λc hc=>?_⟩
 have:=h.2 c hc
 unfold sgn at this
 rw [MM] at this
 exact of_decide_eq_true this
theorem nodup_range {α:Type} {n:Nat} (F:Nat->α) (inj:∀ i j,i<n->j<n->F i=F j->i=j):((bX n).map F).Nodup:=by
 rw [List.Nodup,List.pairwise_map]
 have:(bX n).Nodup:=List.nodup_range
 refine XU.imp_of_mem (λ{a b} ha hb hab e=>?_) this
 exact hab (inj a b (by simpa using ha) (by simpa using hb) e)
theorem yW (F:Nat->Str) (h:∀ i,i<8->rS (F i)=true) (inj:∀ i j,i<8->j<8->F i=F j->i=j):JI 8 ((bX 8).map F) :=
 ⟨by simp,λy hy=>by
  obtain ⟨i,hi,rfl⟩:=bC.mp hy
  exact h i (by simpa using hi),nodup_range F inj⟩
theorem LP {ys:List Str} (h:JI 8 ys) (t:Nat) {m:Nat} (hm:m<=8):JI m ((ys.drop t++ys.take t).take m):=by
 have hp:(ys.drop t++ys.take t).Perm ys:=by
  have:(ys.take t++ys.drop t).Perm ys:=by rw [hE]
  exact E5.trans this
 refine ⟨?_,λy hy=>h.2.1 y (hp.mem_iff.mp (dS hy)),(hp.nodup_iff.mpr h.2.2).sublist (uO _ _)⟩
 rw [bF,hp.length_eq,h.1]
 omega
theorem EF:iL.cps.toList.Nodup:=by decide +kernel
def LY:List Str:=["say","ask","is","upto","yes","no","all","in"]
theorem aC1:JI 8 LY:=⟨rfl,by decide +kernel,by decide +kernel⟩
theorem PL {xs:List Nat} (nd:xs.Nodup) {i j:Nat} {c:Nat} (h1:xs[i]?=some c) (h2:xs[j]?=some c):i=j:=by
 obtain ⟨a1,a2⟩:=aD.mp h1
 obtain ⟨b1,b2⟩:=aD.mp h2
 exact (NU nd).mp (a2.trans b2.symm)
theorem B0:∀ {ys:List D},(∀ y∈ys,∃ c,c∈iL.cps.toList/\y=.str ⟨#[c]⟩)->∃ cs:List Nat,ys=cs.map (λc=>aR ⟨#[c]⟩)/\∀ c∈cs,c∈iL.cps.toList
 | [],_=>⟨[],rfl,λc h=>by simp at h⟩
 | y::ys,h=>by
  obtain ⟨c,hc,rfl⟩:=h y (aM ..)
  obtain ⟨cs,rfl,h2⟩:=B0 (ys:=ys) λy hy=>h y (aK _ hy)
  refine ⟨c::cs,rfl,λd hd=>?_⟩
  rcases aZ.mp hd with rfl | hd
  ·exact hc
  ·exact h2 d hd
theorem wO (cs:List Nat):(Txt.join ⟨#[]⟩ (cs.map λc=>⟨#[c]⟩)).cps.toList=cs:=by
 rw [EG,bD]
 induction cs with
 | nil=>rfl
 | cons c cs ih=>rw [bP,jK,ih];rfl
theorem VN {xs:List Int} {lo hi:Int} (h:∀ x∈xs,lo<=x/\x<=hi) {i:Int} (h0:0<=i) (h1:i<xs.length):∃ m:Int,lo<=m/\m<=hi/\L2.atI (xs.map aX) i=some (.int m):=by
 obtain ⟨a,hm,ha,_⟩:=qA (xs:=xs.map aX) (i:=i) h0 (by rw [aC];exact h1)
 obtain ⟨b,hb,rfl⟩:=bC.mp hm
 exact ⟨b,(h b hb).1,(h b hb).2,ha⟩
theorem NA {ys:List Str} {k:Nat} (h:k<ys.length):L2.atI (ys.map aR) (k:Int)=some (.str ys[k]):=L2.eK (by rw [aJ,aB h];rfl)
def V1 (f:Str×List Str) (d:D):Bool:=match d with | .none=>true | .str z=>decide (z∈f.2) | _=>false
def CQ (an:List Str) (d:D):Bool:=match d with | .str z=>decide (z∈an) | _=>false
structure Cd (d:D):Prop where
 lay:d.canLay0=true
 dep:d.depth<=60
structure Th (n m:Nat) (d:D):Prop where
 bulk:d.bulk<=n
 fit:d.leavesShort 110=true
 shw:d.showable=true
 nodict:d.hasDict=false
 depth:d.depth<=m
 lay:d.canLay0=true
theorem Th.mono {n n' m m':Nat} {d:D} (h:Th n m d) (hn:n<=n') (hm:m<=m'):Th n' m' d:=⟨bO h.bulk hn,h.fit,h.shw,h.nodict,bO h.depth hm,h.lay⟩
theorem rD {n m:Nat}:∀ {ts:List D},(∀ t∈ts,Th n m t)->xH ts<=ts.length*(n+1)/\DG 110 ts=true/\G4 ts=true/\jG ts=false/\eN ts<=m/\eE ts=true
 | [],_=>⟨cC _,rfl,rfl,rfl,cC _,rfl⟩
 | t::ts,h=>by
  have a:=h t (aM ..)
  obtain ⟨b1,b2,b3,b4,b5,b6⟩:=rD (ts:=ts) λx hx=>h x (aK _ hx)
  refine ⟨?_,?_,?_,?_,?_,?_⟩
  ·show t.bulk+1+xH ts<=(ts.length+1)*(n+1)
   have:=a.bulk
   rw [xI,aB5]
   omega
  ·show (t.leavesShort 110 && DG 110 ts)=true
   rw [a.fit,b2];rfl
  ·show (t.showable && G4 ts)=true
   rw [a.shw,b3];rfl
  ·show (t.hasDict || jG ts)=false
   rw [a.nodict,b4];rfl
  ·show max t.depth (eN ts)<=m
   exact Nat.max_le.mpr ⟨a.depth,b5⟩
  ·show (t.canLay0 && eE ts)=true
   rw [a.lay,b6];rfl
theorem oQ (n m k:Nat) {N M:Nat} {ts:List D} (h:∀ t∈ts,Th n m t) (hl:ts.length<=k) (hN:k*(n+1)<=N) (hM:m+1<=M):Th N M (.tuple ts):=by
 obtain ⟨b1,b2,b3,b4,b5,b6⟩:=rD h
 have:ts.length*(n+1)<=k*(n+1):=rQ _ hl
 exact ⟨by show xH ts<=N;omega,b2,b3,b4,by show eN ts+1<=M;omega,b6⟩
theorem zT {n m:Nat}:Th n m .none:=⟨cC _,rfl,rfl,rfl,cC _,rfl⟩
theorem BQ {z:Str} (hc:∀ c∈z.cps.toList,c<1000):UJ z=true:=by
 unfold UJ
 rw [<- Array.all_toList,fC]
 intro c h1
 have:=hc c h1
 exact decide_eq_true (by omega)
theorem KC {n m:Nat} {z:Str} (h:z.length<=n) (hc:∀ c∈z.cps.toList,c<1000):Th n m (.str z):=by
 refine ⟨h,?_,rfl,rfl,cC _,BQ hc⟩
 show (z.cps.toList.all λc=>decide (c<16 ^ 8))=true
 rw [fC]
 intro c h1
 have:=hc c h1
 exact decide_eq_true (by omega)
theorem KE {n m:Nat} {z:Str} (h:(decide (z.length<=n) && z.cps.toList.all λc=>decide (c<1000))=true):Th n m (.str z):=by
 rw [dB] at h
 exact KC (of_decide_eq_true h.1) λc hc=>of_decide_eq_true (fC.mp h.2 c hc)
theorem II {c:Nat} (h:c∈iL.cps.toList):c<128:=by
 have:∀ c∈iL.cps.toList,c<128:=by decide +kernel
 exact this c h
theorem CB {y:Str} (h:rS y=true):y.length<=8/\∀ c∈y.cps.toList,c<128:=⟨(F7 h).2.1,λc hc=>II ((F7 h).2.2 c hc)⟩
theorem jE {y:Str} (h:rS y=true) {n m:Nat} (hn:8<=n):Th n m (.str y):=KC (bO (CB h).1 hn) λc hc=>by have:=(CB h).2 c hc;omega
theorem qK {ys:List Str} (h:∀ y∈ys,rS y=true) {n m:Nat} (hn:8<=n):∀ t∈ys.map aR,Th n m t:=λt ht=>by
 obtain ⟨y,hy,rfl⟩:=bC.mp ht
 exact jE (h y hy) hn
theorem BM {ys:List Str} (h:∀ y∈ys,rS y=true) (hl:ys.length<=8):Th 72 1 (.tuple (ys.map aR)):=oQ 8 0 8 (qK h (aL _)) (by rw [aC];exact hl) (by decide) (by decide)
theorem nD {n m:Nat}:∀ t∈([]:List D),Th n m t:=λt h=>by simp at h
theorem gF {n m:Nat} {a:D} {ts:List D} (h:Th n m a) (hs:∀ t∈ts,Th n m t):∀ t∈a::ts,Th n m t:=λt ht=>by
 rcases aZ.mp ht with rfl | ht
 ·exact h
 ·exact hs t ht
theorem QR {n m:Nat} {as bs:List D} (h:∀ t∈as,Th n m t) (hs:∀ t∈bs,Th n m t):∀ t∈as++bs,Th n m t:=λt ht=>(eT.mp ht).elim (h t) (hs t)
theorem Th.cd {n m:Nat} {d:D} (h:Th n m d) (hm:m<=60):Cd d:=⟨h.lay,bO h.depth hm⟩
theorem GD:∀ {ts:List D} {t:D},eE ts=true->t∈ts->t.canLay0=true
 | a::r,t,h,hm=>by
  have h':(a.canLay0 && eE r)=true:=h
  rw [dB] at h'
  rcases aZ.mp hm with rfl | hm
  ·exact h'.1
  ·exact GD h'.2 hm
theorem zG:∀ {ts:List D} {t:D},t∈ts->t.depth<=eN ts
 | a::r,t,hm=>by
  show t.depth<=max a.depth (eN r)
  rcases aZ.mp hm with rfl | hm
  ·exact UK _ _
  ·exact bO (zG hm) (QY _ _)
theorem Cd.item {ts:List D} {t:D} (h:Cd (.tuple ts)) (ht:t∈ts):Cd t:=⟨GD h.lay ht,by
 have h1:eN ts+1<=60:=h.dep
 have:=zG ht
 omega⟩
section
variable {fs:List (Str×List Str)} {an:List Str}
theorem fF.name (F:fF fs an) {f:Str×List Str} (h:f∈fs):rS f.1=true:=F.nd.2.1 _ (bC.mpr ⟨f,h,rfl⟩)
theorem fF.vals (F:fF fs an) {f:Str×List Str} (h:f∈fs):∀ y∈f.2,rS y=true:=(F.vs f h).2.2.2.1
theorem fF.fld (F:fF fs an) {f:Str×List Str} (h:f∈fs):Th 146 2 (jO f):=oQ 72 1 2 (gF (jE (F.name h) (by decide)) (gF (BM (F.vals h) (by have:=(F.vs f h).2.1;omega)) nD)) (aH rfl) (by decide) (by decide)
theorem fF.flds (F:fF fs an):Th 735 3 (.tuple (fs.map jO)):=oQ 146 2 5 (λt ht=>by
 obtain ⟨f,hf,rfl⟩:=bC.mp ht
 exact F.fld hf) (by rw [aC];exact F.n5) (by decide) (by decide)
theorem fF.ans (F:fF fs an):Th 72 1 (.tuple (an.map aR)):=BM F.an.2.1 (by have:=F.a4;omega)
theorem fF.form (F:fF fs an):Th 1472 4 (eL fs an):=oQ 735 3 2 (gF F.flds (gF (F.ans.mono (by decide) (by decide)) nD)) (aH rfl) (by decide) (by decide)
end
theorem MX {x:D} {ts:List D} {Q:D->Prop} (h1:wH x (.tuple ts)) (h2:Q (.bool (GH x (.tuple ts)))):aAx x (.tuple ts) Q:=by
 cases x<;>exact ⟨h1,h2⟩
theorem C7 (d:D) (ys:List Str):((ys.map aR).any λz=>dZ z d)=CQ ys d:=by
 induction ys with
 | nil=>cases d<;>rfl
 | cons y ys ih =>
  rw [bP,sU,ih]
  cases d with
  | str z =>
   show ((y == z) || decide (z∈ys))=decide (z∈y::ys)
   rw [mJ]
   simp only [xL,beq_iff_eq,decide_eq_true_eq,aZ]
   exact ⟨λh=>h.imp Eq.symm id,λh=>h.imp Eq.symm id⟩
  | _=>rfl
theorem F5 {ys:List Str} (h:∀ y∈ys,rS y=true) {d:D} (hd:Cd d):wH d (.tuple (ys.map aR)):=by
 obtain ⟨_,_,_,_,b5,b6⟩:=rD (qK h (aL 8) (m:=0))
 exact ⟨b6,hd.lay,by have:=hd.dep;omega⟩
theorem D4 {ys:List Str} (h:∀ y∈ys,rS y=true) {d:D} (hd:Cd d):wH d (.tuple (ys.map aR++[.none])):=by
 obtain ⟨_,_,_,_,b5,b6⟩:=rD (QR (qK h (aL 8) (m:=0)) (gF zT nD))
 exact ⟨b6,hd.lay,by have:=hd.dep;omega⟩
theorem vJ:∀ {ys:List Str} {z:Str} {m:Nat},m<ys.idxOf z->ys[m]?≠some z
 | [],z,m,h=>by simp at h
 | y::ys,z,m,h=>by
  rw [List.idxOf_cons] at h
  by_cases e:y=z
  ·subst e
   simp at h
  ·have e':(y == z)=false:=by simpa using e
   rw [e'] at h
   simp only [cond_false] at h
   cases m with
   | zero=>simpa using e
   | succ m =>
    rw [pK]
    exact vJ (by omega)
theorem qT.drop {n:Nat} {bs:List Int} (h:qT n bs) (k:Nat):qT (n-k) (bs.drop k):=⟨by rw [cO,h.1],λb hb=>h.2 b (iF hb)⟩
def jH (fs:List (Str×List Str)) (d:D):Bool:=match d with | .tuple ts=>decide (ts.length=fs.length) && (fs.zip ts).all (λp=>V1 p.1 p.2) | _=>false
def RD:kW:=λds Q=>∃ (fs:List (Str×List Str)) (an:List Str) (bs:List Int) (n:Nat),ds=[eL fs an,.list (bs.map aX)]/\fF fs an/\qT n bs/\8<=n/\∀ cs,jH fs (.tuple cs)=true->Q (.tuple cs)
def RC:kW:=λds Q=>∃ (fs:List (Str×List Str)) (an:List Str) (bs:List Int) (n:Nat),ds=[eL fs an,.list (bs.map aX)]/\fF fs an/\qT n bs/\8<=n/\∀ cs a,jH fs (.tuple cs)=true->a∈an->Q (.tuple [.tuple cs,.str a])
section
variable {fs:List (Str×List Str)} {an:List Str}
theorem oA {cs:List D} (h:jH fs (.tuple cs)=true):cs.length=fs.length/\∀ (k:Nat) f c,fs[k]?=some f->cs[k]?=some c->V1 f c=true:=by
 unfold jH at h
 simp only [dB,decide_eq_true_eq,fC] at h
 refine ⟨h.1,λk f c h1 h2=>?_⟩
 exact h.2 (f,c) (bJ ((nN (z:=(f,c))).mpr ⟨h1,h2⟩))
theorem GW {cs:List D} (hl:cs.length=fs.length) (h:∀ (k:Nat) f c,fs[k]?=some f->cs[k]?=some c->V1 f c=true):jH fs (.tuple cs)=true:=by
 unfold jH
 simp only [dB,decide_eq_true_eq,fC]
 refine ⟨hl,λp hp=>?_⟩
 obtain ⟨k,hk⟩:=dI hp
 obtain ⟨h1,h2⟩:=nN.mp hk
 exact h k p.1 p.2 h1 h2
end
def dO (r:List D×Str):D:=.tuple [.tuple r.1,.str r.2]
def G0 (fs:List (Str×List Str)) (an:List Str) (r:List D×Str):Prop:=jH fs (.tuple r.1)=true/\r.2∈an
def eA (fs:List (Str×List Str)) (an:List Str) (rs:List (List D×Str)):Prop:=∀ r∈rs,G0 fs an r
def RB:kW:=λds Q=>∃ (ns:List Int) (fs:List (Str×List Str)) (an:List Str) (n:Nat),ds=[.list (ns.map aX),eL fs an,.int n]/\ns.length<=63/\fF fs an/\n<=60/\∀ rs,eA fs an rs->rs.length=n->Q (.list (rs.map dO))
def YZ (f:Str×List Str) (k v:D):Bool:=match k,v with
 | .str kk,.str z=>decide (z∈f.2) && (decide (kk="is") || (decide (kk="upto") && decide (f.2.idxOf z+1<f.2.length)))
 | _,_=>false
def isN (n:D) (f:Str×List Str):Bool:=match n with | .str z=>decide (f.1=z) | _=>false
def JQ (fs:List (Str×List Str)) (d:D):Bool:=match d with
 | .tuple [k,n,v]=>fs.any λf=>isN n f && YZ f k v
 | _=>false
def XZ (k:Str) (f:Str×List Str) (z:Str):D:=.tuple [.str k,.str f.1,.str z]
def tL (f:Str×List Str):List Str:=if f.2.length=2 then f.2.take 1 else f.2
def tM (f:Str×List Str):List Str:=(f.2.drop 1).take (f.2.length-3)
def DW (f:Str×List Str):List D:=(tL f).map (XZ "is" f)++(tM f).map (XZ "upto" f)
def fK (fs:List (Str×List Str)):List D:=(fs.map DW).flatten
def YE:JG:=λds Q=>∃ (fs:List (Str×List Str)) (an:List Str),ds=[eL fs an]/\fF fs an/\Q (fK fs)
theorem MO {ys:List Str} {z:Str} {j:Nat} (h:ys[j]?=some z):ys.idxOf z<=j:=by
 by_cases q:ys.idxOf z<=j
 ·exact q
 ·exact absurd h (vJ (by omega))
theorem LZ {f:Str×List Str} {z:Str} (h:z∈tM f):z∈f.2/\f.2.idxOf z+1<f.2.length:=by
 unfold tM at h
 have h1:z∈f.2:=iF (dS h)
 refine ⟨h1,?_⟩
 obtain ⟨i,hi⟩:=dI h
 have hl:=(aD.mp hi).1
 rw [bF,cO] at hl
 rw [kH,if_pos (by omega),jB] at hi
 have:=MO hi
 omega
theorem MG {fs:List (Str×List Str)} {f:Str×List Str} {k:Str} {z:Str} (hf:f∈fs) (h:YZ f (.str k) (.str z)=true):JQ fs (XZ k f z)=true:=by
 show (fs.any λg=>isN (.str f.1) g && YZ g (.str k) (.str z))=true
 rw [NV]
 refine ⟨f,hf,?_⟩
 show (decide (f.1=f.1) && YZ f (.str k) (.str z))=true
 rw [h,decide_eq_true rfl];rfl
theorem xA {fs:List (Str×List Str)} {d:D} (h:d∈fK fs):∃ f∈fs,(∃ z∈f.2,d=XZ "is" f z)\/(∃ z,z∈f.2/\f.2.idxOf z+1<f.2.length/\d=XZ "upto" f z):=by
 unfold fK at h
 obtain ⟨l,hl,hd⟩:=List.mem_flatten.mp h
 obtain ⟨f,hf,rfl⟩:=bC.mp hl
 refine ⟨f,hf,?_⟩
 unfold DW at hd
 rcases eT.mp hd with q | q
 ·obtain ⟨z,hz,rfl⟩:=bC.mp q
  refine .inl ⟨z,?_,rfl⟩
  unfold tL at hz
  split at hz
  ·exact dS hz
  ·exact hz
 ·obtain ⟨z,hz,rfl⟩:=bC.mp q
  exact .inr ⟨z,(LZ hz).1,(LZ hz).2,rfl⟩
theorem EN {fs:List (Str×List Str)} {d:D} (h:d∈fK fs):JQ fs d=true:=by
 obtain ⟨f,hf,⟨z,hz,rfl⟩ | ⟨z,hz,hi,rfl⟩⟩:=xA h
 ·refine MG hf ?_
  show (decide (z∈f.2) && (decide (("is":Str)="is") || _))=true
  rw [decide_eq_true hz];rfl
 ·refine MG hf ?_
  show (decide (z∈f.2) && (decide (("upto":Str)="is") || (decide (("upto":Str)="upto") && decide (f.2.idxOf z+1<f.2.length))))=true
  rw [decide_eq_true hz,decide_eq_true hi,decide_eq_true (rfl:("upto":Str)="upto")];simp
theorem aAi:rS "is"=true:=by decide +kernel
theorem PM:rS "upto"=true:=by decide +kernel
theorem UX {fs:List (Str×List Str)} {an:List Str} (F:fF fs an) {k:Str} (hk:rS k=true) {f:Str×List Str} (hf:f∈fs) {z:Str} (hz:z∈f.2):Th 27 1 (XZ k f z) :=
 oQ 8 0 3 (gF (jE hk (aL _)) (gF (jE (F.name hf) (aL _)) (gF (jE (F.vals hf z hz) (aL _)) nD))) (aH rfl) (by decide) (by decide)
theorem mM {fs:List (Str×List Str)} {an:List Str} (F:fF fs an):∀ gs:List (Str×List Str),(∀ g∈gs,g∈fs)->(fK gs).length<=10*gs.length
 | [],_=>aL _
 | g::gs,h=>by
  have ih:=mM F gs λx hx=>h x (aK _ hx)
  obtain ⟨_,v5,_⟩:=F.vs g (h g (aM ..))
  show ((DW g::gs.map DW).flatten).length<=_
  rw [jK,bA]
  have h1:(DW g).length<=10:=by
   unfold DW tL tM
   rw [bA,aC,aC,bF,cO]
   split
   ·rw [bF];omega
   ·omega
  have:(fK gs).length=((gs.map DW).flatten).length:=rfl
  rw [bI]
  omega
theorem lF {ys:List Str} (hy:∀ y∈ys,rS y=true) {z:Str} (hz:z∈ys):D5 (ys.map aR) (.str z) (ys.idxOf z):=by
 have hzi:ys.idxOf z<ys.length:=cZ.mpr hz
 obtain ⟨_,_,_,_,d5,d6⟩:=rD (qK hy (aL 8) (m:=0))
 refine ⟨d6,(jE (hy z hz) (aL 8) (m:=0)).lay,by omega,⟨.str z,?_,?_⟩,λm t hm ht=>?_⟩
 ·rw [aJ,aB hzi,eR hzi];rfl
 ·show (z == z)=true
  simp
 ·rw [aJ] at ht
  cases e2:ys[m]? with
  | none=>rw [e2] at ht;cases ht
  | some y =>
   rw [e2] at ht
   cases ht
   show (y == z)=false
   have:y≠z:=λq=>by
    subst q
    exact vJ hm e2
   simpa using this
inductive Tr | say (a:Str) | ask (k n v s:Str) (y m:Tr)
def hU:Tr->D
 | .say a=>.tuple [.str "say",.str a]
 | .ask k n v s y m=>.tuple [.str "ask",.tuple [.str k,.str n,.str v],.str s,hU y,hU m]
def Tr.dep:Tr->Nat
 | .say _=>0
 | .ask _ _ _ _ y m=>max y.dep m.dep+1
def Tr.kn:Tr->Nat
 | .say _=>0
 | .ask _ _ _ _ y m=>y.kn+m.kn+1
def mU (fs:List (Str×List Str)) (an:List Str):Tr->Prop
 | .say a=>a∈an
 | .ask k n v s y m=>JQ fs (.tuple [.str k,.str n,.str v])=true/\(s="yes"\/s="no")/\mU fs an y/\mU fs an m
theorem sM {fs:List (Str×List Str)} {k n v:Str} (h:JQ fs (.tuple [.str k,.str n,.str v])=true):∃ f∈fs,f.1=n/\v∈f.2/\(k="is"\/(k="upto"/\f.2.idxOf v+1<f.2.length)):=by
 obtain ⟨f,hf,hq⟩:=NV.mp (h:(fs.any λf=>isN (.str n) f && YZ f (.str k) (.str v))=true)
 rw [dB] at hq
 have h2:(decide (v∈f.2) && (decide (k="is") || (decide (k="upto") && decide (f.2.idxOf v+1<f.2.length))))=true:=hq.2
 simp only [dB,xL,decide_eq_true_eq] at h2
 exact ⟨f,hf,of_decide_eq_true hq.1,h2.1,h2.2⟩
theorem D7:rS "yes"=true:=by decide +kernel
theorem LQ:rS "no"=true:=by decide +kernel
theorem V4:rS "say"=true:=by decide +kernel
theorem V5:rS "ask"=true:=by decide +kernel
theorem UV {fs:List (Str×List Str)} {an:List Str} (F:fF fs an) {k n v:Str} (h:JQ fs (.tuple [.str k,.str n,.str v])=true):Th 27 1 (.tuple [.str k,.str n,.str v]):=by
 obtain ⟨f,hf,rfl,hv,hk⟩:=sM h
 refine UX F ?_ hf hv
 rcases hk with rfl | ⟨rfl,_⟩
 ·exact aAi
 ·exact PM
theorem rY {fs:List (Str×List Str)} {an:List Str} (F:fF fs an):∀ t:Tr,mU fs an t->Th (68*t.kn+18) (t.dep+1) (hU t)
 | .say a,h=>oQ 8 0 2 (gF (jE V4 (aL _)) (gF (jE (F.an.2.1 a h) (aL _)) nD)) (aH rfl) (by show 2*(8+1)<=68*0+18;decide) (aL _)
 | .ask k n v s y m,h=>by
  obtain ⟨hq,hs,hy,hm⟩:=h
  have iy:=rY F y hy
  have im:=rY F m hm
  have q:=UV F hq
  have sn:rS s=true:=by
   rcases hs with rfl | rfl
   ·exact D7
   ·exact LQ
  have sl:=jE sn (n:=8) (m:=0) (aL _)
  have al:=jE V5 (n:=8) (m:=0) (aL _)
  have e1:PyData.bulk (hU (.ask k n v s y m))=(aR "ask").bulk+1+((gA [.str k,.str n,.str v]).bulk+1+((aR s).bulk+1+((hU y).bulk+1+((hU m).bulk+1+0)))):=rfl
  have e2:PyData.depth (hU (.ask k n v s y m))=max (aR "ask").depth (max (gA [.str k,.str n,.str v]).depth (max (aR s).depth (max (hU y).depth (max (hU m).depth 0))))+1:=rfl
  refine ⟨?_,?_,?_,?_,?_,?_⟩
  ·rw [e1]
   have a1:=iy.bulk
   have a2:=im.bulk
   have a3:=q.bulk
   have a4:=sl.bulk
   have a5:=al.bulk
   show _<=68*(y.kn+m.kn+1)+18
   omega
  ·show ((aR "ask").leavesShort 110 && ((gA [.str k,.str n,.str v]).leavesShort 110 && ((aR s).leavesShort 110 && ((hU y).leavesShort 110 && ((hU m).leavesShort 110 && true)))))=true
   rw [al.fit,q.fit,sl.fit,iy.fit,im.fit];rfl
  ·show ((aR "ask").showable && ((gA [.str k,.str n,.str v]).showable && ((aR s).showable && ((hU y).showable && ((hU m).showable && true)))))=true
   rw [al.shw,q.shw,sl.shw,iy.shw,im.shw];rfl
  ·show ((aR "ask").hasDict || ((gA [.str k,.str n,.str v]).hasDict || ((aR s).hasDict || ((hU y).hasDict || ((hU m).hasDict || false)))))=false
   rw [al.nodict,q.nodict,sl.nodict,iy.nodict,im.nodict];rfl
  ·rw [e2]
   have a1:=iy.depth
   have a2:=im.depth
   have a3:=q.depth
   have a4:=sl.depth
   have a5:=al.depth
   show _<=max y.dep m.dep+1+1
   omega
  ·show ((aR "ask").canLay0 && ((gA [.str k,.str n,.str v]).canLay0 && ((aR s).canLay0 && ((hU y).canLay0 && ((hU m).canLay0 && true)))))=true
   rw [al.lay,q.lay,sl.lay,iy.lay,im.lay];rfl
theorem Tr.kn_dep:∀ t:Tr,t.kn<2 ^ t.dep
 | .say _=>by show 0<2 ^ 0;decide
 | .ask _ _ _ _ y m=>by
  have:=kn_dep y
  have:=kn_dep m
  show y.kn+m.kn+1<2 ^ (max y.dep m.dep+1)
  have h1:2 ^ y.dep<=2 ^ (max y.dep m.dep):=jR (by decide) (UK ..)
  have h2:2 ^ m.dep<=2 ^ (max y.dep m.dep):=jR (by decide) (QY ..)
  rw [Nat.pow_succ]
  omega
theorem tI {c:oK} {tb u:qQ} {DT:qE} {σ:List Sl} (P:Nat->List Sl->Prop) (n0:Nat) (h0:P n0 σ)
  (hs:∀ n σ',P n σ'->∃ b:Bool,(∀ q:Bool->Prop,q b->c σ' q)/\(if b=true then tb { DT with nx:=λσ2=>∃ m,m<n/\P m σ2,ct:=λσ2=>∃ m,m<n/\P m σ2,bk:=u DT } σ' else u DT σ')):gZ (KU c tb) u DT σ :=
 ⟨P,⟨n0,h0⟩,λn σ' hp=>let ⟨_,h1,h2⟩:=hs n σ' hp;h1 _ h2⟩
def aEl (k:Str) (f:Str×List Str):List Str:=if k="upto" then f.2.take (f.2.length-1) else f.2
theorem QL (ys:List Str) (h:2<=ys.length):jP ys (some 1) (some (-2))=(ys.drop 1).take (ys.length-3):=by
 unfold jP
 have e1:HT.sIx ys.length 0 (some 1)=1:=by
  show (if (1:Int)<0 then ((1:Int)+(ys.length:Int)).toNat else min (1:Int).toNat ys.length)=_
  rw [if_neg (by decide)]
  show min 1 ys.length=1
  omega
 have e2:HT.sIx ys.length ys.length (some (-2))=ys.length-2:=by
  show (if (-2:Int)<0 then ((-2:Int)+(ys.length:Int)).toNat else min (-2:Int).toNat ys.length)=_
  rw [if_pos (by decide)]
  omega
 rw [e1,e2]
 congr 1
theorem QK (ys:List Str) (h:2<=ys.length):jP ys none (some 1)=ys.take 1:=pA ys 1
def YD:JG:=λds Q=>∃ f:Str×List Str,ds=[jO f]/\2<=f.2.length/\f.2.length<=5/\Q (DW f)
abbrev Rw:=List D×Str
def cnt (rs:List Rw) (a:Str):Nat:=rs.countP λr=>decide (r.2=a)
def mL (an:List Str) (rs:List Rw):List Int:=an.map λa=>(cnt rs a:Int)
def prs (ss rs:List Rw):Nat:=(ss.map λr=>rs.countP λo=>decide (o.2≠r.2)).sum
def L6 (a b:Nat):D:=.tuple [.int ((a / a.gcd b:Nat):Int),.int ((b / a.gcd b:Nat):Int)]
def nE (an:List Str) (rs:List Rw) (a:Str):Prop:=∃ k,an[k]?=some a/\(∀ (j:Nat) b,an[j]?=some b->cnt rs b<=cnt rs a)/\∀ (j:Nat) b,j<k->an[j]?=some b->cnt rs b<cnt rs a
def HH:kW:=λds Q=>∃ a b:Nat,ds=[.int a,.int b]/\0<b/\a<2 ^ 190/\b<2 ^ 190/\Q (L6 a b)
def VA:JG:=λds Q=>∃ (fs:List (Str×List Str)) (an:List Str) (rs:List Rw),ds=[eL fs an,.list (rs.map dO)]/\fF fs an/\eA fs an rs/\rs.length<=60/\Q ((mL an rs).map aX)
def OM:kW:=λds Q=>∃ (fs:List (Str×List Str)) (an:List Str) (rs:List Rw),ds=[eL fs an,.list (rs.map dO)]/\fF fs an/\eA fs an rs/\rs.length<=60/\∀ a,nE an rs a->Q (.str a)
def U9:kW:=λds Q=>∃ (fs:List (Str×List Str)) (an:List Str) (rs:List Rw),ds=[eL fs an,.list (rs.map dO)]/\fF fs an/\eA fs an rs/\rs.length<=60/\Q (L6 (prs rs rs) (max 1 rs.length))
theorem DY:∀ (ss rs:List Rw),prs ss rs<=ss.length*rs.length
 | [],rs=>by show 0<=_;omega
 | s::ss,rs=>by
  have:=DY ss rs
  have h1:rs.countP (λo=>decide (o.2≠s.2))<=rs.length:=E6
  show rs.countP (λo=>decide (o.2≠s.2))+prs ss rs<=(ss.length+1)*rs.length
  rw [xI,aB5]
  omega
theorem W6 (rs:List Rw) (a:Str):cnt rs a<=rs.length:=E6
theorem CU {α:Type} [DecidableEq α]:∀ (l:List α) (x:α),x∈l->∃ k:Nat,l[k]?=some x/\∀ j:Nat,j<k->l[j]?≠some x
 | y::l,x,h=>by
  by_cases e:y=x
  ·exact ⟨0,by rw [e];rfl,λj hj=>by omega⟩
  ·obtain ⟨k,h1,h2⟩:=CU l x ((aZ.mp h).resolve_left λz=>e z.symm)
   refine ⟨k+1,h1,λj hj=>?_⟩
   cases j with
   | zero=>exact λz=>e (Option.some.inj z)
   | succ j=>exact h2 j (by omega)
def aCc (a:Str) (x:D):Bool:=match x with | .tuple [_,.str b]=>!decide (b=a) | _=>false
def tG (f:Str×List Str) (k v st:Str) (c:D):Str:=match c with
 | .none=>st
 | .str z=>if k="is" then (if z=v then "yes" else "no") else if f.2.idxOf z<=f.2.idxOf v then "yes" else "no"
 | _=>""
def eQ (fs:List (Str×List Str)) (k n v st:Str) (cs:List D):Str:=match fs[(fs.map (·.1)).idxOf n]?,cs[(fs.map (·.1)).idxOf n]? with
 | some f,some c=>tG f k v st c
 | _,_=>""
def KQ:kW:=λds Q=>∃ (fs:List (Str×List Str)) (an:List Str) (k n v st:Str) (cs:List D),ds=[eL fs an,.tuple [.str k,.str n,.str v],.str st,.tuple cs]/\fF fs an/\JQ fs (.tuple [.str k,.str n,.str v])=true/\(st="yes"\/st="no")/\jH fs (.tuple cs)=true/\Q (.str (eQ fs k n v st cs))
def pV (fs:List (Str×List Str)) (k n v st:Str) (rs:List (List D×Str)) (w:Str) (x:D):Bool:=match x with
 | .int i=>match L2.atI rs i with | some r=>decide (eQ fs k n v st r.1=w) | none=>false
 | _=>false
def fP (fs:List (Str×List Str)) (k n v st:Str) (rs:List (List D×Str)) (w:Str):List D:=(dX rs.length).filter (pV fs k n v st rs w)
def BZ:X1:=λds Q=>∃ (fs:List (Str×List Str)) (an:List Str) (k n v st:Str) (rs:List (List D×Str)),ds=[eL fs an,.tuple [.str k,.str n,.str v],.str st,.list (rs.map dO)]/\fF fs an/\JQ fs (.tuple [.str k,.str n,.str v])=true/\(st="yes"\/st="no")/\eA fs an rs/\rs.length<=60/\Q (fP fs k n v st rs "yes") (fP fs k n v st rs "no")
theorem AK {fs:List (Str×List Str)} {an:List Str} (F:fF fs an) {j:Nat} {f:Str×List Str} (h:fs[j]?=some f):(fs.map (·.1)).idxOf f.1=j:=by
 have hm:f.1∈fs.map (·.1):=bC.mpr ⟨f,bJ h,rfl⟩
 have hi:(fs.map (·.1)).idxOf f.1<(fs.map (·.1)).length:=cZ.mpr hm
 have h1:(fs.map (·.1))[(fs.map (·.1)).idxOf f.1]?=some f.1:=by rw [aB hi,eR hi]
 have h2:(fs.map (·.1))[j]?=some f.1:=by rw [aJ,h];rfl
 exact (List.getElem?_inj hi F.nd.2.2).mp (h1.trans h2.symm)
theorem sA {fs:List (Str×List Str)} {an:List Str} (F:fF fs an) {k n v st:Str} {cs:List D} {j:Nat} {f:Str×List Str} {c:D} (h1:fs[j]?=some f) (h2:cs[j]?=some c) (hn:f.1=n):eQ fs k n v st cs=tG f k v st c:=by
 subst hn
 unfold eQ
 rw [AK F h1,h1,h2]
def sdD (fs:List (Str×List Str)) (k n v st:Str) (x:D):D:=match x with | .tuple [.tuple cs,_]=>.str (eQ fs k n v st cs) | _=>.none
theorem B7 {te:ET} {DT:qE} {σ:List Sl} {i:Nat} {ts us:List D} (ho:σ[i]?=some (.own ts)) (hz:ts.length+us.length<=100000) (h:∀ q:D->Prop,q (.list us)->te σ q) (k:DT.nx (σ.set i (.own (ts++us)))):TQ i te DT σ:=⟨ts,ho,h _ ⟨us,rfl,hz,k⟩⟩
theorem HX {fs:List (Str×List Str)} {k n v st:Str} {rs:List (List D×Str)} {w:Str} {j:Nat} {r:List D×Str} (h:rs[j]?=some r):pV fs k n v st rs w (.int (j:Int))=decide (eQ fs k n v st r.1=w):=by
 show (match L2.atI rs (j:Int) with | some r=>decide (eQ fs k n v st r.1=w) | none=>false)=_
 rw [L2.eK h]
def wQ (k v:Str) (f:Str×List Str):List Str:=if k="is" then [v] else f.2.take (f.2.idxOf v+1)
def RV:kW:=λds Q=>∃ (k n v:Str) (f:Str×List Str),ds=[.tuple [.str k,.str n,.str v],jO f]/\(∀ y∈f.2,rS y=true)/\v∈f.2/\f.2.length<=5/\Q (.tuple ((wQ k v f).map aR))
theorem IQ {f:Str×List Str} {k v st z:Str} (hz:z∈f.2):(if CQ (wQ k v f) (.str z)=true then ("yes":Str) else "no")=tG f k v st (.str z):=by
 show (if decide (z∈wQ k v f)=true then ("yes":Str) else "no")=if k="is" then (if z=v then ("yes":Str) else "no") else if f.2.idxOf z<=f.2.idxOf v then ("yes":Str) else "no"
 unfold wQ
 by_cases hk:k="is"
 ·rw [if_pos hk,if_pos hk]
  by_cases e:z=v
  ·rw [if_pos e,if_pos (decide_eq_true (dN.mpr e))]
  ·rw [if_neg e,if_neg (λq=>e (dN.mp (of_decide_eq_true q)))]
 ·rw [if_neg hk,if_neg hk]
  have hi:f.2.idxOf z<f.2.length:=cZ.mpr hz
  by_cases e:f.2.idxOf z<=f.2.idxOf v
  ·rw [if_pos e,if_pos]
   refine decide_eq_true (bJ (i:=f.2.idxOf z) ?_)
   rw [kH,if_pos (by omega),aB hi,eR hi]
  ·rw [if_neg e,if_neg]
   intro q
   obtain ⟨i,hi'⟩:=dI (of_decide_eq_true q)
   have hl:=(aD.mp hi').1
   rw [bF] at hl
   rw [kH,if_pos (by omega)] at hi'
   have:=MO hi'
   omega
theorem CS {f:Str×List Str} {k v y:Str} (hv:v∈f.2) (h:y∈wQ k v f):y∈f.2:=by
 unfold wQ at h
 split at h
 ·rw [dN.mp h];exact hv
 ·exact dS h
def qW (k v st:Str) (f:Str×List Str):List D:=(wQ k v f).map aR++(if st="yes" then [DJ] else [])
def RW:kW:=λds Q=>∃ (k n v st:Str) (f:Str×List Str),ds=[.tuple [.str k,.str n,.str v],.str st,jO f]/\(∀ y∈f.2,rS y=true)/\v∈f.2/\f.2.length<=5/\Q (.tuple (qW k v st f))
def RX:kW:=λds Q=>∃ (fs:List (Str×List Str)) (an:List Str) (k n v:Str) (f:Str×List Str) (j:Nat),ds=[eL fs an,.tuple [.str k,.str n,.str v]]/\fF fs an/\fs[j]?=some f/\f.1=n/\Q (.int (j:Int))
theorem MQ {k v:Str} {f:Str×List Str} (h:f.2.length<=5):(wQ k v f).length<=5:=by
 unfold wQ
 split
 ·show 1<=5;decide
 ·rw [bF];omega
theorem ML {k v st:Str} {f:Str×List Str} (hst:st="yes"\/st="no") {c:D} (hc:V1 f c=true):(if GH c (.tuple (qW k v st f))=true then ("yes":Str) else "no")=tG f k v st c:=by
 have e:GH c (.tuple (qW k v st f))=(CQ (wQ k v f) c || ((if st="yes" then [DJ] else []).any λz=>dZ z c)):=by
  show ((qW k v st f).any λz=>dZ z c)=_
  unfold qW
  rw [List.any_append,C7]
 cases c with
 | none =>
  rw [e]
  rcases hst with rfl | rfl<;>rfl
 | str z =>
  have hz:z∈f.2:=of_decide_eq_true hc
  have e2:((if st="yes" then [DJ] else []).any λx=>dZ x (.str z))=false:=by
   rcases hst with rfl | rfl<;>rfl
  rw [e,e2,XW]
  exact IQ hz
 | _=>cases hc
theorem LM {k v st:Str} {f:Str×List Str} (hf:∀ y∈f.2,rS y=true) (hv:v∈f.2) {d:D} (hd:Cd d):wH d (.tuple (qW k v st f)):=by
 unfold qW
 split
 ·exact D4 (λy hy=>hf y (CS hv hy)) hd
 ·rw [dY];exact F5 (λy hy=>hf y (CS hv hy)) hd
def onW (w:Str) (x:D):Bool:=match x with | .tuple [_,.str s]=>decide (s=w) | _=>false
def P7 (ss:List Str) (w:Str) (x:D):Bool:=match x with | .int i=>(match L2.atI ss i with | some s=>decide (s=w) | none=>false) | _=>false
def atS (ss:List Str) (x:D):D:=match x with | .int i=>(match L2.atI ss i with | some s=>.str s | none=>.none) | _=>.none
def MV (x:D):D:=match x with | .tuple [a,_]=>a | _=>x
theorem zF (ss:List Str):uL (ss.map aR)=(dX ss.length).map λx=>.tuple [x,atS ss x]:=by
 apply fG
 intro i
 cases h:ss[i]? with
 | none =>
  have hl:=fT.mp h
  rw [eJ (by rw [nZ,aC];exact hl),eJ (by rw [aC,eZ];exact hl)]
 | some s =>
  have hl:=(aD.mp h).1
  rw [tX (a:=.str s) (by rw [aJ,h];rfl),aJ]
  unfold dX
  rw [aJ,gS hl]
  show _=some (gA [.int (i:Int),match L2.atI ss (i:Int) with | some s=>.str s | none=>.none])
  rw [L2.eK h]
theorem CZ (ss:List Str) (w:Str):((uL (ss.map aR)).filter (onW w)).map MV=(dX ss.length).filter (P7 ss w):=by
 rw [zF,mI,bD]
 have e1:(MV ∘ λx=>gA [x,atS ss x])=id:=by funext x;rfl
 have e2:(onW w ∘ λx=>gA [x,atS ss x])=P7 ss w:=by
  funext x
  cases x with
  | int i =>
   show onW w (.tuple [.int i,(match L2.atI ss i with | some s=>aR s | none=>.none)])=(match L2.atI ss i with | some s=>decide (s=w) | none=>false)
   cases L2.atI ss i<;>rfl
  | _=>rfl
 rw [e1,e2,G7]
def RU:JG:=λds Q=>∃ (w:Str) (ss:List Str),ds=[.str w,.list (ss.map aR)]/\ss.length<=60/\Q ((dX ss.length).filter (P7 ss w))
theorem FQ {fs:List (Str×List Str)} {k n v st:Str} {rs:List (List D×Str)} (w:Str):(dX (rs.map λr=>eQ fs k n v st r.1).length).filter (P7 (rs.map λr=>eQ fs k n v st r.1) w)=fP fs k n v st rs w:=by
 unfold fP
 rw [aC]
 apply jL
 intro x hx
 obtain ⟨j,hj⟩:=dI hx
 obtain ⟨hjl,rfl⟩:=fE hj
 have hr:rs[j]?=some rs[j]:=aB hjl
 rw [HX hr]
 show (match L2.atI (rs.map λr=>eQ fs k n v st r.1) (j:Int) with | some s=>decide (s=w) | none=>false)=_
 rw [L2.eK (v:=eQ fs k n v st rs[j].1) (by rw [aJ,hr];rfl)]
def aA6 (rs:List Rw) (x:D):D:=match x with | .str a=>.int ((cnt rs a:Nat):Int) | _=>.none
theorem DP (rs:List Rw) (a:Str):((rs.map λr=>aR r.2).countP λt=>dZ t (.str a))=cnt rs a:=by
 rw [qI]
 unfold cnt
 congr 1
theorem MB:∀ {ys:List Str},(∀ y∈ys,rS y=true)->eE (ys.map aR)=true/\eN (ys.map aR)<=0:=λh=>by
 obtain ⟨_,_,_,_,b5,b6⟩:=rD (qK h (aL 8) (m:=0))
 exact ⟨b6,b5⟩
theorem CN:∀ ns:List Int,eE (ns.map aX)=true/\eN (ns.map aX)=0
 | []=>⟨rfl,rfl⟩
 | n::ns=>by
  have:=CN ns
  refine ⟨?_,?_⟩
  ·show (true && eE (ns.map aX))=true
   rw [this.1];rfl
  ·show max 0 (eN (ns.map aX))=0
   rw [this.2];rfl
theorem HZ {ns:List Int} {m:Int} {j:Nat} (h:ns[j]?=some m) (hno:∀ i:Nat,i<j->ns[i]?≠some m):D5 (ns.map aX) (.int m) j:=by
 obtain ⟨h1,h2⟩:=CN ns
 refine ⟨h1,rfl,by rw [h2];omega,⟨.int m,by rw [aJ,h];rfl,?_⟩,λi t hi ht=>?_⟩
 ·show (m == m)=true
  simp
 ·rw [aJ] at ht
  cases e:ns[i]? with
  | none=>rw [e] at ht;cases ht
  | some n =>
   rw [e] at ht
   cases ht
   show (n == m)=false
   have:n≠m:=λz=>hno i hi (by rw [e,z])
   simpa using this
def U8:kW:=λds Q=>∃ a b:Nat,ds=[.int a,.int b]/\Q (.int ((a.gcd b:Nat):Int))
theorem N7 {an:List Str} (hn:an.Nodup) (g:Str->Int) {b:Str} (h:b∈an):(an.map λa=>if b=a then g a else 0).sum=g b:=by
 induction an with
 | nil=>simp at h
 | cons a an ih =>
  rw [bP,eY]
  obtain ⟨hna,hn'⟩:=kD.mp hn
  by_cases e:b=a
  ·subst e
   have z:(an.map λa=>if b=a then g a else 0).sum=0:=by
    have:∀ l:List Str,b∉l->(l.map λa=>if b=a then g a else 0).sum=0:=λl=>by
     induction l with
     | nil=>intro _;rfl
     | cons c l ihl =>
      intro hb
      rw [bP,eY,ihl λq=>hb (aK _ q),if_neg λ(q:b=c)=>hb (by rw [q];exact aM ..)];rfl
    exact this an hna
   rw [z,if_pos rfl];omega
  ·rw [if_neg e,ih hn' ((aZ.mp h).resolve_left e)];omega
theorem N8 (an:List Str) (f g:Str->Int):(an.map λa=>f a+g a).sum=(an.map f).sum+(an.map g).sum:=by
 induction an with
 | nil=>rfl
 | cons a an ih=>rw [bP,bP,bP,eY,eY,eY,ih];omega
theorem BO {an:List Str} (hn:an.Nodup) (g:Str->Int):∀ ss:List Rw,(∀ r∈ss,r.2∈an)->(an.map λa=>(cnt ss a:Int)*g a).sum=(ss.map λr=>g r.2).sum
 | [],_=>by
  have:∀ l:List Str,(l.map λa=>((cnt [] a:Nat):Int)*g a).sum=0:=λl=>by
   induction l with
   | nil=>rfl
   | cons c l ihl =>
    rw [bP,eY,ihl]
    show ((0:Nat):Int)*g c+0=0
    simp
  exact this an
 | r::ss,h=>by
  have ih:=BO hn g ss λx hx=>h x (aK _ hx)
  have e:(λa=>((cnt (r::ss) a:Nat):Int)*g a)=λa=>(if r.2=a then g a else 0)+(cnt ss a:Int)*g a:=by
   funext a
   unfold cnt
   rw [List.countP_cons]
   by_cases q:r.2=a
   ·rw [if_pos q,if_pos (decide_eq_true q),iG,aCa]
    show _+1*g a=_
    rw [aB8,Int.add_comm]
   ·rw [if_neg q,if_neg (by simpa using q),Nat.add_zero,Int.zero_add]
  rw [e,N8,N7 hn g (h r (aM ..)),ih,bP,eY]
theorem HS (rs:List Rw) (a:Str):((rs.countP λo=>decide (o.2≠a):Nat):Int)=(rs.length:Int)-(cnt rs a:Int):=by
 unfold cnt
 have:rs.length=(rs.countP λo=>decide (o.2=a))+(rs.countP λo=>decide (o.2≠a)):=by
  rw [uP (λo:Rw=>decide (o.2=a))]
  congr 2
  funext o
  by_cases q:o.2=a<;>simp [q]
 omega
theorem LX:∀ l:List Nat,((l.sum:Nat):Int)=(l.map λ(n:Nat)=>(n:Int)).sum
 | []=>rfl
 | n::l=>by rw [eY,bP,eY,iG,LX l]
theorem O2 {an:List Str} (hn:an.Nodup) {rs:List Rw} (h:∀ r∈rs,r.2∈an):((mL an rs).map λc=>c*((rs.length:Int)-c)).sum=((prs rs rs:Nat):Int):=by
 have h1:=BO hn (λa=>(rs.length:Int)-(cnt rs a:Int)) rs h
 unfold mL prs
 rw [bD,LX,bD]
 refine h1.trans ?_
 congr 1
 apply fJ
 intro r _
 exact (HS rs r.2).symm
def TW (n:Int) (x:D):D:=match x with | .int c=>.int (c*(n-c)) | _=>.none
def ON (x:D):D:=match x with | .tuple [_,b]=>b | _=>x
def T3:Tr->Bool
 | .say _=>true
 | .ask _ _ _ _ _ _=>false
def qX:kW:=λds Q=>∃ t:Tr,ds=[hU t]/\Q (.bool (T3 t))
def pO (fs:List (Str×List Str)):Tr->List D->List D
 | .say _,_=>[]
 | .ask k n v s y m,cs=>.tuple [.tuple [.str k,.str n,.str v],.str (eQ fs k n v s cs)]::(if eQ fs k n v s cs="yes" then pO fs y cs else pO fs m cs)
def oR (fs:List (Str×List Str)):Tr->List D->List Str
 | .say _,_=>[]
 | .ask k n v s y m,cs=>eQ fs k n v s cs::(if eQ fs k n v s cs="yes" then oR fs y cs else oR fs m cs)
def qS (fs:List (Str×List Str)):Tr->List D->Str
 | .say a,_=>a
 | .ask k n v s y m,cs=>if eQ fs k n v s cs="yes" then qS fs y cs else qS fs m cs
def pF:Tr->List Str->Option Tr
 | t,[]=>some t
 | .say _,_::_=>none
 | .ask _ _ _ _ y m,s::r=>if s="yes" then pF y r else if s="no" then pF m r else none
theorem D6:¬ ("no":Str)="yes":=by decide +kernel
section
variable {fs:List (Str×List Str)} {an:List Str}
theorem FP (F:fF fs an) {k n v st:Str} {cs:List D} (hq:JQ fs (.tuple [.str k,.str n,.str v])=true) (hst:st="yes"\/st="no") (hc:jH fs (.tuple cs)=true):eQ fs k n v st cs="yes"\/eQ fs k n v st cs="no":=by
 obtain ⟨f,hf,hfn,hv,hk⟩:=sM hq
 obtain ⟨j,hj⟩:=dI hf
 obtain ⟨hcl,hcv⟩:=oA hc
 have hjl:=(aD.mp hj).1
 have hcj:cs[j]?=some cs[j]:=aB (by omega)
 generalize cs[j]=c at hcj
 rw [sA F hj hcj hfn]
 have hok:=hcv j f c hj hcj
 cases c with
 | none=>exact hst
 | str z =>
  show (if k="is" then (if z=v then ("yes":Str) else "no") else if f.2.idxOf z<=f.2.idxOf v then ("yes":Str) else "no")="yes"\/_
  by_cases h1:k="is"
  ·by_cases h2:z=v
   ·exact .inl (by rw [if_pos h1,if_pos h2])
   ·exact .inr (by show (if k="is" then (if z=v then ("yes":Str) else "no") else if f.2.idxOf z<=f.2.idxOf v then ("yes":Str) else "no")="no";rw [if_pos h1,if_neg h2])
  ·by_cases h2:f.2.idxOf z<=f.2.idxOf v
   ·exact .inl (by rw [if_neg h1,if_pos h2])
   ·exact .inr (by show (if k="is" then (if z=v then ("yes":Str) else "no") else if f.2.idxOf z<=f.2.idxOf v then ("yes":Str) else "no")="no";rw [if_neg h1,if_neg h2])
 | _=>cases hok
theorem sY:∀ (t:Tr) (cs:List D),(pO fs t cs).map ON=(oR fs t cs).map aR
 | .say _,_=>rfl
 | .ask k n v s y m,cs=>by
  show (aR (eQ fs k n v s cs))::(if eQ fs k n v s cs="yes" then pO fs y cs else pO fs m cs).map ON=.str (eQ fs k n v s cs)::(if eQ fs k n v s cs="yes" then oR fs y cs else oR fs m cs).map aR
  congr 1
  split
  ·exact sY y cs
  ·exact sY m cs
theorem sZ:∀ (t:Tr) (cs:List D),∀ x∈pO fs t cs,∃ a b,x=.tuple [a,b]
 | .say _,_,x,h=>by cases h
 | .ask k n v s y m,cs,x,h=>by
  rcases aZ.mp h with rfl | h
  ·exact ⟨_,_,rfl⟩
  ·split at h
   ·exact sZ y cs x h
   ·exact sZ m cs x h
theorem zQ:∀ (t:Tr) (cs:List D),(pO fs t cs).length<=t.dep
 | .say _,_=>aL _
 | .ask k n v s y m,cs=>by
  show (if eQ fs k n v s cs="yes" then pO fs y cs else pO fs m cs).length+1<=max y.dep m.dep+1
  have h1:=zQ y cs
  have h2:=zQ m cs
  split<;>omega
theorem rF (F:fF fs an) {cs:List D} (hc:jH fs (.tuple cs)=true):∀ t:Tr,mU fs an t->pF t (oR fs t cs)=some (.say (qS fs t cs))
 | .say a,_=>rfl
 | .ask k n v s y m,ht=>by
  obtain ⟨hq,hs,hy,hm⟩:=ht
  show (if eQ fs k n v s cs="yes" then pF y _ else if eQ fs k n v s cs="no" then pF m _ else none)=some (.say (if eQ fs k n v s cs="yes" then qS fs y cs else qS fs m cs))
  rcases FP F hq hs hc with e | e
  ·rw [if_pos e,if_pos e,if_pos e]
   exact rF F hc y hy
  ·have ne:¬ eQ fs k n v s cs="yes":=λz=>D6 (e.symm.trans z)
   rw [if_neg ne,if_pos e,if_neg ne,if_neg ne]
   exact rF F hc m hm
theorem AF:∀ {t p:Tr} {pl:List Str},pF t pl=some p->∀ s∈pl,s="yes"\/s="no"
 | t,p,[],h,x,hx=>by cases hx
 | .say a,p,s::r,h,x,hx=>by cases h
 | .ask k n v st y m,p,s::r,h,x,hx=>by
  have h':(if s="yes" then pF y r else if s="no" then pF m r else none)=some p:=h
  by_cases e1:s="yes"
  ·rw [if_pos e1] at h'
   rcases aZ.mp hx with rfl | hx
   ·exact .inl e1
   ·exact AF h' x hx
  ·rw [if_neg e1] at h'
   by_cases e2:s="no"
   ·rw [if_pos e2] at h'
    rcases aZ.mp hx with rfl | hx
    ·exact .inr e2
    ·exact AF h' x hx
   ·rw [if_neg e2] at h';cases h'
end
def there (fs:List (Str×List Str)) (t:Tr) (rs:List (List D×Str)) (pl:List Str) (x:D):Bool:=match x with
 | .int i=>(match L2.atI rs i with | some r=>decide ((oR fs t r.1).take pl.length=pl) | none=>false)
 | _=>false
def KP:kW:=λds Q=>∃ (k n v s:Str) (y m:Tr) (sd:Str),ds=[hU (.ask k n v s y m),.str sd]/\Q (hU (if sd="yes" then y else m))
def RP:JG:=λds Q=>∃ (fs:List (Str×List Str)) (an:List Str) (t:Tr) (cs:List D),ds=[eL fs an,hU t,.tuple cs]/\fF fs an/\mU fs an t/\jH fs (.tuple cs)=true/\t.dep<=40/\Q (pO fs t cs)
def RO:kW:=λds Q=>∃ (fs:List (Str×List Str)) (an:List Str) (t:Tr) (cs:List D),ds=[eL fs an,hU t,.tuple cs]/\fF fs an/\mU fs an t/\jH fs (.tuple cs)=true/\t.dep<=40/\Q (.tuple ((oR fs t cs).map aR))
def RN:kW:=λds Q=>∃ (fs:List (Str×List Str)) (an:List Str) (t:Tr) (cs:List D),ds=[eL fs an,hU t,.tuple cs]/\fF fs an/\mU fs an t/\jH fs (.tuple cs)=true/\t.dep<=40/\Q (.str (qS fs t cs))
def RM:kW:=λds Q=>∃ (t p:Tr) (pl:List Str),ds=[hU t,.tuple (pl.map aR)]/\pF t pl=some p/\t.dep<=40/\Q (hU p)
def vW:kW:=λds Q=>∃ ns:List Int,ds=[.list (ns.map aX)]/\ns.length<=63/\Q (.bool true)
section
variable {fs:List (Str×List Str)} {an:List Str} {t:Tr} {rs:List (List D×Str)} {pl:List Str}
end
def pS (n:Nat):kW:=λds Q=>∃ t:Tr,ds=[hU t]/\t.kn<=600/\t.dep<n/\Q (.int t.kn)
def FN:kW:=pS 41
theorem LV {ds:List D} {Q:D->Prop} (h:pS 0 ds Q):False:=by
 obtain ⟨_,_,_,h,_⟩:=h
 omega
def eD (fs:List (Str×List Str)) (t:Tr) (rs:List (List D×Str)):Nat:=(rs.filter λr=>!decide (qS fs t r.1=r.2)).length
def gM (fs:List (Str×List Str)) (k n v st:Str) (r:List D×Str):Bool:=decide (eQ fs k n v st r.1="yes")
theorem vX {fs:List (Str×List Str)} (k n v s:Str) (y m:Tr):∀ rs:List (List D×Str),eD fs (.ask k n v s y m) rs=eD fs y (rs.filter (gM fs k n v s))+eD fs m (rs.filter λr=>!gM fs k n v s r)
 | []=>rfl
 | r::rs=>by
  have ih:=vX (fs:=fs) k n v s y m rs
  have e:qS fs (.ask k n v s y m) r.1=if eQ fs k n v s r.1="yes" then qS fs y r.1 else qS fs m r.1:=rfl
  unfold eD at ih |-
  by_cases hy:eQ fs k n v s r.1="yes"
  ·have h1:gM fs k n v s r=true:=decide_eq_true hy
   rw [cM (p:=gM fs k n v s),if_pos h1,cM (p:=λr=>!gM fs k n v s r),if_neg (by rw [h1];decide)]
   rw [if_pos hy] at e
   by_cases ha:qS fs y r.1=r.2
   ·rw [cM,if_neg (by rw [e];simp [ha]),cM (x:=r),if_neg (by simp [ha])]
    exact ih
   ·rw [cM,if_pos (by rw [e];simp [ha]),cM (x:=r),if_pos (by simp [ha]),bI,bI,ih]
    omega
  ·have h1:gM fs k n v s r=false:=decide_eq_false hy
   rw [cM (p:=gM fs k n v s),if_neg (by rw [h1];decide),cM (p:=λr=>!gM fs k n v s r),if_pos (by rw [h1];rfl)]
   rw [if_neg hy] at e
   by_cases ha:qS fs m r.1=r.2
   ·rw [cM,if_neg (by rw [e];simp [ha]),cM (x:=r),if_neg (by simp [ha])]
    exact ih
   ·rw [cM,if_pos (by rw [e];simp [ha]),cM (x:=r),if_pos (by simp [ha]),bI,bI,ih]
    omega
def yQ:kW:=λds Q=>∃ (fs:List (Str×List Str)) (an:List Str) (t:Tr) (rs:List (List D×Str)) (a b:Int),ds=[eL fs an,hU t,.list (rs.map dO),.tuple [.int a,.int b]]/\fF fs an/\mU fs an t/\t.dep<=40/\t.kn<=600/\eA fs an rs/\rs.length<=60/\0<=a/\a<=1000000000/\0<=b/\b<=1000000000/\Q (.int (a*(eD fs t rs:Nat)+b*(t.kn:Nat)))
theorem eA.filt {fs:List (Str×List Str)} {an:List Str} {rs:List (List D×Str)} (h:eA fs an rs) (p:List D×Str->Bool):eA fs an (rs.filter p):=λr hr=>h r (cU.mp hr).1
def FA (fs:List (Str×List Str)) (an:List Str) (fa:List (List D×Str)->Str):Prop:=∀ rs,eA fs an rs->nE an rs (fa rs)
theorem nE.uniq {an:List Str} {rs:List (List D×Str)} {a b:Str} (h:nE an rs a) (g:nE an rs b):a=b:=by
 obtain ⟨i,h1,h2,h3⟩:=h
 obtain ⟨j,g1,g2,g3⟩:=g
 have e1:=h2 j b g1
 have e2:=g2 i a h1
 rcases iI i j with z | z | z
 ·have:=g3 i a z h1;omega
 ·subst z
  rw [h1] at g1
  exact Option.some.inj g1
 ·have:=h3 j b z g1;omega
def vZ (rs:List (List D×Str)) (x:D):D:=match x with | .int i=>(match L2.atI rs i with | some r=>dO r | none=>.none) | _=>.none
theorem GZ {rs:List (List D×Str)} {r:List D×Str} {i:Nat} (h:i<rs.length):L2.atI (rs++[r]) (i:Int)=L2.atI rs (i:Int):=by
 rw [L2.eK (aB h),L2.eK (xs:=rs++[r]) (v:=rs[i]) (by rw [dD h];exact aB h)]
theorem vI (fs:List (Str×List Str)) (k n v st w:Str):∀ (m:Nat) (rs:List (List D×Str)),rs.length=m->(fP fs k n v st rs w).map (vZ rs)=(rs.filter λr=>decide (eQ fs k n v st r.1=w)).map dO
 | 0,rs,h=>by rw [kZ.mp h];rfl
 | m+1,rs,h=>by
  obtain ⟨xs,r,rfl⟩:∃ xs r,rs=xs++[r]:=⟨rs.dropLast,rs.getLast (λe=>by rw [e] at h;cases h),(List.dropLast_concat_getLast _).symm⟩
  have hl:xs.length=m:=by rw [bA] at h;simpa using h
  have ih:=vI fs k n v st w m xs hl
  unfold fP at ih |-
  have e1:dX (xs++[r]).length=dX xs.length++[.int (xs.length:Int)]:=by
   unfold dX
   rw [bA,hG,xJ,bQ];rfl
  have hat:L2.atI (xs++[r]) (xs.length:Int)=some r:=L2.eK (by rw [dJ (aL _),aBi];rfl)
  have e2:(dX xs.length).filter (pV fs k n v st (xs++[r]) w)=(dX xs.length).filter (pV fs k n v st xs w):=jL λx hx=>by
   obtain ⟨j,hj,rfl⟩:=bC.mp hx
   show (match L2.atI (xs++[r]) (j:Int) with | some r=>decide (eQ fs k n v st r.1=w) | none=>false)=match L2.atI xs (j:Int) with | some r=>decide (eQ fs k n v st r.1=w) | none=>false
   rw [GZ (by simpa using hj)]
  have e3:((dX xs.length).filter (pV fs k n v st xs w)).map (vZ (xs++[r]))=((dX xs.length).filter (pV fs k n v st xs w)).map (vZ xs):=fJ λx hx=>by
   obtain ⟨j,hj,rfl⟩:=bC.mp (cU.mp hx).1
   show (match L2.atI (xs++[r]) (j:Int) with | some r=>dO r | none=>.none)=match L2.atI xs (j:Int) with | some r=>dO r | none=>.none
   rw [GZ (by simpa using hj)]
  have ho:pV fs k n v st (xs++[r]) w (.int (xs.length:Int))=decide (eQ fs k n v st r.1=w):=by
   show (match L2.atI (xs++[r]) (xs.length:Int) with | some r=>decide (eQ fs k n v st r.1=w) | none=>false)=_
   rw [hat]
  have hr:vZ (xs++[r]) (.int (xs.length:Int))=dO r:=by
   show (match L2.atI (xs++[r]) (xs.length:Int) with | some r=>dO r | none=>.none)=_
   rw [hat]
  rw [e1,gB,bQ,e2,e3,ih,gB,bQ]
  congr 1
  by_cases hs:eQ fs k n v st r.1=w
  ·rw [cM,if_pos (by rw [ho];exact decide_eq_true hs),cM,if_pos (decide_eq_true hs)]
   show [vZ (xs++[r]) (.int (xs.length:Int))]=[dO r]
   rw [hr]
  ·rw [cM,if_neg (by rw [ho,decide_eq_false hs];decide),cM,if_neg (by rw [decide_eq_false hs];decide)]
   rfl
def BY:kW:=λds Q=>∃ (fs:List (Str×List Str)) (k n v st w:Str) (rs:List (List D×Str)),ds=[.list (rs.map dO),.list (fP fs k n v st rs w)]/\rs.length<=60/\Q (.list ((rs.filter λr=>decide (eQ fs k n v st r.1=w)).map dO))
def BX:kW:=λds Q=>∃ (fs:List (Str×List Str)) (an:List Str) (fa:List (List D×Str)->Str) (rs:List (List D×Str)),ds=[eL fs an,.list (rs.map dO)]/\fF fs an/\FA fs an fa/\eA fs an rs/\rs.length<=60/\Q (hU (.say (fa rs)))
def BW:kW:=λds Q=>∃ (fs:List (Str×List Str)) (an:List Str) (k n v s:Str) (y m:Tr) (rs:List (List D×Str)),ds=[eL fs an,hU (.ask k n v s y m),.list (rs.map dO)]/\fF fs an/\JQ fs (.tuple [.str k,.str n,.str v])=true/\(s="yes"\/s="no")/\eA fs an rs/\rs.length<=60/\Q (.list [.list ((rs.filter (gM fs k n v s)).map dO),.list ((rs.filter λr=>!gM fs k n v s r).map dO)])
theorem vE {fs:List (Str×List Str)} {an:List Str} (F:fF fs an) {k n v st:Str} (hq:JQ fs (.tuple [.str k,.str n,.str v])=true) (hst:st="yes"\/st="no") {rs:List (List D×Str)} (hrs:eA fs an rs):(rs.filter λr=>decide (eQ fs k n v st r.1="no"))=rs.filter λr=>!gM fs k n v st r:=jL λr hr=>by
 unfold gM
 rcases FP F hq hst (hrs r hr).1 with e | e
 ·rw [e];decide +kernel
 ·rw [e];decide +kernel
theorem aDq (a b c d e:D):jP [a,b,c,d,e] none (some 3)=[a,b,c]:=pA [a,b,c,d,e] 3
theorem CV {an:List Str} (h:0<an.length) (rs:List (List D×Str)):∃ a,nE an rs a:=by
 have key:∀ (l:List Str),0<l.length->∃ k a,l[k]?=some a/\(∀ (j:Nat) b,l[j]?=some b->cnt rs b<=cnt rs a)/\∀ (j:Nat) b,j<k->l[j]?=some b->cnt rs b<cnt rs a:=λl=>by
  induction l with
  | nil=>intro h;exact absurd h (by decide)
  | cons x l ih =>
   intro _
   cases l with
   | nil=>exact ⟨0,x,rfl,λj b hb=>by
     cases j with
     | zero=>cases hb;exact aL _
     | succ j=>simp at hb,λj b hj _=>absurd hj (yD _)⟩
   | cons y l =>
    obtain ⟨k,a,h1,h2,h3⟩:=ih (by simp)
    by_cases hx:cnt rs a<=cnt rs x
    ·refine ⟨0,x,rfl,λj b hb=>?_,λj b hj _=>absurd hj (yD _)⟩
     cases j with
     | zero=>cases hb;exact aL _
     | succ j=>exact bO (h2 j b (by simpa using hb)) hx
    ·refine ⟨k+1,a,by simpa using h1,λj b hb=>?_,λj b hj hb=>?_⟩
     ·cases j with
      | zero=>cases hb;omega
      | succ j=>exact h2 j b (by simpa using hb)
     ·cases j with
      | zero=>cases hb;omega
      | succ j=>exact h3 j b (by omega) (by simpa using hb)
 obtain ⟨k,a,h1,h2,h3⟩:=key an h
 exact ⟨a,k,h1,h2,h3⟩
theorem aAt {fs:List (Str×List Str)} {an:List Str} (F:fF fs an):∃ fa,FA fs an fa :=
 ⟨λrs=>(CV (an:=an) (by have:=F.a2;omega) rs).choose,λrs _=>(CV (an:=an) (by have:=F.a2;omega) rs).choose_spec⟩

abbrev Fs:=List (Str×List Str)
abbrev Qn:=Str×Str×Str
abbrev Ch:=Qn×Str
def qD (q:Qn):D:=.tuple [.str q.1,.str q.2.1,.str q.2.2]
def tq (d:D):Qn:=match d with | .tuple [.str k,.str n,.str v]=>(k,n,v) | _=>("","","")
def qs (fs:Fs):List Qn:=(fK fs).map tq
theorem AB (fs:Fs):(qs fs).map qD=fK fs:=by
 unfold qs
 rw [bD]
 have:∀ d∈fK fs,(qD ∘ tq) d=id d:=λd hd=>by
  obtain ⟨f,hf,⟨z,hz,rfl⟩ | ⟨z,hz,hi,rfl⟩⟩:=xA hd<;>rfl
 rw [fJ this,G7]
theorem tK {fs:Fs} {q:Qn} (h:q∈qs fs):JQ fs (.tuple [.str q.1,.str q.2.1,.str q.2.2])=true:=by
 have:qD q∈(qs fs).map qD:=bC.mpr ⟨q,h,rfl⟩
 rw [AB] at this
 exact EN this
def KA (q:Qn):List Ch:=[(q,"yes"),(q,"no")]
def chs (fs:Fs):List Ch:=(qs fs).flatMap KA
theorem tZ {fs:Fs} {c:Ch} (h:c∈chs fs):c.1∈qs fs/\(c.2="yes"\/c.2="no"):=by
 obtain ⟨q,hq,hc⟩:=List.mem_flatMap.mp h
 simp only [KA,aZ,gX,or_false] at hc
 rcases hc with rfl | rfl
 ·exact ⟨hq,.inl rfl⟩
 ·exact ⟨hq,.inr rfl⟩
theorem GV (fs:Fs):(chs fs).length=2*(fK fs).length:=by
 unfold chs qs
 generalize (fK fs)=l
 induction l with
 | nil=>rfl
 | cons x l ih =>
  rw [bP,NM,bA,ih]
  show 2+_=2*(l.length+1)
  omega
def onC (fs:Fs) (c:Ch) (r:Rw):Bool:=gM fs c.1.1 c.1.2.1 c.1.2.2 c.2 r
abbrev yR (fs:Fs) (c:Ch) (R:List Rw):List Rw:=R.filter (onC fs c)
abbrev nR (fs:Fs) (c:Ch) (R:List Rw):List Rw:=R.filter λr=>!onC fs c r
def W7 (c:Ch):D:=.tuple [qD c.1,.str c.2]
def RY:kW:=λds Q=>∃ (fs:Fs) (an:List Str),ds=[eL fs an]/\fF fs an/\Q (.list ((chs fs).map W7))
theorem UY {i:Int} (h0:-999999999999<=i) (h1:i<=999999999999) {m:Nat}:Th 0 m (.int i):=by
 have hz:i.natAbs<10 ^ 12:=by omega
 refine ⟨aL _,?_,?_,rfl,cC _,rfl⟩
 ·have:=PyData.shown_int_le hz
  show decide ((PyData.shown (.int i)).length<=110)=true
  exact decide_eq_true (by omega)
 ·show decide (i.natAbs.log2<1920)=true
  refine decide_eq_true ?_
  by_cases e:i.natAbs=0
  ·rw [e];decide
  ·refine (aB6 e).mpr (cG hz ?_)
   exact bO (show 10 ^ 12<=2 ^ 40 by decide) (jR (aH rfl) (aH rfl))
theorem KD {n:Nat} (h:n<=999999999999) {m:Nat}:Th 0 m (.int (n:Nat)):=UY (by omega) (by omega)
def low (a b:Nat):Nat×Nat:=(a / a.gcd b,b / a.gcd b)
def tS (x:Nat×Nat):D:=.tuple [.int (x.1:Nat),.int (x.2:Nat)]
def dbt (R:List Rw):Nat×Nat:=low (prs R R) (max 1 R.length)
def KJ (x y:Nat×Nat):Nat×Nat:=low (x.1*y.2+y.1*x.2) (x.2*y.2)
def dC (fs:Fs) (R:List Rw) (c:Ch):Nat×Nat:=KJ (dbt (yR fs c R)) (dbt (nR fs c R))
def okC (fs:Fs) (R:List Rw) (m:Int) (c:Ch):Bool:=decide (m<=((yR fs c R).length:Int)) && decide (m<=((nR fs c R).length:Int))
def cand (fs:Fs) (R:List Rw) (m:Int):List Ch:=(chs fs).filter (okC fs R m)
def C0 (fs:Fs) (R:List Rw) (c:Ch):D:=.tuple [qD c.1,.str c.2,tS (dC fs R c)]
def rN (l:List (Nat×Nat)):Nat:=l.foldl (λc x=>c.lcm x.2) 1
def IJ (B:Nat) (x:Nat×Nat):Int:=(x.1:Int)*((B:Int) / (x.2:Int))
def JS (fs:Fs) (R:List Rw) (m:Int):List (Nat×Nat):=(cand fs R m).map (dC fs R)
def wN (fs:Fs) (R:List Rw) (m:Int):List Int:=(JS fs R m).map (IJ (rN (JS fs R m)))
def wU (fs:Fs) (R:List Rw) (m:Int):List D:=(cand fs R m).map (C0 fs R)
def Rkd (fs:Fs) (R:List Rw) (m:Int) (J:List Nat):Prop:=SS.xW (cand fs R m).length (λi=>(wN fs R m).getD i 0) J
def VU (fs:Fs) (R:List Rw) (m:Int) (J:List Nat):List D:=J.map λi=>(wU fs R m).getD i .none
theorem sK {a b:Nat} (h:0<b):0<(low a b).2:=JK (X3 h (oN a b)) (kC a h)
theorem L5 (a b:Nat):(low a b).1<=a/\(low a b).2<=b:=⟨mO _ _,mO _ _⟩
structure QT (x:Nat×Nat) (a b:Nat):Prop where
 top:x.1<=a
 pos:0<x.2
 bot:x.2<=b
theorem sO {R:List Rw} (h:R.length<=60):QT (dbt R) 3600 60:=by
 have h1:=L5 (prs R R) (max 1 R.length)
 have h2:=DY R R
 have h3:R.length*R.length<=60*60:=jT h h
 exact ⟨by show (low _ _).1<=_;omega,sK (by omega),by show (low _ _).2<=_;omega⟩
theorem FG {x y:Nat×Nat} (hx:QT x 3600 60) (hy:QT y 3600 60):x.1*y.2+y.1*x.2<=432000/\x.2*y.2<=3600/\0<x.2*y.2:=by
 have h1:x.1*y.2<=3600*60:=jT hx.top hy.bot
 have h2:y.1*x.2<=3600*60:=jT hy.top hx.bot
 have h3:x.2*y.2<=60*60:=jT hx.bot hy.bot
 exact ⟨by omega,by omega,jS hx.pos hy.pos⟩
theorem KI {x y:Nat×Nat} (hx:QT x 3600 60) (hy:QT y 3600 60):QT (KJ x y) 432000 3600:=by
 obtain ⟨h1,h2,h3⟩:=FG hx hy
 have h4:=L5 (x.1*y.2+y.1*x.2) (x.2*y.2)
 exact ⟨bO h4.1 h1,sK h3,bO h4.2 h2⟩
theorem oZ {fs:Fs} {R:List Rw} (h:R.length<=60) (c:Ch):QT (dC fs R c) 432000 3600 :=
 KI (sO (bO (bV _ _) h)) (sO (bO (bV _ _) h))
theorem C5:∀ (l:List (Nat×Nat)) (c:Nat),c ∣ l.foldl (λc x=>c.lcm x.2) c/\∀ x∈l,x.2 ∣ l.foldl (λc x=>c.lcm x.2) c
 | [],c=>⟨Nat.dvd_refl _,λx hx=>by cases hx⟩
 | y::l,c=>by
  obtain ⟨h1,h2⟩:=C5 l (c.lcm y.2)
  refine ⟨X4 (Nat.dvd_lcm_left _ _) h1,λx hx=>?_⟩
  rcases aZ.mp hx with rfl | hx
  ·exact X4 (Nat.dvd_lcm_right _ _) h1
  ·exact h2 x hx
theorem C4:∀ (l:List (Nat×Nat)) (c:Nat),0<c->(∀ x∈l,0<x.2)->0<l.foldl (λc x=>c.lcm x.2) c
 | [],c,h,_=>h
 | y::l,c,h,g=>C4 l _ (Nat.lcm_pos h (g y (aM ..))) λx hx=>g x (aK _ hx)
theorem CP {B:Nat} {x:Nat×Nat}:IJ B x=((x.1*(B / x.2):Nat):Int):=by
 unfold IJ
 rw [cA,pM]
theorem P1 {B:Nat} {x y:Nat×Nat} (hB:0<B) (hx:x.2 ∣ B) (hy:y.2 ∣ B) (px:0<x.2) (py:0<y.2):IJ B x<IJ B y↔x.1*y.2<y.1*x.2:=by
 rw [CP,CP,Int.ofNat_lt]
 obtain ⟨a,ha⟩:=hx
 obtain ⟨b,hb⟩:=hy
 have ea:B / x.2=a:=by rw [ha];exact DL a px
 have eb:B / y.2=b:=by rw [hb];exact DL b py
 rw [ea,eb]
 have h1:x.1*a*(x.2*y.2)=B*(x.1*y.2):=by rw [ha];simp only [iP,jW,NR]
 have h2:y.1*b*(x.2*y.2)=B*(y.1*x.2):=by rw [hb];simp only [iP,jW,NR]
 have h3:0<x.2*y.2:=jS px py
 constructor
 ·intro h
  have:=Nat.mul_lt_mul_of_pos_right h h3
  rw [h1,h2] at this
  exact Nat.lt_of_mul_lt_mul_left this
 ·intro h
  have:=Nat.mul_lt_mul_of_pos_left h hB
  rw [<- h1,<- h2] at this
  exact Nat.lt_of_mul_lt_mul_right this
theorem C3 {fs:Fs} {an:List Str} (F:fF fs an) (R:List Rw) (m:Int):(cand fs R m).length<=100:=by
 have h1:=mM F fs λg hg=>hg
 have h2:=bV (okC fs R m) (chs fs)
 rw [GV] at h2
 have n5:=F.n5
 show ((chs fs).filter _).length<=_
 omega
theorem MF (fs:Fs) (R:List Rw) (m:Int):(wN fs R m).length=(cand fs R m).length:=by unfold wN JS;rw [aC,aC]
theorem pZ (fs:Fs) (R:List Rw) (m:Int):(wU fs R m).length=(cand fs R m).length:=by unfold wU;rw [aC]
theorem AR {fs:Fs} {R:List Rw} {m:Int} {i:Nat} (h:i<(cand fs R m).length):(wN fs R m).getD i 0=IJ (rN (JS fs R m)) (dC fs R (cand fs R m)[i]):=by
 unfold wN
 rw [cI,aJ]
 unfold JS
 rw [aJ,aB h];rfl
theorem GL {fs:Fs} {R:List Rw} {m:Int} {i:Nat} (h:i<(cand fs R m).length):(wU fs R m).getD i .none=C0 fs R (cand fs R m)[i]:=by
 unfold wU
 rw [cI,aJ,aB h];rfl
theorem WC {fs:Fs} {R:List Rw} {m:Int} (hR:R.length<=60) {i j:Nat} (hi:i<(cand fs R m).length) (hj:j<(cand fs R m).length) :
  (wN fs R m).getD i 0<(wN fs R m).getD j 0↔(dC fs R (cand fs R m)[i]).1*(dC fs R (cand fs R m)[j]).2<(dC fs R (cand fs R m)[j]).1*(dC fs R (cand fs R m)[i]).2:=by
 rw [AR hi,AR hj]
 have hp:∀ x∈JS fs R m,0<x.2:=λx hx=>by
  obtain ⟨c,_,rfl⟩:=bC.mp hx
  exact (oZ hR c).pos
 have hd:=(C5 (JS fs R m) 1).2
 exact P1 (C4 _ _ (by decide) hp) (hd _ (JL (eF hi))) (hd _ (JL (eF hj))) (oZ hR _).pos (oZ hR _).pos
theorem yZ:∀ (n:Nat) (J:List Nat),J.Nodup->(∀ i∈J,i<n)->J.length<=n
 | 0,J,_,h=>by
  cases J with
  | nil=>exact aL _
  | cons j J=>exact absurd (h j (aM ..)) (yD _)
 | n+1,J,nd,h=>by
  have h1:=yZ n (J.filter (· != n)) (nd.filter _) λi hi=>by
   obtain ⟨a,b⟩:=cU.mp hi
   have:=h i a
   have b':i≠n:=by simpa using b
   omega
  have h2:J.length=(J.filter (· != n)).length+J.count n:=by
   rw [List.count,<- List.countP_eq_length_filter,uP (p:=λx=>x != n)]
   congr 1
   apply uR
   intro x _
   simp
  have h3:=List.nodup_iff_count.mp nd n
  omega
theorem HE {n:Nat} {k:Nat->Int} {J:List Nat} (h:SS.xW n k J):J.Nodup:=h.ord.imp λ{a b} q z=>by
 subst z
 omega
theorem OG {n:Nat} {k:Nat->Int} {J:List Nat} (h:SS.xW n k J) {i:Nat} (hi:i<n):i∈J:=by
 by_cases e:i∈J
 ·exact e
 ·have:=yZ n (i::J) (kD.mpr ⟨e,HE h⟩) λx hx=>by
   rcases aZ.mp hx with rfl | hx
   ·exact hi
   ·exact h.lt x hx
  rw [bI,h.len] at this
  omega
def RT:kW:=λds Q=>∃ (as bs:List D) (m:Int),ds=[.tuple [.list as,.list bs],.int m]/\Q (.bool (decide (m<=(as.length:Int)) && decide (m<=(bs.length:Int))))
def YG:kW:=λds Q=>∃ x y:Nat×Nat,ds=[tS x,tS y]/\QT x 3600 60/\QT y 3600 60/\Q (tS (KJ x y))
def YF:kW:=λds Q=>∃ l:List (Nat×Nat),ds=[.list (l.map tS)]/\(∀ x∈l,0<x.2/\x.2<=1000000)/\Q (.int (rN l:Nat))
def RS:JG:=λds Q=>∃ (fs:Fs) (an:List Str) (rs:List Rw) (m:Int),ds=[eL fs an,.list (rs.map dO),.int m]/\fF fs an/\eA fs an rs/\rs.length<=60/\∀ J,Rkd fs rs m J->Q (VU fs rs m J)
abbrev LxK (k:Nat->Int) (i j:Nat):Prop:=k i<k j\/(k i=k j/\i<j)
structure XI (N:Nat) (k:Nat->Int) (ts js:List Nat):Prop where
 lt1:∀ i∈ts,i<N
 lt2:∀ i∈js,i<N
 len:ts.length+js.length=N
 asc:js.Pairwise (·<·)
 ord:ts.Pairwise (LxK k)
 cross:∀ t∈ts,∀ j∈js,LxK k t j
theorem XI.start (N:Nat) (k:Nat->Int):XI N k [] (bX N) where
 lt1:=λi h=>(gX h).elim
 lt2:=λi h=>gY.mp h
 len:=by simp
 asc:=List.pairwise_lt_range
 ord:=.nil
 cross:=λt h=>(gX h).elim
theorem XI.done {N:Nat} {k:Nat->Int} {ts:List Nat} (h:XI N k ts []):SS.xW N k ts:=⟨h.ord,h.lt1,by have:=h.len;simpa using this⟩
structure Fst (k:Nat->Int) (js:List Nat) (n p:Nat):Prop where
 lt:p<js.length
 le:∀ q (hq:q<js.length),q<n->k js[p]<=k js[q]
 st:∀ q (hq:q<js.length),q<p->k js[p]<k js[q]
theorem XI.next {N:Nat} {k:Nat->Int} {ts js:List Nat} {p:Nat} (h:XI N k ts js) (f:Fst k js js.length p):XI N k (ts++[js[p]'f.lt]) (js.eraseIdx p):=by
 have hp:=f.lt
 have mem:∀ x∈js.eraseIdx p,∃ q,∃ hq:q<js.length,q≠p/\x=js[q]:=λx hx=>by
  obtain ⟨q,hq,h1,h2⟩:=List.mem_eraseIdx_iff_getElem.mp hx
  exact ⟨q,hq,h1,h2.symm⟩
 refine ⟨λi hi=>?_,λi hi=>h.lt2 i (BD hi),?_,h.asc.sublist (List.eraseIdx_sublist js p),?_,λt ht j hj=>?_⟩
 ·rcases eT.mp hi with hi | hi
  ·exact h.lt1 i hi
  ·rw [dN.mp hi];exact h.lt2 _ (eF hp)
 ·rw [bA,List.length_eraseIdx,if_pos hp,hG]
  have:=h.len
  omega
 ·rw [List.pairwise_append]
  exact ⟨h.ord,List.pairwise_singleton ..,λa ha b hb=>by rw [dN.mp hb];exact h.cross a ha _ (eF hp)⟩
 ·rcases eT.mp ht with ht | ht
  ·exact h.cross t ht j (BD hj)
  ·rw [dN.mp ht]
   obtain ⟨q,hq,hne,rfl⟩:=mem j hj
   by_cases c:q<p
   ·exact .inl (f.st q hq c)
   ·have h1:=f.le q hq hq
    have h2:=iB.mp h.asc p q hp hq (by omega)
    show k js[p]<k js[q]\/(k js[p]=k js[q]/\js[p]<js[q])
    omega
theorem KF {fs:Fs} {an:List Str} (F:fF fs an) {R:List Rw} (hR:R.length<=60) {c:Ch} (hc:c∈chs fs):Th 90 2 (C0 fs R c):=by
 obtain ⟨hq,hs⟩:=tZ hc
 have s1:=oZ (fs:=fs) hR c
 have a1:=s1.top
 have a2:=s1.bot
 have t1:Th 27 1 (qD c.1):=UV F (tK hq)
 have t2:Th 27 1 (.str c.2):=by
  rcases hs with z | z<;>rw [z]<;>exact KE (by decide +kernel)
 have t3:Th 27 1 (tS (dC fs R c)):=oQ 0 0 2 (gF (KD (by omega)) (gF (KD (by omega)) nD)) (aL _) (by decide) (by decide)
 exact oQ 27 1 3 (gF t1 (gF t2 (gF t3 nD))) (aL _) (by decide) (by decide)
theorem HL:∀ (l:List Sl) (a b c x y z:Sl),((((((l.set 0 a).set 1 b).set 2 c).set 0 x).set 1 y).set 2 z)=((l.set 0 x).set 1 y).set 2 z
 | [],_,_,_,_,_,_=>rfl
 | [_],_,_,_,_,_,_=>rfl
 | [_,_],_,_,_,_,_,_=>rfl
 | _::_::_::_,_,_,_,_,_,_=>rfl
theorem PV {fr:List (Option Nat)} {ti:IT} {te:ET} {σ:List Sl} {Q:D->Prop} {ts:List D} (hti:qC ti σ ts) (f:D->D) (hz:ts.length<=100000) (hp:∀ x∈ts,∃ a b c,x=.tuple [a,b,c]) (ht:∀ (a b c:D) (q:D->Prop),.tuple [a,b,c]∈ts->q (f (.tuple [a,b,c]))->te ((((iC fr σ).set 0 (.val a)).set 1 (.val b)).set 2 (.val c)) q) (hq:Q (.list (ts.map f))):JR fr ti (gP3 0 1 2) xD te σ Q:=by
 refine hti _ ⟨hz,λk σ' ds=>(∀ x y z,((σ'.set 0 (.val x)).set 1 (.val y)).set 2 (.val z)=(((iC fr σ).set 0 (.val x)).set 1 (.val y)).set 2 (.val z))/\ds=(ts.take k).map f,⟨λ_ _ _=>rfl,rfl⟩,λk x σ' ds hx h=>?_,λσ' ds h=>?_⟩
 ·obtain ⟨h1,rfl⟩:=h
  have hm:x∈ts:=bJ hx
  obtain ⟨a,b,c,rfl⟩:=hp x hm
  refine ⟨a,b,c,rfl,?_⟩
  show te (((σ'.set 0 (.val a)).set 1 (.val b)).set 2 (.val c)) _
  rw [h1 a b c]
  refine ht a b c _ hm ⟨λx y z=>HL _ _ _ _ _ _ _,?_⟩
  rw [cS,hx,bQ];rfl
 ·obtain ⟨_,rfl⟩:=h
  rw [dW];exact hq
def pG (x y:Nat×Nat):Bool:=decide (x.1*y.2<y.1*x.2)
def iQ (fs:Fs) (R:List Rw) (b x:Ch):Ch:=if pG (dC fs R x) (dC fs R b)=true then x else b
def JT (fs:Fs) (R:List Rw):List Ch->Option Ch
 | []=>none
 | c::l=>some (l.foldl (iQ fs R) c)
def iE (fs:Fs) (R:List Rw) (m:Int):Option Ch:=(JT fs R (cand fs R m)).filter λc=>pG (dC fs R c) (dbt R)
def LJ (fs:Fs) (R:List Rw):Option Ch->D
 | some c=>C0 fs R c
 | none=>.none
def IsF (k:Nat->Int) (n p:Nat):Prop:=p<n/\(∀ q,q<n->k p<=k q)/\∀ q,q<p->k p<k q
theorem MK {k:Nat->Int} {n p q:Nat} (h1:IsF k n p) (h2:IsF k n q):p=q:=by
 rcases iI p q with z | z | z
 ·have a:=h2.2.2 p z
  have b:=h1.2.1 q h2.1
  omega
 ·exact z
 ·have a:=h1.2.2 q z
  have b:=h2.2.1 p h1.1
  omega
theorem KK {n:Nat} {k:Nat->Int} {i:Nat} {J:List Nat} (h:SS.xW n k (i::J)):IsF k n i:=by
 obtain ⟨a1,a2⟩:=kG.mp h.ord
 have lo:∀ q,q<n->q≠i->k i<k q\/(k i=k q/\i<q):=λq hq hne=>by
  rcases aZ.mp (OG h hq) with z | z
  ·exact absurd z hne
  ·exact a1 q z
 refine ⟨h.lt i (aM ..),λq hq=>?_,λq hq=>?_⟩
 ·by_cases e:q=i
  ·rw [e];exact jU _
  ·have:=lo q hq e;omega
 ·have hi:=h.lt i (aM ..)
  have:=lo q (by omega) (by omega)
  omega
theorem M8 {fs:Fs} {R:List Rw} (hR:R.length<=60) (m:Int):∀ (n:Nat) (hn:n<(cand fs R m).length),∃ p,∃ hp:p<(cand fs R m).length,IsF (λi=>(wN fs R m).getD i 0) (n+1) p/\(((cand fs R m).drop 1).take n).foldl (iQ fs R) ((cand fs R m)[0]'(by omega))=(cand fs R m)[p]
 | 0,hn=>⟨0,by omega,⟨by omega,λq hq=>by rw [show q=0 by omega];exact jU _,λq hq=>by omega⟩,by rw [List.take_zero];rfl⟩
 | n+1,hn=>by
  obtain ⟨p,hp,⟨h1,h2,h3⟩,he⟩:=M8 hR m n (Nat.lt_of_succ_lt hn)
  have et:((cand fs R m).drop 1).take (n+1)=((cand fs R m).drop 1).take n++[(cand fs R m)[n+1]]:=by
   rw [cS,jB,Nat.add_comm 1 n,aB hn];rfl
  have kl:=WC (fs:=fs) (m:=m) hR hn hp
  have key:(((cand fs R m).drop 1).take (n+1)).foldl (iQ fs R) ((cand fs R m)[0]'(by omega))=iQ fs R (cand fs R m)[p] (cand fs R m)[n+1]:=by
   rw [et,NL,he];rfl
  unfold iQ pG at key
  by_cases c:(dC fs R (cand fs R m)[n+1]).1*(dC fs R (cand fs R m)[p]).2<(dC fs R (cand fs R m)[p]).1*(dC fs R (cand fs R m)[n+1]).2
  ·rw [if_pos (decide_eq_true c)] at key
   have kc:=kl.mpr c
   refine ⟨n+1,hn,⟨by omega,λq hq=>?_,λq hq=>?_⟩,key⟩
   ·by_cases e:q=n+1
    ·rw [e];exact jU _
    ·have:=h2 q (by omega)
     dsimp only at this |-
     omega
   ·have:=h2 q (by omega)
    dsimp only at this |-
    omega
  ·rw [if_neg (by rw [decide_eq_false c];decide)] at key
   have kc:¬ (wN fs R m).getD (n+1) 0<(wN fs R m).getD p 0:=λz=>c (kl.mp z)
   refine ⟨p,hp,⟨by omega,λq hq=>?_,h3⟩,key⟩
   by_cases e:q=n+1
   ·rw [e];dsimp only;omega
   ·exact h2 q (by omega)
theorem M9 {fs:Fs} {R:List Rw} (hR:R.length<=60) {m:Int} {i:Nat} {J:List Nat} (h:Rkd fs R m (i::J)):JT fs R (cand fs R m)=some ((cand fs R m)[i]'(h.lt i (aM ..))):=by
 have hi:=h.lt i (aM ..)
 have hl:0<(cand fs R m).length:=by omega
 obtain ⟨p,hp,hF,he⟩:=M8 hR m ((cand fs R m).length-1) (Nat.sub_lt hl Nat.one_pos)
 rw [Nat.sub_add_cancel hl] at hF
 have e:=MK hF (KK h)
 subst e
 have et:((cand fs R m).drop 1).take ((cand fs R m).length-1)=(cand fs R m).drop 1:=dQ (by rw [cO];exact aL _)
 rw [et] at he
 obtain ⟨a,l,hc⟩:∃ a l,cand fs R m=a::l:=by
  cases hc:cand fs R m with
  | nil=>rw [hc] at hl;cases hl
  | cons a l=>exact ⟨a,l,rfl⟩
 have h0:(cand fs R m)[0]=a:=by simp [hc]
 have h1:(cand fs R m).drop 1=l:=by rw [hc];rfl
 rw [h0,h1] at he
 have hb:JT fs R (cand fs R m)=some (l.foldl (iQ fs R) a):=by rw [hc];rfl
 rw [hb,he]
theorem QO {fs:Fs} {R:List Rw} {m:Int} (h:Rkd fs R m []):JT fs R (cand fs R m)=none:=by
 have:(cand fs R m).length=0:=by have:=h.len;simpa using this.symm
 rw [kZ.mp this];rfl
theorem oB {fs:Fs} {R:List Rw} {m:Int} {c:Ch} (h:iE fs R m=some c):c∈cand fs R m:=by
 unfold iE at h
 have h1:=Option.filter_eq_some_iff.mp h
 have h2:=h1.1
 cases hc:cand fs R m with
 | nil=>rw [hc] at h2;cases h2
 | cons a l =>
  rw [hc] at h2
  have e:l.foldl (iQ fs R) a=c:=Option.some.inj h2
  have:∀ (l:List Ch) (a:Ch),l.foldl (iQ fs R) a∈a::l:=by
   intro l
   induction l with
   | nil=>intro a;exact aM ..
   | cons x l ih =>
    intro a
    rw [qH]
    rcases aZ.mp (ih (iQ fs R a x)) with z | z
    ·rw [z]
     unfold iQ
     split
     ·exact aK _ (aM ..)
     ·exact aM ..
    ·exact aK _ (aK _ z)
  rw [<- e];exact this l a
theorem UW {fs:Fs} {an:List Str} (F:fF fs an) {R:List Rw} (hR:R.length<=60) (m:Int):Th 90 2 (LJ fs R (iE fs R m)):=by
 cases e:iE fs R m with
 | none=>exact (zT:Th 0 0 .none).mono (by decide) (by decide)
 | some c=>exact KF F hR (cU.mp (oB e)).1
def U7:kW:=λds Q=>∃ x y:Nat×Nat,ds=[tS x,tS y]/\x.1<=1000000/\y.1<=1000000/\Q (.bool (pG x y))
def FO:kW:=λds Q=>∃ (fs:Fs) (an:List Str) (rs:List Rw) (m:Int),ds=[eL fs an,.list (rs.map dO),.int m]/\fF fs an/\eA fs an rs/\rs.length<=60/\Q (LJ fs rs (iE fs rs m))
def Gr (fs:Fs) (an:List Str) (m:Int):Nat->List Rw->Tr->Prop
 | 0,R,t=>∃ a,nE an R a/\t=.say a
 | d+1,R,t=>match iE fs R m with
  | none=>∃ a,nE an R a/\t=.say a
  | some c=>∃ y n,Gr fs an m d (yR fs c R) y/\Gr fs an m d (nR fs c R) n/\t=.ask c.1.1 c.1.2.1 c.1.2.2 c.2 y n
theorem C1 {R S:List Rw} (h:R.Perm S) (z:Str):cnt R z=cnt S z:=h.countP_eq _
theorem B3 {R S:List Rw} (h:R.Perm S):prs R R=prs S S:=by
 unfold prs
 have e:(λr:Rw=>R.countP λo=>decide (o.2≠r.2))=λr:Rw=>S.countP λo=>decide (o.2≠r.2):=funext λr=>h.countP_eq _
 rw [e]
 exact (h.map _).sum_nat
theorem wW {R S:List Rw} (h:R.Perm S):dbt R=dbt S:=by unfold dbt;rw [B3 h,h.length_eq]
theorem JC {fs:Fs} {R S:List Rw} (h:R.Perm S) (m:Int):iE fs R m=iE fs S m:=by
 have e1:dC fs R=dC fs S:=funext λc=>by unfold dC;rw [wW (h.filter _),wW (h.filter (λr=>!onC fs c r))]
 have e2:okC fs R m=okC fs S m:=funext λc=>by unfold okC;rw [(h.filter (onC fs c)).length_eq,(h.filter (λr=>!onC fs c r)).length_eq]
 have e3:iQ fs R=iQ fs S:=funext λb=>funext λx=>by unfold iQ;rw [e1]
 have e4:∀ l,JT fs R l=JT fs S l:=λl=>by cases l<;>simp only [JT,e3]
 unfold iE cand
 rw [e2,e4,e1,wW h]
theorem rJ {an:List Str} {R S:List Rw} (h:R.Perm S) {a b:Str} (h1:nE an R a) (h2:nE an S b):a=b:=by
 obtain ⟨k,e1,m1,l1⟩:=h1
 obtain ⟨j,e2,m2,l2⟩:=h2
 have ca:=C1 h a
 have cb:=C1 h b
 rcases iI k j with q | rfl | q
 ·have x:=l2 k a q e1
  have y:=m1 j b e2
  omega
 ·rw [e1] at e2;cases e2;rfl
 ·have x:=l1 j b q e2
  have y:=m2 k a e1
  omega
theorem AV {fs:Fs} {an:List Str} {m:Int}:∀ (d:Nat) {R S:List Rw} {t u:Tr},R.Perm S->Gr fs an m d R t->Gr fs an m d S u->t=u
 | 0,R,S,t,u,h,⟨a,h1,e1⟩,⟨b,h2,e2⟩=>by rw [e1,e2,rJ h h1 h2]
 | d+1,R,S,t,u,h,h1,h2=>by
  unfold Gr at h1 h2
  rw [JC h] at h1
  cases e:iE fs S m with
  | none =>
   rw [e] at h1 h2
   obtain ⟨a,h1,e1⟩:=h1
   obtain ⟨b,h2,e2⟩:=h2
   rw [e1,e2,rJ h h1 h2]
  | some c =>
   rw [e] at h1 h2
   obtain ⟨y1,n1,a1,b1,rfl⟩:=h1
   obtain ⟨y2,n2,a2,b2,rfl⟩:=h2
   rw [AV d (h.filter _) a1 a2,AV d (h.filter _) b1 b2]
theorem GI {fs:Fs} {an:List Str} {m:Int}:∀ (d:Nat) {R:List Rw} {t:Tr},Gr fs an m d R t->mU fs an t/\t.dep<=d
 | 0,R,t,h=>by
  obtain ⟨a,⟨k,e,_⟩,rfl⟩:=h
  exact ⟨bJ e,aL _⟩
 | d+1,R,t,h=>by
  unfold Gr at h
  cases e:iE fs R m with
  | none =>
   rw [e] at h
   obtain ⟨a,⟨k,e,_⟩,rfl⟩:=h
   exact ⟨bJ e,cC _⟩
  | some c =>
   rw [e] at h
   obtain ⟨y,n,h1,h2,rfl⟩:=h
   obtain ⟨a1,a2⟩:=GI d h1
   obtain ⟨b1,b2⟩:=GI d h2
   obtain ⟨hq,hs⟩:=tZ (cU.mp (oB e)).1
   exact ⟨⟨tK hq,hs,a1,b1⟩,by show max y.dep n.dep+1<=d+1;omega⟩
def pT (dd:Nat):kW:=λds Q=>∃ (fs:Fs) (an:List Str) (rs:List Rw) (d:Nat) (m:Int),ds=[eL fs an,.list (rs.map dO),.int d,.int m]/\fF fs an/\eA fs an rs/\rs.length<=60/\d<dd/\∀ t,Gr fs an m d rs t->Q (hU t)
def RQ:kW:=pT 7
theorem LW {ds:List D} {Q:D->Prop} (h:pT 0 ds Q):False:=by
 obtain ⟨fs,an,rs,d,m,e,F,h1,h2,h3,h⟩:=h
 omega
abbrev BC:=tS
def lw (fs:List (Str×List Str)) (fa:List (List D×Str)->Str) (a b:Int):Tr->List (List D×Str)->Int×Tr
 | .say x,rs=>(a*(eD fs (.say x) rs:Nat),.say x)
 | .ask k n v s y m,rs =>
  if a*(eD fs (.say (fa rs)) rs:Nat)<=b+(lw fs fa a b y (rs.filter (gM fs k n v s))).1+(lw fs fa a b m (rs.filter λr=>!gM fs k n v s r)).1 then (a*(eD fs (.say (fa rs)) rs:Nat),.say (fa rs))
  else (b+(lw fs fa a b y (rs.filter (gM fs k n v s))).1+(lw fs fa a b m (rs.filter λr=>!gM fs k n v s r)).1,.ask k n v s (lw fs fa a b y (rs.filter (gM fs k n v s))).2 (lw fs fa a b m (rs.filter λr=>!gM fs k n v s r)).2)
def cP (a b:Int) (p:Tr×Nat×Nat):Int:=(p.2.1:Int)*a+(p.2.2:Int)*b
theorem CL {fs:List (Str×List Str)} {an:List Str} {fa:List (List D×Str)->Str} (hfa:FA fs an fa) (a b:Int):∀ (t:Tr) (rs:List (List D×Str)),mU fs an t->eA fs an rs->mU fs an (lw fs fa a b t rs).2/\(lw fs fa a b t rs).2.dep<=t.dep
 | .say z,rs,h,_=>⟨h,aL _⟩
 | .ask k n v s y m,rs,h,hrs=>by
  obtain ⟨hq,hs,hy,hm⟩:=h
  obtain ⟨o1,d1⟩:=CL hfa a b y (rs.filter (gM fs k n v s)) hy (hrs.filt _)
  obtain ⟨o2,d2⟩:=CL hfa a b m (rs.filter λr=>!gM fs k n v s r) hm (hrs.filt _)
  unfold lw
  split
  ·obtain ⟨i,hi,_⟩:=hfa rs hrs
   exact ⟨bJ hi,cC _⟩
  ·exact ⟨⟨hq,hs,o1,o2⟩,by show max _ _+1<=max y.dep m.dep+1;omega⟩
section
variable {fs:List (Str×List Str)} {fa:List (List D×Str)->Str}
theorem jX (a b:Int) (k n v s:Str) (y m:Tr) (rs:List (List D×Str)):lw fs fa a b (.ask k n v s y m) rs=if a*(eD fs (.say (fa rs)) rs:Nat)<=b+(lw fs fa a b y (rs.filter (gM fs k n v s))).1+(lw fs fa a b m (rs.filter λr=>!gM fs k n v s r)).1 then (a*(eD fs (.say (fa rs)) rs:Nat),.say (fa rs)) else (b+(lw fs fa a b y (rs.filter (gM fs k n v s))).1+(lw fs fa a b m (rs.filter λr=>!gM fs k n v s r)).1,.ask k n v s (lw fs fa a b y (rs.filter (gM fs k n v s))).2 (lw fs fa a b m (rs.filter λr=>!gM fs k n v s r)).2):=rfl
theorem wZ (a b:Int) (k n v s:Str) (y m:Tr) (rs:List (List D×Str)):a*(eD fs (.ask k n v s y m) rs:Nat)+b*((Tr.ask k n v s y m).kn:Nat)=b+(a*(eD fs y (rs.filter (gM fs k n v s)):Nat)+b*(y.kn:Nat))+(a*(eD fs m (rs.filter λr=>!gM fs k n v s r):Nat)+b*(m.kn:Nat)):=by
 rw [vX]
 show a*((_+_:Nat):Int)+b*((y.kn+m.kn+1:Nat):Int)=_
 rw [iG,iG,iG,rR,rR,rR]
 show _+(_+b*1)=_
 rw [aB9]
 omega
theorem wY (a b:Int) (z:Str) (rs:List (List D×Str)):a*(eD fs (.say z) rs:Nat)+b*((Tr.say z).kn:Nat)=a*(eD fs (.say z) rs:Nat):=by
 show _+b*0=_
 rw [uZ,qJ]
theorem AL (a b:Int):∀ (t:Tr) (rs:List (List D×Str)),(lw fs fa a b t rs).1=a*(eD fs (lw fs fa a b t rs).2 rs:Nat)+b*((lw fs fa a b t rs).2.kn:Nat)
 | .say z,rs=>(wY a b z rs).symm
 | .ask k n v s y m,rs=>by
  have iy:=AL a b y (rs.filter (gM fs k n v s))
  have im:=AL a b m (rs.filter λr=>!gM fs k n v s r)
  rw [jX]
  split
  ·exact (wY a b _ rs).symm
  ·show b+_+_=_
   rw [wZ,<- iy,<- im]
theorem vG (a:Int) {b b':Int} (h:b<=b'):∀ (t:Tr) (rs:List (List D×Str)),(lw fs fa a b t rs).1<=(lw fs fa a b' t rs).1
 | .say z,rs=>jU _
 | .ask k n v s y m,rs=>by
  have iy:=vG a h y (rs.filter (gM fs k n v s))
  have im:=vG a h m (rs.filter λr=>!gM fs k n v s r)
  rw [jX,jX]
  split
  ·split
   ·exact jU _
   ·dsimp only;omega
  ·split
   ·dsimp only;omega
   ·dsimp only;omega
theorem AM (a:Int) {b b':Int} (h:b<=b'):∀ (t:Tr) (rs:List (List D×Str)),lw fs fa a b' (lw fs fa a b t rs).2 rs=lw fs fa a b' t rs
 | .say z,rs=>rfl
 | .ask k n v s y m,rs=>by
  have iy:=AM a h y (rs.filter (gM fs k n v s))
  have im:=AM a h m (rs.filter λr=>!gM fs k n v s r)
  have my:=vG (fs:=fs) (fa:=fa) a h y (rs.filter (gM fs k n v s))
  have mm:=vG (fs:=fs) (fa:=fa) a h m (rs.filter λr=>!gM fs k n v s r)
  rw [jX a b]
  split
  ·rw [jX,if_pos (by omega)];rfl
  ·show lw fs fa a b' (.ask k n v s _ _) rs=_
   rw [jX,jX,iy,im]
theorem wJ (a b:Int) {c:Int} (hc:0<c):∀ (t:Tr) (rs:List (List D×Str)),lw fs fa (c*a) (c*b) t rs=(c*(lw fs fa a b t rs).1,(lw fs fa a b t rs).2)
 | .say z,rs=>by
  show (c*a*_,_)=(c*(a*_),_)
  rw [dE];rfl
 | .ask k n v s y m,rs=>by
  have iy:=wJ a b hc y (rs.filter (gM fs k n v s))
  have im:=wJ a b hc m (rs.filter λr=>!gM fs k n v s r)
  rw [jX,jX,iy,im]
  dsimp only
  rw [<- rR,<- rR,dE]
  by_cases hle:a*(eD fs (.say (fa rs)) rs:Nat)<=b+(lw fs fa a b y (rs.filter (gM fs k n v s))).1+(lw fs fa a b m (rs.filter λr=>!gM fs k n v s r)).1
  ·rw [if_pos hle,if_pos (jC hle (by omega))]
  ·rw [if_neg hle,if_neg (λz=>hle (Int.le_of_mul_le_mul_left z hc))]
def St (fs:List (Str×List Str)) (fa:List (List D×Str)->Str) (a b:Int):Tr->List (List D×Str)->Prop
 | .say _,_=>True
 | .ask k n v s y m,rs=>b*((Tr.ask k n v s y m).kn:Nat)+a*(eD fs (.ask k n v s y m) rs:Nat)<a*(eD fs (.say (fa rs)) rs:Nat)/\St fs fa a b y (rs.filter (gM fs k n v s))/\St fs fa a b m (rs.filter λr=>!gM fs k n v s r)
theorem BV (a b:Int):∀ (t:Tr) (rs:List (List D×Str)),St fs fa a b (lw fs fa a b t rs).2 rs
 | .say z,rs=>trivial
 | .ask k n v s y m,rs=>by
  have iy:=BV a b y (rs.filter (gM fs k n v s))
  have im:=BV a b m (rs.filter λr=>!gM fs k n v s r)
  have vy:=AL (fs:=fs) (fa:=fa) a b y (rs.filter (gM fs k n v s))
  have vm:=AL (fs:=fs) (fa:=fa) a b m (rs.filter λr=>!gM fs k n v s r)
  rw [jX]
  split
  ·trivial
  ·next hle =>
   refine ⟨?_,iy,im⟩
   have:=wZ (fs:=fs) a b k n v s (lw fs fa a b y (rs.filter (gM fs k n v s))).2 (lw fs fa a b m (rs.filter λr=>!gM fs k n v s r)).2 rs
   omega
theorem L4 (a b:Int):∀ (t:Tr) (rs:List (List D×Str)),St fs fa a b t rs->lw fs fa a b t rs=(a*(eD fs t rs:Nat)+b*(t.kn:Nat),t)
 | .say z,rs,_=>by rw [wY];rfl
 | .ask k n v s y m,rs,h=>by
  obtain ⟨h0,h1,h2⟩:=h
  have iy:=L4 a b y (rs.filter (gM fs k n v s)) h1
  have im:=L4 a b m (rs.filter λr=>!gM fs k n v s r) h2
  have e:=wZ (fs:=fs) a b k n v s y m rs
  rw [jX,iy,im]
  dsimp only
  rw [if_neg (by omega),e]
theorem yX (a b:Int):∀ (t:Tr) (rs:List (List D×Str)),(lw fs fa a b t rs).2.kn<=t.kn/\((lw fs fa a b t rs).2.kn=t.kn->(lw fs fa a b t rs).2=t)
 | .say z,rs=>⟨aL _,λ_=>rfl⟩
 | .ask k n v s y m,rs=>by
  obtain ⟨y1,y2⟩:=yX a b y (rs.filter (gM fs k n v s))
  obtain ⟨m1,m2⟩:=yX a b m (rs.filter λr=>!gM fs k n v s r)
  have e:(Tr.ask k n v s y m).kn=y.kn+m.kn+1:=rfl
  rw [jX,e]
  split
  ·exact ⟨cC _,λz=>by
    have z':0=y.kn+m.kn+1:=z
    omega⟩
  ·have e2:(Tr.ask k n v s (lw fs fa a b y (rs.filter (gM fs k n v s))).2 (lw fs fa a b m (rs.filter λr=>!gM fs k n v s r)).2).kn=(lw fs fa a b y (rs.filter (gM fs k n v s))).2.kn+(lw fs fa a b m (rs.filter λr=>!gM fs k n v s r)).2.kn+1:=rfl
   refine ⟨by dsimp only;rw [e2];omega,λz=>?_⟩
   dsimp only at z |-
   rw [e2] at z
   rw [y2 (by omega),m2 (by omega)]
def rZ (fs:List (Str×List Str)) (fa:List (List D×Str)->Str):Tr->List (List D×Str)->List (Int×Nat)
 | .say _,_=>[]
 | .ask k n v s y m,rs=>((eD fs (.say (fa rs)) rs:Int)-(eD fs (.ask k n v s y m) rs:Nat),(Tr.ask k n v s y m).kn)::(rZ fs fa y (rs.filter (gM fs k n v s))++rZ fs fa m (rs.filter λr=>!gM fs k n v s r))
theorem rE (a b:Int):∀ (t:Tr) (rs:List (List D×Str)),St fs fa a b t rs↔∀ p∈rZ fs fa t rs,b*(p.2:Nat)<a*p.1
 | .say z,rs=>⟨λ_ p hp=>by simp [rZ] at hp,λ_=>trivial⟩
 | .ask k n v s y m,rs=>by
  have iy:=rE a b y (rs.filter (gM fs k n v s))
  have im:=rE a b m (rs.filter λr=>!gM fs k n v s r)
  have e:a*((eD fs (.say (fa rs)) rs:Int)-(eD fs (.ask k n v s y m) rs:Nat))=a*(eD fs (.say (fa rs)) rs:Nat)-a*(eD fs (.ask k n v s y m) rs:Nat):=Int.mul_sub _ _ _
  constructor
  ·rintro ⟨h0,h1,h2⟩ p hp
   rcases aZ.mp hp with rfl | hp
   ·dsimp only
    rw [e]
    omega
   ·rcases eT.mp hp with hp | hp
    ·exact iy.mp h1 p hp
    ·exact im.mp h2 p hp
  ·intro h
   have h0:=h _ (aM ..)
   dsimp only at h0
   rw [e] at h0
   exact ⟨by omega,iy.mpr λp hp=>h p (aK _ (mD _ hp)),im.mpr λp hp=>h p (aK _ (dM _ hp))⟩
theorem nS:∀ (t:Tr) (rs:List (List D×Str)),∀ p∈rZ fs fa t rs,p.1<=rs.length/\0<p.2/\p.2<=t.kn
 | .say z,rs,p,hp=>by simp [rZ] at hp
 | .ask k n v s y m,rs,p,hp=>by
  have e:(Tr.ask k n v s y m).kn=y.kn+m.kn+1:=rfl
  rcases aZ.mp hp with rfl | hp
  ·have h1:eD fs (.say (fa rs)) rs<=rs.length:=bV _ _
   refine ⟨?_,by rw [e];omega,aL _⟩
   dsimp only
   omega
  ·rcases eT.mp hp with hp | hp
   ·obtain ⟨h1,h2,h3⟩:=nS y _ p hp
    have:=bV (gM fs k n v s) rs
    exact ⟨by omega,h2,by omega⟩
   ·obtain ⟨h1,h2,h3⟩:=nS m _ p hp
    have:=bV (λr=>!gM fs k n v s r) rs
    exact ⟨by omega,h2,by omega⟩
end
section
variable {fs:List (Str×List Str)} {fa:List (List D×Str)->Str}
def pc:Tr->Nat
 | .say _=>1
 | .ask _ _ _ _ y m=>1+pc y*pc m
theorem aAs {a b c d e f:Nat} (hd:0<d) (h1:a*d<=c*b) (h2:c*f<=e*d):a*f<=e*b:=by
 refine Nat.le_of_mul_le_mul_right (c:=d) ?_ hd
 calc a*f*d=a*d*f:=by rw [iP,jW f d,<- iP]
  _<=c*b*f:=rQ _ h1
  _=c*f*b:=by rw [iP,jW b f,<- iP]
  _<=e*d*b:=rQ _ h2
  _=e*b*d:=by rw [iP,jW d b,<- iP]
def kB (x p:Nat×Nat):Nat×Nat:=if p.1*x.2<x.1*p.2 then p else x
def fR:Nat×Nat->List (Nat×Nat)->Nat×Nat
 | x,[]=>x
 | x,p::l=>fR (kB x p) l
theorem rH:∀ (l:List (Nat×Nat)) (x:Nat×Nat),fR x l=x\/fR x l∈l
 | [],x=>.inl rfl
 | p::l,x=>by
  show fR (kB x p) l=x\/_
  rcases rH l (kB x p) with h | h
  ·rw [h]
   unfold kB
   split
   ·next h2=>right;show fR (kB x p) l∈_;rw [h];unfold kB;rw [if_pos h2];exact aM ..
   ·exact .inl rfl
  ·exact .inr (aK _ h)
theorem yY:∀ (l:List (Nat×Nat)) (x:Nat×Nat),0<x.2->(∀ p∈l,0<p.2)->∀ p,(p=x\/p∈l)->(fR x l).1*p.2<=p.1*(fR x l).2
 | [],x,_,_,p,hp=>by
  rcases hp with rfl | hp
  ·exact aL _
  ·simp at hp
 | e::l,x,hx,hl,p,hp=>by
  show (fR (kB x e) l).1*p.2<=p.1*(fR (kB x e) l).2
  have he:=hl e (aM ..)
  have hl':∀ p∈l,0<p.2:=λp hp=>hl p (aK _ hp)
  have h0:0<(kB x e).2:=by unfold kB;split<;>assumption
  have ih:=yY l (kB x e) h0 hl'
  have i0:=ih (kB x e) (.inl rfl)
  have key:∀ r:Nat×Nat,(kB x e).1*r.2<=r.1*(kB x e).2->(fR (kB x e) l).1*r.2<=r.1*(fR (kB x e) l).2:=λr hr=>aAs h0 i0 hr
  have hxe:(kB x e).1*x.2<=x.1*(kB x e).2/\(kB x e).1*e.2<=e.1*(kB x e).2:=by
   unfold kB
   split
   ·next h=>exact ⟨iJ h,aL _⟩
   ·next h=>exact ⟨aL _,NH.mp h⟩
  rcases hp with rfl | hp
  ·exact key _ hxe.1
  ·rcases aZ.mp hp with rfl | hp
   ·exact key _ hxe.2
   ·exact ih p (.inr hp)
def fM (p:Int×Nat):Nat×Nat:=(p.1.toNat / p.1.toNat.gcd p.2,p.2 / p.1.toNat.gcd p.2)
theorem DS {p:Int×Nat} (h1:0<p.1) (h2:0<p.2):∃ g:Nat,0<g/\p.1=((fM p).1*g:Nat)/\p.2=(fM p).2*g/\0<(fM p).1/\0<(fM p).2/\(fM p).1.gcd (fM p).2=1/\(fM p).1<=p.1.toNat/\(fM p).2<=p.2:=by
 obtain ⟨a,ha⟩:∃ a:Nat,p.1=(a:Int):=⟨p.1.toNat,(iT (by omega)).symm⟩
 have ea:p.1.toNat=a:=by rw [ha];rfl
 have hg:0<a.gcd p.2:=kC _ h2
 have ha0:0<a:=by omega
 unfold fM
 rw [ea]
 dsimp only
 have d1:=NI (Q0 a p.2)
 have d2:=NI (oN a p.2)
 refine ⟨a.gcd p.2,hg,by rw [d1];exact ha,d2.symm,JK (Nat.gcd_le_left _ ha0) hg,JK (QZ _ h2) hg,?_,mO _ _,mO _ _⟩
 exact Nat.gcd_div_gcd_div_gcd_of_pos_right h2
def DI:Tr->Bool
 | .say _=>true
 | .ask _ _ _ _ _ _=>false
def dL (fs:List (Str×List Str)) (fa:List (List D×Str)->Str) (t:Tr) (rs:List (List D×Str)):Nat×Nat:=match (rZ fs fa t rs).map fM with
 | []=>(0,1)
 | x::l=>fR x (x::l)
theorem PP {a b:Int} (ha:0<a) (hb:0<=b) {t:Tr} {rs:List (List D×Str)} (hs:St fs fa a b t rs) (ht:DI t=false) :
  0<(dL fs fa t rs).2/\(dL fs fa t rs).2<=t.kn/\0<(dL fs fa t rs).1/\(dL fs fa t rs).1<=rs.length/\(dL fs fa t rs).1.gcd (dL fs fa t rs).2=1/\b*((dL fs fa t rs).2:Nat)<a*((dL fs fa t rs).1:Nat) /\
  (∀ a' b':Int,0<a'->b'*((dL fs fa t rs).2:Nat)<a'*((dL fs fa t rs).1:Nat)->St fs fa a' b' t rs)/\¬ St fs fa ((dL fs fa t rs).2:Nat) ((dL fs fa t rs).1:Nat) t rs:=by
 have hp:∀ e∈rZ fs fa t rs,0<e.1/\0<e.2:=λe he=>by
  have h1:=(rE a b t rs).mp hs e he
  have h2:=(nS t rs e he).2.1
  refine ⟨?_,h2⟩
  have h3:0<=b*(e.2:Nat):=A8 hb (by omega)
  have h4:0<a*e.1:=by omega
  by_cases hn:0<e.1
  ·exact hn
  ·have:=jC (show e.1<=0 by omega) (show 0<=a by omega)
   rw [uZ] at this
   omega
 have hmem:∃ e∈rZ fs fa t rs,dL fs fa t rs=fM e:=by
  unfold dL
  cases hl:rZ fs fa t rs with
  | nil =>
   cases t with
   | say z=>cases ht
   | ask k n v s y m=>cases hl
  | cons x l =>
   show ∃ e∈x::l,fR (fM x) ((x::l).map fM)=fM e
   rcases rH ((x::l).map fM) (fM x) with h | h
   ·exact ⟨x,aM ..,h⟩
   ·obtain ⟨e,he,h⟩:=bC.mp h
    exact ⟨e,he,h.symm⟩
 have hle:∀ e∈rZ fs fa t rs,(dL fs fa t rs).1*(fM e).2<=(fM e).1*(dL fs fa t rs).2:=by
  unfold dL
  cases hl:rZ fs fa t rs with
  | nil=>intro e he;simp at he
  | cons x l =>
   intro e he
   have pos:∀ p∈(x::l).map fM,0<p.2:=λp hp'=>by
    obtain ⟨e,he,rfl⟩:=bC.mp hp'
    rw [<- hl] at he
    obtain ⟨_,_,_,_,_,h5,_⟩:=DS (hp e he).1 (hp e he).2
    exact h5
   exact yY ((x::l).map fM) (fM x) (pos _ (aM ..)) pos (fM e) (.inr (bC.mpr ⟨e,he,rfl⟩))
 obtain ⟨e,he,hn⟩:=hmem
 obtain ⟨g,hg,e1,e2,p1,p2,p3,p4,p5⟩:=DS (hp e he).1 (hp e he).2
 obtain ⟨b1,b2,b3⟩:=nS t rs e he
 have hlt:=(rE a b t rs).mp hs e he
 rw [hn]
 refine ⟨p2,by omega,p1,by omega,p3,?_,λa' b' ha' h'=>(rE a' b' t rs).mpr λf hf=>?_,λhst=>?_⟩
 ·rw [e1,e2,cA,cA,<- dE,<- dE] at hlt
  exact A9 hlt (by omega)
 ·obtain ⟨g',hg',f1,f2,q1,q2,q3,q4,q5⟩:=DS (hp f hf).1 (hp f hf).2
  have hle':=hle f hf
  rw [hn] at hle'
  rw [f1,f2,cA,cA,<- dE,<- dE]
  refine zP ?_ (by omega)
  generalize (fM f).1=F1 at *
  generalize (fM f).2=F2 at *
  generalize (fM e).1=E1 at *
  generalize (fM e).2=E2 at *
  -- b' E2<a' E1,E1 F2<=F1 E2:b' F2<a' F1
  have hz:(E1:Int)*F2<=F1*E2:=by exact_mod_cast hle'
  have s1:b'*E2*F2<a'*E1*F2:=zP h' (by omega)
  have s2:a'*((E1:Int)*F2)<=a'*(F1*E2):=jC hz (by omega)
  have s3:(b'*F2)*E2<(a'*F1)*E2:=by
   have t1:(b'*F2)*E2=b'*E2*F2:=by rw [dE,fA (F2:Int),<- dE]
   have t2:a'*E1*F2=a'*((E1:Int)*F2):=dE _ _ _
   have t3:(a'*F1)*E2=a'*((F1:Int)*E2):=dE _ _ _
   omega
  exact A9 s3 (by omega)
 ·have h':=(rE _ _ t rs).mp hst e he
  rw [e1,e2,cA,cA,<- dE,<- dE,fA ((fM e).1:Int) ((fM e).2:Int)] at h'
  exact Int.lt_irrefl _ h'
theorem jA (a b:Int) {c:Int} (hc:0<c) (t:Tr) (rs:List (List D×Str)):(lw fs fa (c*a) (c*b) t rs).2=(lw fs fa a b t rs).2:=by rw [wJ a b hc]
theorem aAj {p q p' q':Int} (hq:0<q) (hq':0<q') (h:p*q'<=p'*q) (t:Tr) (rs:List (List D×Str)):(lw fs fa q' p' (lw fs fa q p t rs).2 rs).2=(lw fs fa q' p' t rs).2:=by
 have e1:=jA (fs:=fs) (fa:=fa) q p hq' t rs
 have e2:=jA (fs:=fs) (fa:=fa) q' p' hq t rs
 have e3:=jA (fs:=fs) (fa:=fa) q' p' hq (lw fs fa q p t rs).2 rs
 have hm:q*q'=q'*q:=fA _ _
 rw [<- e2,<- e3,<- e1,hm]
 rw [AM (q'*q) (by rw [fA q' p,fA q p'];exact h)]
end
section
variable {fs:List (Str×List Str)} {fa:List (List D×Str)->Str}
abbrev JU:=(Nat×Nat)×Tr
def HF (x:JU):D:=.tuple [.tuple [.int (x.1.1:Nat),.int (x.1.2:Nat)],hU x.2]
def kI (fs:List (Str×List Str)) (fa:List (List D×Str)->Str) (rs:List (List D×Str)):Nat->Nat×Nat->Tr->List JU
 | 0,x,t=>[(x,t)]
 | n+1,x,t=>(x,t)::if DI t=true then [] else kI fs fa rs n (dL fs fa t rs) (lw fs fa ((dL fs fa t rs).2:Nat) ((dL fs fa t rs).1:Nat) t rs).2
def iN (fs:List (Str×List Str)) (fa:List (List D×Str)->Str) (T:Tr) (rs:List (List D×Str)):List JU:=kI fs fa rs (lw fs fa 1 0 T rs).2.kn (0,1) (lw fs fa 1 0 T rs).2
structure XM (fs:List (Str×List Str)) (fa:List (List D×Str)->Str) (T:Tr) (rs:List (List D×Str)) (x:JU):Prop where
 low:x.1.1.gcd x.1.2=1
 q0:0<x.1.2
 q1:x.1.2<=20
 p1:x.1.1<=60
 tr:x.2=(lw fs fa (x.1.2:Nat) (x.1.1:Nat) T rs).2
structure LkS (fs:List (Str×List Str)) (fa:List (List D×Str)->Str) (T:Tr) (rs:List (List D×Str)) (x y:JU):Prop where
 up:x.1.1*y.1.2<y.1.1*x.1.2
 kn:y.2.kn<x.2.kn
 tr:y.2=(lw fs fa (y.1.2:Nat) (y.1.1:Nat) x.2 rs).2
 cl:x.2=(lw fs fa ((y.1.2:Int)*10000000) ((y.1.1:Int)*10000000-(y.1.2:Int)) T rs).2
def ChS (fs:List (Str×List Str)) (fa:List (List D×Str)->Str) (T:Tr) (rs:List (List D×Str)):List JU->Prop
 | []=>False
 | x::l=>XM fs fa T rs x/\match l with
  | []=>DI x.2=true
  | y::_=>LkS fs fa T rs x y/\ChS fs fa T rs l
theorem MH:∀ {t:Tr},t.kn=0->DI t=true
 | .say _,_=>rfl
 | .ask k n v s y m,h=>by
  have e:(Tr.ask k n v s y m).kn=y.kn+m.kn+1:=rfl
  omega
theorem DQ (rs:List (List D×Str)):∀ (n:Nat) (x:Nat×Nat) (t:Tr),∃ l,kI fs fa rs n x t=(x,t)::l
 | 0,x,t=>⟨[],rfl⟩
 | n+1,x,t=>⟨_,rfl⟩
theorem F8 {T:Tr} {rs:List (List D×Str)} (hk:T.kn<=20) (hl:rs.length<=60) {x:JU} (ok:XM fs fa T rs x) (hx:DI x.2=false) :
  XM fs fa T rs (dL fs fa x.2 rs,(lw fs fa ((dL fs fa x.2 rs).2:Nat) ((dL fs fa x.2 rs).1:Nat) x.2 rs).2)/\LkS fs fa T rs x (dL fs fa x.2 rs,(lw fs fa ((dL fs fa x.2 rs).2:Nat) ((dL fs fa x.2 rs).1:Nat) x.2 rs).2):=by
 obtain ⟨⟨p,q⟩,t⟩:=x
 obtain ⟨low,q0,q1,p1,tr⟩:=ok
 dsimp only at low q0 q1 p1 tr hx |-
 have hst:St fs fa (q:Nat) (p:Nat) t rs:=by rw [tr];exact BV _ _ T rs
 have hkt:t.kn<=20:=by
  have:=(yX (fs:=fs) (fa:=fa) (q:Nat) (p:Nat) T rs).1
  rw [<- tr] at this
  omega
 obtain ⟨n1,n2,n3,n4,n5,n6,n7,n8⟩:=PP (fs:=fs) (fa:=fa) (by omega) (by omega) hst hx
 generalize hN:dL fs fa t rs=N at *
 obtain ⟨p',q'⟩:=N
 dsimp only at n1 n2 n3 n4 n5 n6 n7 n8 |-
 have up:p*q'<p'*q:=by
  have:(p:Int)*q'<p'*q:=by rw [fA (p':Int)];exact n6
  exact_mod_cast this
 have hnest:∀ p2 q2:Int,0<q2->(p:Int)*q2<=p2*q->(lw fs fa q2 p2 t rs).2=(lw fs fa q2 p2 T rs).2:=λp2 q2 h2 h=>by
  have:=aAj (fs:=fs) (fa:=fa) (p:=(p:Int)) (q:=(q:Int)) (p':=p2) (q':=q2) (by omega) h2 h T rs
  rw [<- tr] at this
  exact this
 refine ⟨⟨n5,n1,by dsimp only;omega,by dsimp only;omega,?_⟩,⟨up,?_,rfl,?_⟩⟩
 ·refine hnest p' q' (by omega) ?_
  have:((p*q':Nat):Int)<((p'*q:Nat):Int):=by exact_mod_cast up
  rw [cA,cA] at this
  omega
 ·obtain ⟨k1,k2⟩:=yX (fs:=fs) (fa:=fa) (q':Nat) (p':Nat) t rs
  dsimp only
  rcases Nat.lt_or_ge (lw fs fa (q':Nat) (p':Nat) t rs).2.kn t.kn with h | h
  ·exact h
  ·exact absurd (by
    have e:=k2 (by omega)
    have:=BV (fs:=fs) (fa:=fa) (q':Nat) (p':Nat) t rs
    rw [e] at this
    exact this) n8
 ·dsimp only
  have hqq:q*q'<=20*20:=jT q1 (by omega)
  have up':((p*q':Nat):Int)+1<=((p'*q:Nat):Int):=by omega
  have hqq':((q*q':Nat):Int)<=400:=by omega
  rw [cA] at hqq'
  rw [cA,cA] at up'
  have h1:(p:Int)*((q':Int)*10000000)<=((p':Int)*10000000-q')*q:=by
   rw [aB7,<- dE,dE (p':Int),fA (10000000:Int) (q:Int),<- dE,fA (q':Int) (q:Int)]
   omega
  rw [<- hnest _ _ (by omega) h1,L4 _ _ t rs (n7 _ _ (by omega) ?_)]
  have h2:((p':Int)*10000000-q')*q'=(p':Int)*q'*10000000-q'*q':=by
   rw [aB7,dE,fA (10000000:Int),<- dE]
  have h3:(q':Int)*10000000*p'=(p':Int)*q'*10000000:=by
   rw [fA,<- dE]
  have h4:(0:Int)<(q':Int)*q':=Int.mul_pos (by omega) (by omega)
  rw [h2,h3]
  omega
theorem BT {T:Tr} {rs:List (List D×Str)} (hk:T.kn<=20) (hl:rs.length<=60):∀ (n:Nat) (x:Nat×Nat) (t:Tr),XM fs fa T rs (x,t)->t.kn<=n->ChS fs fa T rs (kI fs fa rs n x t)
 | 0,x,t,ok,h=>⟨ok,MH (show t.kn=0 by omega)⟩
 | n+1,x,t,ok,h=>by
  show ChS fs fa T rs ((x,t)::if DI t=true then [] else _)
  cases ht:DI t with
  | true=>rw [if_pos rfl];exact ⟨ok,ht⟩
  | false =>
   rw [if_neg (by decide)]
   obtain ⟨o2,lk⟩:=F8 hk hl ok ht
   have ih:=BT hk hl n _ _ o2 (by have:=lk.kn;dsimp only at this |-;omega)
   obtain ⟨l,hl'⟩:=DQ (fs:=fs) (fa:=fa) rs n (dL fs fa t rs) (lw fs fa ((dL fs fa t rs).2:Nat) ((dL fs fa t rs).1:Nat) t rs).2
   dsimp only at ih
   rw [hl'] at ih |-
   exact ⟨ok,lk,ih⟩
theorem yO {T:Tr} {rs:List (List D×Str)} (hk:T.kn<=20) (hl:rs.length<=60):ChS fs fa T rs (iN fs fa T rs) :=
 BT hk hl _ _ _ ⟨show Nat.gcd 0 1=1 by decide,show 0<1 by decide,show 1<=20 by decide,show 0<=60 by decide,rfl⟩ (aL _)
theorem M5 {T:Tr} {rs:List (List D×Str)}:∀ {L:List JU},ChS fs fa T rs L->(∀ (k:Nat) x,L[k]?=some x->XM fs fa T rs x)/\(∀ (k:Nat) x y,L[k]?=some x->L[k+1]?=some y->LkS fs fa T rs x y)/\∀ x,L[L.length-1]?=some x->DI x.2=true
 | [],h=>h.elim
 | [z],h=>⟨λk x hx=>by
   cases k with
   | zero=>cases hx;exact h.1
   | succ k=>simp at hx,λk x y _ hy=>by simp at hy,λx hx=>by cases hx;exact h.2⟩
 | z::w::l,h=>by
  obtain ⟨o,lk,h'⟩:=h
  obtain ⟨i1,i2,i3⟩:=M5 h'
  refine ⟨λk x hx=>?_,λk x y hx hy=>?_,λx hx=>i3 x ?_⟩
  ·cases k with
   | zero=>cases hx;exact o
   | succ k=>exact i1 k x (by simpa using hx)
  ·cases k with
   | zero =>
    cases hx
    have:w=y:=by simpa using hy
    subst this
    exact lk
   | succ k=>exact i2 k x y (by simpa using hx) (by simpa using hy)
  ·simpa using hx
end
def RL:kW:=λds Q=>∃ a b:D,ds=[.tuple [a,b]]/\Q (.tuple [b,a])
def pR (d:Nat):kW:=λds Q=>∃ (fs:List (Str×List Str)) (an:List Str) (fa:List (List D×Str)->Str) (t:Tr) (rs:List (List D×Str)) (a b:Int),ds=[eL fs an,hU t,.list (rs.map dO),.tuple [.int a,.int b]]/\fF fs an/\FA fs an fa/\mU fs an t/\t.dep<d/\eA fs an rs/\rs.length<=60/\0<=a/\a<=1000000000/\0<=b/\b<=1000000000/\Q (.tuple [.int (lw fs fa a b t rs).1,hU (lw fs fa a b t rs).2])
def RJ:kW:=pR 13
theorem LU {ds:List D} {Q:D->Prop} (h:pR 0 ds Q):False:=by
 obtain ⟨_,_,_,_,_,_,_,_,_,_,_,h,_⟩:=h
 omega
def RK:kW:=λds Q=>∃ (fs:List (Str×List Str)) (an:List Str) (fa:List (List D×Str)->Str) (t:Tr) (rs:List (List D×Str)) (a b:Int),ds=[eL fs an,hU t,.list (rs.map dO),.tuple [.int b,.int a]]/\fF fs an/\FA fs an fa/\mU fs an t/\t.dep<13/\eA fs an rs/\rs.length<=60/\0<=a/\a<=1000000000/\0<=b/\b<=1000000000/\Q (hU (lw fs fa a b t rs).2)
section
variable {fs:List (Str×List Str)} {fa:List (List D×Str)->Str}
theorem vU:∀ (t:Tr) (rs:List (List D×Str)),(rZ fs fa t rs).length=t.kn
 | .say _,_=>rfl
 | .ask k n v s y m,rs=>by
  show (_::_:List _).length=y.kn+m.kn+1
  rw [bI,bA,vU y,vU m]
theorem uH:∀ (l:List (Nat×Nat)) (x p:Nat×Nat),fR x (l++[p])=kB (fR x l) p
 | [],x,p=>rfl
 | e::l,x,p=>uH l (kB x e) p
theorem AN (a b:Int):∀ (t:Tr) (rs:List (List D×Str)),(lw fs fa a b t rs).2.dep<=t.dep
 | .say z,rs=>aL _
 | .ask k n v s y m,rs=>by
  have d1:=AN a b y (rs.filter (gM fs k n v s))
  have d2:=AN a b m (rs.filter λr=>!gM fs k n v s r)
  rw [jX]
  split
  ·exact cC _
  ·show max _ _+1<=max y.dep m.dep+1
   omega
end
def pQ (d:Nat):kW:=λds Q=>∃ (fs:List (Str×List Str)) (an:List Str) (fa:List (List D×Str)->Str) (t:Tr) (rs:List (List D×Str)),ds=[eL fs an,hU t,.list (rs.map dO)]/\fF fs an/\FA fs an fa/\mU fs an t/\t.dep<d/\t.dep<=40/\t.kn<=100/\eA fs an rs/\rs.length<=60/\(∀ e∈rZ fs fa t rs,0<=e.1)/\Q (.tuple [.int (eD fs t rs:Nat),.list ((rZ fs fa t rs).map λe=>BC (fM e))])
def RG:kW:=pQ 13
theorem LT {ds:List D} {Q:D->Prop} (h:pQ 0 ds Q):False:=by
 obtain ⟨_,_,_,_,_,_,_,_,_,h,_⟩:=h
 omega
def RH:kW:=λds Q=>∃ (fs:List (Str×List Str)) (an:List Str) (fa:List (List D×Str)->Str) (t:Tr) (rs:List (List D×Str)),ds=[eL fs an,hU t,.list (rs.map dO)]/\fF fs an/\FA fs an fa/\mU fs an t/\t.dep<=12/\t.kn<=20/\DI t=false/\eA fs an rs/\rs.length<=60/\(∀ e∈rZ fs fa t rs,0<=e.1)/\Q (BC (dL fs fa t rs))
def RI:JG:=λds Q=>∃ (fs:List (Str×List Str)) (an:List Str) (fa:List (List D×Str)->Str) (T:Tr) (rs:List (List D×Str)),ds=[eL fs an,hU T,.list (rs.map dO)]/\fF fs an/\FA fs an fa/\mU fs an T/\T.dep<=12/\T.kn<=20/\eA fs an rs/\rs.length<=60/\Q ((iN fs fa T rs).map HF)
theorem yP {fs:List (Str×List Str)} {fa:List (List D×Str)->Str} (rs:List (List D×Str)):∀ (n:Nat) (x:Nat×Nat) (t:Tr),(kI fs fa rs n x t).length<=n+1
 | 0,x,t=>aL _
 | n+1,x,t=>by
  show ((x,t)::(if DI t=true then [] else _)).length<=_
  split
  ·show 1<=_;omega
  ·have:=yP (fs:=fs) (fa:=fa) rs n (dL fs fa t rs) (lw fs fa ((dL fs fa t rs).2:Nat) ((dL fs fa t rs).1:Nat) t rs).2
   rw [bI]
   omega
def Tw (x y:Nat×Nat):Prop:=y.1*x.2=2*x.1*y.2
def pL (R W:List Rw):Prop:=W.Perm (R++R)
theorem pL.filt {R W:List Rw} (h:pL R W) (p:Rw->Bool):pL (R.filter p) (W.filter p):=by
 have:=List.Perm.filter p h
 rw [gB] at this;exact this
theorem pL.len {R W:List Rw} (h:pL R W):W.length=2*R.length:=by
 have:=h.length_eq
 rw [bA] at this;omega
theorem pL.cnt {R W:List Rw} (h:pL R W) (z:Str):cnt W z=2*cnt R z:=by
 unfold K94.cnt
 rw [h.countP_eq,J5];omega
theorem pL.ok {fs:Fs} {an:List Str} {R W:List Rw} (h:pL R W) (hR:eA fs an R):eA fs an W:=λr hr=>by
 rcases eT.mp (h.mem_iff.mp hr) with q | q<;>exact hR r q
theorem FF {α:Type} (f:α->Nat):∀ l:List α,(l.map λr=>2*f r).sum=2*(l.map f).sum
 | []=>rfl
 | a::l=>by
  rw [bP,bP,eY,eY,FF f l];omega
theorem pL.prs {R W:List Rw} (h:pL R W):prs W W=4*prs R R:=by
 rw [B3 h]
 unfold K94.prs
 have e:(λr:Rw=>(R++R).countP λo=>decide (o.2≠r.2))=λr:Rw=>2*R.countP λo=>decide (o.2≠r.2):=funext λr=>by rw [J5];omega
 rw [e,bQ,Q2,FF];omega
theorem qN (a b:Nat):(low a b).1*b=a*(low a b).2:=by
 show a / a.gcd b*b=a*(b / a.gcd b)
 have h1:=J1 (Q0 a b)
 have h2:=J1 (oN a b)
 generalize a.gcd b=g at h1 h2
 generalize a / g=x at h1
 generalize b / g=y at h2
 rw [<- h1,<- h2,<- iP,jW x g]
theorem DM {x y:Nat×Nat} {a b c d:Nat} (hx:x.1*b=a*x.2) (hy:y.1*d=c*y.2) (hb:0<b) (hd:0<d) (h:c*b=2*a*d):Tw x y:=by
 refine Nat.eq_of_mul_eq_mul_right (jS hb hd) ?_
 calc y.1*x.2*(b*d)=(y.1*d)*(x.2*b):=by ac_rfl
  _=(c*y.2)*(x.2*b):=by rw [hy]
  _=(c*b)*(x.2*y.2):=by ac_rfl
  _=(2*a*d)*(x.2*y.2):=by rw [h]
  _=2*(a*x.2)*(d*y.2):=by ac_rfl
  _=2*(x.1*b)*(d*y.2):=by rw [hx]
  _=2*x.1*y.2*(b*d):=by ac_rfl
theorem pL.dbt {R W:List Rw} (h:pL R W):Tw (dbt R) (dbt W):=by
 have h1:=h.prs
 have h2:=h.len
 unfold K94.dbt
 refine DM (qN _ _) (qN _ _) (by omega) (by omega) ?_
 rw [h1,h2]
 by_cases e:R.length=0
 ·have:R=[]:=kZ.mp e
  subst this;rfl
 ·rw [show max 1 R.length=R.length by omega,show max 1 (2*R.length)=2*R.length by omega]
  generalize K94.prs R R=p
  generalize R.length=n
  rw [show 4*p=(2*2)*p from rfl]
  ac_rfl
theorem UQ {x x' y y':Nat×Nat} (hx:Tw x x') (hy:Tw y y') (p:0<x.2) (p':0<x'.2) (q:0<y.2) (q':0<y'.2):Tw (KJ x y) (KJ x' y'):=by
 refine DM (qN _ _) (qN _ _) (jS p q) (jS p' q') ?_
 unfold Tw at hx hy
 rw [xI,Nat.mul_add,xI]
 congr 1
 ·calc x'.1*y'.2*(x.2*y.2)=(x'.1*x.2)*(y'.2*y.2):=by ac_rfl
   _=2*x.1*x'.2*(y'.2*y.2):=by rw [hx]
   _=2*(x.1*y.2)*(x'.2*y'.2):=by ac_rfl
 ·calc y'.1*x'.2*(x.2*y.2)=(y'.1*y.2)*(x'.2*x.2):=by ac_rfl
   _=2*y.1*y'.2*(x'.2*x.2):=by rw [hy]
   _=2*(y.1*x.2)*(x'.2*y'.2):=by ac_rfl
theorem zR {x y x' y':Nat×Nat} (h:Tw x y) (h':Tw x' y') (p:0<x.2) (p':0<x'.2) (q:0<y.2) (q':0<y'.2):pG y y'=pG x x':=by
 unfold Tw at h h'
 have A:y.1*y'.2*(x.2*x'.2)=(2*y.2*y'.2)*(x.1*x'.2):=by
  calc y.1*y'.2*(x.2*x'.2)=(y.1*x.2)*(y'.2*x'.2):=by ac_rfl
   _=2*x.1*y.2*(y'.2*x'.2):=by rw [h]
   _=(2*y.2*y'.2)*(x.1*x'.2):=by ac_rfl
 have B:y'.1*y.2*(x.2*x'.2)=(2*y.2*y'.2)*(x'.1*x.2):=by
  calc y'.1*y.2*(x.2*x'.2)=(y'.1*x'.2)*(y.2*x.2):=by ac_rfl
   _=2*x'.1*y'.2*(y.2*x.2):=by rw [h']
   _=(2*y.2*y'.2)*(x'.1*x.2):=by ac_rfl
 refine decide_eq_decide.mpr ?_
 refine (Nat.mul_lt_mul_right (jS p p')).symm.trans ?_
 rw [A,B]
 exact Nat.mul_lt_mul_left (jS (jS (by decide) q) q')
theorem nA (R:List Rw):0<(dbt R).2:=sK (by omega)
theorem tY (fs:Fs) (R:List Rw) (c:Ch):0<(dC fs R c).2:=sK (jS (nA _) (nA _))
theorem pL.dC {R W:List Rw} (h:pL R W) (fs:Fs) (c:Ch):Tw (dC fs R c) (dC fs W c) :=
 UQ (h.filt _).dbt (h.filt _).dbt (nA _) (nA _) (nA _) (nA _)
theorem pL.best {R W:List Rw} (h:pL R W) (fs:Fs) (m:Int):iE fs W (2*m)=iE fs R m:=by
 have e2:okC fs W (2*m)=okC fs R m:=funext λc=>by
  have l1:(yR fs c W).length=2*(yR fs c R).length:=(h.filt (onC fs c)).len
  have l2:(nR fs c W).length=2*(nR fs c R).length:=(h.filt (λr=>!onC fs c r)).len
  unfold okC
  rw [l1,l2]
  congr 1<;>exact decide_eq_decide.mpr (by omega)
 have e3:iQ fs W=iQ fs R:=funext λb=>funext λx=>by
  unfold iQ
  rw [zR (h.dC fs x) (h.dC fs b) (tY ..) (tY ..) (tY ..) (tY ..)]
 have e4:∀ l,JT fs W l=JT fs R l:=λl=>by cases l<;>simp only [JT,e3]
 have e5:(λc=>pG (K94.dC fs W c) (K94.dbt W))=λc=>pG (K94.dC fs R c) (K94.dbt R):=funext λc=>zR (h.dC fs c) h.dbt (tY ..) (nA _) (tY ..) (nA _)
 unfold iE cand
 rw [e2,e4,e5]
theorem tU {an:List Str} {R W:List Rw} (h:pL R W) {a b:Str} (h1:nE an R a) (h2:nE an W b):a=b:=by
 obtain ⟨k,e1,m1,l1⟩:=h1
 obtain ⟨j,e2,m2,l2⟩:=h2
 have ca:=h.cnt a
 have cb:=h.cnt b
 rcases iI k j with q | rfl | q
 ·have x:=l2 k a q e1
  have y:=m1 j b e2
  omega
 ·rw [e1] at e2;cases e2;rfl
 ·have x:=l1 j b q e2
  have y:=m2 k a e1
  omega
theorem EI {fs:Fs} {an:List Str} {m:Int}:∀ (d:Nat) {R W:List Rw} {t u:Tr},pL R W->Gr fs an m d R t->Gr fs an (2*m) d W u->u=t
 | 0,R,W,t,u,h,⟨a,h1,e1⟩,⟨b,h2,e2⟩=>by rw [e1,e2,tU h h1 h2]
 | d+1,R,W,t,u,h,h1,h2=>by
  unfold Gr at h1 h2
  rw [h.best] at h2
  cases e:iE fs R m with
  | none =>
   rw [e] at h1 h2
   obtain ⟨a,h1,e1⟩:=h1
   obtain ⟨b,h2,e2⟩:=h2
   rw [e1,e2,tU h h1 h2]
  | some c =>
   rw [e] at h1 h2
   obtain ⟨y1,n1,a1,b1,rfl⟩:=h1
   obtain ⟨y2,n2,a2,b2,rfl⟩:=h2
   rw [EI d (h.filt _) a1 a2,EI d (h.filt _) b1 b2]
theorem pL.slip {R W:List Rw} (h:pL R W) (fs:Fs) (t:Tr):eD fs t W=2*eD fs t R:=(h.filt _).len
section
variable {fs:Fs} {an:List Str} {fa:List Rw->Str}
theorem pL.fas {R W:List Rw} (h:pL R W) (hfa:FA fs an fa) (hR:eA fs an R):fa W=fa R:=(tU h (hfa R hR) (hfa W (h.ok hR))).symm
theorem pL.sv (hfa:FA fs an fa):∀ (t:Tr) {R W:List Rw},pL R W->eA fs an R->rZ fs fa t W=(rZ fs fa t R).map λe=>(2*e.1,e.2)
 | .say _,_,_,_,_=>rfl
 | .ask k n v s y m,R,W,h,hR=>by
  have i1:=pL.sv hfa y (h.filt (gM fs k n v s)) (hR.filt _)
  have i2:=pL.sv hfa m (h.filt (λr=>!gM fs k n v s r)) (hR.filt _)
  unfold rZ
  rw [bP,bQ,i1,i2,h.fas hfa hR,h.slip,h.slip]
  congr 2
  omega
theorem pL.lw (hfa:FA fs an fa) (a b:Int):∀ (t:Tr) {R W:List Rw},pL R W->eA fs an R->lw fs fa a b t W=lw fs fa (2*a) b t R
 | .say z,R,W,h,hR=>by
  have e:a*((eD fs (.say z) W:Nat):Int)=2*a*((eD fs (.say z) R:Nat):Int):=by
   rw [h.slip,cA,<- dE,fA a];rfl
  show (a*_,_)=(2*a*_,_)
  rw [e]
 | .ask k n v s y m,R,W,h,hR=>by
  have i1:=pL.lw hfa a b y (h.filt (gM fs k n v s)) (hR.filt _)
  have i2:=pL.lw hfa a b m (h.filt (λr=>!gM fs k n v s r)) (hR.filt _)
  have e:a*((eD fs (.say (fa R)) W:Nat):Int)=2*a*((eD fs (.say (fa R)) R:Nat):Int):=by
   rw [h.slip,cA,<- dE,fA a];rfl
  rw [jX,jX,h.fas hfa hR,i1,i2,e]
def JP (e:Int×Nat):Int×Nat:=(2*e.1,e.2)
theorem KZ {e:Int×Nat} (h:0<e.2):Tw (fM e) (fM (JP e)):=by
 show Tw (low e.1.toNat e.2) (low (2*e.1).toNat e.2)
 refine DM (qN _ _) (qN _ _) h h ?_
 rw [show (2*e.1).toNat=2*e.1.toNat by omega]
theorem qL {e:Int×Nat} (h:0<e.2):0<(fM e).2:=sK h
theorem tE:∀ (l:List (Int×Nat)) {x y:Nat×Nat},Tw x y->0<x.2->0<y.2->(∀ e∈l,0<e.2)->Tw (fR x (l.map fM)) (fR y (l.map λe=>fM (JP e)))/\0<(fR x (l.map fM)).2/\0<(fR y (l.map λe=>fM (JP e))).2
 | [],x,y,h,p,q,_=>⟨h,p,q⟩
 | e::l,x,y,h,p,q,hl=>by
  have he:=hl e (aM ..)
  have hT:=KZ he
  have c:=zR hT h (qL he) p (qL (e:=JP e) he) q
  have c:decide ((fM (JP e)).1*y.2<y.1*(fM (JP e)).2)=decide ((fM e).1*x.2<x.1*(fM e).2):=c
  have c:=decide_eq_decide.mp c
  show Tw (fR (kB x (fM e)) (l.map fM)) (fR (kB y (fM (JP e))) (l.map λe=>fM (JP e)))/\0<(fR (kB x (fM e)) (l.map fM)).2/\0<(fR (kB y (fM (JP e))) (l.map λe=>fM (JP e))).2
  have hl':∀ z∈l,0<z.2:=λz hz=>hl z (aK _ hz)
  unfold kB
  by_cases q1:(fM e).1*x.2<x.1*(fM e).2
  ·rw [if_pos q1,if_pos (c.mpr q1)]
   exact tE l hT (qL he) (qL (e:=JP e) he) hl'
  ·rw [if_neg q1,if_neg λz=>q1 (c.mp z)]
   exact tE l h p q hl'
theorem PN (hfa:FA fs an fa) {t:Tr} (ht:DI t=false) {R W:List Rw} (h:pL R W) (hR:eA fs an R):Tw (dL fs fa t R) (dL fs fa t W)/\0<(dL fs fa t R).2/\0<(dL fs fa t W).2:=by
 have e:=h.sv hfa t hR
 have hb:=λp hp=>(nS (fs:=fs) (fa:=fa) t R p hp).2.1
 unfold dL
 rw [e]
 cases hs:rZ fs fa t R with
 | nil =>
  cases t with
  | say z=>cases ht
  | ask k n v s y m=>cases hs
 | cons x l =>
  rw [hs] at hb
  have hx:=hb x (aM ..)
  have:=tE (x::l) (KZ hx) (qL hx) (qL (e:=JP x) hx) hb
  rw [bD]
  exact this
def Pt:List JU->List JU->Prop
 | [],[]=>True
 | a::l,b::m=>(a.2=b.2/\Tw a.1 b.1)/\Pt l m
 | _,_=>False
theorem Pt.at:∀ {L M:List JU},Pt L M->L.length=M.length/\∀ (i:Nat) a b,L[i]?=some a->M[i]?=some b->a.2=b.2/\Tw a.1 b.1
 | [],[],_=>⟨rfl,λi a b h=>by simp at h⟩
 | a::l,b::m,⟨h1,h2⟩=>by
  obtain ⟨i1,i2⟩:=Pt.at h2
  refine ⟨by rw [bI,bI,i1],λi x y hx hy=>?_⟩
  cases i with
  | zero=>cases hx;cases hy;exact h1
  | succ i=>exact i2 i x y hx hy
 | [],b::m,h=>h.elim
 | a::l,[],h=>h.elim
theorem BS (hfa:FA fs an fa) {R W:List Rw} (h:pL R W) (hR:eA fs an R):∀ (n:Nat) {x y:Nat×Nat} (t:Tr),Tw x y->Pt (kI fs fa R n x t) (kI fs fa W n y t)
 | 0,x,y,t,hx=>⟨⟨rfl,hx⟩,trivial⟩
 | n+1,x,y,t,hx=>by
  unfold kI
  refine ⟨⟨rfl,hx⟩,?_⟩
  cases hL:DI t with
  | true=>rw [if_pos rfl,if_pos rfl];trivial
  | false =>
   rw [if_neg (by decide),if_neg (by decide)]
   obtain ⟨tw,p,q⟩:=PN hfa hL h hR
   have hlw:=h.lw hfa ((dL fs fa t W).2:Nat) ((dL fs fa t W).1:Nat) t hR
   have et:(K94.lw fs fa ((dL fs fa t W).2:Nat) ((dL fs fa t W).1:Nat) t W).2=(K94.lw fs fa ((dL fs fa t R).2:Nat) ((dL fs fa t R).1:Nat) t R).2:=by
    rw [hlw]
    generalize dL fs fa t R=a at *
    generalize dL fs fa t W=b at *
    have c1:(0:Int)<(a.2:Nat):=by omega
    have c2:(0:Int)<2*(b.2:Nat):=by omega
    rw [<- jA _ _ c1,<- jA ((a.2:Nat):Int) ((a.1:Nat):Int) c2]
    have e1:((a.2:Nat):Int)*(2*((b.2:Nat):Int))=2*((b.2:Nat):Int)*((a.2:Nat):Int):=fA _ _
    have e2:((a.2:Nat):Int)*((b.1:Nat):Int)=2*((b.2:Nat):Int)*((a.1:Nat):Int):=by
     have tw:b.1*a.2=2*a.1*b.2:=tw
     have:=congrArg (Int.ofNat) tw
     show ((a.2:Nat):Int)*((b.1:Nat):Int)=((2:Nat):Int)*((b.2:Nat):Int)*((a.1:Nat):Int)
     rw [<- cA,<- cA,<- cA]
     congr 1
     rw [jW,tw];ac_rfl
    rw [e1,e2]
   rw [et]
   exact BS hfa h hR n _ tw
theorem HD (hfa:FA fs an fa) {R W:List Rw} (h:pL R W) (hR:eA fs an R) (T:Tr):Pt (iN fs fa T R) (iN fs fa T W):=by
 unfold iN
 have e:(K94.lw fs fa 1 0 T W).2=(K94.lw fs fa 1 0 T R).2:=by
  rw [h.lw hfa 1 0 T hR]
  exact jA (c:=2) 1 0 (by decide) T R
 rw [e]
 exact BS hfa h hR _ _ rfl
end
def jY (f f':Str×List Str) (z:Str):Str:=f'.2.getD (f.2.idxOf z) ""
def oC (an an':List Str) (z:Str):Str:=an'.getD (an.idxOf z) ""
def GM (f f':Str×List Str):D->D
 | .str z=>.str (jY f f' z)
 | d=>d
def nI:Fs->Fs->List D->List D
 | f::fs,f'::fs',c::cs=>GM f f' c::nI fs fs' cs
 | _,_,_=>[]
def iY (fs fs':Fs) (an an':List Str) (r:Rw):Rw:=(nI fs fs' r.1,oC an an' r.2)
def QB (fs:Fs) (n:Str):Nat:=(fs.map (·.1)).idxOf n
def NN (fs:Fs) (i:Nat):Str×List Str:=fs.getD i ("",[])
def FY (fs fs':Fs) (q:Qn):Qn:=(q.1,(NN fs' (QB fs q.2.1)).1,jY (NN fs (QB fs q.2.1)) (NN fs' (QB fs q.2.1)) q.2.2)
def pB (fs fs':Fs) (c:Ch):Ch:=(FY fs fs' c.1,c.2)
def KB (fs fs':Fs) (an an':List Str):Tr->Tr
 | .say a=>.say (oC an an' a)
 | .ask k n v s y m=>.ask (FY fs fs' (k,n,v)).1 (FY fs fs' (k,n,v)).2.1 (FY fs fs' (k,n,v)).2.2 s (KB fs fs' an an' y) (KB fs fs' an an' m)
structure uB (fs fs':Fs) (an an':List Str):Prop where
 F:fF fs an
 F':fF fs' an'
 len:fs'.length=fs.length
 vs:∀ (i:Nat) f f',fs[i]?=some f->fs'[i]?=some f'->f'.2.length=f.2.length
 al:an'.length=an.length
theorem AW {ys:List Str} {i:Nat} (h:i<ys.length):ys.getD i ""=ys[i]:=by
 rw [cI,aB h];rfl
theorem A2 {ys zs:List Str} (hn:zs.Nodup) (hl:zs.length=ys.length) {z:Str} (h:z∈ys):zs.idxOf (zs.getD (ys.idxOf z) "")=ys.idxOf z:=by
 have hi:=cZ.mpr h
 rw [AW (by omega)]
 exact hn.idxOf_getElem _ (by omega)
theorem M6 {ys zs:List Str} (hl:zs.length=ys.length) {z:Str} (h:z∈ys):zs.getD (ys.idxOf z) ""∈zs:=by
 have hi:=cZ.mpr h
 rw [AW (by omega)]
 exact eF _
theorem M7 {ys zs:List Str} (hn:zs.Nodup) (hl:zs.length=ys.length) {z w:Str} (hz:z∈ys) (hw:w∈ys):zs.getD (ys.idxOf z) ""=zs.getD (ys.idxOf w) ""↔z=w:=by
 refine ⟨λh=>?_,λh=>by rw [h]⟩
 have:=congrArg zs.idxOf h
 rw [A2 hn hl hz,A2 hn hl hw] at this
 have h1:=cZ.mpr hz
 have h2:=cZ.mpr hw
 rw [<- eR h1,<- eR h2]
 congr 1
theorem rM {ys zs:List Str} (hn:ys.Nodup) (hl:zs.length=ys.length) {i:Nat} {a:Str} (h:ys[i]?=some a):zs[i]?=some (zs.getD (ys.idxOf a) ""):=by
 obtain ⟨hi,rfl⟩:=aD.mp h
 rw [hn.idxOf_getElem _ hi,AW (by omega)]
 exact aB _
theorem W8 {ys zs:List Str} (hn:ys.Nodup) (hl:zs.length=ys.length):ys.map (λz=>zs.getD (ys.idxOf z) "")=zs:=by
 apply fG
 intro i
 rw [aJ]
 cases h:ys[i]? with
 | none =>
  have:=fT.mp h
  rw [fT.mpr (by omega)];rfl
 | some a=>rw [rM hn hl h];rfl
section
variable {fs fs':Fs} {an an':List Str} (O:uB fs fs' an an')
include O
theorem uB.at {i:Nat} {f:Str×List Str} (h:fs[i]?=some f):∃ f',fs'[i]?=some f'/\f'.2.length=f.2.length/\f.2.Nodup/\f'.2.Nodup/\QB fs f.1=i/\NN fs i=f/\NN fs' i=f'/\f.2.map (jY f f')=f'.2:=by
 have hi:=(aD.mp h).1
 have hl:=O.len
 have h':fs'[i]?=some fs'[i]:=aB (by omega)
 have e:=O.vs i _ _ h h'
 have n1:=(O.F.vs f (bJ h)).2.2.2.2
 refine ⟨_,h',e,n1,(O.F'.vs _ (bJ h')).2.2.2.2,AK O.F h,?_,?_,W8 n1 e⟩
 ·unfold NN;rw [cI,h];rfl
 ·unfold NN;rw [cI,h'];rfl
def HP (f:Str×List Str):List Qn:=(tL f).map (λz=>(("is":Str),f.1,z))++(tM f).map λz=>(("upto":Str),f.1,z)
omit O in
theorem FX (fs:Fs):qs fs=(fs.map HP).flatten:=by
 unfold qs fK
 rw [NT,bD]
 congr 1
 apply fJ
 intro f _
 show (DW f).map tq=HP f
 unfold DW HP
 rw [bQ,bD,bD];rfl
theorem uB.qs:qs fs'=(qs fs).map (FY fs fs'):=by
 rw [FX,FX,NT,bD]
 congr 1
 apply fG
 intro i
 rw [aJ,aJ]
 cases h:fs[i]? with
 | none =>
  have:=fT.mp h
  have hl:=O.len
  rw [fT.mpr (by omega)];rfl
 | some f =>
  obtain ⟨f',h',e,_,_,e1,e2,e3,e4⟩:=O.at h
  rw [h']
  show some (HP f')=some ((HP f).map (FY fs fs'))
  congr 1
  unfold HP
  have q1:tL f'=(tL f).map (jY f f'):=by
   unfold tL
   rw [e,<- e4]
   split
   ·rw [lY]
   ·rfl
  have q2:tM f'=(tM f).map (jY f f'):=by
   unfold tM
   rw [e,<- e4,lY,oO]
  rw [bQ,bD,bD,q1,q2,bD,bD]
  have qb:∀ (k z:Str),FY fs fs' (k,f.1,z)=(k,f'.1,jY f f' z):=λk z=>by
   unfold FY
   dsimp only
   rw [e1,e2,e3]
  congr 1<;>(apply fJ;intro z _;show _=FY fs fs' (_,f.1,z);rw [qb];rfl)
theorem uB.chs:chs fs'=(chs fs).map (pB fs fs'):=by
 unfold K94.chs
 rw [O.qs,List.flatMap_map,List.map_flatMap];rfl
omit O in
theorem vL:∀ {fs fs':Fs} {cs:List D} {i:Nat} {f f':Str×List Str} {x:D},fs[i]?=some f->fs'[i]?=some f'->cs[i]?=some x->(nI fs fs' cs)[i]?=some (GM f f' x)
 | f::fs,f'::fs',c::cs,0,_,_,_,h1,h2,h3=>by cases h1;cases h2;cases h3;rfl
 | f::fs,f'::fs',c::cs,i+1,_,_,_,h1,h2,h3=>vL (fs:=fs) (fs':=fs') (cs:=cs) h1 h2 h3
 | [],_,_,_,_,_,_,h1,_,_=>by simp at h1
 | _::_,[],_,_,_,_,_,_,h2,_=>by simp at h2
 | _::_,_::_,[],_,_,_,_,_,_,h3=>by simp at h3
omit O in
theorem xC:∀ {fs fs':Fs} {cs:List D},fs'.length=fs.length->cs.length=fs.length->(nI fs fs' cs).length=fs.length
 | [],_,_,_,_=>by
  unfold nI;rfl
 | f::fs,f'::fs',c::cs,h1,h2=>by
  have:=xC (fs:=fs) (fs':=fs') (cs:=cs) (Nat.succ.inj h1) (Nat.succ.inj h2)
  show (_::nI fs fs' cs).length=_
  rw [bI,this,bI]
 | _::_,[],_,h1,_=>by cases h1
 | _::_,_::_,[],_,h2=>by cases h2
theorem uB.row {r:Rw} (h:jH fs (.tuple r.1)=true):jH fs' (.tuple (iY fs fs' an an' r).1)=true:=by
 obtain ⟨hl,hv⟩:=oA h
 refine GW ((xC O.len hl).trans O.len.symm) λk f' c h1 h2=>?_
 have hk:k<fs.length:=by have:=(aD.mp h1).1;have:=O.len;omega
 have hf:fs[k]?=some fs[k]:=aB hk
 have hx:r.1[k]?=some (r.1[k]'(by omega)):=aB _
 have hc:=vL hf h1 hx
 have:=hc.symm.trans h2
 cases this
 obtain ⟨g,hg,e,_⟩:=O.at hf
 rw [h1] at hg;cases hg
 have ho:=hv k _ _ hf hx
 generalize r.1[k]'(by omega)=x at ho
 cases x with
 | none=>rfl
 | str z=>exact decide_eq_true (M6 e (of_decide_eq_true ho))
 | _=>cases ho
theorem uB.rows {R:List Rw} (h:eA fs an R):eA fs' an' (R.map (iY fs fs' an an')):=λr hr=>by
 obtain ⟨x,hx,rfl⟩:=bC.mp hr
 obtain ⟨h1,h2⟩:=h x hx
 exact ⟨O.row h1,M6 O.al h2⟩
theorem uB.onC {c:Ch} (hc:c∈K94.chs fs) {r:Rw} (h:jH fs (.tuple r.1)=true):onC fs' (pB fs fs' c) (iY fs fs' an an' r)=onC fs c r:=by
 obtain ⟨⟨k,n,v⟩,s⟩:=c
 obtain ⟨hq,hs⟩:=tZ hc
 obtain ⟨f,hf,hfn,hv,_⟩:=sM (tK hq)
 dsimp only at hfn hv hs
 subst hfn
 obtain ⟨i,hi⟩:=dI hf
 obtain ⟨f',hi',el,n1,n2,e1,e2,e3,_⟩:=O.at hi
 obtain ⟨hl,hcv⟩:=oA h
 have hx:r.1[i]?=some (r.1[i]'(by have:=(aD.mp hi).1;omega)):=aB _
 have ho:=hcv i f _ hi hx
 have hx':=vL hi hi' hx
 generalize r.1[i]'(by have:=(aD.mp hi).1;omega)=x at hx ho hx'
 have qb:FY fs fs' (k,f.1,v)=(k,f'.1,jY f f' v):=by unfold FY;dsimp only;rw [e1,e2,e3]
 unfold K94.onC gM pB
 dsimp only
 rw [qb]
 dsimp only
 rw [sA O.F hi hx rfl,sA O.F' hi' (show (iY fs fs' an an' r).1[i]?=_ from hx') rfl]
 congr 1
 have:tG f' k (jY f f' v) s (GM f f' x)=tG f k v s x:=by
  cases x with
  | none=>rfl
  | str z =>
   have hz:z∈f.2:=of_decide_eq_true ho
   show (if k="is" then (if jY f f' z=jY f f' v then ("yes":Str) else "no") else if f'.2.idxOf (jY f f' z)<=f'.2.idxOf (jY f f' v) then ("yes":Str) else "no")=(if k="is" then (if z=v then ("yes":Str) else "no") else if f.2.idxOf z<=f.2.idxOf v then ("yes":Str) else "no")
   have a1:(jY f f' z=jY f f' v)=(z=v):=propext (M7 n2 el hz hv)
   have a2:f'.2.idxOf (jY f f' z)=f.2.idxOf z:=A2 n2 el hz
   have a3:f'.2.idxOf (jY f f' v)=f.2.idxOf v:=A2 n2 el hv
   rw [a2,a3]
   simp only [a1]
  | _=>cases ho
 rw [this]
theorem uB.filt {c:Ch} (hc:c∈K94.chs fs) {R:List Rw} (hR:eA fs an R):yR fs' (pB fs fs' c) (R.map (iY fs fs' an an'))=(yR fs c R).map (iY fs fs' an an')/\nR fs' (pB fs fs' c) (R.map (iY fs fs' an an'))=(nR fs c R).map (iY fs fs' an an'):=by
 unfold yR nR
 constructor
 ·rw [mI]
  congr 1
  exact jL λr hr=>O.onC hc (hR r hr).1
 ·rw [mI]
  congr 1
  exact jL λr hr=>by show (!_)=!_;rw [O.onC hc (hR r hr).1]
theorem uB.ans {a b:Str} (ha:a∈an) (hb:b∈an):oC an an' a=oC an an' b↔a=b:=M7 O.F'.an.2.2 O.al ha hb
theorem uB.prs {R:List Rw} (hR:eA fs an R):prs (R.map (iY fs fs' an an')) (R.map (iY fs fs' an an'))=prs R R:=by
 unfold K94.prs
 rw [bD]
 congr 1
 apply fJ
 intro r hr
 show (R.map (iY fs fs' an an')).countP _=_
 rw [qI]
 refine uR λo ho=>?_
 show (decide (oC an an' o.2≠oC an an' r.2)=true)↔_
 rw [decide_eq_true_iff,decide_eq_true_iff,Ne,O.ans (hR o ho).2 (hR r hr).2]
theorem uB.cnt {R:List Rw} (hR:eA fs an R) {a:Str} (ha:a∈an):cnt (R.map (iY fs fs' an an')) (oC an an' a)=cnt R a:=by
 unfold K94.cnt
 rw [qI]
 refine uR λo ho=>?_
 show (decide (oC an an' o.2=oC an an' a)=true)↔_
 rw [decide_eq_true_iff,decide_eq_true_iff,O.ans (hR o ho).2 ha]
theorem uB.dbt {R:List Rw} (hR:eA fs an R):dbt (R.map (iY fs fs' an an'))=dbt R:=by unfold K94.dbt;rw [O.prs hR,aC]
theorem uB.dC {c:Ch} (hc:c∈K94.chs fs) {R:List Rw} (hR:eA fs an R):dC fs' (R.map (iY fs fs' an an')) (pB fs fs' c)=dC fs R c:=by
 obtain ⟨e1,e2⟩:=O.filt hc hR
 unfold K94.dC
 rw [e1,e2,O.dbt (hR.filt _),O.dbt (hR.filt _)]
theorem uB.cand {R:List Rw} (hR:eA fs an R) (m:Int):cand fs' (R.map (iY fs fs' an an')) m=(cand fs R m).map (pB fs fs'):=by
 unfold K94.cand
 rw [O.chs,mI]
 congr 1
 refine jL λc hc=>?_
 obtain ⟨e1,e2⟩:=O.filt hc hR
 show okC fs' _ m (pB fs fs' c)=_
 unfold okC
 rw [e1,e2,aC,aC]
theorem uB.fold {R:List Rw} (hR:eA fs an R):∀ (l:List Ch) (b:Ch),b∈K94.chs fs->(∀ x∈l,x∈K94.chs fs)->(l.map (pB fs fs')).foldl (iQ fs' (R.map (iY fs fs' an an'))) (pB fs fs' b)=pB fs fs' (l.foldl (iQ fs R) b)/\l.foldl (iQ fs R) b∈K94.chs fs
 | [],b,hb,_=>⟨rfl,hb⟩
 | x::l,b,hb,hl=>by
  have hx:=hl x (aM ..)
  have e:iQ fs' (R.map (iY fs fs' an an')) (pB fs fs' b) (pB fs fs' x)=pB fs fs' (iQ fs R b x)/\iQ fs R b x∈K94.chs fs:=by
   unfold iQ
   rw [O.dC hx hR,O.dC hb hR]
   split
   ·exact ⟨rfl,hx⟩
   ·exact ⟨rfl,hb⟩
  have:=uB.fold hR l (iQ fs R b x) e.2 λy hy=>hl y (aK _ hy)
  rw [bP,qH,qH,e.1]
  exact this
theorem uB.best {R:List Rw} (hR:eA fs an R) (m:Int):iE fs' (R.map (iY fs fs' an an')) m=(iE fs R m).map (pB fs fs'):=by
 unfold iE
 rw [O.cand hR]
 have hc:∀ x∈K94.cand fs R m,x∈K94.chs fs:=λx hx=>(cU.mp hx).1
 cases e:K94.cand fs R m with
 | nil=>rfl
 | cons c l =>
  rw [e] at hc
  obtain ⟨e1,e2⟩:=O.fold hR l c (hc c (aM ..)) λx hx=>hc x (aK _ hx)
  show (some ((l.map (pB fs fs')).foldl _ (pB fs fs' c))).filter _=((some (l.foldl (iQ fs R) c)).filter _).map _
  rw [e1]
  generalize l.foldl (iQ fs R) c=b at e2
  show (if pG (K94.dC fs' _ (pB fs fs' b)) (K94.dbt _)=true then some (pB fs fs' b) else none)=X2 _ (if pG (K94.dC fs R b) (K94.dbt R)=true then some b else none)
  rw [O.dC e2 hR,O.dbt hR]
  split<;>rfl
theorem uB.first {R:List Rw} (hR:eA fs an R) {a b:Str} (h:nE an R a) (h':nE an' (R.map (iY fs fs' an an')) b):b=oC an an' a:=by
 refine rJ (.refl _) h' ?_
 obtain ⟨k,e1,m1,l1⟩:=h
 have back:∀ (j:Nat) c,an'[j]?=some c->∃ d,an[j]?=some d/\d∈an/\c=oC an an' d:=λj c hc=>by
  have hj:j<an.length:=by have:=(aD.mp hc).1;have:=O.al;omega
  have hd:an[j]?=some an[j]:=aB hj
  refine ⟨_,hd,eF hj,?_⟩
  have:=rM O.F.an.2.2 O.al hd
  rw [hc] at this
  exact Option.some.inj this
 have ha:=bJ e1
 refine ⟨k,rM O.F.an.2.2 O.al e1,λj c hc=>?_,λj c hj hc=>?_⟩
 ·obtain ⟨d,h1,h2,rfl⟩:=back j c hc
  rw [O.cnt hR h2,O.cnt hR ha];exact m1 j d h1
 ·obtain ⟨d,h1,h2,rfl⟩:=back j c hc
  rw [O.cnt hR h2,O.cnt hR ha];exact l1 j d hj h1
theorem uB.gr {m:Int}:∀ (d:Nat) {R:List Rw} {t u:Tr},eA fs an R->Gr fs an m d R t->Gr fs' an' m d (R.map (iY fs fs' an an')) u->u=KB fs fs' an an' t
 | 0,R,t,u,hR,⟨a,h1,e1⟩,⟨b,h2,e2⟩=>by rw [e1,e2,O.first hR h1 h2];rfl
 | d+1,R,t,u,hR,h1,h2=>by
  unfold Gr at h1 h2
  rw [O.best hR] at h2
  cases e:iE fs R m with
  | none =>
   rw [e] at h1 h2
   obtain ⟨a,h1,e1⟩:=h1
   obtain ⟨b,h2,e2⟩:=h2
   rw [e1,e2,O.first hR h1 h2];rfl
  | some c =>
   have hc:=(cU.mp (oB e)).1
   obtain ⟨f1,f2⟩:=O.filt hc hR
   rw [e] at h1 h2
   dsimp only [X2] at h2
   obtain ⟨y1,n1,a1,b1,rfl⟩:=h1
   obtain ⟨y2,n2,a2,b2,rfl⟩:=h2
   rw [f1] at a2
   rw [f2] at b2
   rw [uB.gr d (hR.filt _) a1 a2,uB.gr d (hR.filt _) b1 b2];rfl
end
def KN:kW:=λds Q=>∃ x y:Nat×Nat,ds=[tS x,tS y]/\Tw x y/\x.1<=10000000/\x.2<=10000000/\y.1<=10000000/\y.2<=10000000/\Q (.bool true)
def KM:kW:=λds Q=>∃ (rs:List Rw) (bs:List Int),ds=[.list (rs.map dO),.list (bs.map aX)]/\qT bs.length bs/\rs.length<=bs.length/\rs.length<=60/\∀ ss:List Rw,ss.Perm rs->Q (.list (ss.map dO))
def RA:kW:=λds Q=>∃ (fs:Fs) (an:List Str) (bs:List Int) (n:Nat),ds=[eL fs an,.list (bs.map aX)]/\fF fs an/\qT n bs/\1<=n/\∀ fs' an',uB fs fs' an an'->Q (eL fs' an')
def Q9:kW:=λds Q=>∃ (fs fs':Fs) (an an':List Str) (r:Rw),ds=[eL fs an,eL fs' an',dO r]/\uB fs fs' an an'/\G0 fs an r/\Q (dO (iY fs fs' an an' r))
def KO:kW:=λds Q=>∃ (fs fs':Fs) (an an':List Str) (q:Qn),ds=[eL fs an,eL fs' an',qD q]/\uB fs fs' an an'/\JQ fs (qD q)=true/\Q (qD (FY fs fs' q))
def pP (dd:Nat):kW:=λds Q=>∃ (fs fs':Fs) (an an':List Str) (t:Tr),ds=[eL fs an,eL fs' an',hU t]/\uB fs fs' an an'/\mU fs an t/\t.dep<dd/\Q (hU (KB fs fs' an an' t))
def Q8:kW:=pP 7
theorem LS {ds:List D} {Q:D->Prop} (h:pP 0 ds Q):False:=by
 obtain ⟨_,_,_,_,_,_,_,_,h,_⟩:=h
 omega
def Q7:kW:=λds Q=>∃ (fs:Fs) (an:List Str) (T:Tr) (R W:List Rw),ds=[eL fs an,hU T,.list (R.map dO),.list (W.map dO)]/\fF fs an/\mU fs an T/\T.dep<=12/\T.kn<=20/\eA fs an R/\pL R W/\R.length<=30/\Q (.bool true)
def wK:Str:="abcdefghijklmnopqrstuvwxyz"
def AO (i:Nat):Str:=match L2.atI wK.cps.toList (i:Int) with | some c=>⟨#[c]⟩ | none=>""
def fN (i k:Nat):Str:=Txt.mul (AO i) (1+((k:Nat):Int))
def vN (i j:Nat):Str:=AO i++Txt.mul "v" (1+((j:Nat):Int))
def aN (i j:Nat):Str:=Txt.mul "w" (1+((j:Nat):Int))++AO i
def okN (g:Nat->Str):Bool:=((bX 5).map g).all rS && decide ((bX 5).map g).Nodup
theorem D8:∀ i:Fin 26,(okN (fN i) && okN (vN i) && okN (aN i) && decide ((AO i).length=1) && (bX 5).all λj=>decide ((Txt.mul "v" (1+((j:Nat):Int))).length<=5/\(Txt.mul "w" (1+((j:Nat):Int))).length<=5))=true:=by decide +kernel
theorem AI {g:Nat->Str} (h:okN g=true) {n:Nat} (hn:n<=5):JI n ((bX n).map g):=by
 unfold okN at h
 rw [dB,fC] at h
 have hs:(bX n).Sublist (bX 5):=by
  have:bX n=(bX 5).take n:=by rw [Q1,kF hn]
  rw [this];exact uO _ _
 exact ⟨by rw [aC,eG],λy hy=>h.1 y ((hs.map g).subset hy),(of_decide_eq_true h.2).sublist (hs.map g)⟩
def xP (i:Nat) (fs:Fs):Fs:=(bX fs.length).map λk=>(fN i k,(bX (NN fs k).2.length).map (vN i))
def LI (i:Nat) (an:List Str):List Str:=(bX an.length).map (aN i)
theorem wG {i:Nat} {fs:Fs} {k:Nat} {f:Str×List Str} (h:fs[k]?=some f):(xP i fs)[k]?=some (fN i k,(bX f.2.length).map (vN i)):=by
 have hk:=(aD.mp h).1
 unfold xP
 rw [aJ,gS hk]
 show some (fN i k,(bX (NN fs k).2.length).map (vN i))=_
 unfold NN
 rw [cI,h];rfl
theorem LH {fs:Fs} {an:List Str} (F:fF fs an) {i:Nat} (hi:i<26):uB fs (xP i fs) an (LI i an):=by
 have h:=D8 ⟨i,hi⟩
 simp only [dB] at h
 obtain ⟨⟨⟨⟨h1,h2⟩,h3⟩,_⟩,_⟩:=h
 have n1:=F.n1
 have n5:=F.n5
 have a2:=F.a2
 have a4:=F.a4
 have l1:(xP i fs).length=fs.length:=by unfold xP;rw [aC,eG]
 have l2:(LI i an).length=an.length:=by unfold LI;rw [aC,eG]
 have back:∀ k f',(xP i fs)[k]?=some f'->∃ f,fs[k]?=some f/\f'=(fN i k,(bX f.2.length).map (vN i)):=λk f' hk=>by
  have hl:=(aD.mp hk).1
  have hf:fs[k]?=some (fs[k]'(by omega)):=aB _
  have:=wG (i:=i) hf
  rw [hk] at this
  exact ⟨_,hf,Option.some.inj this⟩
 refine ⟨F,⟨by omega,by omega,?_,λf' hf'=>?_,by omega,by omega,?_⟩,l1,λk f f' hf hf'=>?_,l2⟩
 ·rw [l1]
  have:(xP i fs).map (·.1)=(bX fs.length).map (fN i):=by unfold xP;rw [bD];rfl
  rw [this];exact AI h1 n5
 ·obtain ⟨k,hk⟩:=dI hf'
  obtain ⟨f,hf,rfl⟩:=back k f' hk
  obtain ⟨v2,v5,_⟩:=F.vs f (bJ hf)
  have e:((bX f.2.length).map (vN i)).length=f.2.length:=by rw [aC,eG]
  exact ⟨by rw [e];exact v2,by rw [e];exact v5,by rw [e];exact AI h2 v5⟩
 ·rw [l2];exact AI h3 (by omega)
 ·rw [wG hf] at hf';cases hf'
  rw [aC,eG]
theorem V7 {i:Nat} (hi:i<26):∃ c,L2.atI wK.cps.toList (i:Int)=some c/\AO i=⟨#[c]⟩/\(AO i).length=1:=by
 have h:=D8 ⟨i,hi⟩
 simp only [dB,decide_eq_true_eq] at h
 have hl:=h.1.2
 have e:wK.cps.toList.length=26:=by decide +kernel
 have hc:L2.atI wK.cps.toList (i:Int)=some (wK.cps.toList[i]'(by omega)):=L2.eK (aB _)
 refine ⟨_,hc,?_,hl⟩
 unfold AO;rw [hc]
theorem F9 {j:Nat} (hj:j<5):(Txt.mul "v" (1+((j:Nat):Int))).length<=5/\(Txt.mul "w" (1+((j:Nat):Int))).length<=5:=by
 have h:=D8 ⟨0,by decide⟩
 simp only [dB,fC,decide_eq_true_eq] at h
 exact h.2 j (gY.mpr hj)
def vF (i:Nat):D->D
 | .int j=>.str (vN i j.toNat)
 | d=>d
def aF (i:Nat):D->D
 | .int j=>.str (aN i j.toNat)
 | d=>d
theorem UN (i n:Nat):(dX n).map (vF i)=((bX n).map (vN i)).map aR:=by
 unfold dX
 rw [bD,bD];rfl
theorem XF (i n:Nat):(dX n).map (aF i)=((bX n).map (aN i)).map aR:=by
 unfold dX
 rw [bD,bD];rfl
def Q5 (fs fs':Fs) (an an':List Str):D->D
 | .tuple [.tuple cs,.str a]=>dO (iY fs fs' an an' (cs,a))
 | d=>d
theorem OQ {c:oK} {t e u:qQ} {DT:qE} {σ:List Sl} (k:u DT σ) (h:∀ nx:List Sl->Prop,nx σ->VE c t e { DT with nx:=nx } σ):gZ (VE c t e) u DT σ:=h _ k
theorem UU {fs:Fs} {an:List Str} (F:fF fs an) {c:Ch} (hc:c∈chs fs):Th 90 2 (.tuple [qD c.1,.str c.2]):=by
 obtain ⟨hq,hs⟩:=tZ hc
 have t1:Th 27 1 (qD c.1):=UV F (tK hq)
 have t2:Th 27 1 (.str c.2):=by
  rcases hs with z | z<;>rw [z]<;>exact KE (by decide +kernel)
 exact oQ 27 1 2 (gF t1 (gF t2 nD)) (aH rfl) (by decide) (by decide)
theorem aA5 {c d:oK} {σ:List Sl} {q:Bool->Prop} (h:∀ q':Bool->Prop,q' true->c σ q') (hq:q true):cOr c d σ q:=h (λb=>if b=true then q true else d σ q) (Eq.mpr (if_pos rfl) hq)

end K94

namespace K94
set_option maxHeartbeats 4000000
open PySem L2 TL
local macro_rules | `(tactic| walk_at "rd")=>`(tactic| simp only [JE,EX,gZ,DR,OU,OW,KW,sB,VE,aCn,jZ,wV,eC,M1,aA1,W0,aA2,mB,eSl,B9,B8,aA3,eOr,W3,aDn,QH,M2,WZ,aDm,W2,C8,qB,GX,aA9,aBa,cOr,gP,fI,fI0,fB0,MY,WT,fEq,fNe,WY,WU,fIx,fSl,fIn,WS,f1,f2,WO,AX,aAp,aDj,aDh,aAo,aAq,T7,aAn,mK,bP,mT,bI,Q3,gC,qG,jQ,List.getElem?_cons_zero,pK,List.set_cons_zero,List.set_cons_succ,Option.some.injEq,Sl.val.injEq,Sl.own.injEq,exists_eq_left',exists_eq_left,aX.injEq,XT.injEq,aR.injEq,gA.injEq,DK.injEq,and_true,true_and,cL,if_true,if_false,sV,UL,↓reduceIte,Nat.reduceAdd,Nat.reduceSub,Nat.reduceLeDiff,Int.reduceNeg,reduceCtorEq])

theorem YM:cD ["one","other","rest"] ["one","other"] (aY (top 5)):=lK
theorem YN:cD ["top","bottom","shared"] ["top","bottom"] (aY (top 4)):=lK
theorem YR:cD ["form","rows","told"] ["form","rows"] (aY (top 1)):=lK
theorem YO:cD ["form","rows","many"] ["form","rows"] (aY (top 3)):=lK
theorem YL:cD ["one","other"] ["one","other"] (aY (top 6)):=lK
theorem YJ:cD ["fractions","common","found"] ["fractions"] (aY (top 8)):=lK
theorem YH:cD ["field","name","values","told_by_is","told_by_upto"] ["field"] (aY (top 12)):=lK
theorem YI:cD ["form","questions","field"] ["form"] (aY (top 11)):=lK
theorem TM:cD ["form","choices","question"] ["form"] (aY (top 13)):=lK
theorem TF:cD ["question","field"] ["question","field"] (aY (top 17)):=lK
theorem TJ:cD ["form","question"] ["form","question"] (aY (top 15)):=lK
theorem TH:cD ["question","stray","field"] ["question","stray","field"] (aY (top 16)):=lK
theorem TK:cD ["form","question","stray","case","number"] ["form","question","stray","case"] (aY (top 14)):=lK
theorem TB:cD ["side","sides"] ["side","sides"] (aY (top 19)):=lK
theorem TD:cD ["form","question","stray","rows","sides"] ["form","question","stray","rows"] (aY (top 18)):=lK
theorem S9:cD ["sides","fewest"] ["sides","fewest"] (aY (top 20)):=lK
theorem S7:cD ["rows","numbers"] ["rows","numbers"] (aY (top 23)):=lK
theorem S8:cD ["form","rows","least","told","question","stray","sides","doubts","bottom"] ["form","rows","least"] (aY (top 22)):=lK
theorem YK:cD ["one","other"] ["one","other"] (aY (top 7)):=lK
theorem S3:cD ["form","rows","least","told"] ["form","rows","least"] (aY (top 24)):=lK
theorem YQ:cD ["form","rows","counts"] ["form","rows"] (aY (top 2)):=lK
theorem S2:cD ["form","rows","deep","least","found","sides","parts"] ["form","rows","deep","least"] (aY (top 25)):=lK
theorem S1:cD ["tree"] ["tree"] (aY (top 30)):=lK
theorem S0:cD ["knot","side"] ["knot","side"] (aY (top 31)):=lK
theorem SY:cD ["form","tree","case","way","part","side"] ["form","tree","case"] (aY (top 33)):=lK
theorem SX:cD ["form","tree","case"] ["form","tree","case"] (aY (top 34)):=lK
theorem SV:cD ["tree","place","part","side"] ["tree","place"] (aY (top 36)):=lK
theorem SW:cD ["form","tree","case"] ["form","tree","case"] (aY (top 35)):=lK
theorem SZ:cD ["tree"] ["tree"] (aY (top 32)):=lK
theorem SU:cD ["form","tree","rows","prices","slips"] ["form","tree","rows","prices"] (aY (top 38)):=lK
theorem SR:cD ["form","rows"] ["form","rows"] (aY (top 40)):=lK
theorem SQ:cD ["form","knot","rows"] ["form","knot","rows"] (aY (top 41)):=lK
theorem SO:cD ["price"] ["price"] (aY (top 42)):=lK
theorem SL:cD ["form","tree","rows","prices","leaf","leaf_cost","sides","yes","no","cost"] ["form","tree","rows","prices"] (aY (top 44)):=lK
theorem SN:cD ["form","tree","rows","price"] ["form","tree","rows","price"] (aY (top 43)):=lK
theorem SI:cD ["form","tree","rows","sides","yes","no","slips","saved"] ["form","tree","rows"] (aY (top 47)):=lK
theorem SJ:cD ["form","tree","rows","prices","lowest","price"] ["form","tree","rows"] (aY (top 46)):=lK
theorem SK:cD ["form","tree","rows","price","part","told"] ["form","tree","rows"] (aY (top 45)):=lK
theorem SH:cD ["_law_cell","_law_k","_law_turn"] ["_law_cell","_law_k"] (aY (top 49)):=lK
theorem SG:cD ["_law_script","_law_k","_law_seed"] ["_law_script","_law_k"] (aY (top 50)):=lK
theorem SF:cD ["_law_cell","_law_many","_law_found","_law_left","_law_k"] ["_law_cell","_law_many"] (aY (top 51)):=lK
theorem SE:cD ["_law_drawn_here","_law_at","_law_many","_law_letters","_law_word","_law_turn","_law_names_here","_law_place","_law_k","_law_sign"] ["_law_drawn_here","_law_at","_law_many"] (aY (top 52)):=lK
theorem SD:cD ["_law_script","_law_drawn_here","_law_names_here","_law_fields","_law_k","_law_bits"] ["_law_script"] (aY (top 53)):=lK
theorem SC:cD ["_law_form_here","_law_bits","_law_case_here","_law_k","_law_values"] ["_law_form_here","_law_bits"] (aY (top 54)):=lK
theorem SA:cD ["_law_form_here","_law_bits","_law_case_here","_law_number","_law_k"] ["_law_form_here","_law_bits"] (aY (top 55)):=lK
theorem R9:cD ["_law_script","_law_form_here","_law_many"] ["_law_script","_law_form_here","_law_many"] (aY (top 56)):=lK
theorem R8:cD ["_law_form_here","_law_bits","_law_letter","_law_fields","_law_k","_law_values","_law_answers"] ["_law_form_here","_law_bits"] (aY (top 57)):=lK
theorem R7:cD ["_law_form_here","_law_other","_law_row_here","_law_case_here","_law_k","_law_at"] ["_law_form_here","_law_other","_law_row_here"] (aY (top 58)):=lK
theorem R5:cD ["_law_form_here","_law_other","_law_question","_law_k","_law_at"] ["_law_form_here","_law_other","_law_question"] (aY (top 59)):=lK
theorem R4:cD ["_law_form_here","_law_other","_law_tree","_law_yes"] ["_law_form_here","_law_other","_law_tree"] (aY (top 60)):=lK
theorem R3:cD ["_law_one","_law_two"] ["_law_one","_law_two"] (aY (top 61)):=lK
theorem R0:cD ["_law_rows_here","_law_bits","_law_found","_law_k"] ["_law_rows_here","_law_bits"] (aY (top 62)):=lK
theorem RZ:cD ["_law_form_here","_law_tree","_law_rows_here","_law_more","_law_ones","_law_others","_law_k"] ["_law_form_here","_law_tree","_law_rows_here","_law_more"] (aY (top 63)):=lK
theorem KS:cD ["_law_script","_law_form_here","_law_bits","_law_rows_here","_law_deep","_law_few","_law_tree","_law_turned_here","_law_other","_law_told","_law_one","_law_two","_law_price"] ["_law_script"] (aY (top 64)):=lK
section
variable {P:bY} {w:World} {K:aE} {mg:Str->Option Value} {base:Heap} {a_0 a_1 a_2 a_3 a_4 a_5 a_6 a_7 a_8 a_9 a_10 a_11 a_12 a_13 a_14 a_15 a_16 a_17 a_18 a_19 a_20 a_21 a_22 a_23 a_24 a_25 a_26 a_27 a_28 a_29 a_30 a_31 a_32 a_33 a_34 a_35 a_36 a_37 a_38 a_39 a_40 a_41 a_42 a_43 a_44 a_45 a_46 a_47 a_48 a_49 a_50 a_51 a_52 a_law:Addr} {f_0 f_1 f_2 f_3 f_4 f_5 f_6 f_7 f_8 f_9 f_10 f_11 f_12 f_13 f_14 f_15 f_16 f_17 f_18 f_19 f_20 f_21 f_22 f_23 f_24 f_25 f_26 f_27 f_28 f_29 f_30 f_31 f_32 f_33 f_34 f_35 f_36 f_37 f_38 f_39 f_40 f_41 f_42 f_43 f_44 f_45 f_46 f_47 f_48 f_49 f_50 f_51 f_52 f_law:dF} {t_SIDES:Addr} (T:Txt K mg a_0 a_1 a_2 a_3 a_4 a_5 a_6 a_7 a_8 a_9 a_10 a_11 a_12 a_13 a_14 a_15 a_16 a_17 a_18 a_19 a_20 a_21 a_22 a_23 a_24 a_25 a_26 a_27 a_28 a_29 a_30 a_31 a_32 a_33 a_34 a_35 a_36 a_37 a_38 a_39 a_40 a_41 a_42 a_43 a_44 a_45 a_46 a_47 a_48 a_49 a_50 a_51 a_52 a_law f_0 f_1 f_2 f_3 f_4 f_5 f_6 f_7 f_8 f_9 f_10 f_11 f_12 f_13 f_14 f_15 f_16 f_17 f_18 f_19 f_20 f_21 f_22 f_23 f_24 f_25 f_26 f_27 f_28 f_29 f_30 f_31 f_32 f_33 f_34 f_35 f_36 f_37 f_38 f_39 f_40 f_41 f_42 f_43 f_44 f_45 f_46 f_47 f_48 f_49 f_50 f_51 f_52 f_law t_SIDES)
include T
theorem aCu:bN P w K mg base dP 1 a_4 f_4 ["one","other"] (aS K U8):=by
 refine mS T.D_4.F YM (λds Q h=>by obtain ⟨a,b,rfl,h⟩:=h;rfl) λcdv Ar outer s H E hr ds Q h=>?_
 obtain ⟨a,b,rfl,h⟩:=h
 have nd:=YM.nd
 refine ⟨_,(aU (vV (eS F3 AJ (aG 1) aI)
 (aU (ss 2 nd (bZ fD oV (aG 0) (aG 1)))
 (aU (ss 0 nd (aG 1))
 (bK (ss 1 nd (aG 2))))) (λhc hb=>wC PassesOwn.never hc hb))
 (bK (cR (aG 0)))),?_⟩
 show gZ _ _ _ [.val (.int a),.val (.int b),.un]
 refine tI (λy σ=>∃ (x:Nat) (s2:Sl),σ=[.val (.int x),.val (.int y),s2]/\x.gcd y=a.gcd b) b ⟨a,_,rfl,rfl⟩ λy σ' hP=>?_
 obtain ⟨x,s2,rfl,hg⟩:=hP
 refine ⟨decide (0<y),λq hq=>⟨_,rfl,?_⟩,?_⟩
 ·show q (decide ((y:Int) > 0))
  have:decide ((y:Int) > 0)=decide (0<y):=by rw [decide_eq_decide];omega
  rw [this];exact hq
 by_cases hy:0<y
 ·rw [if_pos (decide_eq_true hy)]
  refine cK (.int ((x % y:Nat):Int)) (λq hq=>⟨_,rfl,_,rfl,(show (0:Int)<(y:Int) by omega),?_⟩) ?_
  ·rw [<- Int.natCast_emod];exact hq
  refine cK (.int y) (λq hq=>⟨_,rfl,hq⟩) ?_
  refine oU (.int ((x % y:Nat):Int)) (λq hq=>⟨_,rfl,hq⟩) ⟨x % y,Nat.mod_lt _ hy,y,_,rfl,?_⟩
  rw [<- hg,aBj x y,Nat.gcd_rec y x,aBj]
 ·rw [if_neg (by simpa using hy)]
  have hy0:y=0:=by omega
  subst hy0
  rw [Nat.gcd_zero_right] at hg
  subst hg
  exact ⟨_,rfl,h⟩

theorem aCv
  (F_4:bN P w K mg base dP 1 a_4 f_4 ["one","other"] (aS K U8)):bN P w K mg base dP 2 a_3 f_3 ["top","bottom"] (aS K HH):=by
 refine mS T.D_3.F YN (λds Q h=>by obtain ⟨a,b,rfl,hb,ha2,hb2,h⟩:=h;rfl) λcdv Ar outer s H E hr ds Q h=>?_
 obtain ⟨a,b,rfl,hb,ha2,hb2,h⟩:=h
 have nd:=YN.nd
 refine ⟨_,(aU (ss 2 nd (cd F_4 T.D_4 hr (aA (aG 0) (aA (aG 1) aO))))
 (bK (cR (eP (aA (bZ B6 oV (aG 0) (aG 2)) (aA (bZ B6 oV (aG 1) (aG 2)) aO)))))),?_⟩
 show gZ _ _ _ [.val (.int a),.val (.int b),.un]
 refine cK (.int ((a.gcd b:Nat):Int)) (λq hq=>⟨_,rfl,_,rfl,a,b,rfl,hq⟩) ?_
 have hgp:0<a.gcd b:=kC _ hb
 have hgl:a.gcd b<=b:=QZ _ hb
 have hd:(0:Int)<((a.gcd b:Nat):Int)/\((a.gcd b:Nat):Int)<2 ^ 200:=⟨by omega,by
  have:(a.gcd b)<2 ^ 190:=nL hgl hb2
  have h2:(2 ^ 190:Nat)<=2 ^ 200:=jR (by decide) (by decide)
  exact_mod_cast cG this h2⟩
 refine ⟨_,rfl,_,rfl,hd,_,rfl,_,rfl,hd,aH rfl,?_⟩
 show Q (.tuple [.int ((a:Int) / ((a.gcd b:Nat):Int)),.int ((b:Int) / ((a.gcd b:Nat):Int))])
 rw [<- pM,<- pM]
 exact h

theorem aCy:bN P w K mg base dP 1 a_0 f_0 ["form","rows"] (fV K VA):=by
 refine X0 T.D_0.F YR (λds Q h=>by obtain ⟨fs,an,rs,rfl,F,hok,hrl,h⟩:=h;rfl) λcdv Ar outer s H E hr ds Q h=>?_
 obtain ⟨fs,an,rs,rfl,F,hok,hrl,h⟩:=h
 have nd:=YR.nd
 refine ⟨_,(aU (ss 2 nd (el (fr:=[none]) (N':=["row"]) (gU (aG 1)) (λb=>⟨(eH (pk 0)),iD,(aW aQ bU (aG 0) aI)⟩)))
 (bK (vB (fl (fr:=[none,some 2]) (N':=["answer","told"]) (gU (aW aQ bU (aG 0) aI)) (λb=>⟨(eH (pk 0)),iD,(IS (aG 1) (aA (aG 0) aO) (λh ha=>iR bR PySem.F.slot_list_count PySem.F.type_list_count (IA hr) h ha))⟩))))),?_⟩
 show gZ _ _ _ [.val (eL fs an),.val (.list (rs.map dO)),.un]
 have a4:=F.a4
 refine cK (.list (rs.map λr=>aR r.2)) (λq hq=>?_) ?_
 ·refine jF (ts:=rs.map dO) (λR h=>⟨_,rfl,_,rfl,h⟩) ON (by rw [aC];omega) (λx q hx hq=>?_) ?_
  ·obtain ⟨r,hr,rfl⟩:=bC.mp hx
   exact ⟨_,rfl,_,rfl,hq⟩
  ·rw [bD];exact hq
 have ll:=MB (ys:=rs.map λr=>r.2) λy hy=>by
  obtain ⟨r,hr,rfl⟩:=bC.mp hy
  exact F.an.2.1 _ (hok r hr).2
 rw [bD] at ll
 refine MW (jF (ts:=an.map aR) (λR h=>⟨_,rfl,_,rfl,_,rfl,h⟩) (aA6 rs) (by rw [aC];omega) (λx q hx hq=>?_) ?_)
 ·obtain ⟨a,ha,rfl⟩:=bC.mp hx
  have hA:=jE (F.an.2.1 a ha) (n:=8) (m:=0) (aL _)
  refine ⟨_,rfl,_,rfl,_,rfl,_,rfl,⟨ll.1,hA.lay,by have:=hA.depth;omega⟩,?_⟩
  rw [DP];exact hq
 ·show Q _
  have e:(an.map aR).map (aA6 rs)=(mL an rs).map aX:=by
   unfold mL
   rw [bD,bD];rfl
  rw [e];exact h

theorem aCw
  (F_0:bN P w K mg base dP 1 a_0 f_0 ["form","rows"] (fV K VA))
  (F_3:bN P w K mg base dP 2 a_3 f_3 ["top","bottom"] (aS K HH)):bN P w K mg base dP 3 a_2 f_2 ["form","rows"] (aS K U9):=by
 refine mS T.D_2.F YO (λds Q h=>by obtain ⟨fs,an,rs,rfl,F,hok,hrl,h⟩:=h;rfl) λcdv Ar outer s H E hr ds Q h=>?_
 obtain ⟨fs,an,rs,rfl,F,hok,hrl,h⟩:=h
 have nd:=YO.nd
 refine ⟨_,(aU (ss 2 nd (cB jJ (aA (aG 1) aO) dH T.b_len gW))
 (aU (hV (eS nV tP (aG 2) aI)
 (bK (cR (eP (aA aI (aA aI aO)))))
 gD)
 (bK (cR (cd F_3 T.D_3 hr (aA (cB aA7 (aA (el (fr:=[none,some 2]) (N':=["count","many"]) (gU (uJ (cF F_0 T.D_0 hr (aA (aG 0) (aA (aG 1) aO))))) (λb=>⟨(eH (pk 0)),iD,(bZ eB iZ (aG 0) (bZ D1 V2 (aG 1) (aG 0)))⟩)) aO) (xS rfl) T.b_sum XA) (aA (aG 2) aO))))))),?_⟩
 show gZ _ _ _ [.val (eL fs an),.val (.list (rs.map dO)),.un]
 have a4:=F.a4
 refine cK (.int (rs.length:Int)) (λq hq=>⟨_,rfl,?_⟩) ?_
 ·show q (.int ((rs.map dO).length:Int))
  rw [aC];exact hq
 refine gL (λb=>b=decide ((rs.length:Int)=0)) (λq hq=>⟨_,rfl,hq _ rfl⟩) (λhT=>?_) λhF=>?_
 ·have h0:rs.length=0:=by have:=of_decide_eq_true hT.symm;omega
  have:rs=[]:=kZ.mp h0
  subst this
  have e01:L6 (prs [] []) (max 1 ([]:List Rw).length)=.tuple [.int 0,.int 1]:=by
   show L6 0 1=_
   unfold L6
   rw [Nat.gcd_zero_left];rfl
  rw [e01] at h
  exact ⟨aH rfl,h⟩
 ·try unfold jZ
  dsimp only
  have h0:¬ rs.length=0:=λz=>by have:=of_decide_eq_false hF.symm;omega
  have em:max 1 rs.length=rs.length:=by omega
  rw [em] at h
  have hpl:=DY rs rs
  have hp2:rs.length*rs.length<=60*60:=jT hrl hrl
  have hal:(mL an rs).length=an.length:=by unfold mL;rw [aC]
  have hcn:∀ c∈mL an rs,0<=c/\c<=(rs.length:Int):=λc hc=>by
   unfold mL at hc
   obtain ⟨a,_,rfl⟩:=bC.mp hc
   have:=W6 rs a
   omega
  show mB HH _ _ Q
  dsimp only [mB,qB,C8]
  refine jF (ts:=(mL an rs).map aX) (λR h=>⟨_,rfl,_,rfl,fs,an,rs,rfl,F,hok,hrl,_,rfl,h⟩) (TW rs.length) (by rw [aC,hal];omega) (λx q hx hq=>?_) ?_
  ·obtain ⟨c,hc,rfl⟩:=bC.mp hx
   have:=hcn c hc
   exact ⟨_,rfl,_,rfl,_,rfl,.inl ⟨by omega,by omega⟩,hq⟩
  ·have e:((mL an rs).map aX).map (TW rs.length)=((mL an rs).map λc=>c*((rs.length:Int)-c)).map aX:=by
    rw [bD,bD];rfl
   rw [e]
   refine ⟨_,rfl,λn hn=>?_,by rw [aC,hal];omega,?_⟩
   ·obtain ⟨c,hc,rfl⟩:=bC.mp hn
    have:=hcn c hc
    have h1:0<=c*((rs.length:Int)-c):=A8 (by omega) (by omega)
    have h2:c*((rs.length:Int)-c)<=60*60:=Int.mul_le_mul (by omega) (by omega) (by omega) (by decide)
    omega
   ·rw [O2 F.an.2.2 λr hr=>(hok r hr).2]
    exact ⟨_,rfl,_,_,rfl,by omega,nL (show prs rs rs<=3600 by omega) (by decide),nL (show rs.length<=60 from hrl) (by decide),h⟩

theorem aCt
  (F_3:bN P w K mg base dP 2 a_3 f_3 ["top","bottom"] (aS K HH)):bN P w K mg base dP 3 a_5 f_5 ["one","other"] (aS K YG):=by
 refine mS T.D_5.F YL (λds Q h=>by obtain ⟨x,y,rfl,hx,hy,h⟩:=h;rfl) λcdv Ar outer s H E hr ds Q h=>?_
 obtain ⟨x,y,rfl,hx,hy,h⟩:=h
 have nd:=YL.nd
 refine ⟨_,(bK (cR (cd F_3 T.D_3 hr (aA (bZ cH eV (bZ eB iZ (aW aQ bU (aG 0) aI) (aW aQ bU (aG 1) aI)) (bZ eB iZ (aW aQ bU (aG 1) aI) (aW aQ bU (aG 0) aI))) (aA (bZ eB iZ (aW aQ bU (aG 0) aI) (aW aQ bU (aG 1) aI)) aO))))),?_⟩
 show sB _ _ [.val (tS x),.val (tS y)]
 have x1:=hx.top
 have x2:=hx.bot
 have y1:=hy.top
 have y2:=hy.bot
 obtain ⟨h1,h2,h3⟩:=FG hx hy
 have big:(1000000000000:Nat)<2 ^ 190:=by decide +kernel
 have e:[aX ((x.1:Int)*(y.2:Int)+(y.1:Int)*(x.2:Int)),.int ((x.2:Int)*(y.2:Int))]=[.int ((x.1*y.2+y.1*x.2:Nat):Int),.int ((x.2*y.2:Nat):Int)]:=by
  rw [iG,cA,cA,cA]
 refine ⟨_,rfl,_,rfl,_,rfl,_,rfl,.inl ⟨by omega,by omega⟩,_,rfl,_,rfl,_,rfl,_,rfl,.inl ⟨by omega,by omega⟩,_,rfl,_,rfl,_,rfl,_,rfl,.inl ⟨by omega,by omega⟩,_,_,e,h3,by omega,by omega,h⟩

theorem aCr
  (F_4:bN P w K mg base dP 1 a_4 f_4 ["one","other"] (aS K U8)):bN P w K mg base dP 2 a_7 f_7 ["fractions"] (aS K YF):=by
 refine mS T.D_7.F YJ (λds Q h=>by obtain ⟨l,rfl,hl,h⟩:=h;rfl) λcdv Ar outer s H E hr ds Q h=>?_
 obtain ⟨l,rfl,hl,h⟩:=h
 have nd:=YJ.nd
 refine ⟨_,(aU (ss 1 nd aI)
 (aU (sf (gU (aG 0)) (eH (pn 2 nd))
 (bK (ss 1 nd (bZ mE oV (bZ eB iZ (aG 1) (aW aQ bU (aG 2) aI)) (cd F_4 T.D_4 hr (aA (aG 1) (aA (aW aQ bU (aG 2) aI) aO)))))))
 (bK (cR (aG 1))))),?_⟩
 show gZ _ _ _ [.val (.list (l.map tS)),.un,.un]
 refine cK (.int 1) (λq hq=>hq) ?_
 refine jM (ts:=l.map tS) (λR h=>⟨_,rfl,_,rfl,h⟩)
  (λk σ=>∃ s2:Sl,σ=[.val (.list (l.map tS)),.val (.int ((rN (l.take k):Nat):Int)),s2]) ⟨_,rfl⟩ (λk x σ' hx hP=>?_) λσ' hP=>?_
 ·obtain ⟨s2,rfl⟩:=hP
  rw [aJ] at hx
  obtain ⟨y,hy,rfl⟩:=iX.mp hx
  obtain ⟨y1,y2⟩:=hl y (bJ hy)
  have hg:(rN (l.take k)).gcd y.2<=y.2:=X3 y1 (oN _ _)
  have hg0:0<(rN (l.take k)).gcd y.2:=kC _ y1
  have eb:rN (l.take (k+1))=(rN (l.take k)).lcm y.2:=by
   unfold rN
   rw [cS,hy,NL];rfl
  refine oU (.int ((rN (l.take (k+1)):Nat):Int)) (λq hq=>⟨_,rfl,_,rfl,_,rfl,.inr ⟨by omega,by omega⟩,_,rfl,_,rfl,_,rfl,_,_,rfl,⟨by omega,by omega⟩,?_⟩) ⟨_,rfl⟩
  rw [eb] at hq
  have e2:((rN (l.take k):Nat):Int)*(y.2:Int) / (((rN (l.take k)).gcd y.2:Nat):Int)=(((rN (l.take k)).lcm y.2:Nat):Int):=by
   rw [<- cA,<- pM];rfl
  rw [e2];exact hq
 ·obtain ⟨s2,rfl⟩:=hP
  rw [aC,dW]
  exact ⟨_,rfl,h⟩

theorem aCp:bN P w K mg base dP 1 a_9 f_9 ["field"] (fV K YD):=by
 refine X0 T.D_9.F YH (λds Q h=>by obtain ⟨f,rfl,h2,h5,h⟩:=h;rfl) λcdv Ar outer s H E hr ds Q h=>?_
 obtain ⟨f,rfl,h2,h5,h⟩:=h
 have nd:=YH.nd
 refine ⟨_,(aU (ss 1 nd (aW aQ bU (aG 0) aI))
 (aU (ss 2 nd (aW aQ bU (aG 0) aI))
 (aU (ss 3 nd (CW (eS nV tP (cB jJ (aA (aG 2) aO) dH T.b_len gW) aI) (iO lE tO (aG 2) kM (iW aI)) (aG 2)))
 (aU (ss 4 nd (iO lE tO (aG 2) (iW aI) (iW (WW aI))))
 (bK (vB (WP (el (fr:=[none,some 1]) (N':=["value","name"]) (gU (aG 3)) (λb=>⟨(eH (pk 0)),iD,(eP (aA fH (aA (aG 1) (aA (aG 0) aO))))⟩)) (el (fr:=[none,some 1]) (N':=["value","name"]) (gU (aG 4)) (λb=>⟨(eH (pk 0)),iD,(eP (aA fH (aA (aG 1) (aA (aG 0) aO))))⟩))))))))),?_⟩
 show gZ _ _ _ [.val (jO f),.un,.un,.un,.un]
 refine cK (.str f.1) (λq hq=>⟨_,rfl,_,rfl,hq⟩) ?_
 refine cK (.tuple (f.2.map aR)) (λq hq=>⟨_,rfl,_,rfl,hq⟩) ?_
 refine cK (.tuple ((tL f).map aR)) (λq hq=>⟨_,rfl,?_⟩) ?_
 ·show (if decide (((f.2.map aR).length:Int)=2)=true then _ else _)
  unfold tL at hq
  rw [aC]
  by_cases e:f.2.length=2
  ·rw [if_pos (decide_eq_true (by omega))]
   rw [if_pos e] at hq
   refine ⟨_,rfl,?_⟩
   show q (.tuple (jP (f.2.map aR) none (some 1)))
   rw [nB,QK _ h2];exact hq
  ·rw [if_neg (by simpa using (by omega:¬ (f.2.length:Int)=2))]
   rw [if_neg e] at hq
   exact ⟨_,rfl,hq⟩
 refine cK (.tuple ((tM f).map aR)) (λq hq=>⟨_,rfl,?_⟩) ?_
 ·show q (.tuple (jP (f.2.map aR) (some 1) (some (-2))))
  rw [nB,QL _ h2];exact hq
 have s5:(tL f).length<=5:=by
  unfold tL
  split
  ·rw [bF];omega
  ·omega
 have m5:(tM f).length<=5:=by
  unfold tM
  rw [bF,cO];omega
 dsimp only [TN,UB]
 refine jF (ts:=(tL f).map aR) (λR h=>⟨_,rfl,_,rfl,h⟩) (λx=>.tuple [.str "is",.str f.1,x]) (by rw [aC];omega) (λx q hx hq=>⟨_,rfl,_,rfl,aH rfl,hq⟩) ?_
 refine jF (ts:=(tM f).map aR) (λR h=>⟨_,rfl,_,rfl,h⟩) (λx=>.tuple [.str "upto",.str f.1,x]) (by rw [aC];omega) (λx q hx hq=>⟨_,rfl,_,rfl,aH rfl,hq⟩) ?_
 refine ⟨_,_,rfl,rfl,by simp only [aC];omega,?_⟩
 rw [bD,bD]
 exact h

theorem aCq
  (F_9:bN P w K mg base dP 1 a_9 f_9 ["field"] (fV K YD)):bN P w K mg base dP 2 a_8 f_8 ["form"] (fV K YE):=by
 refine X0 T.D_8.F YI (λds Q h=>by obtain ⟨fs,an,rfl,F,h⟩:=h;rfl) λcdv Ar outer s H E hr ds Q h=>?_
 obtain ⟨fs,an,rfl,F,h⟩:=h
 have nd:=YI.nd
 refine ⟨_,(aU (so 1 nd aO)
 (aU (sf (gU (aW aQ bU (aG 0) aI)) (eH (pn 2 nd))
 (bK (FI (i:=1) (pv 1) (uJ (cF F_9 T.D_9 hr (aA (aG 2) aO))) (pb:=λh=>iV (iR bR yC yA GA (pv 1) h)))))
 (bK (tF (pv 1))))),?_⟩
 show gZ _ _ _ [.val (eL fs an),.un,.un]
 have n5:=F.n5
 refine kK [] (by decide) (λq hq=>hq) ?_
 refine jM (ts:=fs.map jO) (λR h=>⟨_,rfl,_,rfl,_,rfl,h⟩)
  (λk σ=>∃ s2:Sl,σ=[.val (eL fs an),.own (fK (fs.take k)),s2]) ⟨_,rfl⟩ (λk x σ' hx hP=>?_) λσ' hP=>?_
 ·obtain ⟨s2,rfl⟩:=hP
  rw [aJ] at hx
  obtain ⟨f,hfk,rfl⟩:=iX.mp hx
  have hf:f∈fs:=bJ hfk
  obtain ⟨v2,v5,hvv⟩:=F.vs f hf
  have hcl:=mM F (fs.take k) λg hg=>dS hg
  have hkl:(fs.take k).length<=5:=by rw [bF];omega
  have hql:(DW f).length<=10:=by
   unfold DW tL tM
   rw [bA,aC,aC,bF,cO]
   split
   ·rw [bF];omega
   ·omega
  refine B7 (ts:=fK (fs.take k)) (us:=DW f) rfl (by omega) (λq hq=>⟨_,rfl,f,rfl,v2,v5,hq⟩) ⟨.val (jO f),?_⟩
  have e:fK (fs.take (k+1))=fK (fs.take k)++DW f:=by
   unfold fK
   rw [cS,hfk,bQ,List.flatten_append]
   show _++[DW f].flatten=_
   rw [List.flatten_singleton]
  rw [e];rfl
 ·obtain ⟨s2,rfl⟩:=hP
  rw [aC,dW]
  exact ⟨_,rfl,h⟩

theorem aAe
  (F_8:bN P w K mg base dP 2 a_8 f_8 ["form"] (fV K YE)):bN P w K mg base dP 3 a_10 f_10 ["form"] (aS K RY):=by
 refine mS T.D_10.F TM (λds Q h=>by obtain ⟨fs,an,rfl,F,h⟩:=h;rfl) λcdv Ar outer s H E hr ds Q h=>?_
 obtain ⟨fs,an,rfl,F,h⟩:=h
 have nd:=TM.nd
 refine ⟨_,(aU (so 1 nd aO)
 (aU (sf (gU (uJ (cF F_8 T.D_8 hr (aA (aG 0) aO)))) (eH (pn 2 nd))
 (bK (FI (i:=1) (pv 1) (el (fr:=[none,some 2]) (N':=["stray","question"]) (gU (GJ rfl T.c_SIDES T.t_SIDES)) (λb=>⟨(eH (pk 0)),iD,(eP (aA (aG 1) (aA (aG 0) aO)))⟩)) (pb:=λh=>iV (iR bR yC yA GA (pv 1) h)))))
 (kJ 1 (bK (cR (aG 1)))))),?_⟩
 show gZ _ _ _ [.val (eL fs an),.un,.un]
 have n5:=F.n5
 have hcl:=mM F fs λg hg=>hg
 have hql:(qs fs).length=(fK fs).length:=by rw [<- AB,aC]
 refine kK [] (by decide) (λq hq=>hq) ?_
 refine jM (ts:=(qs fs).map qD) (λR h=>⟨_,rfl,fs,an,rfl,F,_,rfl,by rw [<- AB];exact h⟩)
  (λk σ=>∃ s2:Sl,σ=[.val (eL fs an),.own ((((qs fs).take k).flatMap KA).map W7),s2]) ⟨_,rfl⟩ (λk x σ' hx hP=>?_) λσ' hP=>?_
 ·obtain ⟨s2,rfl⟩:=hP
  rw [aJ] at hx
  obtain ⟨q,hqk,rfl⟩:=iX.mp hx
  have hlen:((((qs fs).take k).flatMap KA).map W7).length=2*((qs fs).take k).length:=by
   rw [aC]
   generalize (qs fs).take k=l
   induction l with
   | nil=>rfl
   | cons x l ih=>rw [NM,bA,ih,bI];show 2+_=_;omega
  have hk2:((qs fs).take k).length<=50:=by rw [bF];omega
  refine B7 (us:=[W7 (q,"yes"),W7 (q,"no")]) rfl (by rw [hlen];show _+2<=_;omega) (λr hr=>?_) ⟨.val (qD q),?_⟩
  ·refine jF (ts:=[.str "yes",.str "no"]) (λR h=>⟨_,rfl,h⟩) (λx=>.tuple [qD q,x]) (by decide) (λx r' hx hr'=>⟨_,rfl,_,rfl,(aH rfl),hr'⟩) hr
  ·rw [cS,hqk]
   show _=[_,Sl.own (((((qs fs).take k)++[q]).flatMap KA).map W7),_]
   rw [List.flatMap_append,bQ];rfl
 ·obtain ⟨s2,rfl⟩:=hP
  rw [aC,dW]
  exact ⟨_,rfl,_,rfl,h⟩

theorem aAa:bN P w K mg base dP 1 a_14 f_14 ["question","field"] (aS K RV):=by
 refine mS T.D_14.F TF (λds Q h=>by obtain ⟨k,n,v,f,rfl,hn,hv,hl,h⟩:=h;rfl) λcdv Ar outer s H E hr ds Q h=>?_
 obtain ⟨k,n,v,f,rfl,hn,hv,hl,h⟩:=h
 have nd:=TF.nd
 refine ⟨_,(aU (hV (eS nV tP (aW aQ bU (aG 0) aI) fH)
 (bK (cR (eP (aA (aW aQ bU (aG 0) aI) aO))))
 gD)
 (bK (cR (iO lE tO (aW aQ bU (aG 1) aI) kM (iW (bZ cH eV (nY (aW aQ bU (aG 1) aI) (aA (aW aQ bU (aG 0) aI) aO) (λh ha=>iR fY fX fW (nX hr) h ha)) aI)))))),?_⟩
 show gZ _ _ _ [.val (.tuple [.str k,.str n,.str v]),.val (jO f)]
 unfold wQ at h
 refine gL (λb=>b=decide (k="is")) (λq hq=>⟨_,rfl,_,rfl,hq _ rfl⟩) (λhT=>?_) λhF=>?_
 ·rw [if_pos (of_decide_eq_true hT.symm)] at h
  exact ⟨_,rfl,_,rfl,aH rfl,h⟩
 ·try unfold jZ
  dsimp only
  rw [if_neg (of_decide_eq_false hF.symm)] at h
  refine ⟨_,rfl,_,rfl,_,rfl,_,rfl,_,rfl,_,rfl,_,rfl,_,_,rfl,lF hn hv,?_⟩
  show Q (.tuple (jP (f.2.map aR) none (some ((f.2.idxOf v:Int)+1))))
  have e:((f.2.idxOf v:Nat):Int)+1=((f.2.idxOf v+1:Nat):Int):=rfl
  rw [e,nB,pA];exact h

theorem aAc:bN P w K mg base dP 1 a_12 f_12 ["form","question"] (aS K RX):=by
 refine mS T.D_12.F TJ (λds Q h=>by obtain ⟨fs,an,k,n,v,f0,j,rfl,F,hj,hfn,h⟩:=h;rfl) λcdv Ar outer s H E hr ds Q h=>?_
 obtain ⟨fs,an,k,n,v,f0,j,rfl,F,hj,hfn,h⟩:=h
 have nd:=TJ.nd
 refine ⟨_,(bK (cR (tW (el (fr:=[none]) (N':=["field"]) (gU (aW aQ bU (aG 0) aI)) (λb=>⟨(eH (pk 0)),iD,(aW aQ bU (aG 0) aI)⟩)) (aA (aW aQ bU (aG 1) aI) aO) (λh ha=>iR bR oG oF (tQ hr) h ha)))),?_⟩
 have n5:=F.n5
 have hjl:=(aD.mp hj).1
 have ej:(fs.map (·.1)).idxOf n=j:=by rw [<- hfn];exact AK F hj
 have hnm:n∈fs.map (·.1):=bC.mpr ⟨f0,bJ hj,hfn⟩
 show AY _ _ _ Q
 dsimp only [AY]
 refine jF (ts:=fs.map jO) (λR h=>⟨_,rfl,_,rfl,_,rfl,h⟩) fst (by rw [aC];omega) (λx q hx hq=>?_) ?_
 ·obtain ⟨f,hf,rfl⟩:=bC.mp hx
  exact ⟨_,rfl,_,rfl,hq⟩
 ·have e:(fs.map jO).map fst=(fs.map (·.1)).map aR:=by rw [bD,bD];rfl
  rw [e]
  have:=lF F.nd.2.1 hnm
  rw [ej] at this
  exact ⟨_,rfl,_,rfl,_,rfl,_,j,rfl,this,by omega,h⟩

theorem aAb
  (F_14:bN P w K mg base dP 1 a_14 f_14 ["question","field"] (aS K RV)):bN P w K mg base dP 2 a_13 f_13 ["question","stray","field"] (aS K RW):=by
 refine mS T.D_13.F TH (λds Q h=>by obtain ⟨k,n,v,st,f,rfl,hn,hv,hl,h⟩:=h;rfl) λcdv Ar outer s H E hr ds Q h=>?_
 obtain ⟨k,n,v,st,f,rfl,hn,hv,hl,h⟩:=h
 have nd:=TH.nd
 refine ⟨_,(bK (cR (bZ cH eV (cd F_14 T.D_14 hr (aA (aG 0) (aA (aG 2) aO))) (CW (eS nV tP (aG 1) fH) (eP (aA lU aO)) (eP aO))))),?_⟩
 have hhl:=MQ (k:=k) (v:=v) hl
 refine ⟨_,rfl,_,rfl,k,n,v,f,rfl,hn,hv,hl,_,rfl,?_⟩
 unfold qW at h
 show (if decide (st="yes")=true then _ else _)
 by_cases e:st="yes"
 ·rw [if_pos (decide_eq_true e)]
  rw [if_pos e] at h
  exact ⟨aH rfl,by rw [aC];show _+1<=_;omega,h⟩
 ·rw [if_neg (by simpa using e)]
  rw [if_neg e] at h
  exact ⟨aH rfl,by rw [aC];show _+0<=_;omega,h⟩

theorem aAd
  (F_13:bN P w K mg base dP 2 a_13 f_13 ["question","stray","field"] (aS K RW))
  (F_12:bN P w K mg base dP 1 a_12 f_12 ["form","question"] (aS K RX)):bN P w K mg base dP 3 a_11 f_11 ["form","question","stray","case"] (aS K KQ):=by
 refine mS T.D_11.F TK (λds Q h=>by obtain ⟨fs,an,k,n,v,st,cs,rfl,F,hq,hst,hc,h⟩:=h;rfl) λcdv Ar outer s H E hr ds Q h=>?_
 obtain ⟨fs,an,k,n,v,st,cs,rfl,F,hq,hst,hc,h⟩:=h
 have nd:=TK.nd
 refine ⟨_,(aU (ss 4 nd (cd F_12 T.D_12 hr (aA (aG 0) (aA (aG 1) aO))))
 (bK (cR (CW (eS (VX hr) aAh (aW aQ bU (aG 3) (aG 4)) (cd F_13 T.D_13 hr (aA (aG 1) (aA (aG 2) (aA (aW aQ bU (aW aQ bU (aG 0) aI) (aG 4)) aO))))) fH fH)))),?_⟩
 show gZ _ _ _ [.val (eL fs an),.val (.tuple [.str k,.str n,.str v]),.val (.str st),.val (.tuple cs),.un]
 obtain ⟨hcl,hcv⟩:=oA hc
 obtain ⟨f0,hf0,hfn,hv0,hk0⟩:=sM hq
 obtain ⟨j,hj⟩:=dI hf0
 have hjl:=(aD.mp hj).1
 have hcj:cs[j]?=some cs[j]:=aB (by omega)
 generalize hcc:cs[j]=c at hcj
 have hca:L2.atI cs (j:Int)=some c:=L2.eK hcj
 have hfa:L2.atI (fs.map jO) (j:Int)=some (jO f0):=L2.eK (by rw [aJ,hj];rfl)
 have hok:=hcv j f0 c hj hcj
 rw [sA F hj hcj hfn] at h
 have hcd:Cd c:=by
  cases c with
  | none=>exact (zT (n:=8) (m:=0)).cd (by decide)
  | str z=>exact (jE (F.vals hf0 z (of_decide_eq_true hok)) (n:=8) (m:=0) (aL _)).cd (by decide)
  | _=>cases hok
 refine cK (.int (j:Int)) (λq hq=>⟨_,rfl,_,rfl,fs,an,k,n,v,f0,j,rfl,F,hj,hfn,hq⟩) ?_
 refine ⟨_,rfl,_,rfl,_,hca,_,rfl,_,rfl,_,rfl,_,rfl,_,rfl,_,hfa,k,n,v,st,f0,rfl,F.vals hf0,hv0,(F.vs f0 hf0).2.1,MX (LM (F.vals hf0) hv0 hcd) ?_⟩
 rw [<- ML hst hok] at h
 show (if GH c (.tuple (qW k v st f0))=true then _ else _)
 cases hb:GH c (.tuple (qW k v st f0)) with
 | true=>rw [if_pos rfl];rw [hb,if_pos rfl] at h;exact h
 | false=>rw [if_neg (by decide)];rw [hb,if_neg (by decide)] at h;exact h

theorem Z8:bN P w K mg base dP 1 a_16 f_16 ["side","sides"] (fV K RU):=by
 refine X0 T.D_16.F TB (λds Q h=>by obtain ⟨w,ss,rfl,hl,h⟩:=h;rfl) λcdv Ar outer s H E hr ds Q h=>?_
 obtain ⟨w,ss,rfl,hl,h⟩:=h
 have nd:=TB.nd
 refine ⟨_,(bK (vB (fl (fr:=[none,none,some 0]) (N':=["number","found","side"]) (P4 (aA (aG 1) aO) (λh=>O9 rfl T.b_enumerate h)) (λb=>⟨(AU (AE rfl (kL (pk 0) (kL (pk 1) vC)))),(MN (eS nV tP (aG 1) (aG 2))),(aG 0)⟩)))),?_⟩
 rw [<- CZ] at h
 refine MW (L8 (ts:=uL (ss.map aR)) (λR h=>⟨_,rfl,_,rfl,h⟩) (onW w) MV (by rw [nZ,aC];omega) (λx hx=>?_) (λa b q hm hq=>?_) (λa b q hm hq=>?_) h)
 ·rw [zF] at hx
  obtain ⟨y,_,rfl⟩:=bC.mp hx
  exact ⟨_,_,rfl⟩
 ·obtain ⟨i,hi⟩:=dI hm
  have hil:=(aD.mp hi).1
  rw [nZ,aC] at hil
  rw [tX (a:=.str ss[i]) (by rw [aJ,aB hil];rfl)] at hi
  cases hi
  exact ⟨_,rfl,_,rfl,hq⟩
 ·exact ⟨_,rfl,hq⟩

theorem Z9
  (F_16:bN P w K mg base dP 1 a_16 f_16 ["side","sides"] (fV K RU))
  (F_11:bN P w K mg base dP 3 a_11 f_11 ["form","question","stray","case"] (aS K KQ)):bN P w K mg base dP 4 a_15 f_15 ["form","question","stray","rows"] (lJ K BZ):=by
 refine fnP T.D_15.F TD (λds Q h=>by obtain ⟨fs,an,k,n,v,st,rs,rfl,F,hq,hst,hok,hrl,h⟩:=h;rfl) λcdv Ar outer s H E hr ds Q h=>?_
 obtain ⟨fs,an,k,n,v,st,rs,rfl,F,hq,hst,hok,hrl,h⟩:=h
 have nd:=TD.nd
 refine ⟨_,(aU (nT (i:=4) (fr:=[none,some 0,some 1,some 2]) (N':=["row","form","question","stray"]) (gU (aG 3)) (λb=>⟨(eH (pk 0)),iD,(cd F_11 T.D_11 hr (aA (aG 1) (aA (aG 2) (aA (aG 3) (aA (aW aQ bU (aG 0) aI) aO)))))⟩) (λhi hY=>mG (show pH _ (aY (top 18)) ["form","question","stray","rows","sides"] ["row","form","question","stray"] [none,some 0,some 1,some 2]=true from by decide +kernel) nd rfl (by first | exact Or.inl rfl | exact Or.inr rfl) rfl hi hY rfl))
 (bK (BU (cF F_16 T.D_16 hr (aA fH (aA (aG 4) aO))) (cF F_16 T.D_16 hr (aA fH (aA (aG 4) aO)))))),?_⟩
 show gZ _ _ _ [.val (eL fs an),.val (.tuple [.str k,.str n,.str v]),.val (.str st),.val (.list (rs.map dO)),.un]
 have e:(rs.map dO).map (sdD fs k n v st)=(rs.map λr=>eQ fs k n v st r.1).map aR:=by rw [bD,bD];rfl
 refine cK (.list ((rs.map λr=>eQ fs k n v st r.1).map aR)) (λq hq'=>?_) ?_
 ·refine jF (ts:=rs.map dO) (λR h=>⟨_,rfl,_,rfl,h⟩) (sdD fs k n v st) (by rw [aC];omega) (λx q hx hq'=>?_) ?_
  ·obtain ⟨r,hr,rfl⟩:=bC.mp hx
   exact ⟨_,rfl,_,rfl,_,rfl,_,rfl,_,rfl,fs,an,k,n,v,st,r.1,rfl,F,hq,hst,(hok r hr).1,hq'⟩
  ·rw [e];exact hq'
 rw [<- FQ,<- FQ] at h
 exact ⟨_,rfl,"yes",_,rfl,by rw [aC];exact hrl,_,rfl,"no",_,rfl,by rw [aC];exact hrl,h⟩

theorem Z7:bN P w K mg base dP 1 a_17 f_17 ["sides","fewest"] (aS K RT):=by
 refine mS T.D_17.F S9 (λds Q h=>by obtain ⟨as,bs,m,rfl,h⟩:=h;rfl) λcdv Ar outer s H E hr ds Q h=>?_
 obtain ⟨as,bs,m,rfl,h⟩:=h
 have nd:=S9.nd
 refine ⟨_,(bK (cR (WX (wS TZ AJ (cB jJ (aA (aW aQ bU (aG 0) aI) aO) dH T.b_len gW) (aG 1)) (WV (wS TZ AJ (cB jJ (aA (aW aQ bU (aG 0) aI) aO) dH T.b_len gW) (aG 1)))))),?_⟩
 show sB _ _ [.val (.tuple [.list as,.list bs]),.val (.int m)]
 refine ⟨_,rfl,_,rfl,_,rfl,?_⟩
 show (if decide (m<=(as.length:Int))=true then _ else _)
 cases e:decide (m<=(as.length:Int)) with
 | false =>
  rw [if_neg (by decide)]
  rw [e] at h;exact h
 | true =>
  rw [if_pos rfl]
  rw [e] at h
  exact ⟨_,rfl,_,rfl,_,rfl,h⟩

theorem Z5:bN P w K mg base dP 1 a_19 f_19 ["rows","numbers"] (aS K BY):=by
 refine mS T.D_19.F S7 (λds Q h=>by obtain ⟨fs,k,n,v,st,w,rs,rfl,hl,h⟩:=h;rfl) λcdv Ar outer s H E hr ds Q h=>?_
 obtain ⟨fs,k,n,v,st,w,rs,rfl,hl,h⟩:=h
 have nd:=S7.nd
 refine ⟨_,(bK (cR (el (fr:=[none,some 0]) (N':=["number","rows"]) (gU (aG 1)) (λb=>⟨(eH (pk 0)),iD,(aW aQ bU (aG 1) (aG 0))⟩)))),?_⟩
 show sB _ _ [.val (.list (rs.map dO)),.val (.list (fP fs k n v st rs w))]
 have hz:(fP fs k n v st rs w).length<=60:=by
  unfold fP
  have:=bV (pV fs k n v st rs w) (dX rs.length)
  rw [eZ] at this
  omega
 refine jF (ts:=fP fs k n v st rs w) (λR h=>⟨_,rfl,_,rfl,h⟩) (vZ rs) (by omega) (λx q hx hq=>?_) ?_
 ·obtain ⟨j,hj,rfl⟩:=bC.mp (cU.mp hx).1
  have hj':j<rs.length:=by simpa using hj
  have hat:L2.atI (rs.map dO) (j:Int)=some (dO rs[j]):=L2.eK (by rw [aJ,aB hj'];rfl)
  have hr:vZ rs (.int (j:Int))=dO rs[j]:=by
   show (match L2.atI rs (j:Int) with | some r=>dO r | none=>.none)=_
   rw [L2.eK (aB hj')]
  rw [hr] at hq
  exact ⟨_,rfl,_,rfl,_,hat,hq⟩
 ·rw [vI fs k n v st w rs.length rs rfl]
  exact h

theorem Z6
  (F_5:bN P w K mg base dP 3 a_5 f_5 ["one","other"] (aS K YG))
  (F_10:bN P w K mg base dP 3 a_10 f_10 ["form"] (aS K RY))
  (F_7:bN P w K mg base dP 2 a_7 f_7 ["fractions"] (aS K YF))
  (F_2:bN P w K mg base dP 3 a_2 f_2 ["form","rows"] (aS K U9))
  (F_17:bN P w K mg base dP 1 a_17 f_17 ["sides","fewest"] (aS K RT))
  (F_15:bN P w K mg base dP 4 a_15 f_15 ["form","question","stray","rows"] (lJ K BZ))
  (F_19:bN P w K mg base dP 1 a_19 f_19 ["rows","numbers"] (aS K BY)):bN P w K mg base dP 6 a_18 f_18 ["form","rows","least"] (fV K RS):=by
 refine fnL T.L_18 T.D_18.F S8 (λds Q h=>by obtain ⟨fs,an,rs,m,rfl,F,hrs,hl,h⟩:=h;rfl) λcdv lc Ar outer s H E hr ds Q h=>?_
 obtain ⟨fs,an,rs,m,rfl,F,hrs,hl,h⟩:=h
 have nd:=S8.nd
 refine ⟨_,(aU (so 3 nd aO)
 (aU (sf (gU (cd F_10 T.D_10 hr (aA (aG 0) aO))) (AU (AE rfl (kL (pn 4 nd) (kL (pn 5 nd) vC))))
 (aU (ss 6 nd (MZ (cQ F_15 T.D_15 hr (aA (aG 0) (aA (aG 4) (aA (aG 5) (aA (aG 1) aO)))))))
 (bK (hV (tv (cd F_17 T.D_17 hr (aA (aG 6) (aA (aG 2) aO))))
 (aU (nT (i:=7) (fr:=[none,some 0,some 1]) (N':=["numbers","form","rows"]) (gU (aG 6)) (λb=>⟨(eH (pk 0)),iD,(cd F_2 T.D_2 hr (aA (aG 1) (aA (cd F_19 T.D_19 hr (aA (aG 2) (aA (aG 0) aO))) aO)))⟩) (λhi hY=>mG (show pH _ (aY (top 22)) ["form","rows","least","told","question","stray","sides","doubts","bottom"] ["numbers","form","rows"] [none,some 0,some 1]=true from by decide +kernel) nd rfl (by first | exact Or.inl rfl | exact Or.inr rfl) rfl hi hY rfl))
 (bK (lR (i:=3) (pv 3) (eP (aA (aG 4) (aA (aG 5) (aA (cd F_5 T.D_5 hr (aA (aW aQ bU (aG 7) aI) (aA (aW aQ bU (aG 7) aI) aO))) aO)))) (pb:=λh=>iV (iR bR cX cW gT (pv 3) h)))))
 gD))))
 (kJ 3 (aU (ss 8 nd (cd F_7 T.D_7 hr (aA (el (fr:=[none,none,none]) (N':=["question","stray","doubt"]) (gU (aG 3)) (λb=>⟨(IR (AE rfl (kL (pk 0) (kL (pk 1) (kL (pk 2) vC))))),iD,(aG 2)⟩)) aO)))
 (bK (vB (MU (k:=0) (ib:=8) (hr.mono (by omega)) lc rfl rfl rfl rfl T.b_sorted JB (aA (aG 3) aO)))))))),?_⟩
 show gZ _ _ _ [.val (eL fs an),.val (.list (rs.map dO)),.val (.int m),.un,.un,.un,.un,.un,.un]
 have hcl:=C3 F rs m
 have hchs:(chs fs).length<=100:=by
  have h1:=mM F fs λg hg=>hg
  have n5:=F.n5
  rw [GV];omega
 refine kK [] (by decide) (λq hq=>hq) ?_
 refine jM (ts:=(chs fs).map W7) (λR h=>⟨_,rfl,fs,an,rfl,F,_,rfl,h⟩)
  (λk σ=>∃ s4 s5 s6 s7:Sl,σ=[.val (eL fs an),.val (.list (rs.map dO)),.val (.int m),.own ((((chs fs).take k).filter (okC fs rs m)).map (C0 fs rs)),s4,s5,s6,s7,.un]) ⟨_,_,_,_,rfl⟩ (λk x σ' hx hP=>?_) λσ' hP=>?_
 ·obtain ⟨s4,s5,s6,s7,rfl⟩:=hP
  rw [aJ] at hx
  obtain ⟨c,hck,rfl⟩:=iX.mp hx
  have hc:=bJ hck
  obtain ⟨hq,hs⟩:=tZ hc
  have hq':=tK hq
  have lenY:(fP fs c.1.1 c.1.2.1 c.1.2.2 c.2 rs "yes").length=(yR fs c rs).length:=by
   have:=congrArg lA (vI fs c.1.1 c.1.2.1 c.1.2.2 c.2 "yes" rs.length rs rfl)
   rw [aC,aC] at this
   exact this
  have lenN:(fP fs c.1.1 c.1.2.1 c.1.2.2 c.2 rs "no").length=(nR fs c rs).length:=by
   have:=congrArg lA (vI fs c.1.1 c.1.2.1 c.1.2.2 c.2 "no" rs.length rs rfl)
   rw [aC,aC,vE F hq' hs hrs] at this
   exact this
  have et:((chs fs).take (k+1)).filter (okC fs rs m)=((chs fs).take k).filter (okC fs rs m)++(if okC fs rs m c=true then [c] else []):=by
   rw [cS,hck,gB]
   congr 1
   show List.filter _ [c]=_
   rw [cM];rfl
  have hlk:((((chs fs).take k).filter (okC fs rs m)).map (C0 fs rs)).length<=100:=by
   rw [aC]
   exact bO (bV _ _) (by rw [bF];omega)
  refine ⟨qD c.1,.str c.2,rfl,?_⟩
  dsimp only
  refine cK (.tuple [.list (fP fs c.1.1 c.1.2.1 c.1.2.2 c.2 rs "yes"),.list (fP fs c.1.1 c.1.2.1 c.1.2.2 c.2 rs "no")]) (λq hq2=>⟨_,rfl,_,rfl,_,rfl,_,rfl,fs,an,c.1.1,c.1.2.1,c.1.2.2,c.2,rs,rfl,F,hq',hs,hrs,hl,hq2⟩) ?_
  refine nG (λb=>b=okC fs rs m c) (λq hq2=>⟨_,rfl,_,rfl,_,_,m,rfl,?_⟩) (λhT=>?_) λhF=>?_
  ·refine hq2 _ ?_
   rw [lenY,lenN];rfl
  ·refine cK (.list [tS (dbt (yR fs c rs)),tS (dbt (nR fs c rs))]) (λq hq2=>?_) ?_
   ·refine wM (ts:=[.list (fP fs c.1.1 c.1.2.1 c.1.2.2 c.2 rs "yes"),.list (fP fs c.1.1 c.1.2.1 c.1.2.2 c.2 rs "no")]) (λR h=>⟨_,rfl,_,rfl,h⟩) (λi _ y=>(i=0->y=tS (dbt (yR fs c rs)))/\(i=1->y=tS (dbt (nR fs c rs)))) (aH rfl) (λi x q hx hq3=>?_) λys hyl hy=>?_
    ·have hi:i<2:=(aD.mp hx).1
     rcases (show i=0\/i=1 by omega) with rfl | rfl
     ·cases hx
      exact ⟨_,rfl,_,rfl,_,rfl,fs,c.1.1,c.1.2.1,c.1.2.2,c.2,"yes",rs,rfl,hl,fs,an,_,rfl,F,hrs.filt _,bO (bV _ _) hl,hq3 _ ⟨λ_=>rfl,λz=>by cases z⟩⟩
     ·cases hx
      refine ⟨_,rfl,_,rfl,_,rfl,fs,c.1.1,c.1.2.1,c.1.2.2,c.2,"no",rs,rfl,hl,?_⟩
      rw [vE F hq' hs hrs]
      exact ⟨fs,an,_,rfl,F,hrs.filt _,bO (bV _ _) hl,hq3 _ ⟨(λz=>by cases z),λ_=>rfl⟩⟩
    ·match ys,hyl,hy with
     | [a,b],_,hy =>
      have h0:=(hy 0 _ a rfl rfl).1 rfl
      have h1:=(hy 1 _ b rfl rfl).2 rfl
      rw [h0,h1]
      exact hq2
   ·have hy60:(yR fs c rs).length<=60:=bO (bV _ _) hl
    have hn60:(nR fs c rs).length<=60:=bO (bV _ _) hl
    refine mW (C0 fs rs c) rfl (by omega) (λq hq2=>⟨_,rfl,_,rfl,_,rfl,_,rfl,_,rfl,_,rfl,_,_,rfl,sO hy60,sO hn60,(aH rfl),hq2⟩) ⟨.val (qD c.1),.val (.str c.2),.val (.tuple [.list (fP fs c.1.1 c.1.2.1 c.1.2.2 c.2 rs "yes"),.list (fP fs c.1.1 c.1.2.1 c.1.2.2 c.2 rs "no")]),.val (.list [tS (dbt (yR fs c rs)),tS (dbt (nR fs c rs))]),?_⟩
    rw [et,if_pos hT.symm,bQ];rfl
  ·try unfold jZ
   dsimp only
   refine ⟨.val (qD c.1),.val (.str c.2),.val (.tuple [.list (fP fs c.1.1 c.1.2.1 c.1.2.2 c.2 rs "yes"),.list (fP fs c.1.1 c.1.2.1 c.1.2.2 c.2 rs "no")]),s7,?_⟩
   rw [et,if_neg (by rw [<- hF];decide),dY];rfl
 ·obtain ⟨s4,s5,s6,s7,rfl⟩:=hP
  rw [aC,dW]
  refine ⟨_,rfl,?_⟩
  show gZ _ _ _ [.val (eL fs an),.val (.list (rs.map dO)),.val (.int m),.val (.list (wU fs rs m)),s4,s5,s6,s7,.un]
  have hds:∀ x∈JS fs rs m,0<x.2/\x.2<=1000000:=λx hx=>by
   obtain ⟨c,_,rfl⟩:=bC.mp hx
   have:=oZ (fs:=fs) hl c
   exact ⟨this.pos,bO this.bot (by decide)⟩
  refine cK (.int (rN (JS fs rs m):Nat)) (λq hq=>?_) ?_
  ·dsimp only [mB,qB,C8]
   refine PV (ts:=wU fs rs m) (λR h=>⟨_,rfl,_,rfl,h⟩) (λx=>match x with | .tuple [_,_,d]=>d | _=>.none) (by rw [pZ];omega) (λx hx=>?_) (λa b c q' hm hq'=>⟨_,rfl,hq'⟩) ?_
   ·obtain ⟨c,_,rfl⟩:=bC.mp hx
    exact ⟨_,_,_,rfl⟩
   ·have e:(wU fs rs m).map (λx=>match x with | .tuple [_,_,d]=>d | _=>.none)=(JS fs rs m).map tS:=by
     unfold wU JS
     rw [bD,bD];rfl
    rw [e]
    exact ⟨_,rfl,hds,hq⟩
  ·refine ⟨_,rfl,wU fs rs m,(rN (JS fs rs m):Nat),wN fs rs m,rfl,by rw [pZ];omega,rfl,by rw [pZ,MF],λi e k he hk=>?_,λJ hJ=>?_⟩
   ·have hi:i<(cand fs rs m).length:=by rw [<- pZ];exact (aD.mp he).1
    have e1:=GL (fs:=fs) (R:=rs) (m:=m) hi
    rw [cI,he] at e1
    have e2:=AR (fs:=fs) (R:=rs) (m:=m) hi
    rw [cI,hk] at e2
    have sm:=oZ (fs:=fs) hl (cand fs rs m)[i]
    have s1:=sm.top
    have s2:=sm.pos
    have s3:=sm.bot
    exact ⟨_,_,_,_,e1,⟨by omega,by omega⟩,.inl ⟨by omega,by omega⟩,e2⟩
   ·rw [pZ] at hJ
    exact h J hJ

theorem aCs:bN P w K mg base dP 1 a_6 f_6 ["one","other"] (aS K U7):=by
 refine mS T.D_6.F YK (λds Q h=>by obtain ⟨x,y,rfl,hx,hy,h⟩:=h;rfl) λcdv Ar outer s H E hr ds Q h=>?_
 obtain ⟨x,y,rfl,hx,hy,h⟩:=h
 have nd:=YK.nd
 refine ⟨_,(bK (cR (wS TY AJ (bZ eB iZ (aW aQ bU (aG 0) aI) (aW aQ bU (aG 1) aI)) (bZ eB iZ (aW aQ bU (aG 1) aI) (aW aQ bU (aG 0) aI))))),?_⟩
 show sB _ _ [.val (tS x),.val (tS y)]
 refine ⟨_,rfl,_,rfl,_,rfl,_,rfl,.inl ⟨by omega,by omega⟩,_,rfl,_,rfl,_,rfl,_,rfl,.inl ⟨by omega,by omega⟩,?_⟩
 show Q (.bool (decide ((x.1:Int)*(y.2:Int)<(y.1:Int)*(x.2:Int))))
 have e:decide ((x.1:Int)*(y.2:Int)<(y.1:Int)*(x.2:Int))=decide (x.1*y.2<y.1*x.2):=by
  rw [decide_eq_decide,<- cA,<- cA];omega
 rw [e];exact h

theorem Z4
  (F_2:bN P w K mg base dP 3 a_2 f_2 ["form","rows"] (aS K U9))
  (F_6:bN P w K mg base dP 1 a_6 f_6 ["one","other"] (aS K U7))
  (F_18:bN P w K mg base dP 6 a_18 f_18 ["form","rows","least"] (fV K RS)):bN P w K mg base dP 7 a_20 f_20 ["form","rows","least"] (aS K FO):=by
 refine mS T.D_20.F S3 (λds Q h=>by obtain ⟨fs,an,rs,m,rfl,F,hrs,hl,h⟩:=h;rfl) λcdv Ar outer s H E hr ds Q h=>?_
 obtain ⟨fs,an,rs,m,rfl,F,hrs,hl,h⟩:=h
 have nd:=S3.nd
 refine ⟨_,(aU (ss 3 nd (uJ (cF F_18 T.D_18 hr (aA (aG 0) (aA (aG 1) (aA (aG 2) aO))))))
 (aU (hV (vS (UR (HC (aG 3) (λh=>K4 h (λ_=>rfl))) (N3 (tv (cd F_6 T.D_6 hr (aA (aW aQ bU (aW aQ bU (aG 3) aI) aI) (aA (cd F_2 T.D_2 hr (aA (aG 0) (aA (aG 1) aO))) aO)))))))
 (bK (cR (aW aQ bU (aG 3) aI)))
 gD)
 (bK (cR lU)))),?_⟩
 show gZ _ _ _ [.val (eL fs an),.val (.list (rs.map dO)),.val (.int m),.un]
 have hcl:=C3 F rs m
 have dsm:∀ c:Ch,(dC fs rs c).1<=1000000:=λc=>bO (oZ (fs:=fs) hl c).top (by decide)
 have dbm:(dbt rs).1<=1000000:=bO (sO hl).top (by decide)
 have at0:∀ {i:Nat} {J:List Nat},Rkd fs rs m (i::J)->∃ c,JT fs rs (cand fs rs m)=some c/\L2.atI (VU fs rs m (i::J)) 0=some (C0 fs rs c):=λ{i J} hJ=>by
  refine ⟨_,M9 hl hJ,?_⟩
  refine L2.eK (j:=0) ?_
  show some ((wU fs rs m).getD i .none)=_
  rw [GL (hJ.lt i (aM ..))]
 have opt:∀ c,JT fs rs (cand fs rs m)=some c->iE fs rs m=if pG (dC fs rs c) (dbt rs)=true then some c else none:=λc hc=>by
  unfold iE;rw [hc];rfl
 refine gE (λv=>∃ J,Rkd fs rs m J/\v=.list (VU fs rs m J)) (λq hq=>⟨_,rfl,_,rfl,_,rfl,fs,an,rs,m,rfl,F,hrs,hl,λJ hJ=>hq _ ⟨J,hJ,rfl⟩⟩) ?_
 rintro _ ⟨J,hJ,rfl⟩
 cases J with
 | nil =>
  have e:iE fs rs m=none:=by unfold iE;rw [QO hJ];rfl
  rw [e] at h
  refine gL (λb=>b=false) (λq hq=>?_) (λhT=>by cases hT) λ_=>?_
  ·refine ⟨_,rfl,[],rfl,?_⟩
   show (if (false:Bool)=true then _ else q false)
   rw [if_neg (by decide)];exact hq _ rfl
  ·try unfold jZ
   dsimp only
   exact h
 | cons i J =>
  obtain ⟨c,hc,h0⟩:=at0 hJ
  rw [opt c hc] at h
  refine gL (λb=>b=pG (dC fs rs c) (dbt rs)) (λq hq=>?_) (λhT=>?_) λhF=>?_
  ·refine ⟨_,rfl,_,rfl,?_⟩
   show (if (true:Bool)=true then _ else q false)
   rw [if_pos rfl]
   exact ⟨_,rfl,_,h0,_,rfl,_,rfl,_,rfl,fs,an,rs,rfl,F,hrs,hl,_,_,rfl,dsm c,dbm,hq _ rfl⟩
  ·rw [if_pos hT.symm] at h
   exact ⟨_,rfl,_,h0,h⟩
  ·rw [if_neg (by rw [<- hF];decide)] at h
   try unfold jZ
   dsimp only
   exact h

theorem aCx
  (F_0:bN P w K mg base dP 1 a_0 f_0 ["form","rows"] (fV K VA)):bN P w K mg base dP 2 a_1 f_1 ["form","rows"] (aS K OM):=by
 refine mS T.D_1.F YQ (λds Q h=>by obtain ⟨fs,an,rs,rfl,F,hok,hrl,h⟩:=h;rfl) λcdv Ar outer s H E hr ds Q h=>?_
 obtain ⟨fs,an,rs,rfl,F,hok,hrl,h⟩:=h
 have nd:=YQ.nd
 refine ⟨_,(aU (ss 2 nd (uJ (cF F_0 T.D_0 hr (aA (aG 0) (aA (aG 1) aO)))))
 (bK (cR (aW aQ bU (aW aQ bU (aG 0) aI) (tW (aG 2) (aA (cB aA8 (aA (aG 2) aO) (xT rfl) T.b_max XB) aO) (λh ha=>iR bR oG oF (tQ hr) h ha)))))),?_⟩
 show gZ _ _ _ [.val (eL fs an),.val (.list (rs.map dO)),.un]
 have a2:=F.a2
 refine cK (.list ((mL an rs).map aX)) (λq hq=>⟨_,rfl,_,rfl,fs,an,rs,rfl,F,hok,hrl,hq⟩) ?_
 have hne:mL an rs≠[]:=λz=>by
  have:=congrArg lA z
  unfold mL at this
  rw [aC] at this
  simp at this
  rw [this] at a2
  simp at a2
 refine ⟨_,rfl,_,rfl,_,rfl,_,rfl,_,rfl,_,rfl,hne,λm hm hmax=>?_⟩
 obtain ⟨j,hj,hno⟩:=CU (mL an rs) m hm
 have hjl:=(aD.mp hj).1
 have hal:(mL an rs).length=an.length:=by unfold mL;rw [aC]
 have a4:=F.a4
 have haj:an[j]?=some an[j]:=aB (by omega)
 have hcj:(mL an rs)[j]?=some ((cnt rs an[j]:Nat):Int):=by unfold mL;rw [aJ,haj];rfl
 rw [hj] at hcj
 have em:m=((cnt rs an[j]:Nat):Int):=Option.some.inj hcj
 refine ⟨_,j,rfl,HZ hj hno,by omega,_,L2.eK (by rw [aJ,haj];rfl),h _ ⟨j,haj,λi b hb=>?_,λi b hi hb=>?_⟩⟩
 ·have:=hmax ((cnt rs b:Nat):Int) (bJ (i:=i) (by unfold mL;rw [aJ,hb];rfl))
  omega
 ·have hcb:(mL an rs)[i]?=some ((cnt rs b:Nat):Int):=by unfold mL;rw [aJ,hb];rfl
  have h1:=hmax _ (bJ hcb)
  have h2:((cnt rs b:Nat):Int)≠m:=λz=>hno i hi (by rw [hcb,z])
  omega

theorem OD (dd:Nat)
  (F_20:bN P w K mg base dP 7 a_20 f_20 ["form","rows","least"] (aS K FO))
  (F_1:bN P w K mg base dP 2 a_1 f_1 ["form","rows"] (aS K OM))
  (F_15:bN P w K mg base dP 4 a_15 f_15 ["form","question","stray","rows"] (lJ K BZ))
  (F_19:bN P w K mg base dP 1 a_19 f_19 ["rows","numbers"] (aS K BY))
  (F_21:bN P w K mg base dP (8+dd) a_21 f_21 ["form","rows","deep","least"] (aS K (pT dd))):bN P w K mg base dP (8+dd+1) a_21 f_21 ["form","rows","deep","least"] (aS K (pT (dd+1))):=by
 refine mS T.D_21.F S2 (λds Q h=>by obtain ⟨fs,an,rs,d,m,rfl,F,hrs,hl,hd,h⟩:=h;rfl) λcdv Ar outer s H E hr ds Q h=>?_
 obtain ⟨fs,an,rs,d,m,rfl,F,hrs,hl,hd,h⟩:=h
 have nd:=S2.nd
 refine ⟨_,(aU (ss 4 nd (CW (eS F3 AJ (aG 2) aI) (cd (hk:=by omega) F_20 T.D_20 hr (aA (aG 0) (aA (aG 1) (aA (aG 3) aO)))) lU))
 (aU (hV (eS AH F6 (aG 4) lU)
 (bK (cR (eP (aA fH (aA (cd (hk:=by omega) F_1 T.D_1 hr (aA (aG 0) (aA (aG 1) aO))) aO)))))
 gD)
 (aU (ss 5 nd (MZ (cQ (hk:=by omega) F_15 T.D_15 hr (aA (aG 0) (aA (aW aQ bU (aG 4) aI) (aA (aW aQ bU (aG 4) aI) (aA (aG 1) aO)))))))
 (aU (nT (i:=6) (fr:=[none,some 0,some 3,some 1,some 2]) (N':=["numbers","form","least","rows","deep"]) (gU (aG 5)) (λb=>⟨(eH (pk 0)),iD,(cd (hk:=by omega) F_21 T.D_21 hr (aA (aG 1) (aA (cd (hk:=by omega) F_19 T.D_19 hr (aA (aG 3) (aA (aG 0) aO))) (aA (bZ D1 V2 (aG 4) aI) (aA (aG 2) aO)))))⟩) (λhi hY=>mG (show pH _ (aY (top 25)) ["form","rows","deep","least","found","sides","parts"] ["numbers","form","least","rows","deep"] [none,some 0,some 3,some 1,some 2]=true from by decide +kernel) nd rfl (by first | exact Or.inl rfl | exact Or.inr rfl) rfl hi hY rfl))
 (bK (cR (eP (aA fH (aA (aW aQ bU (aG 4) aI) (aA (aW aQ bU (aG 4) aI) (aA (aW aQ bU (aG 6) aI) (aA (aW aQ bU (aG 6) aI) aO)))))))))))),?_⟩
 show gZ _ _ _ [.val (eL fs an),.val (.list (rs.map dO)),.val (.int d),.val (.int m),.un,.un,.un]
 cases d with
 | zero =>
  refine cK .none (λq hq=>⟨_,rfl,hq⟩) ?_
  refine gL (λb=>b=true) (λq hq=>⟨_,rfl,hq _ rfl⟩) (λ_=>?_) λhF=>by cases hF
  exact ⟨_,rfl,_,rfl,fs,an,rs,rfl,F,hrs,hl,λa ha=>⟨(aH rfl),h (.say a) ⟨a,ha,rfl⟩⟩⟩
 | succ e =>
  refine cK (LJ fs rs (iE fs rs m)) (λq hq=>⟨_,rfl,?_⟩) ?_
  ·show (if decide ((0:Int)<((e+1:Nat):Int))=true then _ else q .none)
   rw [if_pos (decide_eq_true (by omega))]
   exact ⟨_,rfl,_,rfl,_,rfl,fs,an,rs,m,rfl,F,hrs,hl,hq⟩
  cases eb:iE fs rs m with
  | none =>
   refine gL (λb=>b=true) (λq hq=>⟨_,rfl,hq _ rfl⟩) (λ_=>?_) λhF=>by cases hF
   refine ⟨_,rfl,_,rfl,fs,an,rs,rfl,F,hrs,hl,λa ha=>⟨(aH rfl),h (.say a) ?_⟩⟩
   unfold Gr;rw [eb];exact ⟨a,ha,rfl⟩
  | some c =>
   have hc:=(cU.mp (oB eb)).1
   obtain ⟨hq,hs⟩:=tZ hc
   have hq':=tK hq
   refine gL (λb=>b=false) (λq hq=>⟨_,rfl,hq _ rfl⟩) (λhT=>by cases hT) λ_=>?_
   try unfold jZ
   dsimp only
   refine cK (.tuple [.list (fP fs c.1.1 c.1.2.1 c.1.2.2 c.2 rs "yes"),.list (fP fs c.1.1 c.1.2.1 c.1.2.2 c.2 rs "no")]) (λq hq2=>⟨_,rfl,_,rfl,_,rfl,_,rfl,_,rfl,_,rfl,fs,an,c.1.1,c.1.2.1,c.1.2.2,c.2,rs,rfl,F,hq',hs,hrs,hl,hq2⟩) ?_
   refine gE (λv=>∃ y n,Gr fs an m e (yR fs c rs) y/\Gr fs an m e (nR fs c rs) n/\v=.list [hU y,hU n]) (λq hq2=>?_) ?_
   ·have es:((e+1:Nat):Int)-1=((e:Nat):Int):=by omega
    refine wM (ts:=[.list (fP fs c.1.1 c.1.2.1 c.1.2.2 c.2 rs "yes"),.list (fP fs c.1.1 c.1.2.1 c.1.2.2 c.2 rs "no")]) (λR h=>⟨_,rfl,_,rfl,h⟩) (λi _ y=>(i=0->∃ t,Gr fs an m e (yR fs c rs) t/\y=hU t)/\(i=1->∃ t,Gr fs an m e (nR fs c rs) t/\y=hU t)) (aH rfl) (λi x q hx hq3=>?_) λys hyl hy=>?_
    ·have hi:i<2:=(aD.mp hx).1
     rcases (show i=0\/i=1 by omega) with rfl | rfl
     ·cases hx
      exact ⟨_,rfl,_,rfl,_,rfl,fs,c.1.1,c.1.2.1,c.1.2.2,c.2,"yes",rs,rfl,hl,_,rfl,_,rfl,fs,an,_,e,m,by rw [<- es]<;>rfl,F,hrs.filt _,bO (bV _ _) hl,by omega,λt ht=>hq3 _ ⟨λ_=>⟨t,ht,rfl⟩,λz=>by cases z⟩⟩
     ·cases hx
      refine ⟨_,rfl,_,rfl,_,rfl,fs,c.1.1,c.1.2.1,c.1.2.2,c.2,"no",rs,rfl,hl,?_⟩
      rw [vE F hq' hs hrs]
      exact ⟨_,rfl,_,rfl,fs,an,_,e,m,by rw [<- es]<;>rfl,F,hrs.filt _,bO (bV _ _) hl,by omega,λt ht=>hq3 _ ⟨(λz=>by cases z),λ_=>⟨t,ht,rfl⟩⟩⟩
    ·match ys,hyl,hy with
     | [a,b],_,hy =>
      obtain ⟨y,h0,rfl⟩:=(hy 0 _ a rfl rfl).1 rfl
      obtain ⟨n,h1,rfl⟩:=(hy 1 _ b rfl rfl).2 rfl
      exact hq2 _ ⟨y,n,h0,h1,rfl⟩
   ·rintro _ ⟨y,n,h0,h1,rfl⟩
    refine ⟨_,rfl,_,rfl,_,rfl,_,rfl,_,rfl,_,rfl,_,rfl,_,rfl,(aH rfl),h (.ask c.1.1 c.1.2.1 c.1.2.2 c.2 y n) ?_⟩
    unfold Gr;rw [eb];exact ⟨y,n,h0,h1,rfl⟩

theorem Z3
  (F_20:bN P w K mg base dP 7 a_20 f_20 ["form","rows","least"] (aS K FO))
  (F_1:bN P w K mg base dP 2 a_1 f_1 ["form","rows"] (aS K OM))
  (F_15:bN P w K mg base dP 4 a_15 f_15 ["form","question","stray","rows"] (lJ K BZ))
  (F_19:bN P w K mg base dP 1 a_19 f_19 ["rows","numbers"] (aS K BY)):bN P w K mg base dP 15 a_21 f_21 ["form","rows","deep","least"] (aS K RQ):=by
 have h:∀ dd:Nat,bN P w K mg base dP (8+dd) a_21 f_21 ["form","rows","deep","least"] (aS K (pT dd)):=λdd=>by
  induction dd with
  | zero=>exact wR pY λds Q h=>LW h
  | succ dd ih=>exact OD T dd F_20 F_1 F_15 F_19 ih
 exact h 7
theorem Z2:bN P w K mg base dP 1 a_22 f_22 ["tree"] (aS K qX):=by
 refine mS T.D_22.F S1 (λds Q h=>by obtain ⟨t,rfl,h⟩:=h;rfl) λcdv Ar outer s H E hr ds Q h=>?_
 obtain ⟨t,rfl,h⟩:=h
 have nd:=S1.nd
 refine ⟨_,(bK (cR (wS nV tP (aW aQ bU (aG 0) aI) fH))),?_⟩
 cases t with
 | say a=>exact ⟨_,rfl,_,rfl,h⟩
 | ask k n v s y m=>exact ⟨_,rfl,_,rfl,h⟩

theorem Z1:bN P w K mg base dP 1 a_23 f_23 ["knot","side"] (aS K KP):=by
 refine mS T.D_23.F S0 (λds Q h=>by obtain ⟨k,n,v,s,y,m,sd,rfl,h⟩:=h;rfl) λcdv Ar outer s H E hr ds Q h=>?_
 obtain ⟨k,n,v,s,y,m,sd,rfl,h⟩:=h
 have nd:=S0.nd
 refine ⟨_,(bK (cR (CW (eS nV tP (aG 1) fH) (aW aQ bU (aG 0) aI) (aW aQ bU (aG 0) aI)))),?_⟩
 show sB _ _ [.val (hU (.ask k n v s y m)),.val (.str sd)]
 refine ⟨_,rfl,?_⟩
 show (if decide (sd="yes")=true then _ else _)
 by_cases e:sd="yes"
 ·rw [if_pos (decide_eq_true e)]
  rw [if_pos e] at h
  exact ⟨_,rfl,_,rfl,h⟩
 ·rw [if_neg (by simpa using e)]
  rw [if_neg e] at h
  exact ⟨_,rfl,_,rfl,h⟩

theorem ZZ
  (F_22:bN P w K mg base dP 1 a_22 f_22 ["tree"] (aS K qX))
  (F_23:bN P w K mg base dP 1 a_23 f_23 ["knot","side"] (aS K KP))
  (F_11:bN P w K mg base dP 3 a_11 f_11 ["form","question","stray","case"] (aS K KQ)):bN P w K mg base dP 4 a_25 f_25 ["form","tree","case"] (fV K RP):=by
 refine X0 T.D_25.F SY (λds Q h=>by obtain ⟨fs,an,t,cs,rfl,F,ht,hc,hd,h⟩:=h;rfl) λcdv Ar outer s H E hr ds Q h=>?_
 obtain ⟨fs,an,t,cs,rfl,F,ht,hc,hd,h⟩:=h
 have nd:=SY.nd
 refine ⟨_,(aU (so 3 nd aO)
 (aU (ss 4 nd (aG 1))
 (aU (vV (zS (tv (cd F_22 T.D_22 hr (aA (aG 4) aO))))
 (aU (ss 5 nd (cd F_11 T.D_11 hr (aA (aG 0) (aA (aW aQ bU (aG 4) aI) (aA (aW aQ bU (aG 4) aI) (aA (aG 2) aO))))))
 (aU (lR (i:=3) (pv 3) (eP (aA (aW aQ bU (aG 4) aI) (aA (aG 5) aO))) (pb:=λh=>iV (iR bR cX cW gT (pv 3) h)))
 (bK (ss 4 nd (cd F_23 T.D_23 hr (aA (aG 4) (aA (aG 5) aO))))))) (λhc hb=>wC PassesOwn.never hc hb))
 (bK (tF (pv 3)))))),?_⟩
 show gZ _ _ _ [.val (eL fs an),.val (hU t),.val (.tuple cs),.un,.un,.un]
 refine kK [] (by decide) (λq hq=>hq) ?_
 refine cK (hU t) (λq hq=>⟨_,rfl,hq⟩) ?_
 refine tI (λn σ=>∃ (p:Tr) (done:List D) (s5:Sl),σ=[.val (eL fs an),.val (hU t),.val (.tuple cs),.own done,.val (hU p),s5]/\n=p.dep/\mU fs an p/\done++pO fs p cs=pO fs t cs/\done.length+p.dep<=40) t.dep ⟨t,[],_,rfl,rfl,ht,rfl,by show 0+t.dep<=40;omega⟩ λn σ' hP=>?_
 obtain ⟨p,done,s5,rfl,rfl,hp,hdn,hl⟩:=hP
 refine ⟨!T3 p,λq hq=>⟨_,rfl,p,rfl,hq⟩,?_⟩
 cases p with
 | say a =>
  show (if false=true then _ else _)
  rw [if_neg (by decide)]
  have e:pO fs (.say a) cs=[]:=rfl
  rw [e,dY] at hdn
  subst hdn
  exact ⟨_,rfl,h⟩
 | ask k n v s y m =>
  show (if true=true then _ else _)
  rw [if_pos rfl]
  obtain ⟨hq,hs,hy,hm⟩:=hp
  have e1:(Tr.ask k n v s y m).dep=max y.dep m.dep+1:=rfl
  rw [e1] at hl |-
  refine cK (.str (eQ fs k n v s cs)) (λq hq'=>⟨_,rfl,_,rfl,_,rfl,_,rfl,_,rfl,_,rfl,fs,an,k,n,v,s,cs,rfl,F,hq,hs,hc,hq'⟩) ?_
  refine OR (ts:=done) (.tuple [.tuple [.str k,.str n,.str v],.str (eQ fs k n v s cs)]) rfl (by omega) (λq hq=>⟨_,rfl,_,rfl,_,rfl,aH rfl,hq⟩) ?_
  refine oU (hU (if eQ fs k n v s cs="yes" then y else m)) (λq hq=>⟨_,rfl,_,rfl,k,n,v,s,y,m,_,rfl,hq⟩) ?_
  have e2:done++[.tuple [.tuple [.str k,.str n,.str v],.str (eQ fs k n v s cs)]]++(if eQ fs k n v s cs="yes" then pO fs y cs else pO fs m cs)=pO fs t cs:=by
   rw [<- hdn,lC];rfl
  refine ⟨(if eQ fs k n v s cs="yes" then y else m).dep,?_,if eQ fs k n v s cs="yes" then y else m,_,_,rfl,rfl,?_,?_,?_⟩
  ·split<;>omega
  ·split
   ·exact hy
   ·exact hm
  ·rw [<- e2]
   congr 1
   split<;>rfl
  ·rw [bA,hG]
   split<;>omega

theorem ZY
  (F_25:bN P w K mg base dP 4 a_25 f_25 ["form","tree","case"] (fV K RP)):bN P w K mg base dP 5 a_26 f_26 ["form","tree","case"] (aS K RO):=by
 refine mS T.D_26.F SX (λds Q h=>by obtain ⟨fs,an,t,cs,rfl,F,ht,hc,hd,h⟩:=h;rfl) λcdv Ar outer s H E hr ds Q h=>?_
 obtain ⟨fs,an,t,cs,rfl,F,ht,hc,hd,h⟩:=h
 have nd:=SX.nd
 refine ⟨_,(bK (cR (cY nC (aA (el (fr:=[none,none]) (N':=["question","side"]) (gU (uJ (cF F_25 T.D_25 hr (aA (aG 0) (aA (aG 1) (aA (aG 2) aO)))))) (λb=>⟨(AU (AE rfl (kL (pk 0) (kL (pk 1) vC)))),iD,(aG 1)⟩)) aO) gR T.b_tuple lO))),?_⟩
 show mB (f1 AX) _ _ Q
 dsimp only [mB,qB,C8]
 have hl:=zQ (fs:=fs) t cs
 refine PX (ts:=pO fs t cs) (λR h=>⟨_,rfl,_,rfl,_,rfl,fs,an,t,cs,rfl,F,ht,hc,hd,_,rfl,h⟩) ON (by omega) (sZ t cs) (λa b q hm hq=>⟨_,rfl,hq⟩) ?_
 rw [sY]
 exact h

theorem ZW
  (F_22:bN P w K mg base dP 1 a_22 f_22 ["tree"] (aS K qX))
  (F_23:bN P w K mg base dP 1 a_23 f_23 ["knot","side"] (aS K KP)):bN P w K mg base dP 2 a_28 f_28 ["tree","place"] (aS K RM):=by
 refine mS T.D_28.F SV (λds Q h=>by obtain ⟨t,p,pl,rfl,hp,hd,h⟩:=h;rfl) λcdv Ar outer s H E hr ds Q h=>?_
 obtain ⟨t,p,pl,rfl,hp,hd,h⟩:=h
 have nd:=SV.nd
 refine ⟨_,(aU (ss 2 nd (aG 0))
 (aU (sf (gU (aG 1)) (eH (pn 3 nd))
 (aU (hV (vS (yJ (tv (cd F_22 T.D_22 hr (aA (aG 2) aO))) (tD (eS (AG hr) pW (aG 3) (GJ rfl T.c_SIDES T.t_SIDES)))))
 (bK YC)
 gD)
 (bK (ss 2 nd (cd F_23 T.D_23 hr (aA (aG 2) (aA (aG 3) aO)))))))
 (bK (cR (aG 2))))),?_⟩
 show gZ _ _ _ [.val (hU t),.val (.tuple (pl.map aR)),.un,.un]
 have hyn:=AF hp
 refine cK (hU t) (λq hq=>⟨_,rfl,hq⟩) ?_
 refine jM (ts:=pl.map aR) (λR h=>⟨_,rfl,_,rfl,h⟩)
  (λk σ=>∃ (x:Tr) (s3:Sl),σ=[.val (hU t),.val (.tuple (pl.map aR)),.val (hU x),s3]/\pF x (pl.drop k)=some p) ⟨t,_,rfl,hp⟩ (λk d σ' hx hP=>?_) λσ' hP=>?_
 ·obtain ⟨x,s3,rfl,hxp⟩:=hP
  rw [aJ] at hx
  obtain ⟨sd,hsd,rfl⟩:=iX.mp hx
  have hkl:=(aD.mp hsd).1
  have ed:pl.drop k=sd::pl.drop (k+1):=by
   rw [A7 hkl]
   congr 1
   exact (aD.mp hsd).2
  rw [ed] at hxp
  have hs:=hyn sd (bJ hsd)
  cases x with
  | say a=>cases hxp
  | ask kk n v s y m =>
   have hxp':(if sd="yes" then pF y (pl.drop (k+1)) else if sd="no" then pF m (pl.drop (k+1)) else none)=some p:=hxp
   refine gL (λb=>b=false) (λq hq=>⟨_,rfl,.ask kk n v s y m,rfl,?_⟩) (λhT=>by cases hT) λ_=>?_
   ·show (if false=true then _ else _)
    rw [if_neg (by decide)]
    have hnm:rS sd=true:=by
     rcases hs with rfl | rfl
     ·exact D7
     ·exact LQ
    refine ⟨_,rfl,F5 (ys:=["yes","no"]) (λy hy=>?_) ((jE hnm (n:=8) (m:=0) (aL _)).cd (by decide)),hq _ ?_⟩
    ·rcases aZ.mp hy with rfl | hy
     ·exact D7
     ·rw [dN.mp hy];exact LQ
    ·have e:GH (.str sd) (.tuple ((["yes","no"]:List Str).map aR))=CQ ["yes","no"] (.str sd):=C7 _ _
     show (!GH (.str sd) (.tuple ((["yes","no"]:List Str).map aR)))=false
     rw [e]
     have:CQ ["yes","no"] (.str sd)=true:=by
      refine decide_eq_true ?_
      rcases hs with rfl | rfl<;>simp
     rw [this];rfl
   try unfold jZ
   dsimp only
   refine oU (hU (if sd="yes" then y else m)) (λq hq=>⟨_,rfl,_,rfl,kk,n,v,s,y,m,sd,rfl,hq⟩) ⟨if sd="yes" then y else m,_,rfl,?_⟩
   rcases hs with rfl | rfl
   ·rw [if_pos rfl] at hxp' |-
    exact hxp'
   ·rw [if_neg D6,if_pos rfl] at hxp'
    rw [if_neg D6]
    exact hxp'
 ·obtain ⟨x,s3,rfl,hxp⟩:=hP
  rw [aC,List.drop_length] at hxp
  have:x=p:=by cases x<;>exact Option.some.inj hxp
  subst this
  exact ⟨_,rfl,h⟩

theorem ZX
  (F_28:bN P w K mg base dP 2 a_28 f_28 ["tree","place"] (aS K RM))
  (F_26:bN P w K mg base dP 5 a_26 f_26 ["form","tree","case"] (aS K RO)):bN P w K mg base dP 6 a_27 f_27 ["form","tree","case"] (aS K RN):=by
 refine mS T.D_27.F SW (λds Q h=>by obtain ⟨fs,an,t,cs,rfl,F,ht,hc,hd,h⟩:=h;rfl) λcdv Ar outer s H E hr ds Q h=>?_
 obtain ⟨fs,an,t,cs,rfl,F,ht,hc,hd,h⟩:=h
 have nd:=SW.nd
 refine ⟨_,(bK (cR (aW aQ bU (cd F_28 T.D_28 hr (aA (aG 1) (aA (cd F_26 T.D_26 hr (aA (aG 0) (aA (aG 1) (aA (aG 2) aO)))) aO))) aI))),?_⟩
 exact ⟨_,rfl,_,rfl,_,rfl,_,rfl,fs,an,t,cs,rfl,F,ht,hc,hd,t,.say (qS fs t cs),oR fs t cs,rfl,rF F hc t ht,hd,_,rfl,h⟩

theorem OC (dd:Nat)
  (F_22:bN P w K mg base dP 1 a_22 f_22 ["tree"] (aS K qX))
  (F_24:bN P w K mg base dP (1+dd) a_24 f_24 ["tree"] (aS K (pS dd))):bN P w K mg base dP (1+dd+1) a_24 f_24 ["tree"] (aS K (pS (dd+1))):=by
 refine mS T.D_24.F SZ (λds Q h=>by obtain ⟨t,rfl,hk,hd,h⟩:=h;rfl) λcdv Ar outer s H E hr ds Q h=>?_
 obtain ⟨t,rfl,hk,hd,h⟩:=h
 have nd:=SZ.nd
 refine ⟨_,(aU (hV (tv (cd (hk:=by omega) F_22 T.D_22 hr (aA (aG 0) aO)))
 (bK (cR aI))
 gD)
 (bK (cR (bZ cH eV (bZ cH eV aI (cd (hk:=by omega) F_24 T.D_24 hr (aA (aW aQ bU (aG 0) aI) aO))) (cd (hk:=by omega) F_24 T.D_24 hr (aA (aW aQ bU (aG 0) aI) aO)))))),?_⟩
 show gZ _ _ _ [.val (hU t)]
 cases t with
 | say a=>exact gL (λb=>b=true) (λq hq=>⟨_,rfl,.say a,rfl,hq _ rfl⟩) (λ_=>h) λhF=>by cases hF
 | ask k n v s y m =>
  have e1:(Tr.ask k n v s y m).dep=max y.dep m.dep+1:=rfl
  have e2:(Tr.ask k n v s y m).kn=y.kn+m.kn+1:=rfl
  rw [e1] at hd
  rw [e2] at hk
  refine gL (λb=>b=false) (λq hq=>⟨_,rfl,.ask k n v s y m,rfl,hq _ rfl⟩) (λhT=>by cases hT) λ_=>?_
  try unfold jZ
  dsimp only
  refine ⟨_,rfl,_,rfl,y,rfl,by omega,by omega,_,rfl,_,rfl,m,rfl,by omega,by omega,?_⟩
  have e3:(1:Int)+(y.kn:Int)+(m.kn:Int)=(((Tr.ask k n v s y m).kn:Nat):Int):=by
   rw [e2];omega
  show Q (.int (1+(y.kn:Int)+(m.kn:Int)))
  rw [e3];exact h

theorem Z0
  (F_22:bN P w K mg base dP 1 a_22 f_22 ["tree"] (aS K qX)):bN P w K mg base dP 42 a_24 f_24 ["tree"] (aS K FN):=by
 have h:∀ dd:Nat,bN P w K mg base dP (1+dd) a_24 f_24 ["tree"] (aS K (pS dd)):=λdd=>by
  induction dd with
  | zero=>exact wR pY λds Q h=>LV h
  | succ dd ih=>exact OC T dd F_22 ih
 exact h 41
theorem ZV
  (F_27:bN P w K mg base dP 6 a_27 f_27 ["form","tree","case"] (aS K RN))
  (F_24:bN P w K mg base dP 42 a_24 f_24 ["tree"] (aS K FN)):bN P w K mg base dP 43 a_29 f_29 ["form","tree","rows","prices"] (aS K yQ):=by
 refine mS T.D_29.F SU (λds Q h=>by obtain ⟨fs,an,t,rs,a,b,rfl,F,ht,htd,htk,hrs,hl,a0,a1,b0,b1,h⟩:=h;rfl) λcdv Ar outer s H E hr ds Q h=>?_
 obtain ⟨fs,an,t,rs,a,b,rfl,F,ht,htd,htk,hrs,hl,a0,a1,b0,b1,h⟩:=h
 have nd:=SU.nd
 refine ⟨_,(aU (nT (i:=4) (fr:=[none,some 0,some 1]) (N':=["row","form","tree"]) (gU (aG 2)) (λb=>⟨(eH (pk 0)),(MN (eS Y5 aC0 (cd F_27 T.D_27 hr (aA (aG 1) (aA (aG 2) (aA (aW aQ bU (aG 0) aI) aO)))) (aW aQ bU (aG 0) aI))),(aG 0)⟩) (λhi hY=>mG (show pH _ (aY (top 38)) ["form","tree","rows","prices","slips"] ["row","form","tree"] [none,some 0,some 1]=true from by decide +kernel) nd rfl (by first | exact Or.inl rfl | exact Or.inr rfl) rfl hi hY rfl))
 (bK (cR (bZ cH eV (bZ eB iZ (aW aQ bU (aG 3) aI) (cB jJ (aA (aG 4) aO) dH T.b_len gW)) (bZ eB iZ (aW aQ bU (aG 3) aI) (cd F_24 T.D_24 hr (aA (aG 1) aO))))))),?_⟩
 show gZ _ _ _ [.val (eL fs an),.val (hU t),.val (.list (rs.map dO)),.val (.tuple [.int a,.int b]),.un]
 refine cK (.list ((rs.filter λr=>!decide (qS fs t r.1=r.2)).map dO)) (λq hq=>?_) ?_
 ·refine L7 (ts:=rs.map dO) (λR h=>⟨_,rfl,_,rfl,h⟩) (λx=>match x with | .tuple [.tuple cs,.str w]=>!decide (qS fs t cs=w) | _=>false) id (by rw [aC];omega) (λx q hx hq=>?_) (λx q hx hq=>⟨_,rfl,hq⟩) ?_
  ·obtain ⟨r,hr,rfl⟩:=bC.mp hx
   exact ⟨_,rfl,_,rfl,_,rfl,_,rfl,fs,an,t,r.1,rfl,F,ht,(hrs r hr).1,htd,_,rfl,_,rfl,hq⟩
  ·rw [G7,mI]
   exact hq
 refine ⟨_,rfl,_,rfl,_,rfl,.inl ⟨by omega,by omega⟩,_,rfl,_,rfl,_,rfl,t,rfl,htk,by omega,.inl ⟨by omega,by omega⟩,?_⟩
 show Q (.int (a*((((rs.filter λr=>!decide (qS fs t r.1=r.2)).map dO).length:Nat):Int)+b*(t.kn:Nat)))
 rw [aC]
 exact h

theorem ZU
  (F_1:bN P w K mg base dP 2 a_1 f_1 ["form","rows"] (aS K OM)):bN P w K mg base dP 3 a_30 f_30 ["form","rows"] (aS K BX):=by
 refine mS T.D_30.F SR (λds Q h=>by obtain ⟨fs,an,fa,rs,rfl,F,hfa,hrs,hl,h⟩:=h;rfl) λcdv Ar outer s H E hr ds Q h=>?_
 obtain ⟨fs,an,fa,rs,rfl,F,hfa,hrs,hl,h⟩:=h
 have nd:=SR.nd
 refine ⟨_,(bK (cR (eP (aA fH (aA (cd F_1 T.D_1 hr (aA (aG 0) (aA (aG 1) aO))) aO))))),?_⟩
 show sB _ _ [.val (eL fs an),.val (.list (rs.map dO))]
 exact ⟨_,rfl,_,rfl,fs,an,rs,rfl,F,hrs,hl,λa ha=>by
  rw [ha.uniq (hfa rs hrs)]
  exact ⟨(aH rfl),h⟩⟩

theorem ZT
  (F_15:bN P w K mg base dP 4 a_15 f_15 ["form","question","stray","rows"] (lJ K BZ))
  (F_19:bN P w K mg base dP 1 a_19 f_19 ["rows","numbers"] (aS K BY)):bN P w K mg base dP 5 a_31 f_31 ["form","knot","rows"] (aS K BW):=by
 refine mS T.D_31.F SQ (λds Q h=>by obtain ⟨fs,an,k,n,v,s,y,m,rs,rfl,F,hq,hs,hrs,hl,h⟩:=h;rfl) λcdv Ar outer s H E hr ds Q h=>?_
 obtain ⟨fs,an,k,n,v,s,y,m,rs,rfl,F,hq,hs,hrs,hl,h⟩:=h
 have nd:=SQ.nd
 refine ⟨_,(bK (cR (el (fr:=[none,some 2]) (N':=["numbers","rows"]) (gU (MZ (cQ F_15 T.D_15 hr (aA (aG 0) (aA (aW aQ bU (aG 1) aI) (aA (aW aQ bU (aG 1) aI) (aA (aG 2) aO))))))) (λb=>⟨(eH (pk 0)),iD,(cd F_19 T.D_19 hr (aA (aG 1) (aA (aG 0) aO)))⟩)))),?_⟩
 show sB _ _ [.val (eL fs an),.val (hU (.ask k n v s y m)),.val (.list (rs.map dO))]
 have e1:(rs.filter λr=>decide (eQ fs k n v s r.1="yes"))=rs.filter (gM fs k n v s):=rfl
 refine wM (ts:=[.list (fP fs k n v s rs "yes"),.list (fP fs k n v s rs "no")]) (λR h=>⟨_,rfl,_,rfl,_,rfl,_,rfl,_,rfl,_,rfl,fs,an,k,n,v,s,rs,rfl,F,hq,hs,hrs,hl,_,rfl,h⟩) (λi _ y=>(i=0->y=.list ((rs.filter (gM fs k n v s)).map dO))/\(i=1->y=.list ((rs.filter λr=>!gM fs k n v s r).map dO))) (aH rfl) (λi x q hx hq'=>?_) λys hyl hy=>?_
 ·have hi:i<2:=(aD.mp hx).1
  rcases (show i=0\/i=1 by omega) with rfl | rfl
  ·cases hx
   exact ⟨_,rfl,_,rfl,fs,k,n,v,s,"yes",rs,rfl,hl,hq' _ ⟨λ_=>rfl,λz=>by cases z⟩⟩
  ·cases hx
   refine ⟨_,rfl,_,rfl,fs,k,n,v,s,"no",rs,rfl,hl,?_⟩
   rw [vE F hq hs hrs]
   exact hq' _ ⟨(λz=>by cases z),λ_=>rfl⟩
 ·match ys,hyl,hy with
  | [a,b],_,hy =>
   have h0:=(hy 0 _ a rfl rfl).1 rfl
   have h1:=(hy 1 _ b rfl rfl).2 rfl
   rw [h0,h1]
   exact h

theorem ZS:bN P w K mg base dP 1 a_32 f_32 ["price"] (aS K RL):=by
 refine mS T.D_32.F SO (λds Q h=>by obtain ⟨a,b,rfl,h⟩:=h;rfl) λcdv Ar outer s H E hr ds Q h=>?_
 obtain ⟨a,b,rfl,h⟩:=h
 have nd:=SO.nd
 refine ⟨_,(bK (cR (eP (aA (aW aQ bU (aG 0) aI) (aA (aW aQ bU (aG 0) aI) aO))))),?_⟩
 show sB _ _ [.val (.tuple [a,b])]
 exact ⟨_,rfl,_,rfl,_,rfl,_,rfl,(aH rfl),h⟩

theorem OB (dd:Nat)
  (F_29:bN P w K mg base dP 43 a_29 f_29 ["form","tree","rows","prices"] (aS K yQ))
  (F_30:bN P w K mg base dP 3 a_30 f_30 ["form","rows"] (aS K BX))
  (F_22:bN P w K mg base dP 1 a_22 f_22 ["tree"] (aS K qX))
  (F_31:bN P w K mg base dP 5 a_31 f_31 ["form","knot","rows"] (aS K BW))
  (F_34:bN P w K mg base dP (44+dd) a_34 f_34 ["form","tree","rows","prices"] (aS K (pR dd))):bN P w K mg base dP (44+dd+1) a_34 f_34 ["form","tree","rows","prices"] (aS K (pR (dd+1))):=by
 refine mS T.D_34.F SL (λds Q h=>by obtain ⟨fs,an,fa,t,rs,a,b,rfl,F,hfa,ht,hd,hrs,hl,a0,a1,b0,b1,h⟩:=h;rfl) λcdv Ar outer s H E hr ds Q h=>?_
 obtain ⟨fs,an,fa,t,rs,a,b,rfl,F,hfa,ht,hd,hrs,hl,a0,a1,b0,b1,h⟩:=h
 have nd:=SL.nd
 refine ⟨_,(aU (hV (tv (cd (hk:=by omega) F_22 T.D_22 hr (aA (aG 1) aO)))
 (bK (cR (eP (aA (cd (hk:=by omega) F_29 T.D_29 hr (aA (aG 0) (aA (aG 1) (aA (aG 2) (aA (aG 3) aO))))) (aA (aG 1) aO)))))
 gD)
 (aU (ss 4 nd (cd (hk:=by omega) F_30 T.D_30 hr (aA (aG 0) (aA (aG 2) aO))))
 (aU (ss 5 nd (cd (hk:=by omega) F_29 T.D_29 hr (aA (aG 0) (aA (aG 4) (aA (aG 2) (aA (aG 3) aO))))))
 (aU (ss 6 nd (cd (hk:=by omega) F_31 T.D_31 hr (aA (aG 0) (aA (aG 1) (aA (aG 2) aO)))))
 (aU (ss 7 nd (cd (hk:=by omega) F_34 T.D_34 hr (aA (aG 0) (aA (aW aQ bU (aG 1) aI) (aA (aW aQ bU (aG 6) aI) (aA (aG 3) aO))))))
 (aU (ss 8 nd (cd (hk:=by omega) F_34 T.D_34 hr (aA (aG 0) (aA (aW aQ bU (aG 1) aI) (aA (aW aQ bU (aG 6) aI) (aA (aG 3) aO))))))
 (aU (ss 9 nd (bZ cH eV (bZ cH eV (aW aQ bU (aG 3) aI) (aW aQ bU (aG 7) aI)) (aW aQ bU (aG 8) aI)))
 (aU (hV (eS Y6 AJ (aG 5) (aG 9))
 (bK (cR (eP (aA (aG 5) (aA (aG 4) aO)))))
 gD)
 (bK (cR (eP (aA (aG 9) (aA (bZ cH eV (iO lE tO (aG 1) kM (iW aI)) (eP (aA (aW aQ bU (aG 7) aI) (aA (aW aQ bU (aG 8) aI) aO)))) aO))))))))))))),?_⟩
 show gZ _ _ _ [.val (eL fs an),.val (hU t),.val (.list (rs.map dO)),.val (.tuple [.int a,.int b]),.un,.un,.un,.un,.un,.un]
 have lf:∀ z:Str,a*(eD fs (.say z) rs:Nat)+b*(((Tr.say z).kn:Nat):Int)=a*(eD fs (.say z) rs:Nat):=λz=>by
  show _+b*0=_
  rw [uZ,qJ]
 cases t with
 | say z =>
  refine gL (λb=>b=true) (λq hq=>⟨_,rfl,.say z,rfl,hq _ rfl⟩) (λ_=>?_) λhF=>by cases hF
  refine ⟨_,rfl,_,rfl,_,rfl,_,rfl,fs,an,.say z,rs,a,b,rfl,F,ht,cC _,cC _,hrs,hl,a0,a1,b0,b1,_,rfl,(aH rfl),?_⟩
  rw [lf];exact h
 | ask k n v s y m =>
  have e1:(Tr.ask k n v s y m).dep=max y.dep m.dep+1:=rfl
  rw [e1] at hd
  obtain ⟨hq,hs,hy,hm⟩:=ht
  have l1:=bV (gM fs k n v s) rs
  have l2:=bV (λr=>!gM fs k n v s r) rs
  have hF2:mU fs an (.say (fa rs)):=by
   obtain ⟨i,hi,_⟩:=hfa rs hrs
   exact bJ hi
  refine gL (λb=>b=false) (λq hq=>⟨_,rfl,.ask k n v s y m,rfl,hq _ rfl⟩) (λhT=>by cases hT) λ_=>?_
  try unfold jZ
  dsimp only
  refine cK (hU (.say (fa rs))) (λq hq'=>⟨_,rfl,_,rfl,fs,an,fa,rs,rfl,F,hfa,hrs,hl,hq'⟩) ?_
  refine cK (.int (a*(eD fs (.say (fa rs)) rs:Nat))) (λq hq'=>⟨_,rfl,_,rfl,_,rfl,_,rfl,fs,an,.say (fa rs),rs,a,b,rfl,F,hF2,cC _,cC _,hrs,hl,a0,a1,b0,b1,by rw [lf];exact hq'⟩) ?_
  refine cK (.list [.list ((rs.filter (gM fs k n v s)).map dO),.list ((rs.filter λr=>!gM fs k n v s r).map dO)]) (λq hq'=>⟨_,rfl,_,rfl,_,rfl,fs,an,k,n,v,s,y,m,rs,rfl,F,hq,hs,hrs,hl,hq'⟩) ?_
  refine cK (.tuple [.int (lw fs fa a b y (rs.filter (gM fs k n v s))).1,hU (lw fs fa a b y (rs.filter (gM fs k n v s))).2]) (λq hq'=>⟨_,rfl,_,rfl,_,rfl,_,rfl,_,rfl,_,rfl,fs,an,fa,y,_,a,b,rfl,F,hfa,hy,by omega,hrs.filt _,by omega,a0,a1,b0,b1,hq'⟩) ?_
  refine cK (.tuple [.int (lw fs fa a b m (rs.filter λr=>!gM fs k n v s r)).1,hU (lw fs fa a b m (rs.filter λr=>!gM fs k n v s r)).2]) (λq hq'=>⟨_,rfl,_,rfl,_,rfl,_,rfl,_,rfl,_,rfl,fs,an,fa,m,_,a,b,rfl,F,hfa,hm,by omega,hrs.filt _,by omega,a0,a1,b0,b1,hq'⟩) ?_
  refine cK (.int (b+(lw fs fa a b y (rs.filter (gM fs k n v s))).1+(lw fs fa a b m (rs.filter λr=>!gM fs k n v s r)).1)) (λq hq'=>⟨_,rfl,_,rfl,_,rfl,_,rfl,_,rfl,_,rfl,hq'⟩) ?_
  have el:lw fs fa a b (.ask k n v s y m) rs=if a*(eD fs (.say (fa rs)) rs:Nat)<=b+(lw fs fa a b y (rs.filter (gM fs k n v s))).1+(lw fs fa a b m (rs.filter λr=>!gM fs k n v s r)).1 then (a*(eD fs (.say (fa rs)) rs:Nat),.say (fa rs)) else (b+(lw fs fa a b y (rs.filter (gM fs k n v s))).1+(lw fs fa a b m (rs.filter λr=>!gM fs k n v s r)).1,.ask k n v s (lw fs fa a b y (rs.filter (gM fs k n v s))).2 (lw fs fa a b m (rs.filter λr=>!gM fs k n v s r)).2):=rfl
  rw [el] at h
  refine gL (λz=>z=decide (a*(eD fs (.say (fa rs)) rs:Nat)<=b+(lw fs fa a b y (rs.filter (gM fs k n v s))).1+(lw fs fa a b m (rs.filter λr=>!gM fs k n v s r)).1)) (λq hq'=>⟨_,rfl,_,rfl,hq' _ rfl⟩) (λhz=>?_) λhz=>?_
  ·rw [if_pos (of_decide_eq_true hz.symm)] at h
   exact ⟨_,rfl,_,rfl,(aH rfl),h⟩
  ·rw [if_neg (of_decide_eq_false hz.symm)] at h
   try unfold jZ
   dsimp only
   refine ⟨_,rfl,_,rfl,_,rfl,_,rfl,_,rfl,_,rfl,(aH rfl),?_⟩
   show MY (.tuple (jP [aR "ask",.tuple [.str k,.str n,.str v],.str s,hU y,hU m] none (some 3))) _ _
   rw [aDq]
   exact ⟨(aH rfl),(aH rfl),h⟩

theorem ZQ
  (F_29:bN P w K mg base dP 43 a_29 f_29 ["form","tree","rows","prices"] (aS K yQ))
  (F_30:bN P w K mg base dP 3 a_30 f_30 ["form","rows"] (aS K BX))
  (F_22:bN P w K mg base dP 1 a_22 f_22 ["tree"] (aS K qX))
  (F_31:bN P w K mg base dP 5 a_31 f_31 ["form","knot","rows"] (aS K BW)):bN P w K mg base dP 57 a_34 f_34 ["form","tree","rows","prices"] (aS K RJ):=by
 have h:∀ dd:Nat,bN P w K mg base dP (44+dd) a_34 f_34 ["form","tree","rows","prices"] (aS K (pR dd)):=λdd=>by
  induction dd with
  | zero=>exact wR pY λds Q h=>LU h
  | succ dd ih=>exact OB T dd F_29 F_30 F_22 F_31 ih
 exact h 13
theorem ZR
  (F_34:bN P w K mg base dP 57 a_34 f_34 ["form","tree","rows","prices"] (aS K RJ))
  (F_32:bN P w K mg base dP 1 a_32 f_32 ["price"] (aS K RL)):bN P w K mg base dP 58 a_33 f_33 ["form","tree","rows","price"] (aS K RK):=by
 refine mS T.D_33.F SN (λds Q h=>by obtain ⟨fs,an,fa,t,rs,a,b,rfl,F,hfa,ht,hd,hrs,hl,a0,a1,b0,b1,h⟩:=h;rfl) λcdv Ar outer s H E hr ds Q h=>?_
 obtain ⟨fs,an,fa,t,rs,a,b,rfl,F,hfa,ht,hd,hrs,hl,a0,a1,b0,b1,h⟩:=h
 have nd:=SN.nd
 refine ⟨_,(bK (cR (aW aQ bU (cd F_34 T.D_34 hr (aA (aG 0) (aA (aG 1) (aA (aG 2) (aA (cd F_32 T.D_32 hr (aA (aG 3) aO)) aO))))) aI))),?_⟩
 show sB _ _ [.val (eL fs an),.val (hU t),.val (.list (rs.map dO)),.val (.tuple [.int b,.int a])]
 exact ⟨_,rfl,_,rfl,_,rfl,_,rfl,_,_,rfl,fs,an,fa,t,rs,a,b,rfl,F,hfa,ht,hd,hrs,hl,a0,a1,b0,b1,_,rfl,h⟩

theorem OA (dd:Nat)
  (F_29:bN P w K mg base dP 43 a_29 f_29 ["form","tree","rows","prices"] (aS K yQ))
  (F_30:bN P w K mg base dP 3 a_30 f_30 ["form","rows"] (aS K BX))
  (F_3:bN P w K mg base dP 2 a_3 f_3 ["top","bottom"] (aS K HH))
  (F_22:bN P w K mg base dP 1 a_22 f_22 ["tree"] (aS K qX))
  (F_24:bN P w K mg base dP 42 a_24 f_24 ["tree"] (aS K FN))
  (F_31:bN P w K mg base dP 5 a_31 f_31 ["form","knot","rows"] (aS K BW))
  (F_37:bN P w K mg base dP (44+dd) a_37 f_37 ["form","tree","rows"] (aS K (pQ dd))):bN P w K mg base dP (44+dd+1) a_37 f_37 ["form","tree","rows"] (aS K (pQ (dd+1))):=by
 refine mS T.D_37.F SI (λds Q h=>by obtain ⟨fs,an,fa,t,rs,rfl,F,hfa,ht,hd,hd40,hkn,hrs,hl,hsv,h⟩:=h;rfl) λcdv Ar outer s H E hr ds Q h=>?_
 obtain ⟨fs,an,fa,t,rs,rfl,F,hfa,ht,hd,hd40,hkn,hrs,hl,hsv,h⟩:=h
 have nd:=SI.nd
 refine ⟨_,(aU (hV (tv (cd (hk:=by omega) F_22 T.D_22 hr (aA (aG 1) aO)))
 (bK (cR (eP (aA (cd (hk:=by omega) F_29 T.D_29 hr (aA (aG 0) (aA (aG 1) (aA (aG 2) (aA (eP (aA aI (aA aI aO))) aO))))) (aA (tV aO) aO)))))
 gD)
 (aU (ss 3 nd (cd (hk:=by omega) F_31 T.D_31 hr (aA (aG 0) (aA (aG 1) (aA (aG 2) aO)))))
 (aU (ss 4 nd (cd (hk:=by omega) F_37 T.D_37 hr (aA (aG 0) (aA (aW aQ bU (aG 1) aI) (aA (aW aQ bU (aG 3) aI) aO)))))
 (aU (ss 5 nd (cd (hk:=by omega) F_37 T.D_37 hr (aA (aG 0) (aA (aW aQ bU (aG 1) aI) (aA (aW aQ bU (aG 3) aI) aO)))))
 (aU (ss 6 nd (bZ cH eV (aW aQ bU (aG 4) aI) (aW aQ bU (aG 5) aI)))
 (aU (ss 7 nd (bZ D1 V2 (cd (hk:=by omega) F_29 T.D_29 hr (aA (aG 0) (aA (cd (hk:=by omega) F_30 T.D_30 hr (aA (aG 0) (aA (aG 2) aO))) (aA (aG 2) (aA (eP (aA aI (aA aI aO))) aO))))) (aG 6)))
 (bK (cR (eP (aA (aG 6) (aA (bZ cH eV (bZ cH eV (tV (aA (cd (hk:=by omega) F_3 T.D_3 hr (aA (aG 7) (aA (cd (hk:=by omega) F_24 T.D_24 hr (aA (aG 1) aO)) aO))) aO)) (aW aQ bU (aG 4) aI)) (aW aQ bU (aG 5) aI)) aO))))))))))),?_⟩
 show gZ _ _ _ [.val (eL fs an),.val (hU t),.val (.list (rs.map dO)),.un,.un,.un,.un,.un]
 have one:∀ z:Str,(1:Int)*(eD fs (.say z) rs:Nat)+0*(((Tr.say z).kn:Nat):Int)=(eD fs (.say z) rs:Nat):=λz=>by rw [aB8,aBl,qJ]
 cases t with
 | say z =>
  refine gL (λb=>b=true) (λq hq=>⟨_,rfl,.say z,rfl,hq _ rfl⟩) (λ_=>?_) λhF=>by cases hF
  refine ⟨_,rfl,_,rfl,_,rfl,(aH rfl),fs,an,.say z,rs,1,0,rfl,F,ht,cC _,cC _,hrs,hl,by decide,by decide,by decide,by decide,(aH rfl),(aH rfl),?_⟩
  rw [one];exact h
 | ask k n v s y m =>
  have e1:(Tr.ask k n v s y m).dep=max y.dep m.dep+1:=rfl
  have e2:(Tr.ask k n v s y m).kn=y.kn+m.kn+1:=rfl
  have e3:rZ fs fa (.ask k n v s y m) rs=((eD fs (.say (fa rs)) rs:Int)-(eD fs (.ask k n v s y m) rs:Nat),(Tr.ask k n v s y m).kn)::(rZ fs fa y (rs.filter (gM fs k n v s))++rZ fs fa m (rs.filter λr=>!gM fs k n v s r)):=rfl
  have hTk:=ht
  obtain ⟨hq,hs,hy,hm⟩:=ht
  have l1:=bV (gM fs k n v s) rs
  have l2:=bV (λr=>!gM fs k n v s r) rs
  have hF2:mU fs an (.say (fa rs)):=by
   obtain ⟨i,hi,_⟩:=hfa rs hrs
   exact bJ hi
  rw [e3] at hsv
  have hkA:=hkn
  have hdA:=hd40
  rw [e1] at hd hd40
  rw [e2] at hkn
  refine gL (λb=>b=false) (λq hq=>⟨_,rfl,.ask k n v s y m,rfl,hq _ rfl⟩) (λhT=>by cases hT) λ_=>?_
  try unfold jZ
  dsimp only
  refine cK (.list [.list ((rs.filter (gM fs k n v s)).map dO),.list ((rs.filter λr=>!gM fs k n v s r).map dO)]) (λq hq'=>⟨_,rfl,_,rfl,_,rfl,fs,an,k,n,v,s,y,m,rs,rfl,F,hq,hs,hrs,hl,hq'⟩) ?_
  refine cK (.tuple [.int (eD fs y (rs.filter (gM fs k n v s)):Nat),.list ((rZ fs fa y (rs.filter (gM fs k n v s))).map λe=>BC (fM e))]) (λq hq'=>⟨_,rfl,_,rfl,_,rfl,_,rfl,_,rfl,fs,an,fa,y,_,rfl,F,hfa,hy,by omega,by omega,by omega,hrs.filt _,by omega,λe he=>hsv e (aK _ (mD _ he)),hq'⟩) ?_
  refine cK (.tuple [.int (eD fs m (rs.filter λr=>!gM fs k n v s r):Nat),.list ((rZ fs fa m (rs.filter λr=>!gM fs k n v s r)).map λe=>BC (fM e))]) (λq hq'=>⟨_,rfl,_,rfl,_,rfl,_,rfl,_,rfl,fs,an,fa,m,_,rfl,F,hfa,hm,by omega,by omega,by omega,hrs.filt _,by omega,λe he=>hsv e (aK _ (dM _ he)),hq'⟩) ?_
  refine cK (.int (eD fs (.ask k n v s y m) rs:Nat)) (λq hq'=>⟨_,rfl,_,rfl,_,rfl,_,rfl,by rw [vX] at hq';exact hq'⟩) ?_
  refine cK (.int ((eD fs (.say (fa rs)) rs:Int)-(eD fs (.ask k n v s y m) rs:Nat))) (λq hq'=>⟨_,rfl,_,rfl,_,rfl,fs,an,fa,rs,rfl,F,hfa,hrs,hl,_,rfl,(aH rfl),fs,an,.say (fa rs),rs,1,0,rfl,F,hF2,cC _,cC _,hrs,hl,by decide,by decide,by decide,by decide,_,rfl,by rw [one];exact hq'⟩) ?_
  have h0:=hsv _ (aM ..)
  dsimp only at h0
  have hsl:eD fs (.say (fa rs)) rs<=60:=bO (bV _ _) hl
  have big:(1000000000000:Nat)<2 ^ 190:=by decide +kernel
  have ec:[aX ((eD fs (.say (fa rs)) rs:Int)-(eD fs (.ask k n v s y m) rs:Nat)),.int ((Tr.ask k n v s y m).kn:Nat)]=[.int (((eD fs (.say (fa rs)) rs:Int)-(eD fs (.ask k n v s y m) rs:Nat)).toNat:Nat),.int ((Tr.ask k n v s y m).kn:Nat)]:=by rw [iT h0]
  have s1:=vU (fs:=fs) (fa:=fa) y (rs.filter (gM fs k n v s))
  have s2:=vU (fs:=fs) (fa:=fa) m (rs.filter λr=>!gM fs k n v s r)
  refine ⟨_,rfl,_,rfl,_,rfl,.ask k n v s y m,rfl,by omega,by omega,_,_,ec,by omega,by omega,by omega,(aH rfl),_,rfl,_,rfl,?_⟩
  refine ⟨by rw [aC,s1];show 1+_<=_;omega,_,rfl,_,rfl,by rw [bA,aC,aC,s1,s2];show 1+_+_<=_;omega,(aH rfl),?_⟩
  rw [e3,bP,bQ] at h
  exact h

theorem ZN
  (F_29:bN P w K mg base dP 43 a_29 f_29 ["form","tree","rows","prices"] (aS K yQ))
  (F_30:bN P w K mg base dP 3 a_30 f_30 ["form","rows"] (aS K BX))
  (F_3:bN P w K mg base dP 2 a_3 f_3 ["top","bottom"] (aS K HH))
  (F_22:bN P w K mg base dP 1 a_22 f_22 ["tree"] (aS K qX))
  (F_24:bN P w K mg base dP 42 a_24 f_24 ["tree"] (aS K FN))
  (F_31:bN P w K mg base dP 5 a_31 f_31 ["form","knot","rows"] (aS K BW)):bN P w K mg base dP 57 a_37 f_37 ["form","tree","rows"] (aS K RG):=by
 have h:∀ dd:Nat,bN P w K mg base dP (44+dd) a_37 f_37 ["form","tree","rows"] (aS K (pQ dd)):=λdd=>by
  induction dd with
  | zero=>exact wR pY λds Q h=>LT h
  | succ dd ih=>exact OA T dd F_29 F_30 F_3 F_22 F_24 F_31 ih
 exact h 13
theorem ZO
  (F_6:bN P w K mg base dP 1 a_6 f_6 ["one","other"] (aS K U7))
  (F_37:bN P w K mg base dP 57 a_37 f_37 ["form","tree","rows"] (aS K RG)):bN P w K mg base dP 58 a_36 f_36 ["form","tree","rows"] (aS K RH):=by
 refine mS T.D_36.F SJ (λds Q h=>by obtain ⟨fs,an,fa,t,rs,rfl,F,hfa,ht,hd,hk,hL,hrs,hl,hsv,h⟩:=h;rfl) λcdv Ar outer s H E hr ds Q h=>?_
 obtain ⟨fs,an,fa,t,rs,rfl,F,hfa,ht,hd,hk,hL,hrs,hl,hsv,h⟩:=h
 have nd:=SJ.nd
 refine ⟨_,(aU (ss 3 nd (aW aQ bU (cd F_37 T.D_37 hr (aA (aG 0) (aA (aG 1) (aA (aG 2) aO)))) aI))
 (aU (ss 4 nd (aW aQ bU (aG 3) aI))
 (aU (sf (gU (aG 3)) (eH (pn 5 nd))
 (bK (hV (tv (cd F_6 T.D_6 hr (aA (aG 5) (aA (aG 4) aO))))
 (bK (ss 4 nd (aG 5)))
 gD)))
 (bK (cR (aG 4)))))),?_⟩
 show gZ _ _ _ [.val (eL fs an),.val (hU t),.val (.list (rs.map dO)),.un,.un,.un]
 have hb:∀ p∈(rZ fs fa t rs).map fM,p.1<=60:=λp hp=>by
  obtain ⟨e,he,rfl⟩:=bC.mp hp
  have:=(nS t rs e he).1
  have h2:(fM e).1<=e.1.toNat:=mO _ _
  omega
 have hn:∃ x l,(rZ fs fa t rs).map fM=x::l/\dL fs fa t rs=fR x (x::l):=by
  cases t with
  | say z=>cases hL
  | ask k n v s y m=>exact ⟨_,_,rfl,rfl⟩
 have hlen:=vU (fs:=fs) (fa:=fa) t rs
 refine cK (.list (((rZ fs fa t rs).map fM).map BC)) (λq hq=>⟨_,rfl,_,rfl,_,rfl,fs,an,fa,t,rs,rfl,F,hfa,ht,by omega,by omega,by omega,hrs,hl,hsv,_,rfl,by rw [bD] at hq;exact hq⟩) ?_
 obtain ⟨x,l,e,en⟩:=hn
 rw [en] at h
 rw [e] at hb |-
 have h0:L2.atI ((x::l).map BC) 0=some (BC x):=L2.eK (j:=0) rfl
 refine cK (BC x) (λq hq=>⟨_,rfl,_,h0,hq⟩) ?_
 refine jM (ts:=(x::l).map BC) (λR h=>⟨_,rfl,_,rfl,h⟩)
  (λi σ=>∃ s5:Sl,σ=[.val (eL fs an),.val (hU t),.val (.list (rs.map dO)),.val (.list ((x::l).map BC)),.val (BC (fR x ((x::l).take i))),s5]) ⟨_,rfl⟩ (λi d σ' hx hP=>?_) λσ' hP=>?_
 ·obtain ⟨s5,rfl⟩:=hP
  have hi:i<(x::l).length:=by have:=(aD.mp hx).1;rw [aC] at this;exact this
  have ex:d=BC (x::l)[i]:=by rw [aJ,aB hi] at hx;exact (Option.some.inj hx).symm
  subst ex
  have et:(x::l).take (i+1)=(x::l).take i++[(x::l)[i]]:=by rw [cS,aB hi];rfl
  have hz:(fR x ((x::l).take i)).1<=60:=by
   rcases rH ((x::l).take i) x with z | z
   ·rw [z];exact hb x (aM ..)
   ·exact hb _ (dS z)
  have hp:=hb _ (eF hi)
  rw [et,uH]
  generalize (x::l)[i]=p at hp
  generalize fR x ((x::l).take i)=z at hz
  refine nG (λb=>b=decide (p.1*z.2<z.1*p.2)) (λq hq=>⟨_,rfl,_,rfl,p,z,rfl,by omega,by omega,hq _ rfl⟩) (λhT=>?_) λhF=>?_
  ·refine oU (BC p) (λq hq=>⟨_,rfl,hq⟩) ⟨.val (BC p),?_⟩
   unfold kB
   rw [if_pos (of_decide_eq_true hT.symm)]
   rfl
  ·try unfold jZ
   dsimp only
   refine ⟨.val (BC p),?_⟩
   unfold kB
   rw [if_neg (of_decide_eq_false hF.symm)]
   rfl
 ·obtain ⟨s5,rfl⟩:=hP
  rw [aC,dW]
  exact ⟨_,rfl,h⟩

theorem ZP
  (F_22:bN P w K mg base dP 1 a_22 f_22 ["tree"] (aS K qX))
  (F_33:bN P w K mg base dP 58 a_33 f_33 ["form","tree","rows","price"] (aS K RK))
  (F_36:bN P w K mg base dP 58 a_36 f_36 ["form","tree","rows"] (aS K RH)):bN P w K mg base dP 59 a_35 f_35 ["form","tree","rows"] (fV K RI):=by
 refine X0 T.D_35.F SK (λds Q h=>by obtain ⟨fs,an,fa,U,rs,rfl,F,hfa,hT,hd,hk,hrs,hl,h⟩:=h;rfl) λcdv Ar outer s H E hr ds Q h=>?_
 obtain ⟨fs,an,fa,U,rs,rfl,F,hfa,hT,hd,hk,hrs,hl,h⟩:=h
 have nd:=SK.nd
 refine ⟨_,(aU (ss 3 nd (eP (aA aI (aA aI aO))))
 (aU (ss 4 nd (cd F_33 T.D_33 hr (aA (aG 0) (aA (aG 1) (aA (aG 2) (aA (aG 3) aO))))))
 (aU (so 5 nd (aA (eP (aA (aG 3) (aA (aG 4) aO))) aO))
 (aU (vV (zS (tv (cd F_22 T.D_22 hr (aA (aG 4) aO))))
 (aU (ss 3 nd (cd F_36 T.D_36 hr (aA (aG 0) (aA (aG 4) (aA (aG 2) aO)))))
 (aU (ss 4 nd (cd F_33 T.D_33 hr (aA (aG 0) (aA (aG 4) (aA (aG 2) (aA (aG 3) aO))))))
 (bK (lR (i:=5) (pv 5) (eP (aA (aG 3) (aA (aG 4) aO))) (pb:=λh=>iV (iR bR cX cW gT (pv 5) h)))))) (λhc hb=>wC PassesOwn.never hc hb))
 (bK (tF (pv 5))))))),?_⟩
 show gZ _ _ _ [.val (eL fs an),.val (hU U),.val (.list (rs.map dO)),.un,.un,.un]
 have hT0:=(CL hfa 1 0 U rs hT hrs).1
 have hd0:=AN (fs:=fs) (fa:=fa) 1 0 U rs
 have hk0:=(yX (fs:=fs) (fa:=fa) 1 0 U rs).1
 have ok0:XM fs fa U rs ((0,1),(lw fs fa 1 0 U rs).2):=⟨show Nat.gcd 0 1=1 by decide,show 0<1 by decide,show 1<=20 by decide,show 0<=60 by decide,rfl⟩
 refine cK (BC (0,1)) (λq hq=>⟨(aH rfl),hq⟩) ?_
 refine cK (hU (lw fs fa 1 0 U rs).2) (λq hq=>⟨_,rfl,_,rfl,_,rfl,_,rfl,fs,an,fa,U,rs,1,0,rfl,F,hfa,hT,by omega,hrs,hl,by decide,by decide,by decide,by decide,hq⟩) ?_
 refine kK [HF ((0,1),(lw fs fa 1 0 U rs).2)] (aH rfl) (λq hq=>⟨_,rfl,_,rfl,(aH rfl),hq⟩) ?_
 have hL:iN fs fa U rs=kI fs fa rs (lw fs fa 1 0 U rs).2.kn (0,1) (lw fs fa 1 0 U rs).2:=rfl
 rw [hL] at h
 refine tI (λn σ=>∃ (pre:List JU) (x:Nat×Nat) (p:Tr),σ=[.val (eL fs an),.val (hU U),.val (.list (rs.map dO)),.val (BC x),.val (hU p),.own ((pre++[(x,p)]).map HF)]/\pre++kI fs fa rs n x p=kI fs fa rs (lw fs fa 1 0 U rs).2.kn (0,1) (lw fs fa 1 0 U rs).2/\XM fs fa U rs (x,p)/\mU fs an p/\p.dep<=12/\p.kn<=n/\p.kn<=20/\pre.length+n<=20) (lw fs fa 1 0 U rs).2.kn ⟨[],(0,1),(lw fs fa 1 0 U rs).2,rfl,rfl,ok0,hT0,by omega,aL _,by omega,by show 0+_<=20;omega⟩ λn σ' hP=>?_
 obtain ⟨pre,x,p,rfl,heq,ok,hp,hpd,hpn,hpk,hpl⟩:=hP
 refine ⟨!DI p,λq hq=>⟨_,rfl,p,rfl,by cases p<;>exact hq⟩,?_⟩
 cases hpl':DI p with
 | true =>
  show (if false=true then _ else _)
  rw [if_neg (by decide)]
  have e:kI fs fa rs n x p=[(x,p)]:=by
   cases n with
   | zero=>rfl
   | succ n=>show (x,p)::(if DI p=true then [] else _)=_;rw [if_pos hpl']
  rw [e] at heq
  rw [<- heq] at h
  exact ⟨_,rfl,h⟩
 | false =>
  show (if true=true then _ else _)
  rw [if_pos rfl]
  obtain ⟨n,rfl⟩:∃ m,n=m+1:=⟨n-1,by
   cases n with
   | zero=>rw [MH (by omega)] at hpl';cases hpl'
   | succ n=>rfl⟩
  have e:kI fs fa rs (n+1) x p=(x,p)::kI fs fa rs n (dL fs fa p rs) (lw fs fa ((dL fs fa p rs).2:Nat) ((dL fs fa p rs).1:Nat) p rs).2:=by
   show (x,p)::(if DI p=true then [] else _)=_
   rw [if_neg (by rw [hpl'];decide)]
  obtain ⟨ok2,lk⟩:=F8 hk hl ok hpl'
  have hst:St fs fa (x.2:Nat) (x.1:Nat) p rs:=by
   have e5:p=(lw fs fa (x.2:Nat) (x.1:Nat) U rs).2:=ok.tr
   rw [e5];exact BV _ _ U rs
  have hq0:0<x.2:=ok.q0
  have hsv:∀ e∈rZ fs fa p rs,0<=e.1:=λe he=>by
   have h1:=(rE _ _ p rs).mp hst e he
   have h3:(0:Int)<=(x.1:Nat)*(e.2:Nat):=A8 (by omega) (by omega)
   by_cases hn:0<=e.1
   ·exact hn
   ·have:=jC (show e.1<=0 by omega) (show (0:Int)<=(x.2:Nat) by omega)
    rw [uZ] at this
    omega
  have q1:(dL fs fa p rs).2<=20:=ok2.q1
  have p1:(dL fs fa p rs).1<=60:=ok2.p1
  have hk2:(lw fs fa ((dL fs fa p rs).2:Nat) ((dL fs fa p rs).1:Nat) p rs).2.kn<p.kn:=lk.kn
  have hp2:=(CL hfa ((dL fs fa p rs).2:Nat) ((dL fs fa p rs).1:Nat) p rs hp hrs)
  refine cK (BC (dL fs fa p rs)) (λq hq=>⟨_,rfl,_,rfl,_,rfl,fs,an,fa,p,rs,rfl,F,hfa,hp,hpd,hpk,hpl',hrs,hl,hsv,hq⟩) ?_
  refine cK (hU (lw fs fa ((dL fs fa p rs).2:Nat) ((dL fs fa p rs).1:Nat) p rs).2) (λq hq=>⟨_,rfl,_,rfl,_,rfl,_,rfl,fs,an,fa,p,rs,((dL fs fa p rs).2:Nat),((dL fs fa p rs).1:Nat),rfl,F,hfa,hp,by omega,hrs,hl,by omega,by omega,by omega,by omega,hq⟩) ?_
  refine mW (ts:=(pre++[(x,p)]).map HF) (HF (dL fs fa p rs,(lw fs fa ((dL fs fa p rs).2:Nat) ((dL fs fa p rs).1:Nat) p rs).2)) rfl (by rw [aC,bA];show _+1<=_;omega) (λq hq=>⟨_,rfl,_,rfl,(aH rfl),hq⟩) ?_
  refine ⟨n,lX _,pre++[(x,p)],dL fs fa p rs,(lw fs fa ((dL fs fa p rs).2:Nat) ((dL fs fa p rs).1:Nat) p rs).2,?_,?_,ok2,hp2.1,by omega,by omega,by omega,by rw [bA];show _+1+n<=20;omega⟩
  ·rw [bQ (l₁:=pre++[(x,p)])];rfl
  ·rw [lC,<- heq,e];rfl

theorem ZM:bN P w K mg base dP 1 a_38 f_38 ["_law_cell","_law_k"] (aS K FM):=by
 refine mS T.D_38.F SH (λds Q h=>by obtain ⟨c,k,rfl,h0,h1,h⟩:=h;rfl) λcdv Ar outer s H E hr ds Q h=>?_
 obtain ⟨c,k,rfl,h0,h1,h⟩:=h
 have nd:=SH.nd
 refine ⟨_,(aU (ss 2 nd (bZ fD oV (bZ cH eV (bZ cH eV (bZ eB iZ (bZ fD oV (aG 0) aI) aI) (bZ eB iZ (aG 1) aI)) aI) aI))
 (bK (cR (bZ fD oV (bZ eB iZ (bZ fD oV (bZ eB iZ (aG 2) (aG 2)) aI) aI) aI)))),?_⟩
 walk_at "rd"
 have b1:=cV c (show (1000000007:Int)≠0 by decide)
 have b2:=cN c (show (0:Int)<1000000007 by decide)
 generalize hx:(c % 1000000007*48271+k*7919+101)=x
 have b3:=cV x (show (2147483647:Int)≠0 by decide)
 have b4:=cN x (show (0:Int)<2147483647 by decide)
 generalize hy:x % 2147483647=y at *
 have b5:=cV (y*y) (show (2147483629:Int)≠0 by decide)
 have b6:=cN (y*y) (show (0:Int)<2147483629 by decide)
 generalize hz:y*y % 2147483629=z at *
 have p64:(2:Int) ^ 64=18446744073709551616:=by decide
 refine ⟨by decide,.inl ⟨by omega,by omega⟩,.inl ⟨by omega,by omega⟩,by decide,.inl ⟨by omega,by omega⟩,by decide,.inl ⟨by omega,by omega⟩,by decide,h _ ?_ ?_⟩
 ·exact cV _ (by decide)
 ·exact cN _ (by decide)

theorem ZL
  (F_38:bN P w K mg base dP 1 a_38 f_38 ["_law_cell","_law_k"] (aS K FM)):bN P w K mg base dP 2 a_39 f_39 ["_law_script","_law_k"] (aS K FL):=by
 refine mS T.D_39.F SG (λds Q h=>by obtain ⟨ns,k,rfl,hl,h0,h1,h⟩:=h;rfl) λcdv Ar outer s H E hr ds Q h=>?_
 obtain ⟨ns,k,rfl,hl,h0,h1,h⟩:=h
 have nd:=SG.nd
 refine ⟨_,(aU (hV (eS TY AJ (aG 1) (cB jJ (aA (aG 0) aO) dH T.b_len gW))
 (bK (cR (aW aQ bU (aG 0) (aG 1))))
 gD)
 (aU (ss 2 nd aI)
 (aU (hV (eS F3 AJ (cB jJ (aA (aG 0) aO) dH T.b_len gW) aI)
 (bK (ss 2 nd (aW aQ bU (aG 0) (bZ fD oV (aG 1) (cB jJ (aA (aG 0) aO) dH T.b_len gW)))))
 gD)
 (bK (cR (bZ cH eV (bZ eB iZ aI (cd F_38 T.D_38 hr (aA (aG 2) (aA (aG 1) aO)))) aI)))))),?_⟩
 walk_at "rd"
 have fin:∀ c:Int,FM [.int c,.int k] λy=>WT (.int 2) y λx=>MY x (.int 1) Q:=λc =>
  ⟨c,k,rfl,h0,h1,λr _ _=>⟨.inl ⟨by decide,by decide⟩,h _⟩⟩
 rw [aC]
 by_cases h2:k<(ns.length:Int)
 ·rw [if_pos (decide_eq_true h2)]
  obtain ⟨a,hm,ha,_⟩:=qA (xs:=ns.map aX) (i:=k) h0 (by rw [aC];exact h2)
  obtain ⟨b,_,rfl⟩:=bC.mp hm
  exact ⟨_,ha,h b⟩
 ·rw [if_neg (by simpa using h2)]
  by_cases h3:0<(ns.length:Int)
  ·rw [if_pos (decide_eq_true h3)]
   refine ⟨h3,?_⟩
   obtain ⟨a,hm,ha,_⟩:=qA (xs:=ns.map aX) (i:=k % (ns.length:Int)) (cV _ (by omega)) (by rw [aC];exact cN _ h3)
   obtain ⟨b,_,rfl⟩:=bC.mp hm
   exact ⟨_,ha,fin b⟩
  ·rw [if_neg (by simpa using h3)]
   exact fin 0

theorem ZK
  (F_38:bN P w K mg base dP 1 a_38 f_38 ["_law_cell","_law_k"] (aS K FM)):bN P w K mg base dP 2 a_40 f_40 ["_law_cell","_law_many"] (aS K FK):=by
 refine mS T.D_40.F SF (λds Q h=>by obtain ⟨c,n,rfl,hn,h⟩:=h;rfl) λcdv Ar outer s H E hr ds Q h=>?_
 obtain ⟨c,n,rfl,hn,h⟩:=h
 have nd:=SF.nd
 refine ⟨_,(aU (so 2 nd aO)
 (aU (ss 3 nd (bZ mE oV (aG 0) aI))
 (aU (sf (hZ (aA (aG 1) aO) (λh=>gJ rfl T.b_range h)) (eH (pn 4 nd))
 (bK (hV (eS nV tP (bZ fD oV (aG 0) aI) aI)
 (aU (lR (i:=2) (pv 2) (bZ fD oV (aG 3) aI) (pb:=λh=>iV (iR bR cX cW gT (pv 2) h)))
 (bK (ss 3 nd (bZ mE oV (aG 3) aI))))
 (bK (lR (i:=2) (pv 2) (bZ fD oV (bZ mE oV (cd F_38 T.D_38 hr (aA (bZ mE oV (aG 0) aI) (aA (aG 4) aO))) aI) aI) (pb:=λh=>iV (iR bR cX cW gT (pv 2) h)))))))
 (kJ 2 (bK (cR (aG 2))))))),?_⟩
 walk_at "rd"
 refine ⟨⟨by decide,by decide⟩,WQ (ts:=dX n) (λR h=>⟨_,rfl,(n:Int),rfl,by omega,by omega,by simpa using h⟩)
  (λk σ=>∃ (bs:List Int) (l:Int) (sl:Sl),σ=[.val (.int c),.val (.int n),.own (bs.map aX),.val (.int l),sl]/\qT k bs) ⟨[],_,_,rfl,rfl,λb hb=>by simp at hb⟩ (λk x σ' hx hP=>?_) λσ' hP=>?_⟩
 ·obtain ⟨hk,rfl⟩:=fE hx
  obtain ⟨bs,l,sl,rfl,hbs⟩:=hP
  have hlen:(bs.map aX).length<=100000:=by rw [aC,hbs.1];omega
  have more:∀ b:Int,0<=b->b<4096->qT (k+1) (bs++[b]):=λb h1 h2=>⟨by rw [bA,hbs.1];rfl,λb' hb'=>by
   rcases eT.mp hb' with z | z
   ·exact hbs.2 b' z
   ·have:b'=b:=by simpa using z
    subst this;exact ⟨h1,h2⟩⟩
  show VE _ _ _ _ [.val (.int c),.val (.int n),.own (bs.map aX),.val (.int l),.val (.int k)]
  walk_at "rd"
  refine ⟨by decide,?_⟩
  split
  ·refine ⟨by decide,hlen,⟨by decide,by decide⟩,⟨bs++[l % 4096],_,_,by rw [bQ];rfl,more _ (cV _ (by decide)) (cN _ (by decide))⟩⟩
  ·refine ⟨⟨by decide,by decide⟩,_,_,rfl,by omega,by omega,λr _ _=>?_⟩
   exact ⟨⟨by decide,by decide⟩,by decide,hlen,⟨bs++[r / 3 % 4096],_,_,by rw [bQ];rfl,more _ (cV _ (by decide)) (cN _ (by decide))⟩⟩
 ·obtain ⟨bs,l,sl,rfl,hbs⟩:=hP
  rw [eZ] at hbs
  exact ⟨_,rfl,_,rfl,h bs hbs⟩

theorem ZJ:bN P w K mg base dP 1 a_41 f_41 ["_law_drawn_here","_law_at","_law_many"] (aS K RF):=by
 refine mS T.D_41.F SE (λds Q h=>by obtain ⟨bs,n,m,k,rfl,hb,hk,hn,hm,h⟩:=h;rfl) λcdv Ar outer s H E hr ds Q h=>?_
 obtain ⟨bs,n,m,k,rfl,hb,hk,hn,hm,h⟩:=h
 have nd:=SE.nd
 refine ⟨_,(aU (ss 3 nd fH)
 (aU (ss 4 nd (QF fH (aA (el (fr:=[none,some 3,some 0,some 1]) (N':=["_law_k","_law_letters","_law_drawn_here","_law_at"]) (hZ (aA aI aO) (λh=>gJ rfl T.b_range h)) (λb=>⟨(eH (pk 0)),iD,(aW aQ bU (aG 1) (bZ fD oV (aW aQ bU (aG 2) (bZ cH eV (bZ cH eV (aG 3) aI) (aG 0))) aI))⟩)) aO) (λh ha=>iR PySem.F.plainAttrs_str PySem.F.slot_str_join PySem.F.type_str_join PR h ha)))
 (aU (ss 5 nd (bZ fD oV (bZ mE oV (aW aQ bU (aG 0) (aG 1)) aI) aI))
 (aU (ss 6 nd (tV (aA fH (aA fH (aA fH (aA fH (aA fH (aA fH (aA fH (aA fH aO))))))))))
 (aU (hV (eS nV tP (bZ fD oV (aW aQ bU (aG 0) (aG 1)) aI) aI)
 (bK (nT (i:=6) (fr:=[none,some 4]) (N':=["_law_k","_law_word"]) (hZ (aA aI aO) (λh=>gJ rfl T.b_range h)) (λb=>⟨(eH (pk 0)),iD,(iO lE tO (aG 1) kM (iW (bZ cH eV (aG 0) aI)))⟩) (λhi hY=>mG (show pH _ (aY (top 52)) ["_law_drawn_here","_law_at","_law_many","_law_letters","_law_word","_law_turn","_law_names_here","_law_place","_law_k","_law_sign"] ["_law_k","_law_word"] [none,some 4]=true from by decide +kernel) nd rfl (by first | exact Or.inl rfl | exact Or.inr rfl) rfl hi hY rfl)))
 gD)
 (aU (hV (eS nV tP (bZ fD oV (aW aQ bU (aG 0) (aG 1)) aI) aI)
 (aU (ss 7 nd (bZ fD oV (aW aQ bU (aG 0) (bZ cH eV (aG 1) aI)) (bZ cH eV (aG 5) aI)))
 (aU (so 6 nd aO)
 (aU (sf (hZ (aA aI aO) (λh=>gJ rfl T.b_range h)) (eH (pn 8 nd))
 (aU (ss 9 nd (aW aQ bU (aG 3) (bZ fD oV (bZ cH eV (aW aQ bU (aG 0) (bZ cH eV (aG 1) aI)) (bZ eB iZ aI (aG 8))) aI)))
 (bK (lR (i:=6) (pv 6) (bZ cH eV (bZ cH eV (iO lE tO (aG 4) kM (iW (aG 7))) (aG 9)) (iO lE tO (aG 4) (iW (bZ cH eV (aG 7) aI)) (iW (bZ cH eV (aG 5) aI)))) (pb:=λh=>iV (iR bR cX cW gT (pv 6) h))))))
 (kJ 6 gD))))
 gD)
 (bK (cR (cY nC (aA (iO lE tO (bZ cH eV (iO lE tO (aG 6) (iW (aG 5)) kM) (iO lE tO (aG 6) kM (iW (aG 5)))) kM (iW (aG 2))) aO) gR T.b_tuple lO))))))))),?_⟩
 show gZ _ _ _ [.val (.list (bs.map aX)),.val (.int k),.val (.int m),.un,.un,.un,.un,.un,.un,.un]
 obtain ⟨b0,h00,h01,hb0⟩:=gQ hb (i:=(k:Int)) (by omega) (by omega)
 obtain ⟨b9,h90,h91,hb9⟩:=gQ hb (i:=(k:Int)+9) (by omega) (by omega)
 obtain ⟨b10,h100,h101,hb10⟩:=gQ hb (i:=(k:Int)+10) (by omega) (by omega)
 have p26:(0:Int)<26:=by decide
 have p8:(0:Int)<8:=by decide
 have p3:(0:Int)<3:=by decide
 refine cK (.str iL) (λq hq=>hq) ?_
 refine gE (λd=>∃ z:Str,d=.str z/\z.cps.toList.length=8/\∀ c∈z.cps.toList,c∈iL.cps.toList) (λq hq=>?_) ?_
 ·refine ⟨_,rfl,?_⟩
  refine wM (ts:=dX 8) (λR h=>⟨8,rfl,by decide,by decide,h⟩) (λ_ _ y=>∃ c,c∈iL.cps.toList/\y=.str ⟨#[c]⟩) (by decide) (λj x q hx hq=>?_) λys hl hy=>?_
  ·obtain ⟨hj,rfl⟩:=fE hx
   obtain ⟨b,h0,h1,hbj⟩:=gQ hb (i:=(k:Int)+1+(j:Int)) (by omega) (by omega)
   obtain ⟨c,hc,hcc,_⟩:=qA (xs:=iL.cps.toList) (i:=b % 26) (cV _ (by decide)) (cN _ (by decide))
   exact ⟨_,rfl,_,rfl,_,rfl,_,rfl,_,hbj,p26,by decide,c,hcc,hq _ ⟨c,hc,rfl⟩⟩
  ·obtain ⟨cs,rfl,hcl⟩:=B0 (ys:=ys) λy hy'=>by
    obtain ⟨j,hj,rfl⟩:=G6.mp hy'
    have hjt:j<(dX 8).length:=by rw [<- hl];exact hj
    exact hy j (dX 8)[j] _ (aB hjt) (aB hj)
   have hl8:cs.length=8:=by rw [aC,eZ] at hl;exact hl
   refine ⟨cs.map λc=>⟨#[c]⟩,by rw [bD];rfl,?_,hq _ ⟨_,rfl,?_,?_⟩⟩
   ·rw [aC,bD,hl8]
    have:(List.map ((λx:Str=>x.length) ∘ λc=>(⟨#[c]⟩:Str)) cs).sum=cs.length:=by
     clear hl8 hl hy hcl
     induction cs with
     | nil=>rfl
     | cons a l ih=>rw [bP,eY,ih,bI];show 1+_=_;omega
    rw [this,hl8]
    decide
   ·rw [show (Txt.join (Str.ofString "") (cs.map λc=>⟨#[c]⟩)).cps.toList=cs from wO cs];exact hl8
   ·rw [show (Txt.join (Str.ofString "") (cs.map λc=>⟨#[c]⟩)).cps.toList=cs from wO cs];exact hcl
 rintro _ ⟨z,rfl,hz8,hzl⟩
 have hz:z.length<=100000:=by
  have:z.length=z.cps.toList.length:=by simp [Str.length]
  omega
 generalize ht:b0 / 3 % 8=t
 have ht0:0<=t:=by rw [<- ht];exact cV _ (by decide)
 have ht1:t<8:=by rw [<- ht];exact cN _ (by decide)
 refine cK (.int t) (λq hq=>⟨_,rfl,_,rfl,_,hb0,⟨by decide,by decide⟩,p8,by rw [ht];exact hq⟩) ?_
 refine cK (.list (LY.map aR)) (λq hq=>⟨by decide,hq⟩) ?_
 have hend:∀ (ys:List Str) (σ:List Sl),JI 8 ys->σ[6]?=some (.val (.list (ys.map aR)))->σ[5]?=some (.val (.int t))->σ[2]?=some (.val (.int m)) ->
   sB (mB (f1 AX) (qB (eSl fSl (M1 MY (eSl fSl (wV 6) (B8 (wV 5)) B9) (eSl fSl (wV 6) B9 (B8 (wV 5)))) B9 (B8 (wV 2))) C8)) { nx:=λ_=>Q .none,rt:=Q } σ:=λys σ hy e6 e5 e2=>by
  refine ⟨_,e6,_,e5,_,e6,_,e5,?_,_,e2,?_⟩
  ·rw [nB,nB,aC,aC]
   have:=hy.1
   unfold jP
   simp only [bF,cO]
   omega
  ·show Q (.tuple (jP (jP (ys.map aR) (some t) none++jP (ys.map aR) none (some t)) none (some (m:Int))))
   rw [nB,nB,<- bQ,nB]
   have et:t=((t.toNat:Nat):Int):=by omega
   rw [et,W5,pA,pA]
   exact h _ (LP hy _ hm)
 refine gL (λb=>b=decide (b0 % 3=0)) (λq hq=>⟨_,rfl,_,rfl,_,hb0,p3,hq _ rfl⟩) (λhT=>?_) λhF=>?_
 ·have hb03:b0 % 3=0:=of_decide_eq_true hT.symm
  refine oU (.list (((bX 8).map λ(j:Nat)=>Txt.slice z none (some ((j:Int)+1))).map aR)) (λq hq=>?_) ?_
  ·refine jF (ts:=dX 8) (λR h=>⟨8,rfl,by decide,by decide,h⟩) (λx=>match x with | .int j=>.str (Txt.slice z none (some (j+1))) | _=>.none) (by decide) (λx q hx hq=>?_) ?_
   ·obtain ⟨j,hj,rfl⟩:=bC.mp hx
    exact ⟨_,rfl,_,rfl,hz,hq⟩
   ·unfold dX
    rw [bD]
    rw [bD] at hq
    exact hq
  ·dsimp only
   refine gL (λb=>b=false) (λq hq=>⟨_,rfl,_,rfl,_,hb0,p3,hq _ (by rw [hb03];rfl)⟩) (λhT=>by cases hT) λ_=>?_
   refine hend _ _ (yW _ (λi hi=>?_) λi j hi hj e=>?_) rfl rfl rfl
   ·have e:(Txt.slice z none (some ((i:Int)+1))).cps.toList=z.cps.toList.take (i+1):=by
     rw [lL];exact pA _ (i+1)
    refine LR ?_ ?_ λc hc=>?_
    ·rw [e,bF];omega
    ·rw [e,bF];omega
    ·rw [e] at hc;exact hzl c (dS hc)
   ·have e1:(Txt.slice z none (some ((i:Int)+1))).cps.toList=z.cps.toList.take (i+1):=by
     rw [lL];exact pA _ (i+1)
    have e2:(Txt.slice z none (some ((j:Int)+1))).cps.toList=z.cps.toList.take (j+1):=by
     rw [lL];exact pA _ (j+1)
    rw [e] at e1
    have:=congrArg lA (e1.symm.trans e2)
    rw [bF,bF] at this
    omega
 ·have hb03:¬ b0 % 3=0:=of_decide_eq_false hF.symm
  unfold jZ
  dsimp only
  refine gL (λb=>b=decide (b0 % 3=1)) (λq hq=>⟨_,rfl,_,rfl,_,hb0,p3,hq _ rfl⟩) (λhT=>?_) λhF=>?_
  ·generalize hpl:b9 % (t+1)=pl
   have hp0:0<=pl:=by rw [<- hpl];exact cV _ (by omega)
   have hp1:pl<t+1:=by rw [<- hpl];exact cN _ (by omega)
   refine cK (.int pl) (λq hq=>⟨_,rfl,_,rfl,_,hb9,_,rfl,(show (0:Int)<t+1 by omega),by rw [hpl];exact hq⟩) ?_
   refine kK [] (by decide) (λq hq=>hq) ?_
   have hsgn:∀ j:Nat,∃ c,c∈iL.cps.toList/\atI iL.cps.toList ((b10+5*(j:Int)) % 26)=some c/\iL.cps.toList[((b10+5*(j:Int)) % 26).toNat]?=some c:=λj =>
    qA (cV _ (by decide)) (cN _ (by decide))
   let F:Nat->Str:=λj=>Txt.slice z none (some pl)++⟨#[Classical.choose (hsgn j)]⟩++Txt.slice z (some (pl+1)) (some (t+1))
   have hF0:∀ j,(F j).cps.toList=z.cps.toList.take pl.toNat++(Classical.choose (hsgn j)::(z.cps.toList.drop (pl.toNat+1)).take (t.toNat-pl.toNat)):=λj=>by
    show (Txt.slice z none (some pl)++⟨#[Classical.choose (hsgn j)]⟩++Txt.slice z (some (pl+1)) (some (t+1))).cps.toList=_
    rw [qO,qO,lL,lL]
    have e1:pl=((pl.toNat:Nat):Int):=by omega
    have e2:pl+1=((pl.toNat+1:Nat):Int):=by omega
    have e3:t+1=((t.toNat+1:Nat):Int):=by omega
    rw [e2,e3,W4]
    have e4:jP z.cps.toList none (some pl)=z.cps.toList.take pl.toNat:=by
     have:=pA z.cps.toList pl.toNat
     rwa [<- e1] at this
    rw [e4]
    have e5:t.toNat+1-(pl.toNat+1)=t.toNat-pl.toNat:=by omega
    rw [e5]
    simp
   refine jM (ts:=dX 8) (λR h=>⟨8,rfl,by decide,by decide,h⟩)
    (λj σ=>∃ s8 s9:Sl,σ=[.val (.list (bs.map aX)),.val (.int k),.val (.int m),.val (.str iL),.val (.str z),.val (.int t),.own (((bX j).map F).map aR),.val (.int pl),s8,s9]) ⟨_,_,rfl⟩ (λj x σ' hx hP=>?_) λσ' hP=>?_
   ·obtain ⟨hj,rfl⟩:=fE hx
    obtain ⟨s8,s9,rfl⟩:=hP
    have hc:=Classical.choose_spec (hsgn j)
    refine cK (.str ⟨#[Classical.choose (hsgn j)]⟩) (λq hq=>⟨_,rfl,_,rfl,_,rfl,_,hb10,_,rfl,.inl ⟨by decide,by decide⟩,p26,by decide,_,hc.2.1,hq⟩) ?_
    refine mW (ts:=((bX j).map F).map aR) (.str (F j)) rfl (by simp;omega) (λq hq=>?_) ⟨.val (.int j),.val (.str ⟨#[Classical.choose (hsgn j)]⟩),?_⟩
    ·refine ⟨_,rfl,_,rfl,hz,_,rfl,?_,_,rfl,_,rfl,_,rfl,hz,?_,hq⟩
     ·have:=Txt.slice_le z none (some pl)
      show (Txt.slice z none (some pl)).length+1<=100000
      have:z.length=z.cps.toList.length:=by simp [Str.length]
      omega
     ·have a1:=Txt.slice_le z none (some pl)
      have a2:=Txt.slice_le z (some (pl+1)) (some (t+1))
      have a3:z.length=z.cps.toList.length:=by simp [Str.length]
      show (Txt.slice z none (some pl)++⟨#[Classical.choose (hsgn j)]⟩).length+_<=100000
      have a4:(Txt.slice z none (some pl)++(⟨#[Classical.choose (hsgn j)]⟩:Str)).length=(Txt.slice z none (some pl)).length+1:=by
       show ((Txt.slice z none (some pl)).cps++#[_]).size=_
       rw [J6];rfl
      rw [a4]
      omega
    ·rw [xJ,bQ,bQ];rfl
   ·obtain ⟨s8,s9,rfl⟩:=hP
    rw [eZ]
    refine ⟨_,rfl,?_⟩
    refine hend _ _ (yW F (λi hi=>?_) λi j hi hj e=>?_) rfl rfl rfl
    ·have hc:=Classical.choose_spec (hsgn i)
     refine LR ?_ ?_ λc hc'=>?_
     ·rw [hF0]
      simp only [bA,bI]
      omega
     ·rw [hF0]
      simp only [bA,bF,bI,cO]
      omega
     ·rw [hF0] at hc'
      rcases eT.mp hc' with q | q
      ·exact hzl c (dS q)
      ·rcases aZ.mp q with q | q
       ·rw [q];exact hc.1
       ·exact hzl c (iF (dS q))
    ·have e1:=hF0 i
     rw [e,hF0 j] at e1
     have e2:=List.append_cancel_left e1
     have e3:Classical.choose (hsgn j)=Classical.choose (hsgn i):=(List.cons.inj e2).1
     have q1:=(Classical.choose_spec (hsgn i)).2.2
     have q2:=(Classical.choose_spec (hsgn j)).2.2
     rw [e3] at q2
     have e4:=PL EF q1 q2
     have:=cV (b10+5*(i:Int)) (show (26:Int)≠0 by decide)
     have:=cV (b10+5*(j:Int)) (show (26:Int)≠0 by decide)
     omega
  ·exact hend _ _ aC1 rfl rfl rfl

theorem ZI
  (F_39:bN P w K mg base dP 2 a_39 f_39 ["_law_script","_law_k"] (aS K FL))
  (F_40:bN P w K mg base dP 2 a_40 f_40 ["_law_cell","_law_many"] (aS K FK))
  (F_41:bN P w K mg base dP 1 a_41 f_41 ["_law_drawn_here","_law_at","_law_many"] (aS K RF)):bN P w K mg base dP 3 a_42 f_42 ["_law_script"] (aS K RE):=by
 refine mS T.D_42.F SD (λds Q h=>by obtain ⟨ns,rfl,hl,h⟩:=h;rfl) λcdv Ar outer s H E hr ds Q h=>?_
 obtain ⟨ns,rfl,hl,h⟩:=h
 have nd:=SD.nd
 refine ⟨_,(aU (ss 1 nd (cd F_40 T.D_40 hr (aA (cd F_39 T.D_39 hr (aA (aG 0) (aA aI aO))) (aA aI aO))))
 (aU (ss 2 nd (cd F_41 T.D_41 hr (aA (aG 1) (aA aI (aA (aW aQ bU (tV (aA aI (aA aI (aA aI (aA aI (aA aI (aA aI (aA aI (aA aI aO))))))))) (bZ fD oV (aW aQ bU (aG 1) aI) aI)) aO)))))
 (aU (so 3 nd aO)
 (aU (sf (hZ (aA (cB jJ (aA (aG 2) aO) dH T.b_len gW) aO) (λh=>gJ rfl T.b_range h)) (eH (pn 4 nd))
 (aU (ss 5 nd (cd F_40 T.D_40 hr (aA (cd F_39 T.D_39 hr (aA (aG 0) (aA (bZ cH eV aI (aG 4)) aO))) (aA aI aO))))
 (bK (lR (i:=3) (pv 3) (eP (aA (aW aQ bU (aG 2) (aG 4)) (aA (cd F_41 T.D_41 hr (aA (aG 5) (aA aI (aA (aW aQ bU (tV (aA aI (aA aI (aA aI (aA aI (aA aI (aA aI aO))))))) (bZ fD oV (aW aQ bU (aG 5) aI) aI)) aO)))) aO))) (pb:=λh=>iV (iR bR cX cW gT (pv 3) h))))))
 (aU (ss 5 nd (cd F_40 T.D_40 hr (aA (cd F_39 T.D_39 hr (aA (aG 0) (aA aI aO))) (aA aI aO))))
 (kJ 3 (bK (cR (eP (aA (cY nC (aA (aG 3) aO) gR T.b_tuple lO) (aA (cd F_41 T.D_41 hr (aA (aG 5) (aA aI (aA (aW aQ bU (tV (aA aI (aA aI (aA aI (aA aI aO))))) (bZ fD oV (aW aQ bU (aG 5) aI) aI)) aO)))) aO))))))))))),?_⟩
 have p8:(0:Int)<8:=by decide
 have p6:(0:Int)<6:=by decide
 have p4:(0:Int)<4:=by decide
 show gZ _ _ _ [.val (.list (ns.map aX)),.un,.un,.un,.un,.un]
 refine gE (λd=>∃ bs,qT 20 bs/\d=.list (bs.map aX)) (λq hq=>⟨_,rfl,ns,0,rfl,hl,by decide,by decide,λr=>⟨r,20,rfl,by decide,λbs hb=>hq _ ⟨bs,hb,rfl⟩⟩⟩) ?_
 rintro _ ⟨bs,hb,rfl⟩
 obtain ⟨b0,h00,h01,hb0⟩:=gQ hb (i:=0) (by decide) (by decide)
 obtain ⟨m,hm0,hm1,hm⟩:=VN (xs:=[1,2,2,3,3,3,4,5]) (lo:=1) (hi:=5) (by decide) (i:=b0 % 8) (cV _ (by decide)) (cN _ p8)
 refine gE (λd=>∃ ys,JI m.toNat ys/\d=.tuple (ys.map aR)) (λq hq=>?_) ?_
 ·refine ⟨_,rfl,by decide,_,rfl,_,hb0,p8,_,hm,bs,20,m.toNat,1,?_,hb,by decide,by decide,by omega,λys hy=>hq _ ⟨ys,hy,rfl⟩⟩
  rw [show ((m.toNat:Nat):Int)=m by omega];rfl
 rintro _ ⟨ys,hy,rfl⟩
 have hyl:ys.length=m.toNat:=hy.1
 refine kK [] (by decide) (λq hq=>hq) ?_
 refine jM (ts:=dX ys.length) (λR h=>⟨_,rfl,_,rfl,by rw [aC];omega,by rw [aC];omega,by simpa using h⟩)
  (λk σ=>∃ (fs:List (Str×List Str)) (s4 s5:Sl),σ=[.val (.list (ns.map aX)),.val (.list (bs.map aX)),.val (.tuple (ys.map aR)),.own (fs.map jO),s4,s5]/\fs.map (·.1)=ys.take k/\∀ f∈fs,2<=f.2.length/\f.2.length<=5/\JI f.2.length f.2)
  ⟨[],_,_,rfl,by simp,λf hf=>by simp at hf⟩ (λk x σ' hx hP=>?_) λσ' hP=>?_
 ·obtain ⟨hk,rfl⟩:=fE hx
  obtain ⟨fs,s4,s5,rfl,hfs,hfv⟩:=hP
  have hfl:fs.length=k:=by
   have:=congrArg lA hfs
   rw [aC,bF] at this
   omega
  refine gE (λd=>∃ bs,qT 12 bs/\d=.list (bs.map aX)) (λq hq=>⟨_,rfl,_,rfl,ns,1+(k:Int),rfl,hl,by omega,by omega,λr=>⟨r,12,rfl,by decide,λbs hb=>hq _ ⟨bs,hb,rfl⟩⟩⟩) ?_
  rintro _ ⟨cs,hc,rfl⟩
  obtain ⟨c0,h00,h01,hc0⟩:=gQ hc (i:=0) (by decide) (by decide)
  obtain ⟨v,hv0,hv1,hv⟩:=VN (xs:=[2,2,3,3,4,5]) (lo:=2) (hi:=5) (by decide) (i:=c0 % 6) (cV _ (by decide)) (cN _ p6)
  refine ⟨fs.map jO,rfl,_,rfl,_,rfl,_,NA hk,_,rfl,by decide,_,rfl,_,hc0,p6,_,hv,cs,12,v.toNat,1,?_,hc,by decide,by decide,by omega,λvs hvs=>?_⟩
  ·rw [show ((v.toNat:Nat):Int)=v by omega];rfl
  ·refine ⟨aH rfl,by rw [aC];omega,fs++[(ys[k],vs)],.val (.int k),.val (.list (cs.map aX)),?_,?_,λf hf=>?_⟩
   ·rw [bQ];rfl
   ·rw [bQ,hfs,cS,aB hk];rfl
   ·rcases eT.mp hf with z | z
    ·exact hfv f z
    ·have:f=(ys[k],vs):=by simpa using z
     subst this
     have hvl:=hvs.1
     refine ⟨by show 2<=vs.length;omega,by show vs.length<=5;omega,?_⟩
     show JI vs.length vs
     rw [hvl];exact hvs
 ·obtain ⟨fs,s4,s5,rfl,hfs,hfv⟩:=hP
  rw [eZ,dW] at hfs
  have hfl:fs.length=ys.length:=by rw [<- hfs,aC]
  refine gE (λd=>∃ bs,qT 12 bs/\d=.list (bs.map aX)) (λq hq=>⟨_,rfl,ns,6,rfl,hl,by decide,by decide,λr=>⟨r,12,rfl,by decide,λbs hb=>hq _ ⟨bs,hb,rfl⟩⟩⟩) ?_
  rintro _ ⟨cs,hc,rfl⟩
  obtain ⟨c0,h00,h01,hc0⟩:=gQ hc (i:=0) (by decide) (by decide)
  obtain ⟨v,hv0,hv1,hv⟩:=VN (xs:=[2,2,3,4]) (lo:=2) (hi:=4) (by decide) (i:=c0 % 4) (cV _ (by decide)) (cN _ p4)
  refine ⟨_,rfl,_,rfl,_,rfl,by decide,_,rfl,_,hc0,p4,_,hv,cs,12,v.toNat,1,?_,hc,by decide,by decide,by omega,λvs hvs=>⟨aH rfl,h fs vs ⟨by omega,by omega,?_,hfv,?_,?_,?_⟩⟩⟩
  ·rw [show ((v.toNat:Nat):Int)=v by omega];rfl
  ·rw [hfs,hfl,hyl];exact hy
  ·have:=hvs.1;omega
  ·have:=hvs.1;omega
  ·have:=hvs.1
   rw [this];exact hvs

theorem ZH:bN P w K mg base dP 1 a_43 f_43 ["_law_form_here","_law_bits"] (aS K RD):=by
 refine mS T.D_43.F SC (λds Q h=>by obtain ⟨fs,an,bs,n,rfl,F,hb,hn,h⟩:=h;rfl) λcdv Ar outer s H E hr ds Q h=>?_
 obtain ⟨fs,an,bs,n,rfl,F,hb,hn,h⟩:=h
 have nd:=SC.nd
 refine ⟨_,(aU (so 2 nd aO)
 (aU (sf (hZ (aA (cB jJ (aA (aW aQ bU (aG 0) aI) aO) dH T.b_len gW) aO) (λh=>gJ rfl T.b_range h)) (eH (pn 3 nd))
 (aU (ss 4 nd (aW aQ bU (aW aQ bU (aW aQ bU (aG 0) aI) (aG 3)) aI))
 (bK (hV (eS nV tP (bZ fD oV (aW aQ bU (aG 1) (aG 3)) aI) aI)
 (bK (lR (i:=2) (pv 2) lU (pb:=λh=>iV (iR bR cX cW gT (pv 2) h))))
 (bK (lR (i:=2) (pv 2) (aW aQ bU (aG 4) (bZ fD oV (bZ mE oV (aW aQ bU (aG 1) (aG 3)) aI) (cB jJ (aA (aG 4) aO) dH T.b_len gW))) (pb:=λh=>iV (iR bR cX cW gT (pv 2) h))))))))
 (kJ 2 (bK (cR (cY nC (aA (aG 2) aO) gR T.b_tuple lO)))))),?_⟩
 show gZ _ _ _ [.val (eL fs an),.val (.list (bs.map aX)),.un,.un,.un]
 have n5:=F.n5
 refine kK [] (by decide) (λq hq=>hq) ?_
 refine jM (ts:=dX fs.length) (λR h=>⟨_,rfl,_,rfl,_,rfl,by rw [aC];omega,by rw [aC];omega,by simpa using h⟩)
  (λk σ=>∃ (cs:List D) (s3 s4:Sl),σ=[.val (eL fs an),.val (.list (bs.map aX)),.own cs,s3,s4]/\cs.length=k/\∀ (j:Nat) f c,fs[j]?=some f->cs[j]?=some c->V1 f c=true)
  ⟨[],_,_,rfl,rfl,λj f c _ hc=>by simp at hc⟩ (λk x σ' hx hP=>?_) λσ' hP=>?_
 ·obtain ⟨hk,rfl⟩:=fE hx
  obtain ⟨cs,s3,s4,rfl,hcl,hcs⟩:=hP
  obtain ⟨b,hb0,hb1,hbk⟩:=gQ hb (i:=(k:Int)) (by omega) (by omega)
  have hfk:fs[k]?=some fs[k]:=aB hk
  have hfm:fs[k]∈fs:=eF hk
  obtain ⟨v2,v5,hvv⟩:=F.vs _ hfm
  have hat:L2.atI (fs.map jO) (k:Int)=some (jO fs[k]):=L2.eK (by rw [aJ,hfk];rfl)
  have more:∀ c:D,V1 fs[k] c=true->∀ (j:Nat) f c',fs[j]?=some f->(cs++[c])[j]?=some c'->V1 f c'=true:=λc hc j f c' h1 h2=>by
   by_cases hj:j<cs.length
   ·rw [dD hj] at h2
    exact hcs j f c' h1 h2
   ·rw [dJ (by omega)] at h2
    have:j=k:=by
     cases q:j-cs.length with
     | zero=>omega
     | succ m=>rw [q] at h2;simp at h2
    subst this
    rw [hfk] at h1
    cases h1
    rw [hcl,aBi] at h2
    simp at h2
    rw [<- h2];exact hc
  refine cK (.tuple (fs[k].2.map aR)) (λq hq=>⟨_,rfl,_,rfl,_,rfl,_,hat,_,rfl,hq⟩) ?_
  refine nG (λb=>True) (λq hq=>⟨_,rfl,_,rfl,_,hbk,(show (0:Int)<6 by decide),hq _ trivial⟩) (λ_=>?_) λ_=>?_
  ·refine mW (ts:=cs) .none rfl (by omega) (λq hq=>hq) ⟨cs++[.none],_,_,rfl,by rw [bA,hcl];rfl,more .none rfl⟩
  ·have hpos:(0:Int)<((fs[k].2.map aR).length:Int):=by rw [aC];omega
   obtain ⟨c,hc,hcat,_⟩:=qA (xs:=fs[k].2.map aR) (i:=b / 6 % ((fs[k].2.map aR).length:Int)) (cV _ (by omega)) (cN _ hpos)
   obtain ⟨z,hz,rfl⟩:=bC.mp hc
   refine mW (ts:=cs) (.str z) rfl (by omega) (λq hq=>⟨_,rfl,_,rfl,_,rfl,_,hbk,⟨by decide,by decide⟩,_,rfl,hpos,_,hcat,hq⟩) ⟨cs++[.str z],_,_,rfl,by rw [bA,hcl];rfl,more (.str z) (decide_eq_true hz)⟩
 ·obtain ⟨cs,s3,s4,rfl,hcl,hcs⟩:=hP
  rw [eZ] at hcl
  exact ⟨_,rfl,_,rfl,h cs (GW hcl hcs)⟩

theorem ZG
  (F_43:bN P w K mg base dP 1 a_43 f_43 ["_law_form_here","_law_bits"] (aS K RD)):bN P w K mg base dP 2 a_44 f_44 ["_law_form_here","_law_bits"] (aS K RC):=by
 refine mS T.D_44.F SA (λds Q h=>by obtain ⟨fs,an,bs,n,rfl,F,hb,hn,h⟩:=h;rfl) λcdv Ar outer s H E hr ds Q h=>?_
 obtain ⟨fs,an,bs,n,rfl,F,hb,hn,h⟩:=h
 have nd:=SA.nd
 refine ⟨_,(aU (ss 2 nd (cd F_43 T.D_43 hr (aA (aG 0) (aA (aG 1) aO))))
 (aU (ss 3 nd (aW aQ bU (aG 1) aI))
 (aU (hV (eS F3 AJ (bZ fD oV (aW aQ bU (aG 1) aI) aI) aI)
 (aU (ss 3 nd (bZ fD oV (bZ mE oV (aW aQ bU (aG 1) aI) aI) aI))
 (bK (sf (hZ (aA (cB jJ (aA (aG 2) aO) dH T.b_len gW) aO) (λh=>gJ rfl T.b_range h)) (eH (pn 4 nd))
 (bK (hV (eS tN wI (aW aQ bU (aG 2) (aG 4)) lU)
 (bK (ss 3 nd (bZ cH eV (aG 3) (bZ eB iZ (nY (aW aQ bU (aW aQ bU (aW aQ bU (aG 0) aI) (aG 4)) aI) (aA (aW aQ bU (aG 2) (aG 4)) aO) (λh ha=>iR fY fX fW (nX hr) h ha)) (bZ cH eV (aG 4) aI)))))
 gD)))))
 gD)
 (bK (cR (eP (aA (aG 2) (aA (aW aQ bU (aW aQ bU (aG 0) aI) (bZ fD oV (aG 3) (cB jJ (aA (aW aQ bU (aG 0) aI) aO) dH T.b_len gW))) aO)))))))),?_⟩
 show gZ _ _ _ [.val (eL fs an),.val (.list (bs.map aX)),.un,.un,.un]
 have n5:=F.n5
 obtain ⟨b6,h60,h61,hb6⟩:=gQ hb (i:=6) (by decide) (by omega)
 obtain ⟨b7,h70,h71,hb7⟩:=gQ hb (i:=7) (by decide) (by omega)
 refine gE (λd=>∃ cs,jH fs (.tuple cs)=true/\d=.tuple cs) (λq hq=>⟨_,rfl,_,rfl,fs,an,bs,n,rfl,F,hb,hn,λcs hc=>hq _ ⟨cs,hc,rfl⟩⟩) ?_
 rintro _ ⟨cs,hc,rfl⟩
 obtain ⟨hcl,hcv⟩:=oA hc
 refine cK (.int b6) (λq hq=>⟨_,rfl,_,hb6,hq⟩) ?_
 have hend:∀ (x:Int) (σ:List Sl),σ[0]?=some (.val (eL fs an))->σ[2]?=some (.val (.tuple cs))->σ[3]?=some (.val (.int x)) ->
   sB (W0 (qB (wV 2) (qB (M1 fIx (M1 fIx (wV 0) (eC (.int 1))) (M1 (fI (λ_ j=>0<j) λi j=>i % j) (wV 3) (mB (f1 WO) (qB (M1 fIx (wV 0) (eC (.int 1))) C8)))) C8))) { nx:=λ_=>Q .none,rt:=Q } σ:=λx σ e0 e2 e3=>by
  have hpos:(0:Int)<((an.map aR).length:Int):=by rw [aC];have:=F.a2;omega
  obtain ⟨a,ha,hat,_⟩:=qA (xs:=an.map aR) (i:=x % ((an.map aR).length:Int)) (cV _ (by omega)) (cN _ hpos)
  obtain ⟨y,hy,rfl⟩:=bC.mp ha
  exact ⟨_,e2,_,e0,_,rfl,_,e3,_,e0,_,rfl,hpos,_,hat,aH rfl,h cs y hc hy⟩
 refine gL (λ_=>True) (λq hq=>⟨_,rfl,_,hb7,(show (0:Int)<3 by decide),hq _ trivial⟩) (λ_=>?_) λ_=>?_
 ·refine cK (.int (b7 / 3 % 2)) (λq hq=>⟨_,rfl,_,hb7,⟨by decide,by decide⟩,(show (0:Int)<2 by decide),hq⟩) ?_
  refine WQ (ts:=dX cs.length) (λR h=>⟨_,rfl,_,rfl,by omega,by omega,by simpa using h⟩)
   (λk σ=>∃ (x:Int) (s4:Sl),σ=[.val (eL fs an),.val (.list (bs.map aX)),.val (.tuple cs),.val (.int x),s4]) ⟨_,_,rfl⟩ (λk x σ' hx hP=>?_) λσ' hP=>?_
  ·obtain ⟨hk,rfl⟩:=fE hx
   obtain ⟨x,s4,rfl⟩:=hP
   have hkf:k<fs.length:=by omega
   have hck:L2.atI cs (k:Int)=some cs[k]:=L2.eK (aB hk)
   have hfat:L2.atI (fs.map jO) (k:Int)=some (jO fs[k]):=L2.eK (by rw [aJ,aB hkf];rfl)
   have hv:=hcv k fs[k] cs[k] (aB hkf) (aB hk)
   refine nG (λb=>b=!mZ cs[k]) (λq hq=>⟨_,rfl,_,rfl,_,hck,hq _ rfl⟩) (λhT=>?_) λ_=>⟨_,_,rfl⟩
   cases e:cs[k] with
   | str z =>
    rw [e] at hv hck
    have hz:z∈fs[k].2:=of_decide_eq_true hv
    have hfm:fs[k]∈fs:=eF hkf
    obtain ⟨v2,v5,hvv⟩:=F.vs _ hfm
    have hzi:fs[k].2.idxOf z<fs[k].2.length:=cZ.mpr hz
    obtain ⟨_,_,_,_,d5,d6⟩:=rD (qK (F.vals hfm) (aL 8) (m:=0))
    have hix:D5 (fs[k].2.map aR) (.str z) (fs[k].2.idxOf z):=by
     refine ⟨d6,(jE (F.vals hfm z hz) (aL 8) (m:=0)).lay,by omega,⟨.str z,?_,?_⟩,λm t hm ht=>?_⟩
     ·rw [aJ,aB hzi,eR hzi];rfl
     ·show (z == z)=true
      simp
     ·rw [aJ] at ht
      cases e2:fs[k].2[m]? with
      | none=>rw [e2] at ht;cases ht
      | some y =>
       rw [e2] at ht
       cases ht
       show (y == z)=false
       have hml:m<fs[k].2.length:=(aD.mp e2).1
       have:y≠z:=λq=>by
        subst q
        exact vJ hm e2
       simpa using this
    refine oU (.int (x+(fs[k].2.idxOf z:Int)*((k:Int)+1))) (λq hq=>⟨_,rfl,_,rfl,_,rfl,_,rfl,_,hfat,_,rfl,_,rfl,_,rfl,_,rfl,_,hck,_,_,rfl,hix,_,rfl,.inr ⟨by omega,by omega⟩,hq⟩) ⟨_,_,rfl⟩
   | none=>rw [e] at hT;cases hT
   | _=>rw [e] at hv;cases hv
  ·obtain ⟨x,s4,rfl⟩:=hP
   exact hend x _ rfl rfl rfl
 ·exact hend b6 _ rfl rfl rfl

theorem ZF
  (F_39:bN P w K mg base dP 2 a_39 f_39 ["_law_script","_law_k"] (aS K FL))
  (F_40:bN P w K mg base dP 2 a_40 f_40 ["_law_cell","_law_many"] (aS K FK))
  (F_44:bN P w K mg base dP 2 a_44 f_44 ["_law_form_here","_law_bits"] (aS K RC)):bN P w K mg base dP 3 a_45 f_45 ["_law_script","_law_form_here","_law_many"] (aS K RB):=by
 refine mS T.D_45.F R9 (λds Q h=>by obtain ⟨ns,fs,an,n,rfl,hl,F,hn,h⟩:=h;rfl) λcdv Ar outer s H E hr ds Q h=>?_
 obtain ⟨ns,fs,an,n,rfl,hl,F,hn,h⟩:=h
 have nd:=R9.nd
 refine ⟨_,(bK (cR (el (fr:=[none,some 1,some 0]) (N':=["_law_k","_law_form_here","_law_script"]) (hZ (aA (aG 2) aO) (λh=>gJ rfl T.b_range h)) (λb=>⟨(eH (pk 0)),iD,(cd F_44 T.D_44 hr (aA (aG 1) (aA (cd F_40 T.D_40 hr (aA (cd F_39 T.D_39 hr (aA (aG 2) (aA (bZ cH eV aI (aG 0)) aO))) (aA aI aO))) aO)))⟩)))),?_⟩
 refine wM (ts:=dX n) (λR h=>⟨_,rfl,_,rfl,by omega,by omega,by simpa using h⟩) (λ_ _ y=>∃ r:List D×Str,G0 fs an r/\y=dO r) (by rw [eZ];omega) (λk x q hx hq=>?_) λys hyl hy=>?_
 ·obtain ⟨hk,rfl⟩:=fE hx
  refine ⟨_,rfl,_,rfl,_,rfl,ns,7+(k:Int),rfl,hl,by omega,by omega,λr=>⟨r,9,rfl,by decide,λbs hb=>⟨fs,an,bs,9,rfl,F,hb,by decide,λcs a hc ha=>hq _ ⟨(cs,a),⟨hc,ha⟩,rfl⟩⟩⟩⟩
 ·rw [eZ] at hyl
  have all:∀ ys:List D,(∀ y∈ys,∃ r:List D×Str,G0 fs an r/\y=dO r)->∃ rs:List (List D×Str),eA fs an rs/\rs.length=ys.length/\ys=rs.map dO:=λys=>by
   induction ys with
   | nil=>exact λ_=>⟨[],λr hr=>by simp at hr,rfl,rfl⟩
   | cons y ys ih =>
    intro h
    obtain ⟨r,hr,rfl⟩:=h y (aM ..)
    obtain ⟨rs,h1,h2,h3⟩:=ih λz hz=>h z (aK _ hz)
    refine ⟨r::rs,λx hx=>?_,by simp [h2],by rw [h3];rfl⟩
    rcases aZ.mp hx with rfl | hx
    ·exact hr
    ·exact h1 x hx
  obtain ⟨rs,h1,h2,rfl⟩:=all ys λy hy'=>by
   obtain ⟨k,hk⟩:=dI hy'
   have hkl:k<n:=by rw [<- hyl];exact (aD.mp hk).1
   exact hy k _ y (aB (by rw [eZ];exact hkl)) hk
  exact h rs h1 (by rw [<- hyl,aC])

theorem ZE:bN P w K mg base dP 1 a_46 f_46 ["_law_form_here","_law_bits"] (aS K RA):=by
 refine mS T.D_46.F R8 (λds Q h=>by obtain ⟨fs,an,bs,n,rfl,F,hb,hn,h⟩:=h;rfl) λcdv Ar outer s H E hr ds Q h=>?_
 obtain ⟨fs,an,bs,n,rfl,F,hb,hn,h⟩:=h
 have nd:=R8.nd
 refine ⟨_,(aU (ss 2 nd (aW aQ bU fH (bZ fD oV (aW aQ bU (aG 1) aI) aI)))
 (aU (so 3 nd aO)
 (aU (sf (hZ (aA (cB jJ (aA (aW aQ bU (aG 0) aI) aO) dH T.b_len gW) aO) (λh=>gJ rfl T.b_range h)) (eH (pn 4 nd))
 (aU (ss 5 nd (cY nC (aA (el (fr:=[none,some 2]) (N':=["_law_j","_law_letter"]) (hZ (aA (cB jJ (aA (aW aQ bU (aW aQ bU (aW aQ bU (aG 0) aI) (aG 4)) aI) aO) dH T.b_len gW) aO) (λh=>gJ rfl T.b_range h)) (λb=>⟨(eH (pk 0)),iD,(bZ cH eV (aG 1) (bZ eB iZ fH (bZ cH eV aI (aG 0))))⟩)) aO) gR T.b_tuple lO))
 (bK (lR (i:=3) (pv 3) (eP (aA (bZ eB iZ (aG 2) (bZ cH eV aI (aG 4))) (aA (aG 5) aO))) (pb:=λh=>iV (iR bR cX cW gT (pv 3) h))))))
 (aU (ss 6 nd (cY nC (aA (el (fr:=[none,some 2]) (N':=["_law_j","_law_letter"]) (hZ (aA (cB jJ (aA (aW aQ bU (aG 0) aI) aO) dH T.b_len gW) aO) (λh=>gJ rfl T.b_range h)) (λb=>⟨(eH (pk 0)),iD,(bZ cH eV (bZ eB iZ fH (bZ cH eV aI (aG 0))) (aG 1))⟩)) aO) gR T.b_tuple lO))
 (kJ 3 (bK (cR (eP (aA (cY nC (aA (aG 3) aO) gR T.b_tuple lO) (aA (aG 6) aO)))))))))),?_⟩
 show gZ _ _ _ [.val (eL fs an),.val (.list (bs.map aX)),.un,.un,.un,.un,.un]
 have n5:=F.n5
 have a4:=F.a4
 obtain ⟨b,hb0,hb1,hbk⟩:=gQ hb (i:=0) (by decide) (by omega)
 have m0:=cV b (b:=26) (by decide)
 have m1:=cN b (b:=26) (by decide)
 obtain ⟨i,hi⟩:∃ i:Nat,b % 26=(i:Int):=⟨(b % 26).toNat,by rw [iT m0]⟩
 have hi26:i<26:=by omega
 obtain ⟨c,hc,hL,hl1⟩:=V7 hi26
 refine cK (.str (AO i)) (λq hq=>⟨_,rfl,_,hbk,(show (0:Int)<26 by decide),(aH rfl),c,by rw [hi];exact hc,by rw [hL] at hq;exact hq⟩) ?_
 refine kK [] (by decide) (λq hq=>hq) ?_
 refine jM (ts:=dX fs.length) (λR h=>⟨_,rfl,_,rfl,_,rfl,by rw [aC];omega,by rw [aC];omega,by simpa using h⟩)
  (λk σ=>∃ s4 s5:Sl,σ=[.val (eL fs an),.val (.list (bs.map aX)),.val (.str (AO i)),.own (((xP i fs).take k).map jO),s4,s5,.un]) ⟨_,_,rfl⟩ (λk x σ' hx hP=>?_) λσ' hP=>?_
 ·obtain ⟨hk,rfl⟩:=fE hx
  obtain ⟨s4,s5,rfl⟩:=hP
  have hf:fs[k]?=some fs[k]:=aB hk
  have hfm:=eF hk
  obtain ⟨v2,v5,_⟩:=F.vs _ hfm
  have hat:L2.atI (fs.map jO) (k:Int)=some (jO fs[k]):=L2.eK (by rw [aJ,hf];rfl)
  have hg:=wG (i:=i) hf
  generalize fs[k]=f at hat hg v2 v5
  refine cK (.tuple (((bX f.2.length).map (vN i)).map aR)) (λq hq=>?_) ?_
  ·rw [<- UN] at hq
   dsimp only [mB,qB]
   refine jF (ts:=dX f.2.length) (λR h=>⟨_,rfl,_,rfl,_,rfl,_,hat,_,rfl,_,rfl,by rw [aC];omega,by rw [aC];omega,by simpa using h⟩) (vF i) (by rw [eZ];omega) (λx q hx hq=>?_) hq
   obtain ⟨j,hj⟩:=dI hx
   obtain ⟨hjl,rfl⟩:=fE hj
   have hm:=F9 (j:=j) (by omega)
   exact ⟨_,rfl,_,rfl,(aH rfl),by omega,by omega,by omega,hq⟩
  ·refine mW (jO (fN i k,(bX f.2.length).map (vN i))) rfl (by rw [aC,bF];omega) (λq hq=>⟨_,rfl,_,rfl,by omega,by omega,by omega,_,rfl,(aH rfl),hq⟩) ⟨.val (.int (k:Int)),.val (.tuple (((bX f.2.length).map (vN i)).map aR)),?_⟩
   rw [cS,hg,bQ];rfl
 ·obtain ⟨s4,s5,rfl⟩:=hP
  have l1:(xP i fs).length=fs.length:=(LH F hi26).len
  rw [eZ,<- l1,dW]
  refine cK (.tuple ((LI i an).map aR)) (λq hq=>?_) ?_
  ·unfold LI at hq
   rw [<- XF] at hq
   dsimp only [mB,qB]
   refine jF (ts:=dX an.length) (λR h=>⟨_,rfl,_,rfl,_,rfl,by rw [aC];omega,by rw [aC];omega,by simpa using h⟩) (aF i) (by rw [eZ];omega) (λx q hx hq=>?_) hq
   obtain ⟨j,hj⟩:=dI hx
   obtain ⟨hjl,rfl⟩:=fE hj
   have hm:=F9 (j:=j) (by omega)
   exact ⟨_,rfl,(aH rfl),by omega,by omega,_,rfl,by omega,hq⟩
  ·exact ⟨_,rfl,_,rfl,_,rfl,(aH rfl),h _ _ (LH F hi26)⟩

theorem ZD:bN P w K mg base dP 1 a_47 f_47 ["_law_form_here","_law_other","_law_row_here"] (aS K Q9):=by
 refine mS T.D_47.F R7 (λds Q h=>by obtain ⟨fs,fs2,an,an2,r,rfl,O,hro,h⟩:=h;rfl) λcdv Ar outer s H E hr ds Q h=>?_
 obtain ⟨fs,fs2,an,an2,r,rfl,O,hro,h⟩:=h
 have nd:=R7.nd
 refine ⟨_,(aU (so 3 nd aO)
 (aU (sf (hZ (aA (cB jJ (aA (aW aQ bU (aG 2) aI) aO) dH T.b_len gW) aO) (λh=>gJ rfl T.b_range h)) (eH (pn 4 nd))
 (bK (hV (eS AH F6 (aW aQ bU (aW aQ bU (aG 2) aI) (aG 4)) lU)
 (bK (lR (i:=3) (pv 3) lU (pb:=λh=>iV (iR bR cX cW gT (pv 3) h))))
 (aU (ss 5 nd (nY (aW aQ bU (aW aQ bU (aW aQ bU (aG 0) aI) (aG 4)) aI) (aA (aW aQ bU (aW aQ bU (aG 2) aI) (aG 4)) aO) (λh ha=>iR fY fX fW (nX hr) h ha)))
 (bK (lR (i:=3) (pv 3) (aW aQ bU (aW aQ bU (aW aQ bU (aW aQ bU (aG 1) aI) (aG 4)) aI) (aG 5)) (pb:=λh=>iV (iR bR cX cW gT (pv 3) h))))))))
 (kJ 3 (bK (cR (eP (aA (cY nC (aA (aG 3) aO) gR T.b_tuple lO) (aA (aW aQ bU (aW aQ bU (aG 1) aI) (nY (aW aQ bU (aG 0) aI) (aA (aW aQ bU (aG 2) aI) aO) (λh ha=>iR fY fX fW (nX hr) h ha))) aO)))))))),?_⟩
 show gZ _ _ _ [.val (eL fs an),.val (eL fs2 an2),.val (dO r),.un,.un,.un]
 obtain ⟨cs,a⟩:=r
 obtain ⟨hc,ha⟩:=hro
 dsimp only at hc ha
 obtain ⟨hcl,hcv⟩:=oA hc
 have n5:=O.F.n5
 have hol:=O.len
 have hcb:=xC (cs:=cs) hol hcl
 have hai:=cZ.mpr ha
 have al:=O.al
 have haa:L2.atI (an2.map aR) ((an.idxOf a:Nat):Int)=some (.str (oC an an2 a)):=L2.eK (by rw [aJ,rM O.F.an.2.2 al (show an[an.idxOf a]?=some a by rw [aB hai,eR hai])];rfl)
 refine kK [] (by decide) (λq hq=>hq) ?_
 refine jM (ts:=dX cs.length) (λR h=>⟨_,rfl,_,rfl,_,rfl,by show -(2 ^ 62)<=((cs.length:Nat):Int);omega,by show ((cs.length:Nat):Int)<2 ^ 62;omega,by simpa using h⟩)
  (λk σ=>∃ s4 s5:Sl,σ=[.val (eL fs an),.val (eL fs2 an2),.val (dO (cs,a)),.own ((nI fs fs2 cs).take k),s4,s5]) ⟨_,_,rfl⟩ (λk x σ' hx hP=>?_) λσ' hP=>?_
 ·obtain ⟨hk,rfl⟩:=fE hx
  obtain ⟨s4,s5,rfl⟩:=hP
  have hkf:k<fs.length:=by omega
  have hf:fs[k]?=some fs[k]:=aB hkf
  have hx:=aB hk
  obtain ⟨f',hi',el,n1,n2,e1,e2,e3,_⟩:=O.at hf
  have hca:=vL hf hi' hx
  have ho:=hcv k _ _ hf hx
  have hfm:=eF hkf
  have hat:L2.atI cs (k:Int)=some cs[k]:=L2.eK hx
  have hfa:L2.atI (fs.map jO) (k:Int)=some (jO fs[k]):=L2.eK (by rw [aJ,hf];rfl)
  have hfa':L2.atI (fs2.map jO) (k:Int)=some (jO f'):=L2.eK (by rw [aJ,hi'];rfl)
  have tk:(nI fs fs2 cs).take (k+1)=(nI fs fs2 cs).take k++[GM fs[k] f' cs[k]]:=by rw [cS,hca];rfl
  have htl:((nI fs fs2 cs).take k).length<=100000:=by rw [bF];omega
  rw [tk]
  generalize cs[k]=c at hat ho
  refine nG (λb=>b=mZ c) (λq hq=>⟨_,rfl,_,rfl,_,rfl,_,hat,hq _ rfl⟩) (λhT=>?_) λhF=>?_
  ·cases c with
   | none=>exact mW .none rfl htl (λq hq=>hq) ⟨_,_,rfl⟩
   | _=>cases hT
  ·cases c with
   | none=>cases hF
   | str z =>
    have hz:z∈fs[k].2:=of_decide_eq_true ho
    have hzi:=cZ.mpr hz
    have hav:L2.atI (f'.2.map aR) ((fs[k].2.idxOf z:Nat):Int)=some (.str (jY fs[k] f' z)):=L2.eK (by rw [aJ,rM n1 el (show fs[k].2[fs[k].2.idxOf z]?=some z by rw [aB hzi,eR hzi])];rfl)
    refine cK (.int (fs[k].2.idxOf z:Nat)) (λq hq=>⟨_,rfl,_,rfl,_,rfl,_,hfa,_,rfl,_,rfl,_,rfl,_,rfl,_,rfl,_,hat,_,_,rfl,lF (O.F.vals hfm) hz,hq⟩) ?_
    exact mW (.str (jY fs[k] f' z)) rfl htl (λq hq=>⟨_,rfl,_,rfl,_,rfl,_,hfa',_,rfl,_,rfl,_,hav,hq⟩) ⟨_,_,rfl⟩
   | _=>cases ho
 ·obtain ⟨s4,s5,rfl⟩:=hP
  rw [eZ,dQ (by omega)]
  exact ⟨_,rfl,_,rfl,_,rfl,_,rfl,_,rfl,_,rfl,_,rfl,_,rfl,_,rfl,_,_,rfl,lF O.F.an.2.1 ha,_,haa,(aH rfl),h⟩

theorem ZC:bN P w K mg base dP 1 a_48 f_48 ["_law_form_here","_law_other","_law_question"] (aS K KO):=by
 refine mS T.D_48.F R5 (λds Q h=>by obtain ⟨fs,fs2,an,an2,qq,rfl,O,hq,h⟩:=h;rfl) λcdv Ar outer s H E hr ds Q h=>?_
 obtain ⟨fs,fs2,an,an2,qq,rfl,O,hq,h⟩:=h
 have nd:=R5.nd
 refine ⟨_,(aU (ss 3 nd (tW (el (fr:=[none]) (N':=["_law_field"]) (gU (aW aQ bU (aG 0) aI)) (λb=>⟨(eH (pk 0)),iD,(aW aQ bU (aG 0) aI)⟩)) (aA (aW aQ bU (aG 2) aI) aO) (λh ha=>iR bR oG oF (tQ hr) h ha)))
 (aU (ss 4 nd (nY (aW aQ bU (aW aQ bU (aW aQ bU (aG 0) aI) (aG 3)) aI) (aA (aW aQ bU (aG 2) aI) aO) (λh ha=>iR fY fX fW (nX hr) h ha)))
 (bK (cR (eP (aA (aW aQ bU (aG 2) aI) (aA (aW aQ bU (aW aQ bU (aW aQ bU (aG 1) aI) (aG 3)) aI) (aA (aW aQ bU (aW aQ bU (aW aQ bU (aW aQ bU (aG 1) aI) (aG 3)) aI) (aG 4)) aO)))))))),?_⟩
 show gZ _ _ _ [.val (eL fs an),.val (eL fs2 an2),.val (qD qq),.un,.un]
 obtain ⟨k,n,v⟩:=qq
 obtain ⟨f,hf,hfn,hv,_⟩:=sM hq
 subst hfn
 obtain ⟨i,hi⟩:=dI hf
 obtain ⟨f',hi',el,n1,n2,e1,e2,e3,_⟩:=O.at hi
 have il:i<fs.length:=(aD.mp hi).1
 have n5:=O.F.n5
 have hv5:=(O.F.vs f hf).2.1
 have qb:FY fs fs2 (k,f.1,v)=(k,f'.1,jY f f' v):=by unfold FY;dsimp only;rw [e1,e2,e3]
 rw [qb] at h
 have ha:L2.atI (fs.map jO) (i:Int)=some (jO f):=L2.eK (by rw [aJ,hi];rfl)
 have ha':L2.atI (fs2.map jO) (i:Int)=some (jO f'):=L2.eK (by rw [aJ,hi'];rfl)
 have hvi:=cZ.mpr hv
 have hav:L2.atI (f'.2.map aR) ((f.2.idxOf v:Nat):Int)=some (.str (jY f f' v)):=L2.eK (by rw [aJ,rM n1 el (show f.2[f.2.idxOf v]?=some v by rw [aB hvi,eR hvi])];rfl)
 have en:(fs.map jO).map MV=(fs.map (·.1)).map aR:=by rw [bD,bD];rfl
 have hix:=lF (ys:=fs.map (·.1)) O.F.nd.2.1 (z:=f.1) (bC.mpr ⟨f,hf,rfl⟩)
 rw [show (fs.map (·.1)).idxOf f.1=i from e1] at hix
 refine cK (.int (i:Nat)) (λq hq=>?_) ?_
 ·refine jF (ts:=fs.map jO) (λR h=>⟨_,rfl,_,rfl,_,rfl,h⟩) MV (by rw [aC];omega) (λx q hx hq=>?_) ?_
  ·obtain ⟨g,_,rfl⟩:=bC.mp hx
   exact ⟨_,rfl,_,rfl,hq⟩
  ·rw [en]
   refine ⟨_,rfl,_,rfl,_,rfl,_,i,rfl,hix,by omega,hq⟩
 refine cK (.int (f.2.idxOf v:Nat)) (λq hq=>⟨_,rfl,_,rfl,_,rfl,_,ha,_,rfl,_,rfl,_,rfl,_,rfl,_,_,rfl,lF (O.F.vals hf) hv,hq⟩) ?_
 exact ⟨_,rfl,_,rfl,_,rfl,_,rfl,_,rfl,_,ha',_,rfl,_,rfl,_,rfl,_,rfl,_,ha',_,rfl,_,rfl,_,hav,(aH rfl),h⟩

theorem N9 (dd:Nat)
  (F_48:bN P w K mg base dP 1 a_48 f_48 ["_law_form_here","_law_other","_law_question"] (aS K KO))
  (F_49:bN P w K mg base dP (1+dd) a_49 f_49 ["_law_form_here","_law_other","_law_tree"] (aS K (pP dd))):bN P w K mg base dP (1+dd+1) a_49 f_49 ["_law_form_here","_law_other","_law_tree"] (aS K (pP (dd+1))):=by
 refine mS T.D_49.F R4 (λds Q h=>by obtain ⟨fs,fs2,an,an2,t,rfl,O,ht,hd,h⟩:=h;rfl) λcdv Ar outer s H E hr ds Q h=>?_
 obtain ⟨fs,fs2,an,an2,t,rfl,O,ht,hd,h⟩:=h
 have nd:=R4.nd
 refine ⟨_,(aU (hV (eS nV tP (cB jJ (aA (aG 2) aO) dH T.b_len gW) aI)
 (bK (cR (eP (aA fH (aA (aW aQ bU (aW aQ bU (aG 1) aI) (nY (aW aQ bU (aG 0) aI) (aA (aW aQ bU (aG 2) aI) aO) (λh ha=>iR fY fX fW (nX hr) h ha))) aO)))))
 gD)
 (aU (ss 3 nd (cd (hk:=by omega) F_49 T.D_49 hr (aA (aG 0) (aA (aG 1) (aA (aW aQ bU (aG 2) aI) aO)))))
 (bK (cR (eP (aA fH (aA (cd (hk:=by omega) F_48 T.D_48 hr (aA (aG 0) (aA (aG 1) (aA (aW aQ bU (aG 2) aI) aO)))) (aA (aW aQ bU (aG 2) aI) (aA (aG 3) (aA (cd (hk:=by omega) F_49 T.D_49 hr (aA (aG 0) (aA (aG 1) (aA (aW aQ bU (aG 2) aI) aO)))) aO)))))))))),?_⟩
 show gZ _ _ _ [.val (eL fs an),.val (eL fs2 an2),.val (hU t),.un]
 cases t with
 | say a =>
  have ha:a∈an:=ht
  have hai:=cZ.mpr ha
  have al:=O.al
  have hav:L2.atI (an2.map aR) ((an.idxOf a:Nat):Int)=some (.str (oC an an2 a)):=L2.eK (by rw [aJ,rM O.F.an.2.2 al (show an[an.idxOf a]?=some a by rw [aB hai,eR hai])];rfl)
  refine gL (λb=>b=true) (λq hq=>⟨_,rfl,hq _ rfl⟩) (λ_=>?_) λhF=>by cases hF
  exact ⟨_,rfl,_,rfl,_,rfl,_,rfl,_,rfl,_,rfl,_,rfl,_,_,rfl,lF O.F.an.2.1 ha,_,hav,(aH rfl),h⟩
 | ask k n v s y m =>
  obtain ⟨hq,hs,hy,hm⟩:=ht
  have e1:(Tr.ask k n v s y m).dep=max y.dep m.dep+1:=rfl
  rw [e1] at hd
  refine gL (λb=>b=false) (λq hq=>⟨_,rfl,hq _ rfl⟩) (λhT=>by cases hT) λ_=>?_
  try unfold jZ
  dsimp only
  refine cK (hU (KB fs fs2 an an2 y)) (λq hq'=>⟨_,rfl,_,rfl,_,rfl,_,rfl,fs,fs2,an,an2,y,rfl,O,hy,by omega,hq'⟩) ?_
  exact ⟨_,rfl,_,rfl,_,rfl,_,rfl,fs,fs2,an,an2,(k,n,v),rfl,O,hq,_,rfl,_,rfl,_,rfl,_,rfl,_,rfl,_,rfl,_,rfl,fs,fs2,an,an2,m,rfl,O,hm,by omega,(aH rfl),h⟩

theorem ZB
  (F_48:bN P w K mg base dP 1 a_48 f_48 ["_law_form_here","_law_other","_law_question"] (aS K KO)):bN P w K mg base dP 8 a_49 f_49 ["_law_form_here","_law_other","_law_tree"] (aS K Q8):=by
 have h:∀ dd:Nat,bN P w K mg base dP (1+dd) a_49 f_49 ["_law_form_here","_law_other","_law_tree"] (aS K (pP dd)):=λdd=>by
  induction dd with
  | zero=>exact wR pY λds Q h=>LS h
  | succ dd ih=>exact N9 T dd F_48 ih
 exact h 7
theorem ZA:bN P w K mg base dP 1 a_50 f_50 ["_law_one","_law_two"] (aS K KN):=by
 refine mS T.D_50.F R3 (λds Q h=>by obtain ⟨x,y,rfl,hT,hx1,hx2,hy1,hy2,h⟩:=h;rfl) λcdv Ar outer s H E hr ds Q h=>?_
 obtain ⟨x,y,rfl,hT,hx1,hx2,hy1,hy2,h⟩:=h
 have nd:=R3.nd
 refine ⟨_,(bK (cR (wS nV tP (bZ eB iZ (bZ eB iZ (aW aQ bU (aG 0) aI) aI) (aW aQ bU (aG 1) aI)) (bZ eB iZ (aW aQ bU (aG 1) aI) (aW aQ bU (aG 0) aI))))),?_⟩
 show sB _ _ [.val (tS x),.val (tS y)]
 refine ⟨_,rfl,_,rfl,.inr ⟨by decide,by decide⟩,_,rfl,_,rfl,.inr ⟨by omega,by omega⟩,_,rfl,_,rfl,_,rfl,_,rfl,.inr ⟨by omega,by omega⟩,?_⟩
 show Q (.bool (decide (((x.1:Nat):Int)*2*((y.2:Nat):Int)=((y.1:Nat):Int)*((x.2:Nat):Int))))
 have e:((x.1:Nat):Int)*2*((y.2:Nat):Int)=((y.1:Nat):Int)*((x.2:Nat):Int):=by
  have hT:y.1*x.2=2*x.1*y.2:=hT
  show ((x.1:Nat):Int)*((2:Nat):Int)*((y.2:Nat):Int)=_
  rw [<- cA,<- cA,<- cA,hT,jW x.1 2]
 rw [decide_eq_true e];exact h

theorem Y9:bN P w K mg base dP 1 a_51 f_51 ["_law_rows_here","_law_bits"] (aS K KM):=by
 refine mS T.D_51.F R0 (λds Q h=>by obtain ⟨rs,bs,rfl,hb,hlb,hl,h⟩:=h;rfl) λcdv Ar outer s H E hr ds Q h=>?_
 obtain ⟨rs,bs,rfl,hb,hlb,hl,h⟩:=h
 have nd:=R0.nd
 refine ⟨_,(aU (so 2 nd aO)
 (aU (sf (hZ (aA (cB jJ (aA (aG 0) aO) dH T.b_len gW) aO) (λh=>gJ rfl T.b_range h)) (eH (pn 3 nd))
 (bK (OI (i:=2) (IU 2 (bZ fD oV (aW aQ bU (aG 1) (aG 3)) (bZ cH eV (cB jJ (aA (aG 2) aO) dH T.b_len gW) aI))) (aW aQ bU (aG 0) (aG 3)) (pb:=λh=>iV (iR bR yB PySem.F.type_list_insert IB (pv 2) h)))))
 (kJ 2 (bK (cR (aG 2)))))),?_⟩
 show gZ _ _ _ [.val (.list (rs.map dO)),.val (.list (bs.map aX)),.un,.un]
 refine kK [] (by decide) (λq hq=>hq) ?_
 refine jM (ts:=dX rs.length) (λR h=>⟨_,rfl,_,rfl,by rw [aC];omega,by rw [aC];omega,by simpa using h⟩)
  (λk σ=>∃ (ss:List Rw) (s3:Sl),σ=[.val (.list (rs.map dO)),.val (.list (bs.map aX)),.own (ss.map dO),s3]/\ss.Perm (rs.take k)) ⟨[],_,rfl,.nil⟩ (λk x σ' hx hP=>?_) λσ' hP=>?_
 ·obtain ⟨hk,rfl⟩:=fE hx
  obtain ⟨ss,s3,rfl,hp⟩:=hP
  have hsl:ss.length=k:=by rw [hp.length_eq,bF];omega
  obtain ⟨b,hb0,hb1,hbk⟩:=gQ hb (i:=(k:Int)) (by omega) (by omega)
  have hr:rs[k]?=some rs[k]:=aB hk
  have hat:L2.atI (rs.map dO) (k:Int)=some (dO rs[k]):=L2.eK (by rw [aJ,hr];rfl)
  have hml:(((ss.map dO).length:Nat):Int)=(k:Int):=by rw [aC,hsl]
  have hpos:(0:Int)<(((ss.map dO).length:Nat):Int)+1:=by omega
  have m0:=cV b (b:=(((ss.map dO).length:Nat):Int)+1) (by omega)
  have m1:=cN b hpos
  refine ⟨_,rfl,_,rfl,_,rfl,_,rfl,_,hbk,_,rfl,hpos,rfl,_,rfl,_,rfl,_,hat,(b % ((((ss.map dO).length:Nat):Int)+1)).toNat,by rw [iT m0],by omega,by omega,ss.take (b % ((((ss.map dO).length:Nat):Int)+1)).toNat++rs[k]::ss.drop (b % ((((ss.map dO).length:Nat):Int)+1)).toNat,.val (.int (k:Int)),?_,?_⟩
  ·rw [bQ,bP,lY,oO];rfl
  ·rw [cS,hr]
   refine List.perm_middle.trans ?_
   rw [hE]
   exact (hp.cons _).trans (E5 (l₁:=[_]))
 ·obtain ⟨ss,s3,rfl,hp⟩:=hP
  rw [eZ,dW] at hp
  exact ⟨_,rfl,_,rfl,h ss hp⟩

theorem Y8
  (F_50:bN P w K mg base dP 1 a_50 f_50 ["_law_one","_law_two"] (aS K KN))
  (F_35:bN P w K mg base dP 59 a_35 f_35 ["form","tree","rows"] (fV K RI)):bN P w K mg base dP 62 a_52 f_52 ["_law_form_here","_law_tree","_law_rows_here","_law_more"] (aS K Q7):=by
 refine mS T.D_52.F RZ (λds Q h=>by obtain ⟨fs,an,U,R1,R2,rfl,F,ht,hd,hk,hR,hW,hl,h⟩:=h;rfl) λcdv Ar outer s H E hr ds Q h=>?_
 obtain ⟨fs,an,U,R1,R2,rfl,F,ht,hd,hk,hR,hW,hl,h⟩:=h
 have nd:=RZ.nd
 refine ⟨_,(aU (ss 4 nd (uJ (cF F_35 T.D_35 hr (aA (aG 0) (aA (aG 1) (aA (aG 2) aO))))))
 (aU (ss 5 nd (uJ (cF F_35 T.D_35 hr (aA (aG 0) (aA (aG 1) (aA (aG 3) aO))))))
 (aU (hV (eS (rG hr) pW (cB jJ (aA (aG 4) aO) dH T.b_len gW) (cB jJ (aA (aG 5) aO) dH T.b_len gW))
 (bK (cR uK))
 gD)
 (aU (sf (hZ (aA (cB jJ (aA (aG 4) aO) dH T.b_len gW) aO) (λh=>gJ rfl T.b_range h)) (eH (pn 6 nd))
 (bK (hV (vS (yJ (eS (rG hr) pW (aW aQ bU (aW aQ bU (aG 4) (aG 6)) aI) (aW aQ bU (aW aQ bU (aG 5) (aG 6)) aI)) (tD (zS (tv (cd F_50 T.D_50 hr (aA (aW aQ bU (aW aQ bU (aG 4) (aG 6)) aI) (aA (aW aQ bU (aW aQ bU (aG 5) (aG 6)) aI) aO))))))))
 (bK (cR uK))
 gD)))
 (bK (cR uK)))))),?_⟩
 show gZ _ _ _ [.val (eL fs an),.val (hU U),.val (.list (R1.map dO)),.val (.list (R2.map dO)),.un,.un,.un]
 obtain ⟨fa,hfa⟩:=aAt F
 have hl2:=hW.len
 have hR2:=hW.ok hR
 obtain ⟨hlen,hat⟩:=(HD hfa hW hR U).at
 have ok1:=(M5 (yO (fs:=fs) (fa:=fa) (T:=U) hk (show R1.length<=60 by omega))).1
 have ok2:=(M5 (yO (fs:=fs) (fa:=fa) (T:=U) hk (show R2.length<=60 by omega))).1
 have hsl:(iN fs fa U R1).length<=21:=by
  have:=yP (fs:=fs) (fa:=fa) R1 (lw fs fa 1 0 U R1).2.kn (0,1) (lw fs fa 1 0 U R1).2
  have k1:=(yX (fs:=fs) (fa:=fa) 1 0 U R1).1
  unfold iN;omega
 refine cK (.list ((iN fs fa U R1).map HF)) (λq hq=>⟨_,rfl,_,rfl,_,rfl,fs,an,fa,U,R1,rfl,F,hfa,ht,hd,hk,hR,by omega,hq⟩) ?_
 refine cK (.list ((iN fs fa U R2).map HF)) (λq hq=>⟨_,rfl,_,rfl,_,rfl,fs,an,fa,U,R2,rfl,F,hfa,ht,hd,hk,hR2,by omega,hq⟩) ?_
 refine gL (λb=>b=false) (λq hq=>⟨_,rfl,_,rfl,⟨rfl,rfl,(aH rfl)⟩,hq _ ?_⟩) (λhT=>by cases hT) λ_=>?_
 ·show (!dZ (.int _) (.int _))=false
  rw [aC,aC,hlen,PySem.SeqAt.eqv_refl _ rfl];rfl
 try unfold jZ
 dsimp only
 refine jM (ts:=dX (iN fs fa U R1).length) (λR h=>⟨_,rfl,_,rfl,by rw [aC];omega,by rw [aC];omega,by simpa using h⟩)
  (λk σ=>∃ s6:Sl,σ=[.val (eL fs an),.val (hU U),.val (.list (R1.map dO)),.val (.list (R2.map dO)),.val (.list ((iN fs fa U R1).map HF)),.val (.list ((iN fs fa U R2).map HF)),s6]) ⟨_,rfl⟩ (λk x σ' hx hP=>?_) λσ' hP=>?_
 ·obtain ⟨hk1,rfl⟩:=fE hx
  obtain ⟨s6,rfl⟩:=hP
  have hk2:k<(iN fs fa U R2).length:=by omega
  have e1:=aB hk1
  have e2:=aB hk2
  have a1:L2.atI ((iN fs fa U R1).map HF) (k:Int)=some (HF (iN fs fa U R1)[k]):=L2.eK (by rw [aJ,e1];rfl)
  have a2:L2.atI ((iN fs fa U R2).map HF) (k:Int)=some (HF (iN fs fa U R2)[k]):=L2.eK (by rw [aJ,e2];rfl)
  obtain ⟨et,tw⟩:=hat k _ _ e1 e2
  have o1:=ok1 k _ e1
  have o2:=ok2 k _ e2
  generalize (iN fs fa U R1)[k]=x at a1 et tw o1
  generalize (iN fs fa U R2)[k]=y at a2 et tw o2
  have q1:=o1.q1
  have q2:=o2.q1
  have p1:=o1.p1
  have p2:=o2.p1
  have hto:=(CL hfa (x.1.2:Nat) (x.1.1:Nat) U R1 ht hR).1
  rw [<- o1.tr] at hto
  have hth:=rY F x.2 hto
  have hdd:=AN (fs:=fs) (fa:=fa) (x.1.2:Nat) (x.1.1:Nat) U R1
  rw [<- o1.tr] at hdd
  have hdp:=hth.depth
  refine nG (λb=>b=false) (λq hq=>⟨_,rfl,_,rfl,_,a1,_,rfl,_,rfl,_,rfl,_,a2,_,rfl,?_⟩) (λhT=>by cases hT) λ_=>⟨_,rfl⟩
  rw [<- et]
  refine ⟨⟨hth.lay,hth.lay,by omega⟩,?_⟩
  show (if (!dZ (hU x.2) (hU x.2))=true then q true else _)
  rw [PySem.SeqAt.eqv_refl _ hth.lay,if_neg (by decide)]
  exact ⟨_,rfl,_,rfl,_,a1,_,rfl,_,rfl,_,rfl,_,a2,_,rfl,x.1,y.1,rfl,tw,by omega,by omega,by omega,by omega,hq _ rfl⟩
 ·obtain ⟨s6,rfl⟩:=hP
  exact h

theorem V0
  (F_39:bN P w K mg base dP 2 a_39 f_39 ["_law_script","_law_k"] (aS K FL))
  (F_40:bN P w K mg base dP 2 a_40 f_40 ["_law_cell","_law_many"] (aS K FK))
  (F_42:bN P w K mg base dP 3 a_42 f_42 ["_law_script"] (aS K RE))
  (F_46:bN P w K mg base dP 1 a_46 f_46 ["_law_form_here","_law_bits"] (aS K RA))
  (F_45:bN P w K mg base dP 3 a_45 f_45 ["_law_script","_law_form_here","_law_many"] (aS K RB))
  (F_52:bN P w K mg base dP 62 a_52 f_52 ["_law_form_here","_law_tree","_law_rows_here","_law_more"] (aS K Q7))
  (F_47:bN P w K mg base dP 1 a_47 f_47 ["_law_form_here","_law_other","_law_row_here"] (aS K Q9))
  (F_49:bN P w K mg base dP 8 a_49 f_49 ["_law_form_here","_law_other","_law_tree"] (aS K Q8))
  (F_51:bN P w K mg base dP 1 a_51 f_51 ["_law_rows_here","_law_bits"] (aS K KM))
  (F_50:bN P w K mg base dP 1 a_50 f_50 ["_law_one","_law_two"] (aS K KN))
  (F_20:bN P w K mg base dP 7 a_20 f_20 ["form","rows","least"] (aS K FO))
  (F_29:bN P w K mg base dP 43 a_29 f_29 ["form","tree","rows","prices"] (aS K yQ))
  (F_21:bN P w K mg base dP 15 a_21 f_21 ["form","rows","deep","least"] (aS K RQ)):bN P w K mg base dP 63 a_law f_law ["_law_script"] (aS K vW):=by
 refine mS T.D_law.F KS (λds Q h=>by obtain ⟨ns,rfl,hl63,h⟩:=h;rfl) λcdv Ar outer s H E hr ds Q h=>?_
 obtain ⟨ns,rfl,hl63,h⟩:=h
 have nd:=KS.nd
 refine ⟨_,(aU (ss 1 nd (cd F_42 T.D_42 hr (aA (aG 0) aO)))
 (aU (ss 2 nd (cd F_40 T.D_40 hr (aA (cd F_39 T.D_39 hr (aA (aG 0) (aA aI aO))) (aA aI aO))))
 (aU (ss 3 nd (cd F_45 T.D_45 hr (aA (aG 0) (aA (aG 1) (aA (bZ cH eV aI (bZ fD oV (aW aQ bU (aG 2) aI) aI)) aO)))))
 (aU (ss 4 nd (bZ fD oV (aW aQ bU (aG 2) aI) aI))
 (aU (ss 5 nd (bZ cH eV aI (bZ fD oV (aW aQ bU (aG 2) aI) aI)))
 (aU (ss 6 nd (cd F_21 T.D_21 hr (aA (aG 1) (aA (aG 3) (aA (aG 4) (aA (aG 5) aO))))))
 (aU (ss 7 nd (cd F_51 T.D_51 hr (aA (aG 3) (aA (iO lE tO (aG 2) (iW aI) kM) aO))))
 (aU (hV (vS (yJ (eS (rG hr) pW (cd F_21 T.D_21 hr (aA (aG 1) (aA (aG 7) (aA (aG 4) (aA (aG 5) aO))))) (aG 6)) (tD (eS (rG hr) pW (cd F_21 T.D_21 hr (aA (aG 1) (aA (bZ cH eV (aG 7) (aG 3)) (aA (aG 4) (aA (bZ eB iZ aI (aG 5)) aO))))) (aG 6)))))
 (bK (cR uK))
 gD)
 (aU (ss 8 nd (cd F_46 T.D_46 hr (aA (aG 1) (aA (aG 2) aO))))
 (aU (nT (i:=9) (fr:=[none,some 1,some 8]) (N':=["_law_row_here","_law_form_here","_law_other"]) (gU (aG 3)) (λb=>⟨(eH (pk 0)),iD,(cd F_47 T.D_47 hr (aA (aG 1) (aA (aG 2) (aA (aG 0) aO))))⟩) (λhi hY=>mG (show pH _ (aY (top 64)) ["_law_script","_law_form_here","_law_bits","_law_rows_here","_law_deep","_law_few","_law_tree","_law_turned_here","_law_other","_law_told","_law_one","_law_two","_law_price"] ["_law_row_here","_law_form_here","_law_other"] [none,some 1,some 8]=true from by decide +kernel) nd rfl (by first | exact Or.inl rfl | exact Or.inr rfl) rfl hi hY rfl))
 (aU (hV (eS (rG hr) pW (cd F_21 T.D_21 hr (aA (aG 8) (aA (aG 9) (aA (aG 4) (aA (aG 5) aO))))) (cd F_49 T.D_49 hr (aA (aG 1) (aA (aG 8) (aA (aG 6) aO)))))
 (bK (cR uK))
 gD)
 (aU (ss 10 nd (cd F_20 T.D_20 hr (aA (aG 1) (aA (aG 3) (aA (aG 5) aO)))))
 (aU (ss 11 nd (cd F_20 T.D_20 hr (aA (aG 1) (aA (bZ cH eV (aG 3) (aG 7)) (aA (bZ eB iZ aI (aG 5)) aO)))))
 (aU (hV (vS (yJ (eS AH F6 (aG 10) lU) (tD (eS AH F6 (aG 11) lU))))
 (bK (hV (vS (yJ (eS tN wI (aG 10) lU) (tD (eS tN wI (aG 11) lU))))
 (bK (cR uK))
 gD))
 (bK (hV (vS (yJ (eS (rG hr) pW (iO lE tO (aG 10) kM (iW aI)) (iO lE tO (aG 11) kM (iW aI))) (tD (zS (tv (cd F_50 T.D_50 hr (aA (aW aQ bU (aG 10) aI) (aA (aW aQ bU (aG 11) aI) aO))))))))
 (bK (cR uK))
 gD)))
 (aU (ss 12 nd (bZ cH eV aI (bZ fD oV (aW aQ bU (aG 2) aI) aI)))
 (aU (hV (eS (rG hr) pW (cd F_29 T.D_29 hr (aA (aG 1) (aA (aG 6) (aA (bZ cH eV (aG 7) (aG 3)) (aA (eP (aA (aG 12) (aA aI aO))) aO))))) (bZ eB iZ aI (cd F_29 T.D_29 hr (aA (aG 1) (aA (aG 6) (aA (aG 3) (aA (eP (aA (aG 12) (aA aI aO))) aO)))))))
 (bK (cR uK))
 gD)
 (bK (cR (cd F_52 T.D_52 hr (aA (aG 1) (aA (aG 6) (aA (aG 3) (aA (bZ cH eV (aG 3) (aG 7)) aO))))))))))))))))))))))),?_⟩
 show gZ _ _ _ [.val (.list (ns.map aX)),.un,.un,.un,.un,.un,.un,.un,.un,.un,.un,.un,.un]
 have ff:¬ (false=true):=cE
 refine gE (λv=>∃ fs an,fF fs an/\v=eL fs an) (λq hq=>⟨_,rfl,ns,rfl,hl63,λfs an F=>hq _ ⟨fs,an,F,rfl⟩⟩) ?_
 rintro _ ⟨fs,an,F,rfl⟩
 refine gE (λv=>∃ bs,qT 40 bs/\v=.list (bs.map aX)) (λq hq=>⟨_,rfl,ns,6,rfl,hl63,by decide,by decide,λr=>⟨r,40,rfl,by decide,λbs hb=>hq _ ⟨bs,hb,rfl⟩⟩⟩) ?_
 rintro _ ⟨bs,hb,rfl⟩
 obtain ⟨b13,p0,p1,h13⟩:=gQ hb (i:=13) (by decide) (by decide)
 obtain ⟨b14,_,_,h14⟩:=gQ hb (i:=14) (by decide) (by decide)
 obtain ⟨b15,_,_,h15⟩:=gQ hb (i:=15) (by decide) (by decide)
 obtain ⟨b16,_,_,h16⟩:=gQ hb (i:=16) (by decide) (by decide)
 refine gE (λv=>∃ rs,eA fs an rs/\rs.length<=16/\v=.list (rs.map dO)) (λq hq=>⟨_,rfl,_,rfl,_,rfl,_,h13,(show (0:Int)<15 by decide),ns,fs,an,(2+b13 % 15).toNat,by rw [iT (by omega)],hl63,F,by omega,λrs h1 h2=>hq _ ⟨rs,h1,by omega,rfl⟩⟩) ?_
 rintro _ ⟨rs,hrs,hrl,rfl⟩
 refine gE (λv=>∃ d:Nat,d<=4/\v=.int (d:Nat)) (λq hq=>⟨_,rfl,_,h14,(show (0:Int)<5 by decide),hq _ ⟨(b14 % 5).toNat,by omega,by rw [iT (by omega)]⟩⟩) ?_
 rintro _ ⟨d,hd,rfl⟩
 refine gE (λv=>∃ m:Int,v=.int m) (λq hq=>⟨_,rfl,_,h15,(show (0:Int)<3 by decide),hq _ ⟨_,rfl⟩⟩) ?_
 rintro _ ⟨m,rfl⟩
 refine gE (λv=>∃ t,Gr fs an m d rs t/\v=hU t) (λq hq=>⟨_,rfl,_,rfl,_,rfl,_,rfl,fs,an,rs,d,m,rfl,F,hrs,by omega,by omega,λt ht=>hq _ ⟨t,ht,rfl⟩⟩) ?_
 rintro _ ⟨t,ht,rfl⟩
 obtain ⟨tok,tdp⟩:=GI d ht
 have tkn:t.kn<=20:=by
  have:=t.kn_dep
  have:2 ^ t.dep<=2 ^ 4:=jR (by decide) (by omega)
  omega
 have hth:=rY F t tok
 have hdp:=hth.depth
 have hbl:=hb.1
 have cut:jP (bs.map aX) (some 20) none=(bs.drop 20).map aX:=by
  have e20:HT.sIx (bs.map aX).length 0 (some 20)=20:=(HT.sIx_nat _ _ 20).trans (by rw [aC,hbl];rfl)
  unfold jP
  rw [HT.sIx_none,e20,dQ (by rw [cO];exact aL _),<- oO]
 refine gE (λv=>∃ ss:List Rw,ss.Perm rs/\v=.list (ss.map dO)) (λq hq=>⟨_,rfl,_,rfl,?_⟩) ?_
 ·show KM [_,.list (jP (bs.map aX) (some 20) none)] q
  rw [cut]
  exact ⟨rs,bs.drop 20,rfl,⟨rfl,λb hb'=>hb.2 b (iF hb')⟩,by rw [cO];omega,by omega,λss hp=>hq _ ⟨ss,hp,rfl⟩⟩
 rintro _ ⟨ss,hp,rfl⟩
 have hss:eA fs an ss:=λr hr=>hrs r (hp.mem_iff.mp hr)
 have hsl:=hp.length_eq
 have d1:pL rs (ss++rs):=hp.append_right rs
 have d2:pL rs (rs++ss):=hp.append_left rs
 have ok1:=d1.ok hrs
 have ok2:=d2.ok hrs
 have l1:(ss++rs).length<=60:=by rw [bA];omega
 have l2:(rs++ss).length<=60:=by rw [bA];omega
 have hz:(ss.map dO).length+(rs.map dO).length<=100000:=by rw [aC,aC];omega
 have hz':(rs.map dO).length+(ss.map dO).length<=100000:=by omega
 have et:dZ (hU t) (hU t)=true:=PySem.SeqAt.eqv_refl _ hth.lay
 refine gL (λb=>b=false) (λq hq=>⟨_,rfl,_,rfl,_,rfl,_,rfl,fs,an,ss,d,m,rfl,F,hss,by omega,by omega,λu hu=>?_⟩) (λhT=>by cases hT) λ_=>?_
 ·rw [AV d hp hu ht]
  refine ⟨_,rfl,⟨hth.lay,hth.lay,by omega⟩,?_⟩
  show (if (!dZ (hU t) (hU t))=true then q true else _)
  rw [et,if_neg (by decide)]
  refine ⟨_,rfl,_,rfl,_,rfl,hz,_,rfl,_,rfl,.inl ⟨by decide,by decide⟩,fs,an,ss++rs,d,2*m,by rw [bQ],F,ok1,l1,by omega,λu hu=>?_⟩
  rw [EI d d1 ht hu]
  refine ⟨_,rfl,⟨hth.lay,hth.lay,by omega⟩,?_⟩
  show q (!dZ (hU t) (hU t))
  rw [et];exact hq _ rfl
 try unfold jZ
 dsimp only
 refine gE (λv=>∃ fs' an',uB fs fs' an an'/\v=eL fs' an') (λq hq=>⟨_,rfl,_,rfl,fs,an,bs,40,rfl,F,hb,by decide,λfs' an' O=>hq _ ⟨fs',an',O,rfl⟩⟩) ?_
 rintro _ ⟨fs',an',O,rfl⟩
 have hrb:=O.rows hrs
 refine cK (.list ((rs.map (iY fs fs' an an')).map dO)) (λq hq=>?_) ?_
 ·have em:(rs.map (iY fs fs' an an')).map dO=(rs.map dO).map (Q5 fs fs' an an'):=by rw [bD,bD];rfl
  rw [em] at hq
  refine jF (ts:=rs.map dO) (λR h=>⟨_,rfl,_,rfl,h⟩) (Q5 fs fs' an an') (by rw [aC];omega) (λx q hx hq=>?_) hq
  obtain ⟨r,hr,rfl⟩:=bC.mp hx
  exact ⟨_,rfl,_,rfl,_,rfl,fs,fs',an,an',r,rfl,O,hrs r hr,hq⟩
 refine gL (λb=>b=false) (λq hq=>⟨_,rfl,_,rfl,_,rfl,_,rfl,fs',an',rs.map (iY fs fs' an an'),d,m,rfl,O.F',hrb,by rw [aC];omega,by omega,λu hu=>?_⟩) (λhT=>by cases hT) λ_=>?_
 ·obtain ⟨uok,udp⟩:=GI d hu
  have hu2:=rY O.F' u uok
  have hud:=hu2.depth
  refine ⟨_,rfl,_,rfl,_,rfl,fs,fs',an,an',t,rfl,O,tok,by omega,?_⟩
  rw [<- O.gr d hrs ht hu]
  refine ⟨⟨hu2.lay,hu2.lay,by omega⟩,?_⟩
  show q (!dZ (hU u) (hU u))
  rw [PySem.SeqAt.eqv_refl _ hu2.lay];exact hq _ rfl
 try unfold jZ
 dsimp only
 refine cK (LJ fs rs (iE fs rs m)) (λq hq=>⟨_,rfl,_,rfl,_,rfl,fs,an,rs,m,rfl,F,hrs,by omega,hq⟩) ?_
 refine cK (LJ fs (rs++ss) (iE fs rs m)) (λq hq=>⟨_,rfl,_,rfl,_,rfl,hz',_,rfl,.inl ⟨by decide,by decide⟩,fs,an,rs++ss,2*m,by rw [bQ],F,ok2,l2,by rw [d2.best];exact hq⟩) ?_
 have hor:=UW F (show rs.length<=60 by omega) m
 refine OQ ?_ λnx hnx=>?_
 ·refine gE (λv=>∃ p:Int,1<=p/\p<=50/\v=.int p) (λq hq=>⟨_,rfl,_,h16,(show (0:Int)<50 by decide),hq _ ⟨_,by omega,by omega,rfl⟩⟩) ?_
  rintro _ ⟨p,hp1,hp2,rfl⟩
  have hsn:eD fs t rs<=60:=bO (bV _ _) (by omega)
  have es:=d1.slip fs t
  refine gL (λb=>b=false) (λq hq=>⟨_,rfl,_,rfl,_,rfl,_,rfl,hz,_,rfl,(aH rfl),fs,an,t,ss++rs,p,0,by rw [bQ],F,tok,by omega,by omega,ok1,l1,by omega,by omega,by decide,by decide,_,rfl,_,rfl,_,rfl,_,rfl,(aH rfl),fs,an,t,rs,p,0,rfl,F,tok,by omega,by omega,hrs,by omega,by omega,by omega,by decide,by decide,.inl ⟨by decide,by decide⟩,⟨rfl,rfl,(aH rfl)⟩,hq _ ?_⟩) (λhT=>by cases hT) λ_=>?_
  ·show (!dZ (.int (p*((eD fs t (ss++rs):Nat):Int)+0*((t.kn:Nat):Int))) (.int (2*(p*((eD fs t rs:Nat):Int)+0*((t.kn:Nat):Int)))))=false
   have ee:p*((eD fs t (ss++rs):Nat):Int)+0*((t.kn:Nat):Int)=2*(p*((eD fs t rs:Nat):Int)+0*((t.kn:Nat):Int)):=by
    rw [es,cA,aBl,qJ,qJ,<- dE,fA p,dE];rfl
   rw [ee,PySem.SeqAt.eqv_refl _ rfl];rfl
  try unfold jZ
  dsimp only
  exact ⟨_,rfl,_,rfl,_,rfl,_,rfl,_,rfl,hz',fs,an,t,rs,rs++ss,by rw [bQ],F,tok,by omega,tkn,hrs,d2,by omega,h⟩
 ·cases eb:iE fs rs m with
  | none =>
   rw [eb] at hnx
   refine nG (λb=>b=true) (λq hq=>aA5 (λq' h'=>⟨_,rfl,h'⟩) (hq _ rfl)) (λ_=>?_) λhF=>by cases hF
   exact nG (λb=>b=false) (λq hq=>⟨_,rfl,Eq.mpr (if_neg (t:=q true) (c:=(false:Bool)=true) ff) ⟨_,rfl,hq _ rfl⟩⟩) (λhT=>by cases hT) λ_=>hnx
  | some c =>
   rw [eb] at hnx
   have hcm:=(cU.mp (oB eb)).1
   have hte:=KF F (show rs.length<=60 by omega) hcm
   have s1:=oZ (fs:=fs) (show rs.length<=60 by omega) c
   have s2:=oZ (fs:=fs) l2 c
   have c1:=s1.top
   have c2:=s1.bot
   have c3:=s2.top
   have c4:=s2.bot
   have hq2:Th 90 2 (.tuple [qD c.1,.str c.2]):=UU F hcm
   have hqd:=hq2.depth
   refine nG (λb=>b=false) (λq hq=>⟨_,rfl,Eq.mpr (if_neg (t:=q true) (c:=(false:Bool)=true) ff) ⟨_,rfl,hq _ rfl⟩⟩) (λhT=>by cases hT) λ_=>?_
   ·refine nG (λb=>b=false) (λq hq=>⟨_,rfl,_,rfl,?_⟩) (λhT=>by cases hT) λ_=>hnx
    refine ⟨⟨hq2.lay,hq2.lay,bO (Nat.min_le_left _ _) (bO (show (gA [qD c.1,.str c.2]).depth<=2 from hqd) (by decide))⟩,?_⟩
    show (if (!dZ (.tuple [qD c.1,.str c.2]) (.tuple [qD c.1,.str c.2]))=true then q true else _)
    rw [PySem.SeqAt.eqv_refl _ hq2.lay,if_neg (by decide)]
    exact ⟨_,rfl,_,rfl,_,rfl,_,rfl,dC fs rs c,dC fs (rs++ss) c,rfl,d2.dC fs c,by omega,by omega,by omega,by omega,hq _ rfl⟩

theorem XD:bN P w K mg base dP 63 a_law f_law ["_law_script"] (aS K vW):=by
 have O_38:=ZM (P:=P) (w:=w) (base:=base) T
 have O_39:=ZL (P:=P) (w:=w) (base:=base) T O_38
 have O_40:=ZK (P:=P) (w:=w) (base:=base) T O_38
 have O_41:=ZJ (P:=P) (w:=w) (base:=base) T
 have O_42:=ZI (P:=P) (w:=w) (base:=base) T O_39 O_40 O_41
 have O_46:=ZE (P:=P) (w:=w) (base:=base) T
 have O_43:=ZH (P:=P) (w:=w) (base:=base) T
 have O_44:=ZG (P:=P) (w:=w) (base:=base) T O_43
 have O_45:=ZF (P:=P) (w:=w) (base:=base) T O_39 O_40 O_44
 have O_50:=ZA (P:=P) (w:=w) (base:=base) T
 have O_22:=Z2 (P:=P) (w:=w) (base:=base) T
 have O_23:=Z1 (P:=P) (w:=w) (base:=base) T
 have O_28:=ZW (P:=P) (w:=w) (base:=base) T O_22 O_23
 have O_14:=aAa (P:=P) (w:=w) (base:=base) T
 have O_13:=aAb (P:=P) (w:=w) (base:=base) T O_14
 have O_12:=aAc (P:=P) (w:=w) (base:=base) T
 have O_11:=aAd (P:=P) (w:=w) (base:=base) T O_13 O_12
 have O_25:=ZZ (P:=P) (w:=w) (base:=base) T O_22 O_23 O_11
 have O_26:=ZY (P:=P) (w:=w) (base:=base) T O_25
 have O_27:=ZX (P:=P) (w:=w) (base:=base) T O_28 O_26
 have O_24:=Z0 (P:=P) (w:=w) (base:=base) T O_22
 have O_29:=ZV (P:=P) (w:=w) (base:=base) T O_27 O_24
 have O_0:=aCy (P:=P) (w:=w) (base:=base) T
 have O_1:=aCx (P:=P) (w:=w) (base:=base) T O_0
 have O_30:=ZU (P:=P) (w:=w) (base:=base) T O_1
 have O_16:=Z8 (P:=P) (w:=w) (base:=base) T
 have O_15:=Z9 (P:=P) (w:=w) (base:=base) T O_16 O_11
 have O_19:=Z5 (P:=P) (w:=w) (base:=base) T
 have O_31:=ZT (P:=P) (w:=w) (base:=base) T O_15 O_19
 have O_34:=ZQ (P:=P) (w:=w) (base:=base) T O_29 O_30 O_22 O_31
 have O_32:=ZS (P:=P) (w:=w) (base:=base) T
 have O_33:=ZR (P:=P) (w:=w) (base:=base) T O_34 O_32
 have O_6:=aCs (P:=P) (w:=w) (base:=base) T
 have O_4:=aCu (P:=P) (w:=w) (base:=base) T
 have O_3:=aCv (P:=P) (w:=w) (base:=base) T O_4
 have O_37:=ZN (P:=P) (w:=w) (base:=base) T O_29 O_30 O_3 O_22 O_24 O_31
 have O_36:=ZO (P:=P) (w:=w) (base:=base) T O_6 O_37
 have O_35:=ZP (P:=P) (w:=w) (base:=base) T O_22 O_33 O_36
 have O_52:=Y8 (P:=P) (w:=w) (base:=base) T O_50 O_35
 have O_47:=ZD (P:=P) (w:=w) (base:=base) T
 have O_48:=ZC (P:=P) (w:=w) (base:=base) T
 have O_49:=ZB (P:=P) (w:=w) (base:=base) T O_48
 have O_51:=Y9 (P:=P) (w:=w) (base:=base) T
 have O_2:=aCw (P:=P) (w:=w) (base:=base) T O_0 O_3
 have O_5:=aCt (P:=P) (w:=w) (base:=base) T O_3
 have O_9:=aCp (P:=P) (w:=w) (base:=base) T
 have O_8:=aCq (P:=P) (w:=w) (base:=base) T O_9
 have O_10:=aAe (P:=P) (w:=w) (base:=base) T O_8
 have O_7:=aCr (P:=P) (w:=w) (base:=base) T O_4
 have O_17:=Z7 (P:=P) (w:=w) (base:=base) T
 have O_18:=Z6 (P:=P) (w:=w) (base:=base) T O_5 O_10 O_7 O_2 O_17 O_15 O_19
 have O_20:=Z4 (P:=P) (w:=w) (base:=base) T O_2 O_6 O_18
 have O_21:=Z3 (P:=P) (w:=w) (base:=base) T O_20 O_1 O_15 O_19
 have O_law:=V0 (P:=P) (w:=w) (base:=base) T O_39 O_40 O_42 O_46 O_45 O_52 O_47 O_49 O_51 O_50 O_20 O_29 O_21
 exact O_law
theorem XE {l:PySem.W.OpenLaw} {fa:Addr} (hfa:mg "law"=some (.ref fa)):∃ fd:dF,(∀ (s:Shared) (v:Value),BindsTo s fd ⟨[v],[]⟩ [("_law_script",v)])/\∀ base:Heap,K.In base->base.Ns fZ mg->bN l.prog w K mg base dP 63 fa fd ["_law_script"] (aS K vW):=by
 have e:=hfa.symm.trans T.D_law.m
 cases e
 refine ⟨f_law,?_,λbase _ _=>XD T⟩
 obtain ⟨_,_,_,_,_,_,_,_,_,e,_⟩:=T.D_law.F.ex
 rw [e]
 exact λs v=>.of_eq rfl
omit T
theorem ME {t n:Nat} {s:Array (Option Value)} {k0 k1:Tok} (l:K.lookup t=some ⟨.type "tuple",none,.seq #[.str "yes" k0,.str "no" k1] n,s⟩):XO K t ["yes","no"]:=⟨_,_,_,l,rfl,rfl,rfl,(by show 2<=bG;decide),.cons ⟨_,rfl⟩ (.cons ⟨_,rfl⟩ (.nil))⟩
theorem L3 {H:Hp}:bH H (mask H []):=λb o e=>by
 unfold mask
 rw [if_neg (by simp)]
 exact e
theorem zD {K:aE} {H:Hp}:∀ ns:List Int,Reps K H (ns.map aX) (ns.map V.int)
 | []=>.nil
 | n::ns=>.cons (.int n) (zD ns)
theorem aCb {l:PySem.W.OpenLaw} {q:bY} {loose:List Str} {XP:(Str->Option Value)->Heap->Prop} {YP:World->Heap->Prop} {d:DefRec} {K:Params->aE} (hn:l.most=some 63) (hdf:d.params.defaults=[])
  (hY:∀ (w:World) (h:Heap),YP w h->(K w.params).In h) (hT:∀ (w:World) (h:Heap),YP w h->∀ P,tabA=some P->h.get? P=some { cls:=.none,data:=.fields #[] }/\(K w.params).lookup P=none/\isCodeTable h P)
  (F:∀ (w:World) (mg:Str->Option Value) (fa:Addr) (h:Heap),(K w.params).In h->h.Ns fZ mg->mg d.name=some (.ref fa) ->
   ∃ fd:dF,(∀ (s:Shared) (u:Value),BindsTo s fd ⟨[u],[]⟩ [("_law_script",u)])/\∀ base:Heap,(K w.params).In base->base.Ns fZ mg->bN l.prog w (K w.params) mg base dP 63 fa fd ["_law_script"] (aS (K w.params) vW)) :
  NQ q loose XP YP l.row.toRowW d [] (λf vs=>PySem.call f vs) :=
 L2.N2 (n:=63) (k:=63) (x:="_law_script") (CX:=λ_=>dP) (sp:=λw=>aS (K w.params) vW) hn (by decide) hdf ⟨rfl,by decide,by decide,rfl⟩ hY hT F
  (λw H a ns hl _ hS=>⟨[],[.list (ns.map aX)],λd=>d=.bool true,λp hp=>by simp at hp,.cons (.list (L2.bH.seq L3 hS) (zD ns)) .nil,⟨ns,rfl,hl,rfl⟩,λd v H' _ r q=>by subst q;cases r;rfl⟩) λ_ _ _ _ _ z=>z
end
end K94
open L2
def PySem.W.Fast.tw15827233451848987665:Nat:=0
def PySem.W.Fast.tw17071732045600631607:Nat:=0
def PySem.W.Fast.tw5669761998002872172:Nat:=0
def PySem.W.Fast.tw14096512363066324762:Nat:=0
def PySem.W.Fast.tw2813121055194822400:Nat:=0
def PySem.W.Fast.tw1899116410736283932:Nat:=0
def PySem.W.Fast.tw5305479319964411158:Nat:=0
def PySem.W.Fast.tw13082577621980278436:Nat:=0
def PySem.W.Fast.tw8029450044752086178:Nat:=0
def PySem.W.Fast.tw2100430174937801429:Nat:=0
def PySem.W.Fast.tw15244783717698885845:Nat:=0
def PySem.W.Fast.tw2480619781691947445:Nat:=0
def PySem.W.Fast.tw13134986093014203176:Nat:=0
def PySem.W.Fast.tw2293751231478327982:Nat:=0
def PySem.W.Fast.tw13740328009436773577:Nat:=0
def PySem.W.Fast.tw14054175452713707046:Nat:=0
def PySem.W.Fast.tw8565270905116012681:Nat:=0
def PySem.W.Fast.tw15575720260511530223:Nat:=0
def PySem.W.Fast.tw5085604439185749603:Nat:=0
def PySem.W.Fast.tw6604396210996730278:Nat:=0
def PySem.W.Fast.tw12025188811818691213:Nat:=0
def PySem.W.Fast.tw18307518011695296910:Nat:=0
def PySem.W.Fast.tw11345194284333251715:Nat:=0
def PySem.W.Fast.tw12207624700985634000:Nat:=0
def PySem.W.Fast.tw17097951224931314101:Nat:=0
def PySem.W.Fast.tw11785148180125004147:Nat:=0
def PySem.W.Fast.tw8580338727407837481:Nat:=0
def PySem.W.Fast.tw10311378338442653414:Nat:=0
def PySem.W.Fast.tw11296303938765515112:Nat:=0
def PySem.W.Fast.tw13173460939810934818:Nat:=0
def PySem.W.Fast.tw15260549763111155304:Nat:=0
open PySem PySem.W PyProof.Rows
set_option maxRecDepth 100000 in
set_option maxHeartbeats 0 in
theorem PySem.Challenge.cw_leafjudge_k94_whole_rows_told_otherwise_holds : PySem.Challenge.rw_leafjudge_k94_whole_rows_told_otherwise.Holds := by
  w_on; o_law; k_head; (case hw => w_witness2)
  k_fill
  refine K94.aCb (l := PySem.Challenge.rw_leafjudge_k94_whole_rows_told_otherwise) rfl rfl (λw h Y => PySem.W.km_in_of Y) (λw h Y P e => ?T) ?F
  case T =>
    cases e
    exact ⟨km_tabs_of Y 129 (aM ..), by kernel_rfl, L2.U1 (codeHd_of_K (c := 131) (P := 129) (km_in_of Y) (by kernel_rfl)) (km_tabs_of Y 129 (aM ..))⟩
  case F =>
    intro w mg fa h KX G hmg
    refine' K94.XE ⟨df KX G xF ?_ ?_ ?_ ?_,df KX G xF ?_ ?_ ?_ ?_,df KX G xF ?_ ?_ ?_ ?_,df KX G xF ?_ ?_ ?_ ?_,df KX G xF ?_ ?_ ?_ ?_,df KX G xF ?_ ?_ ?_ ?_,df KX G xF ?_ ?_ ?_ ?_,df KX G QP ?_ ?_ ?_ ?_,df KX G QP ?_ ?_ ?_ ?_,df KX G QP ?_ ?_ ?_ ?_,df KX G QP ?_ ?_ ?_ ?_,df KX G W9 ?_ ?_ ?_ ?_,df KX G xF ?_ ?_ ?_ ?_,df KX G EO ?_ ?_ ?_ ?_,df KX G xF ?_ ?_ ?_ ?_,df KX G W9 ?_ ?_ ?_ ?_,df KX G xF ?_ ?_ ?_ ?_,df KX G xF ?_ ?_ ?_ ?_,df KX G EO ?_ ?_ ?_ ?_,df KX G xF ?_ ?_ ?_ ?_,df KX G EO ?_ ?_ ?_ ?_,df KX G W9 ?_ ?_ ?_ ?_,df KX G QP ?_ ?_ ?_ ?_,df KX G xF ?_ ?_ ?_ ?_,df KX G QP ?_ ?_ ?_ ?_,df KX G EO ?_ ?_ ?_ ?_,df KX G EO ?_ ?_ ?_ ?_,df KX G EO ?_ ?_ ?_ ?_,df KX G xF ?_ ?_ ?_ ?_,df KX G W9 ?_ ?_ ?_ ?_,df KX G xF ?_ ?_ ?_ ?_,df KX G EO ?_ ?_ ?_ ?_,df KX G QP ?_ ?_ ?_ ?_,df KX G W9 ?_ ?_ ?_ ?_,df KX G W9 ?_ ?_ ?_ ?_,df KX G EO ?_ ?_ ?_ ?_,df KX G EO ?_ ?_ ?_ ?_,df KX G EO ?_ ?_ ?_ ?_,df KX G xF ?_ ?_ ?_ ?_,df KX G xF ?_ ?_ ?_ ?_,df KX G xF ?_ ?_ ?_ ?_,df KX G EO ?_ ?_ ?_ ?_,df KX G QP ?_ ?_ ?_ ?_,df KX G xF ?_ ?_ ?_ ?_,df KX G xF ?_ ?_ ?_ ?_,df KX G EO ?_ ?_ ?_ ?_,df KX G xF ?_ ?_ ?_ ?_,df KX G EO ?_ ?_ ?_ ?_,df KX G EO ?_ ?_ ?_ ?_,df KX G EO ?_ ?_ ?_ ?_,df KX G xF ?_ ?_ ?_ ?_,df KX G xF ?_ ?_ ?_ ?_,df KX G W9 ?_ ?_ ?_ ?_,df KX G QP ?_ ?_ ?_ ?_,mg_of KX G ?_,K94.ME ?_,V9 ?y_18 rfl,mg_none_of KX G ?_,mg_none_of KX G ?_,mg_none_of KX G ?_,mg_none_of KX G ?_,mg_none_of KX G ?_,mg_none_of KX G ?_,mg_none_of KX G ?_,mg_none_of KX G ?_⟩ hmg
    (case y_18 => kernel_rfl)
    all_goals try k_is
